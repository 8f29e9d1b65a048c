/- Polynomials over the extension field: values of sums and products, the number of roots, leading coefficients, quotients by linear factors; no program, no conditions. -/
import Derived.Test.YtombcjdhjcmhhaaPolM
namespace Gold
set_option maxRecDepth 8000
namespace E2
attribute [local simp] add_A add_B sub_A sub_B neg_A neg_B mul_A mul_B zero_A zero_B one_A one_B
theorem r1 (a x z e : E2) : a + z + x * e = a + x * e + z := ext' (by simp; grind) (by simp; grind)
theorem r2 (a x e f : E2) : a + x * (e + f) = a + x * e + x * f := ext' (by simp; grind) (by simp; grind)
theorem r3 (x z p : E2) : x * (z * p) = z * (x * p) := ext' (by simp; grind) (by simp; grind)
theorem r4 (a b x e f : E2) : a + b + x * (e + f) = a + x * e + (b + x * f) := ext' (by simp; grind) (by simp; grind)
theorem r5 (a b x e f : E2) : a - b + x * (e - f) = a + x * e - (b + x * f) := ext' (by simp; grind) (by simp; grind)
theorem r6 (c a x e : E2) : c * a + x * (c * e) = c * (a + x * e) := ext' (by simp; grind) (by simp; grind)
theorem sub_zero (x : E2) : x - zero = x := ext' (by simp; try grind) (by simp; try grind)
theorem zero_sub (x : E2) : zero - x = -x := ext' (by simp; try grind) (by simp; try grind)
theorem sub_add_cancel (x y : E2) : x - y + y = x := ext' (by simp; try grind) (by simp; try grind)
theorem add_right_cancel {x y z : E2} (h : x + z = y + z) : x = y := by
  have h1 := congrArg A h
  have h2 := congrArg B h
  simp at h1 h2
  exact ext' (by grind) (by grind)
end E2

/-! ### Values -/
theorem evE_cons (a : E2) (l : List E2) (x : E2) : evE (a :: l) x = a + x * evE l x := rfl
theorem evE_nil (x : E2) : evE [] x = E2.zero := rfl
theorem evE_zeros {xs : List E2} (h : ∀ i, cfE xs i = E2.zero) (x : E2) : evE xs x = E2.zero := by
  induction xs with
  | nil => rfl
  | cons a l ih => rw [evE_cons, ih (fun i => h (i + 1)), show a = E2.zero from h 0, E2.mul_zero, E2.add_zero]
theorem evE_congr : ∀ {xs ys : List E2}, (∀ i, cfE xs i = cfE ys i) → ∀ x, evE xs x = evE ys x
  | [], ys, h, x => (evE_zeros (fun i => (h i).symm) x).symm
  | a :: l, [], h, x => evE_zeros h x
  | a :: l, b :: m, h, x => by rw [evE_cons, evE_cons, evE_congr (xs := l) (ys := m) (fun i => h (i + 1)) x, show a = b from h 0]
theorem evE_trimE (xs : List E2) (x : E2) : evE (trimE xs) x = evE xs x := evE_congr (cfE_trimE xs) x
/-- a polynomial given by its coefficients -/
theorem evE_tab_add {f g : Nat → E2} (n : Nat) (x : E2) : evE (tabE n fun i => f i + g i) x = evE (tabE n f) x + evE (tabE n g) x := by
  induction n generalizing f g with
  | zero => exact (E2.add_zero _).symm
  | succ n ih =>
    have e : ∀ h : Nat → E2, tabE (n + 1) h = h 0 :: tabE n (fun i => h (i + 1)) := fun h => by simp [tabE, List.range_succ_eq_map, Function.comp_def]
    rw [e, e f, e g, evE_cons, evE_cons, evE_cons, ih (f := fun i => f (i + 1)) (g := fun i => g (i + 1)), E2.r4]
theorem evE_tab_sub {f g : Nat → E2} (n : Nat) (x : E2) : evE (tabE n fun i => f i - g i) x = evE (tabE n f) x - evE (tabE n g) x := by
  induction n generalizing f g with
  | zero => exact (E2.sub_self _).symm
  | succ n ih =>
    have e : ∀ h : Nat → E2, tabE (n + 1) h = h 0 :: tabE n (fun i => h (i + 1)) := fun h => by simp [tabE, List.range_succ_eq_map, Function.comp_def]
    rw [e, e f, e g, evE_cons, evE_cons, evE_cons, ih (f := fun i => f (i + 1)) (g := fun i => g (i + 1)), E2.r5]
theorem evE_tab_cf {n : Nat} {xs : List E2} (h : xs.length ≤ n) (x : E2) : evE (tabE n (cfE xs)) x = evE xs x := evE_congr (fun i => by
  rw [cfE_tabE]
  by_cases hi : i < n
  · rw [if_pos hi]
  · rw [if_neg hi, cfE_ge (by omega)]) x
theorem evE_addE (xs ys : List E2) (x : E2) : evE (addE xs ys) x = evE xs x + evE ys x := by
  unfold addE
  rw [evE_trimE, evE_tab_add, evE_tab_cf (by omega), evE_tab_cf (by omega)]
theorem evE_subE (xs ys : List E2) (x : E2) : evE (subE xs ys) x = evE xs x - evE ys x := by
  unfold subE
  rw [evE_trimE, evE_tab_sub, evE_tab_cf (by omega), evE_tab_cf (by omega)]
theorem evE_map (xs : List E2) (c x : E2) : evE (xs.map fun z => c * z) x = c * evE xs x := by
  induction xs with
  | nil => exact (E2.mul_zero c).symm
  | cons a l ih => rw [List.map_cons, evE_cons, evE_cons, ih, E2.r6]
theorem evE_scaleE (xs : List E2) (c x : E2) : evE (scaleE xs c) x = c * evE xs x := by
  unfold scaleE
  rw [evE_trimE, evE_map]
theorem addAt_cons_zero (a : E2) (l : List E2) (z : E2) : addAt (a :: l) 0 z = (a + z) :: l := rfl
theorem addAt_cons_succ (a : E2) (l : List E2) (k : Nat) (z : E2) : addAt (a :: l) (k + 1) z = a :: addAt l k z := rfl
theorem evE_addAt {r : List E2} {k : Nat} (z : E2) (h : k < r.length) (x : E2) : evE (addAt r k z) x = evE r x + z * E2.pow x k := by
  induction r generalizing k with
  | nil => simp at h
  | cons a l ih =>
    cases k with
    | zero => rw [addAt_cons_zero, evE_cons, evE_cons, E2.pow_zero, E2.mul_one, E2.r1]
    | succ k => rw [addAt_cons_succ, evE_cons, evE_cons, ih (by simpa using h), E2.pow_succ, E2.r2, E2.mul_comm (E2.pow x k) x, E2.r3]
theorem evE_snoc (xs : List E2) (a x : E2) : evE (xs ++ [a]) x = evE xs x + a * E2.pow x xs.length := by
  induction xs with
  | nil => rw [List.nil_append, evE_cons, evE_nil, E2.mul_zero, E2.add_zero, List.length_nil, E2.pow_zero, E2.mul_one, E2.zero_add]
  | cons b l ih => rw [List.cons_append, evE_cons, evE_cons, ih, List.length_cons, E2.pow_succ, E2.r2, E2.mul_comm (E2.pow x l.length) x, E2.r3]
theorem evE_take_succ {ys : List E2} {j : Nat} (h : j < ys.length) (x : E2) : evE (ys.take (j + 1)) x = evE (ys.take j) x + cfE ys j * E2.pow x j := by
  rw [List.take_succ_eq_append_getElem h, evE_snoc, cfE_lt h, List.length_take, Nat.min_eq_left (Nat.le_of_lt h)]
theorem evE_rowMul (a : E2) (ys : List E2) (i : Nat) (x : E2) : ∀ (j : Nat) {r : List E2}, j ≤ ys.length → i + j ≤ r.length → evE (rowMul a ys i j r) x = evE r x + a * E2.pow x i * evE (ys.take j) x
  | 0, r, _, _ => by rw [rowMul, List.take_zero, evE_nil, E2.mul_zero, E2.add_zero]
  | j + 1, r, hj, hr => by
    rw [rowMul, evE_addAt _ (by rw [rowMul_length]; omega), evE_rowMul a ys i x j (by omega) (by omega), evE_take_succ (by omega), E2.pow_add, E2.mul_add, ← E2.add_assoc]
    congr 1
    rw [E2.mul_assoc, E2.mul_assoc, E2.r3 (cfE ys j)]
theorem evE_allMul (xs ys : List E2) (x : E2) : ∀ (i : Nat) {r : List E2}, i ≤ xs.length → xs.length + ys.length ≤ r.length → evE (allMul xs ys i r) x = evE r x + evE (xs.take i) x * evE ys x
  | 0, r, _, _ => by rw [allMul, List.take_zero, evE_nil, E2.zero_mul, E2.add_zero]
  | i + 1, r, hi, hr => by
    rw [allMul, evE_rowMul _ _ _ _ _ (Nat.le_refl _) (by rw [allMul_length]; omega), evE_allMul xs ys x i (by omega) hr, List.take_length, evE_take_succ (by omega), E2.add_mul, ← E2.add_assoc]
theorem evE_replicate (n : Nat) (x : E2) : evE (List.replicate n E2.zero) x = E2.zero := evE_zeros (fun i => by
  unfold cfE
  rw [List.getElem?_replicate]
  by_cases h : i < n
  · rw [if_pos h]; rfl
  · rw [if_neg h]; rfl) x
theorem evE_mulE (xs ys : List E2) (x : E2) : evE (mulE xs ys) x = evE xs x * evE ys x := by
  unfold mulE
  rw [evE_trimE, evE_allMul _ _ _ _ (Nat.le_refl _) (by simp), List.take_length, evE_replicate, E2.zero_add]
theorem addE_length (xs ys : List E2) : (addE xs ys).length ≤ max xs.length ys.length := by
  unfold addE
  have := trimE_length (tabE (max xs.length ys.length) fun i => cfE xs i + cfE ys i)
  rw [tabE_length] at this
  exact this
theorem subE_length (xs ys : List E2) : (subE xs ys).length ≤ max xs.length ys.length := by
  unfold subE
  have := trimE_length (tabE (max xs.length ys.length) fun i => cfE xs i - cfE ys i)
  rw [tabE_length] at this
  exact this
theorem scaleE_length (xs : List E2) (c : E2) : (scaleE xs c).length ≤ xs.length := by
  unfold scaleE
  have := trimE_length (xs.map fun x => c * x)
  simpa using this

/-! ### Quotients by linear factors; the number of roots -/
theorem quo_value : ∀ (xs : List E2) (y z : E2), evE xs z = evE (tabE xs.length fun i => evFrom xs y (i + 1)) z * (z - y) + evE xs y
  | [], y, z => by rw [evE_nil, evE_nil, show tabE ([] : List E2).length (fun i => evFrom [] y (i + 1)) = [] from rfl, evE_nil, E2.zero_mul, E2.zero_add]
  | a :: l, y, z => by
    have ih := quo_value l y z
    have e : tabE (a :: l).length (fun i => evFrom (a :: l) y (i + 1)) = evE l y :: tabE l.length (fun i => evFrom l y (i + 1)) := by
      simp [tabE, List.range_succ_eq_map, Function.comp_def, evFrom]
    rw [e, evE_cons, evE_cons, evE_cons]
    generalize evE (tabE l.length fun i => evFrom l y (i + 1)) z = q at ih
    generalize evE l z = u at ih
    generalize evE l y = v at ih
    subst ih
    exact E2.ext' (by simp only [E2.add_A, E2.mul_A, E2.sub_A, E2.add_B, E2.mul_B, E2.sub_B]; grind) (by simp only [E2.add_A, E2.mul_A, E2.sub_A, E2.add_B, E2.mul_B, E2.sub_B]; grind)
theorem evE_quoE (xs : List E2) (y z : E2) : evE xs z = evE (quoE xs y) z * (z - y) + evE xs y := by
  unfold quoE
  rw [evE_trimE]
  exact quo_value xs y z
theorem quoE_length (xs : List E2) (y : E2) : (quoE xs y).length ≤ xs.length - 1 := by
  cases h : xs.length with
  | zero =>
    obtain rfl : xs = [] := List.eq_nil_of_length_eq_zero h
    exact Nat.le_refl _
  | succ n =>
    rw [← quoE_short y h]
    have := trimE_length (tabE n fun i => evFrom xs y (i + 1))
    rw [tabE_length] at this
    omega
theorem E2_sub_ne {x y : E2} (h : x ≠ y) : x - y ≠ E2.zero := fun e => h (E2.sub_eq_zero e)
/-- as many different roots as coefficients: all values are zero -/
theorem roots_all : ∀ (n : Nat) (xs : List E2) (rs : List E2), xs.length ≤ n → n ≤ rs.length → rs.Nodup → (∀ r, r ∈ rs → evE xs r = E2.zero) → ∀ z, evE xs z = E2.zero
  | 0, xs, _, hl, _, _, _, z => by rw [List.eq_nil_of_length_eq_zero (Nat.le_zero.1 hl)]; rfl
  | n + 1, xs, [], _, hr, _, _, _ => by simp at hr
  | n + 1, xs, r :: rs, hl, hr, hd, h0, z => by
    rw [List.nodup_cons] at hd
    have hq : ∀ z, evE xs z = evE (quoE xs r) z * (z - r) := fun z => by rw [evE_quoE xs r z, h0 r (by simp), E2.add_zero]
    have ih := roots_all n (quoE xs r) rs (by have := quoE_length xs r; omega) (by simpa using hr) hd.2 fun s hs => by
      have h1 := h0 s (List.mem_cons_of_mem _ hs)
      rw [hq] at h1
      rcases E2.zero_divisor h1 with h2 | h2
      · exact h2
      · exact absurd h2 (E2_sub_ne (fun e => hd.1 (e ▸ hs)))
    rw [hq, ih z, E2.zero_mul]

/-! ### The nodes -/
/-- the element of an integer -/
def ndZ (i : Int) : E2 := E2.ofF (toF i)
def nd (i : Nat) : E2 := ndZ (i : Int)
theorem ndZ_add (a b : Int) : ndZ a + ndZ b = ndZ (a + b) := by
  refine E2.ext' ?_ ?_
  · show toF a + toF b = toF (a + b)
    apply vF_inj
    rw [← vF_add, vF_toF, vF_toF, vF_toF]
    unfold fadd fred
    omega
  · show (0 : F) + 0 = 0
    rfl
theorem ndZ_sub (a b : Int) : ndZ a - ndZ b = ndZ (a - b) := by
  have h : ndZ (a - b) + ndZ b = ndZ a := by rw [ndZ_add]; congr 1; omega
  exact E2.add_right_cancel (z := ndZ b) (by rw [E2.sub_add_cancel, h])
theorem ndZ_zero : ndZ 0 = E2.zero := rfl
theorem ndZ_neg (a : Int) : ndZ (-a) = -ndZ a := by
  have h := ndZ_sub 0 a
  rw [ndZ_zero, E2.zero_sub] at h
  rw [h]
  congr 1
  omega
theorem nd_zero : nd 0 = E2.zero := rfl
theorem nd_one : nd 1 = E2.one := rfl
theorem nd_inj {i j : Nat} (hi : i ≤ 65536) (hj : j ≤ 65536) (h : nd i = nd j) : i = j := by
  have h1 : toF (i : Int) = toF (j : Int) := congrArg E2.A h
  have h2 := congrArg vF h1
  rw [vF_toF, vF_toF] at h2
  unfold fred at h2
  omega
theorem nd_ne {i : Nat} (hi : i ≤ 65536) (h : 0 < i) : nd i ≠ E2.zero := fun e => by
  have := nd_inj hi (Nat.zero_le _) (e.trans nd_zero.symm)
  omega
theorem nd_nodup {n : Nat} (h : n ≤ 65536) : ((List.range n).map nd).Nodup := by
  unfold List.Nodup
  rw [List.pairwise_map]
  refine List.Pairwise.imp_of_mem ?_ (List.nodup_range (n := n))
  intro a b ha hb hne e
  rw [List.mem_range] at ha hb
  exact hne (nd_inj (by omega) (by omega) e)
/-- trimmed polynomials of bounded length are told by their values at the nodes -/
theorem zero_of_values {xs : List E2} {n : Nat} (hn : n ≤ 65536) (hl : xs.length ≤ n) (h : ∀ i, i < n → evE xs (nd i) = E2.zero) : ∀ z, evE xs z = E2.zero :=
  roots_all n xs ((List.range n).map nd) hl (by simp) (nd_nodup hn) fun r hr => by
    rw [List.mem_map] at hr
    obtain ⟨i, hi, rfl⟩ := hr
    exact h i (by simpa using hi)
theorem cf_zero_of_values {xs : List E2} (hn : xs.length ≤ 65536) (h : ∀ z, evE xs z = E2.zero) : ∀ i, cfE xs i = E2.zero := by
  induction xs with
  | nil => intro i; rfl
  | cons a l ih =>
    have ha : a = E2.zero := by
      have := h E2.zero
      rw [evE_cons, E2.zero_mul, E2.add_zero] at this
      exact this
    have hl : ∀ z, evE l z = E2.zero := by
      have hq : ∀ i, i < l.length → evE l (nd (i + 1)) = E2.zero := fun i hi => by
        have h1 := h (nd (i + 1))
        rw [evE_cons, ha, E2.zero_add] at h1
        rcases E2.zero_divisor h1 with h2 | h2
        · exact absurd h2 (nd_ne (by simp at hn; omega) (by omega))
        · exact h2
      refine roots_all l.length l ((List.range l.length).map fun i => nd (i + 1)) (Nat.le_refl _) (by simp) ?_ fun r hr => ?_
      · unfold List.Nodup
        rw [List.pairwise_map]
        refine List.Pairwise.imp_of_mem ?_ (List.nodup_range (n := l.length))
        intro a b ha hb hne e
        rw [List.mem_range] at ha hb
        simp at hn
        have := nd_inj (by omega) (by omega) e
        omega
      · rw [List.mem_map] at hr
        obtain ⟨i, hi, rfl⟩ := hr
        exact hq i (by simpa using hi)
    intro i
    cases i with
    | zero => exact ha
    | succ i => exact ih (by simp at hn; omega) hl i
theorem subE_zero_eq {xs ys : List E2} (hx : trimE xs = xs) (hy : trimE ys = ys) (h : ∀ i, cfE (subE xs ys) i = E2.zero) : xs = ys := trim_ext hx hy fun i => E2.sub_eq_zero (by rw [← cfE_subE]; exact h i)
/-- equal at so many nodes: equal -/
theorem poly_eq_nodes {xs ys : List E2} {n : Nat} (hn : n ≤ 65536) (hx : trimE xs = xs) (hy : trimE ys = ys) (hlx : xs.length ≤ n) (hly : ys.length ≤ n) (h : ∀ i, i < n → evE xs (nd i) = evE ys (nd i)) : xs = ys := by
  have hl : (subE xs ys).length ≤ n := Nat.le_trans (subE_length _ _) (by omega)
  refine subE_zero_eq hx hy (cf_zero_of_values (by omega) (zero_of_values hn hl fun i hi => ?_))
  rw [evE_subE, h i hi, E2.sub_self]
theorem poly_eq {xs ys : List E2} (hx : trimE xs = xs) (hy : trimE ys = ys) (hlx : xs.length ≤ 65536) (hly : ys.length ≤ 65536) (h : ∀ z, evE xs z = evE ys z) : xs = ys :=
  poly_eq_nodes (Nat.le_refl _) hx hy hlx hly fun i _ => h (nd i)
theorem mulE_length (xs ys : List E2) : (mulE xs ys).length ≤ xs.length + ys.length := by
  unfold mulE
  have := trimE_length (allMul xs ys xs.length (List.replicate (xs.length + ys.length) E2.zero))
  rw [allMul_length, List.length_replicate] at this
  exact this
theorem mulE_trims (xs ys : List E2) (h : xs.length + ys.length ≤ 65536) : mulE (trimE xs) (trimE ys) = mulE xs ys := by
  have h1 := trimE_length xs
  have h2 := trimE_length ys
  have h3 := mulE_length xs ys
  have h4 := mulE_length (trimE xs) (trimE ys)
  exact poly_eq (mulE_trim _ _) (mulE_trim _ _) (by omega) (by omega) fun z => by rw [evE_mulE, evE_mulE, evE_trimE, evE_trimE]

/-! ### Degrees -/
theorem trimE_lead {xs : List E2} {n : Nat} (h : cfE xs n ≠ E2.zero) (h0 : ∀ i, n < i → cfE xs i = E2.zero) : (trimE xs).length = n + 1 := by
  have e : trimE xs = trimE (tabE (n + 1) (cfE xs)) := trimE_eq fun i => by
    rw [cfE_tabE]
    by_cases hi : i < n + 1
    · rw [if_pos hi]
    · rw [if_neg hi, h0 i (by omega)]
  rw [e, tabE_succ, trimE_snoc _ h, List.length_append, tabE_length]
  rfl
theorem trimE_last {xs : List E2} (h : trimE xs = xs) {n : Nat} (hl : xs.length = n + 1) : cfE xs n ≠ E2.zero := by
  intro e
  have h1 : trimE (xs.take (n + 1)) = trimE (xs.take n) := trimE_take_zero (x := cfE xs n) (by rw [cfE_lt (by omega)]; exact List.getElem?_eq_getElem _) e
  rw [← hl, List.take_length, h] at h1
  have h2 := trimE_length (xs.take n)
  rw [← h1, List.length_take] at h2
  omega
theorem cfE_addAt {r : List E2} {k : Nat} (z : E2) (h : k < r.length) (i : Nat) : cfE (addAt r k z) i = if i = k then cfE r i + z else cfE r i := by
  unfold addAt
  by_cases e : i = k
  · subst e
    rw [if_pos rfl]
    exact cfE_some (List.getElem?_set_self h)
  · rw [if_neg e]
    unfold cfE
    rw [List.getElem?_set_ne (fun k' => e k'.symm)]
theorem cfE_rowMul_far {a : E2} {ys : List E2} {i N : Nat} : ∀ (j : Nat) {r : List E2}, i + j ≤ r.length → i + j ≤ N → cfE (rowMul a ys i j r) N = cfE r N
  | 0, r, _, _ => rfl
  | j + 1, r, hr, hN => by rw [rowMul, cfE_addAt _ (by rw [rowMul_length]; omega), if_neg (by omega), cfE_rowMul_far j (by omega) (by omega)]
theorem cfE_allMul_far {xs ys : List E2} {N : Nat} : ∀ (i : Nat) {r : List E2}, i + ys.length ≤ r.length + 1 → i + ys.length ≤ N + 1 → cfE (allMul xs ys i r) N = cfE r N
  | 0, r, _, _ => rfl
  | i + 1, r, hr, hN => by rw [allMul, cfE_rowMul_far _ (by rw [allMul_length]; omega) (by omega), cfE_allMul_far i (by omega) (by omega)]
theorem cfE_replicate (n i : Nat) : cfE (List.replicate n E2.zero) i = E2.zero := by
  unfold cfE
  rw [List.getElem?_replicate]
  by_cases h : i < n
  · rw [if_pos h]; rfl
  · rw [if_neg h]; rfl
/-- degrees add up -/
theorem mulE_degree {xs ys : List E2} {n m : Nat} (hx : xs.length = n + 1) (hy : ys.length = m + 1) (h1 : cfE xs n ≠ E2.zero) (h2 : cfE ys m ≠ E2.zero) : (mulE xs ys).length = n + m + 1 := by
  unfold mulE
  rw [hx, hy]
  refine trimE_lead ?_ fun i hi => ?_
  · rw [allMul, hy, rowMul, cfE_addAt _ (by rw [rowMul_length, allMul_length, List.length_replicate]; omega), if_pos rfl, cfE_rowMul_far _ (by rw [allMul_length, List.length_replicate]; omega) (Nat.le_refl _), cfE_allMul_far _ (by rw [List.length_replicate]; omega) (by omega), cfE_replicate, E2.zero_add]
    intro e
    rcases E2.zero_divisor e with k | k
    · exact h1 k
    · exact h2 k
  · rw [cfE_allMul_far _ (by rw [List.length_replicate]; omega) (by omega), cfE_replicate]

end Gold
