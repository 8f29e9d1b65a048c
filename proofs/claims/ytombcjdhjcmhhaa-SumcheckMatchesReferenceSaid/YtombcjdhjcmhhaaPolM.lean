/- Lists of elements of the extension field as polynomials: trimming, coefficients, sums, products, values; no program, no conditions. -/
import Derived.Test.YtombcjdhjcmhhaaEx
namespace Gold
set_option maxRecDepth 8000
namespace E2
instance : DecidableEq E2 := fun x y => if h : x.A = y.A ∧ x.B = y.B then isTrue (ext' h.1 h.2) else isFalse (fun e => h ⟨congrArg A e, congrArg B e⟩)
end E2

/-- the coefficient of an exponent -/
def cfE (xs : List E2) (i : Nat) : E2 := (xs[i]?).getD E2.zero
/-- without zeros at the end -/
def trimE (xs : List E2) : List E2 := match xs with
  | [] => []
  | x :: l => match trimE l with
    | [] => if x = E2.zero then [] else [x]
    | y :: t => x :: y :: t
def tabE (n : Nat) (f : Nat → E2) : List E2 := (List.range n).map f

theorem cfE_nil (i : Nat) : cfE [] i = E2.zero := rfl
theorem cfE_zero (x : E2) (l : List E2) : cfE (x :: l) 0 = x := rfl
theorem cfE_succ (x : E2) (l : List E2) (i : Nat) : cfE (x :: l) (i + 1) = cfE l i := rfl
theorem cfE_lt {xs : List E2} {i : Nat} (h : i < xs.length) : cfE xs i = xs[i] := by unfold cfE; rw [List.getElem?_eq_getElem h]; rfl
theorem cfE_ge {xs : List E2} {i : Nat} (h : xs.length ≤ i) : cfE xs i = E2.zero := by unfold cfE; rw [List.getElem?_eq_none h]; rfl
theorem cfE_some {xs : List E2} {i : Nat} {x : E2} (h : xs[i]? = some x) : cfE xs i = x := by unfold cfE; rw [h]; rfl
theorem tabE_length (n : Nat) (f : Nat → E2) : (tabE n f).length = n := by simp [tabE]
theorem tabE_get {n i : Nat} (f : Nat → E2) (h : i < n) : (tabE n f)[i]? = some (f i) := by simp [tabE, h]
theorem cfE_tabE (n : Nat) (f : Nat → E2) (i : Nat) : cfE (tabE n f) i = if i < n then f i else E2.zero := by
  by_cases h : i < n
  · rw [if_pos h, cfE_some (tabE_get f h)]
  · rw [if_neg h, cfE_ge (by rw [tabE_length]; omega)]
theorem tabE_cfE (xs : List E2) : tabE xs.length (cfE xs) = xs := by
  apply List.ext_getElem?
  intro i
  by_cases h : i < xs.length
  · rw [tabE_get _ h, cfE_lt h, List.getElem?_eq_getElem h]
  · rw [List.getElem?_eq_none (by rw [tabE_length]; omega), List.getElem?_eq_none (by omega)]
theorem tabE_congr {n : Nat} {f g : Nat → E2} (h : ∀ i, i < n → f i = g i) : tabE n f = tabE n g := by
  unfold tabE
  apply List.map_congr_left
  intro i hi
  exact h i (by simpa using hi)
theorem tabE_succ (n : Nat) (f : Nat → E2) : tabE (n + 1) f = tabE n f ++ [f n] := by simp [tabE, List.range_succ]

theorem cfE_trimE (xs : List E2) (i : Nat) : cfE (trimE xs) i = cfE xs i := by
  induction xs generalizing i with
  | nil => rfl
  | cons x l ih =>
    unfold trimE
    cases h : trimE l with
    | nil =>
      rw [h] at ih
      by_cases hx : x = E2.zero
      · simp only [hx, if_true]
        cases i with
        | zero => rfl
        | succ i => rw [cfE_succ, ← ih]; rfl
      · simp only [hx, if_false]
        cases i with
        | zero => rfl
        | succ i => rw [cfE_succ, cfE_succ, ← ih]
    | cons y t =>
      rw [h] at ih
      cases i with
      | zero => rfl
      | succ i => simp only [cfE_succ]; exact ih i
/-- lists that end in no zero are told by their coefficients -/
theorem trimE_eq {xs ys : List E2} (h : ∀ i, cfE xs i = cfE ys i) : trimE xs = trimE ys := by
  induction xs generalizing ys with
  | nil =>
    induction ys with
    | nil => rfl
    | cons y l ih =>
      have h0 : y = E2.zero := (h 0).symm
      have hl : trimE [] = trimE l := ih fun i => h (i + 1)
      show [] = trimE (y :: l)
      unfold trimE
      rw [← hl]
      simp [trimE, h0]
  | cons x l ih =>
    cases ys with
    | nil =>
      have h0 : x = E2.zero := h 0
      have hl : trimE l = trimE [] := ih fun i => h (i + 1)
      show trimE (x :: l) = []
      unfold trimE
      rw [hl]
      simp [trimE, h0]
    | cons y m =>
      have h0 : x = y := h 0
      have hl : trimE l = trimE m := ih fun i => h (i + 1)
      subst h0
      show trimE (x :: l) = trimE (x :: m)
      unfold trimE
      rw [hl]
theorem trimE_trimE (xs : List E2) : trimE (trimE xs) = trimE xs := trimE_eq (cfE_trimE xs)
theorem trimE_length (xs : List E2) : (trimE xs).length ≤ xs.length := by
  induction xs with
  | nil => exact Nat.le_refl _
  | cons x l ih =>
    unfold trimE
    cases h : trimE l with
    | nil => by_cases hx : x = E2.zero <;> simp [hx]
    | cons y t => rw [h] at ih; simp at ih ⊢; omega
theorem trimE_snoc_zero (xs : List E2) : trimE (xs ++ [E2.zero]) = trimE xs := trimE_eq fun i => by
  unfold cfE
  rcases Nat.lt_trichotomy i xs.length with h | h | h
  · rw [List.getElem?_append_left h]
  · subst h; simp
  · rw [List.getElem?_eq_none (by simp; omega), List.getElem?_eq_none (by omega)]
theorem trimE_snoc {x : E2} (xs : List E2) (h : x ≠ E2.zero) : trimE (xs ++ [x]) = xs ++ [x] := by
  induction xs with
  | nil => simp [trimE, h]
  | cons y l ih =>
    rw [List.cons_append]
    unfold trimE
    rw [ih]
    cases l <;> rfl
/-- cut at the last nonzero coefficient -/
theorem trimE_take_zero {xs : List E2} {k : Nat} {x : E2} (hx : xs[k]? = some x) (h : x = E2.zero) : trimE (xs.take (k + 1)) = trimE (xs.take k) := by
  have hk := (List.getElem?_eq_some_iff.1 hx)
  obtain ⟨hl, he⟩ := hk
  rw [List.take_succ_eq_append_getElem hl, he, h, trimE_snoc_zero]
theorem trimE_take_stop {xs : List E2} {k : Nat} {x : E2} (hx : xs[k]? = some x) (h : x ≠ E2.zero) : trimE (xs.take (k + 1)) = xs.take (k + 1) := by
  obtain ⟨hl, he⟩ := List.getElem?_eq_some_iff.1 hx
  rw [List.take_succ_eq_append_getElem hl, he, trimE_snoc _ h]

theorem trimE_prefix (xs : List E2) : xs.take (trimE xs).length = trimE xs := by
  induction xs with
  | nil => rfl
  | cons x l ih =>
    unfold trimE
    cases h : trimE l with
    | nil =>
      by_cases hx : x = E2.zero
      · simp [hx]
      · simp [hx]
    | cons y t =>
      rw [h] at ih
      show x :: l.take (y :: t).length = _
      rw [ih]

/-! ### Lists that are filled from the left -/
theorem tab_start (n : Nat) (f : Nat → E2) : tabE 0 f ++ List.replicate (n - 0) E2.zero = List.replicate n E2.zero := by simp [tabE]
theorem tab_step {n k : Nat} (f : Nat → E2) (h : k < n) : (tabE k f ++ List.replicate (n - k) E2.zero).set k (f k) = tabE (k + 1) f ++ List.replicate (n - (k + 1)) E2.zero := by
  rw [List.set_append_right _ _ (by rw [tabE_length]; exact Nat.le_refl _), tabE_length, Nat.sub_self, show n - k = (n - (k + 1)) + 1 by omega, List.replicate_succ, List.set_cons_zero, tabE_succ, List.append_assoc]
  rfl
theorem tab_end (n : Nat) (f : Nat → E2) : tabE n f ++ List.replicate (n - n) E2.zero = tabE n f := by simp
theorem tab_len {n k : Nat} (f : Nat → E2) (h : k ≤ n) : (tabE k f ++ List.replicate (n - k) E2.zero).length = n := by rw [List.length_append, tabE_length, List.length_replicate]; omega

theorem tab_at {n k : Nat} (f : Nat → E2) (h : k < n) : (tabE k f ++ List.replicate (n - k) E2.zero)[k]? = some E2.zero := by
  rw [List.getElem?_append_right (by rw [tabE_length]; exact Nat.le_refl _), tabE_length, Nat.sub_self, List.getElem?_replicate, if_pos (by omega)]
theorem set_at {L : List E2} {k : Nat} {z : E2} (y : E2) (h : L[k]? = some z) : (L.set k y)[k]? = some y := by
  obtain ⟨hl, _⟩ := List.getElem?_eq_some_iff.1 h
  rw [List.getElem?_set_self hl]

/-! ### What the functions of the package return -/
def addE (xs ys : List E2) : List E2 := trimE (tabE (max xs.length ys.length) fun i => cfE xs i + cfE ys i)
def subE (xs ys : List E2) : List E2 := trimE (tabE (max xs.length ys.length) fun i => cfE xs i - cfE ys i)
def scaleE (xs : List E2) (c : E2) : List E2 := trimE (xs.map fun x => c * x)
/-- the value at x -/
def evE : List E2 → E2 → E2
  | [], _ => E2.zero
  | a :: l, x => a + x * evE l x
/-- the coefficients of the product, so far -/
def addAt (r : List E2) (k : Nat) (z : E2) : List E2 := r.set k (cfE r k + z)
def rowMul (a : E2) (ys : List E2) (i : Nat) : Nat → List E2 → List E2
  | 0, r => r
  | j + 1, r => addAt (rowMul a ys i j r) (i + j) (a * cfE ys j)
def allMul (xs ys : List E2) : Nat → List E2 → List E2
  | 0, r => r
  | i + 1, r => rowMul (cfE xs i) ys i ys.length (allMul xs ys i r)
def mulE (xs ys : List E2) : List E2 := trimE (allMul xs ys xs.length (List.replicate (xs.length + ys.length) E2.zero))

theorem addAt_length (r : List E2) (k : Nat) (z : E2) : (addAt r k z).length = r.length := by simp [addAt]
theorem rowMul_length (a : E2) (ys : List E2) (i j : Nat) (r : List E2) : (rowMul a ys i j r).length = r.length := by
  induction j with
  | zero => rfl
  | succ j ih => rw [rowMul, addAt_length, ih]
theorem allMul_length (xs ys : List E2) (i : Nat) (r : List E2) : (allMul xs ys i r).length = r.length := by
  induction i with
  | zero => rfl
  | succ i ih => rw [allMul, rowMul_length, ih]

/-- differences as sums with a multiple -/
theorem cfE_addE (xs ys : List E2) (i : Nat) : cfE (addE xs ys) i = cfE xs i + cfE ys i := by
  unfold addE
  rw [cfE_trimE, cfE_tabE]
  by_cases h : i < max xs.length ys.length
  · rw [if_pos h]
  · rw [if_neg h, cfE_ge (show xs.length ≤ i by omega), cfE_ge (show ys.length ≤ i by omega), E2.add_zero]
theorem cfE_subE (xs ys : List E2) (i : Nat) : cfE (subE xs ys) i = cfE xs i - cfE ys i := by
  unfold subE
  rw [cfE_trimE, cfE_tabE]
  by_cases h : i < max xs.length ys.length
  · rw [if_pos h]
  · rw [if_neg h, cfE_ge (show xs.length ≤ i by omega), cfE_ge (show ys.length ≤ i by omega), E2.sub_self]
theorem cfE_scaleE (xs : List E2) (c : E2) (i : Nat) : cfE (scaleE xs c) i = c * cfE xs i := by
  unfold scaleE
  rw [cfE_trimE]
  unfold cfE
  rw [List.getElem?_map]
  cases xs[i]? with
  | none => exact (E2.mul_zero c).symm
  | some x => rfl
theorem addE_trim (xs ys : List E2) : trimE (addE xs ys) = addE xs ys := trimE_trimE _
theorem subE_trim (xs ys : List E2) : trimE (subE xs ys) = subE xs ys := trimE_trimE _
theorem scaleE_trim (xs : List E2) (c : E2) : trimE (scaleE xs c) = scaleE xs c := trimE_trimE _
theorem mulE_trim (xs ys : List E2) : trimE (mulE xs ys) = mulE xs ys := trimE_trimE _
/-- trimmed lists are told by their coefficients -/
theorem trim_ext {xs ys : List E2} (hx : trimE xs = xs) (hy : trimE ys = ys) (h : ∀ i, cfE xs i = cfE ys i) : xs = ys := by rw [← hx, ← hy]; exact trimE_eq h
theorem neg_one_mul (x : E2) : -E2.one * x = -x := by rw [E2.neg_mul, E2.one_mul]
theorem subE_eq (xs ys : List E2) : addE xs (scaleE ys (-E2.one)) = subE xs ys := trim_ext (addE_trim _ _) (subE_trim _ _) fun i => by
  rw [cfE_addE, cfE_scaleE, cfE_subE, neg_one_mul, E2.sub_eq]

/-! ### Values from the back; quotients -/
/-- the value, by the coefficients from k on -/
def evFrom (xs : List E2) (y : E2) (k : Nat) : E2 := evE (xs.drop k) y
theorem evFrom_zero (xs : List E2) (y : E2) : evFrom xs y 0 = evE xs y := rfl
theorem evFrom_end {xs : List E2} (y : E2) {k : Nat} (h : xs.length ≤ k) : evFrom xs y k = E2.zero := by unfold evFrom; rw [List.drop_eq_nil_of_le h]; rfl
theorem evFrom_step {xs : List E2} {y x : E2} {j : Nat} (h : xs[j]? = some x) : evFrom xs y j = evFrom xs y (j + 1) * y + x := by
  obtain ⟨hl, he⟩ := List.getElem?_eq_some_iff.1 h
  unfold evFrom
  rw [List.drop_eq_getElem_cons hl, he]
  show x + y * evE (xs.drop (j + 1)) y = _
  rw [E2.add_comm, E2.mul_comm]
/-- a list that is filled from the right -/
def fillR (f : Nat → E2) (n k : Nat) : List E2 := tabE n fun i => if k ≤ i then f i else E2.zero
theorem fillR_length (f : Nat → E2) (n k : Nat) : (fillR f n k).length = n := tabE_length _ _
theorem fillR_start (f : Nat → E2) (n : Nat) : fillR f n n = List.replicate n E2.zero := by
  apply List.ext_getElem?
  intro i
  by_cases h : i < n
  · unfold fillR
    rw [tabE_get _ h, if_neg (by omega), List.getElem?_replicate, if_pos h]
  · rw [List.getElem?_eq_none (by rw [fillR_length]; omega), List.getElem?_eq_none (by simp; omega)]
theorem fillR_step (f : Nat → E2) {n j : Nat} (h : j < n) : (fillR f n (j + 1)).set j (f j) = fillR f n j := by
  apply List.ext_getElem?
  intro i
  by_cases hi : i < n
  · rw [List.getElem?_set]
    by_cases e : j = i
    · subst e
      rw [if_pos rfl, if_pos (by rw [fillR_length]; exact h)]
      unfold fillR
      rw [tabE_get _ h, if_pos (Nat.le_refl _)]
    · rw [if_neg e]
      unfold fillR
      rw [tabE_get _ hi, tabE_get _ hi]
      by_cases k : j ≤ i
      · rw [if_pos k, if_pos (by omega)]
      · rw [if_neg k, if_neg (by omega)]
  · rw [List.getElem?_eq_none (by rw [List.length_set, fillR_length]; omega), List.getElem?_eq_none (by rw [fillR_length]; omega)]
theorem fillR_end (f : Nat → E2) (n : Nat) : fillR f n 0 = tabE n f := tabE_congr fun _ _ => if_pos (Nat.zero_le _)
/-- the quotient's coefficients, those from k on laid -/
def quoAt (xs : List E2) (y : E2) (n k : Nat) : List E2 := tabE n fun i => if k ≤ i then evFrom xs y (i + 1) else E2.zero
def quoE (xs : List E2) (y : E2) : List E2 := trimE (tabE xs.length fun i => evFrom xs y (i + 1))
theorem quoAt_length (xs : List E2) (y : E2) (n k : Nat) : (quoAt xs y n k).length = n := tabE_length _ _
theorem quoAt_start (xs : List E2) (y : E2) (n : Nat) : quoAt xs y n n = List.replicate n E2.zero := by
  apply List.ext_getElem?
  intro i
  by_cases h : i < n
  · unfold quoAt
    rw [tabE_get _ h, if_neg (by omega), List.getElem?_replicate, if_pos h]
  · rw [List.getElem?_eq_none (by rw [quoAt_length]; omega), List.getElem?_eq_none (by simp; omega)]
theorem quoAt_step (xs : List E2) (y : E2) {n j : Nat} (h : j < n) : (quoAt xs y n (j + 1)).set j (evFrom xs y (j + 1)) = quoAt xs y n j := by
  apply List.ext_getElem?
  intro i
  by_cases hi : i < n
  · rw [List.getElem?_set]
    by_cases e : j = i
    · subst e
      rw [if_pos rfl, if_pos (by rw [quoAt_length]; exact h)]
      unfold quoAt
      rw [tabE_get _ h, if_pos (Nat.le_refl _)]
    · rw [if_neg e]
      unfold quoAt
      rw [tabE_get _ hi, tabE_get _ hi]
      by_cases k : j ≤ i
      · rw [if_pos k, if_pos (by omega)]
      · rw [if_neg k, if_neg (by omega)]
  · rw [List.getElem?_eq_none (by rw [List.length_set, quoAt_length]; omega), List.getElem?_eq_none (by rw [quoAt_length]; omega)]
theorem quoE_short {xs : List E2} (y : E2) {n : Nat} (h : xs.length = n + 1) : trimE (tabE n fun i => evFrom xs y (i + 1)) = quoE xs y := by
  unfold quoE
  rw [h, tabE_succ, evFrom_end y (by omega), trimE_snoc_zero]
theorem quoE_nil (y : E2) : quoE [] y = [] := rfl
theorem evFrom_last {xs : List E2} {y x : E2} {n : Nat} (hx : xs[n]? = some x) (h : xs.length = n + 1) : evFrom xs y n = x := by
  rw [evFrom_step hx, evFrom_end y (by omega), E2.zero_mul, E2.zero_add]
theorem quoAt_end (xs : List E2) (y : E2) (n : Nat) : quoAt xs y n 0 = tabE n fun i => evFrom xs y (i + 1) := tabE_congr fun _ _ => if_pos (Nat.zero_le _)


end Gold
