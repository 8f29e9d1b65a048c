/- Interpolation at 0, 1, 2, ..: weights, the interpolating polynomial, its uniqueness; no program, no conditions. -/
import Derived.Test.YtombcjdhjcmhhaaPolN
namespace Gold
set_option maxRecDepth 8000

theorem trimE_length_le {xs : List E2} {n : Nat} (h : ∀ i, n ≤ i → cfE xs i = E2.zero) : (trimE xs).length ≤ n := by
  have e : trimE xs = trimE (tabE n (cfE xs)) := trimE_eq fun i => by
    rw [cfE_tabE]
    by_cases hi : i < n
    · rw [if_pos hi]
    · rw [if_neg hi, h i (by omega)]
  have := trimE_length (tabE n (cfE xs))
  rw [← e, tabE_length] at this
  exact this
theorem mulE_length' {xs ys : List E2} : (mulE xs ys).length ≤ xs.length + ys.length - 1 := by
  unfold mulE
  refine trimE_length_le fun i hi => ?_
  rw [cfE_allMul_far _ (by rw [List.length_replicate]; omega) (by omega), cfE_replicate]

/-! ### Factorials and weights -/
def facE : Nat → E2
  | 0 => E2.one
  | k + 1 => facE k * nd (k + 1)
theorem E2_mul_ne {x y : E2} (hx : x ≠ E2.zero) (hy : y ≠ E2.zero) : x * y ≠ E2.zero := fun e => (E2.zero_divisor e).elim hx hy
theorem facE_ne : ∀ {k : Nat}, k ≤ 65536 → facE k ≠ E2.zero
  | 0, _ => E2.one_ne_zero
  | k + 1, h => E2_mul_ne (facE_ne (by omega)) (nd_ne h (by omega))
/-- the inverse of a factorial from that of the next one -/
theorem ifac_step {k : Nat} (h : k + 1 ≤ 65536) : E2.inv (facE (k + 1)) * nd (k + 1) = E2.inv (facE k) := by
  refine E2.inv_unique ?_
  have h1 := E2.mul_inv (facE_ne h)
  generalize E2.inv (facE (k + 1)) = q at h1 ⊢
  have h2 : facE k * nd (k + 1) * q = E2.one := h1
  rw [E2.mul_comm q, ← E2.mul_assoc]
  exact h2
def sgE (d : Nat) (z : E2) : E2 := if d % 2 = 1 then -z else z
theorem sgE_even {d : Nat} {z : E2} (h : ¬ d % 2 = 1) : sgE d z = z := if_neg h
theorem sgE_odd {d : Nat} {z : E2} (h : d % 2 = 1) : sgE d z = -z := if_pos h
theorem mul_neg' (x y : E2) : x * -y = -(x * y) := by rw [E2.mul_comm, E2.neg_mul, E2.mul_comm]
theorem sgE_succ (d : Nat) (z : E2) : sgE (d + 1) z = -sgE d z := by
  unfold sgE
  by_cases h : d % 2 = 1
  · rw [if_neg (by omega), if_pos h, E2.neg_neg]
  · rw [if_pos (by omega), if_neg h]
theorem sgE_mul (d : Nat) (x y : E2) : sgE d x * sgE d y = x * y := by
  unfold sgE
  by_cases h : d % 2 = 1
  · rw [if_pos h, if_pos h, E2.neg_mul, mul_neg', E2.neg_neg]
  · rw [if_neg h, if_neg h]
def wtE (v : List E2) (n i : Nat) : E2 := sgE (n - 1 - i) (cfE v i * (E2.inv (facE i) * E2.inv (facE (n - 1 - i))))
def wtsE (v : List E2) : List E2 := tabE v.length (wtE v v.length)

/-! ### The sum with all products, by values -/
def prodAt (f : Nat) : Nat → E2 → E2
  | 0, _ => E2.one
  | n + 1, x => prodAt f n x * (x - nd (f + n))
def lagAt (c : List E2) (f : Nat) : Nat → E2 → E2
  | 0, _ => E2.zero
  | n + 1, x => lagAt c f n x * (x - nd (f + n)) + prodAt f n x * cfE c n
theorem nd_sub {k m : Nat} (h : m ≤ k) : nd k - nd m = nd (k - m) := by
  unfold nd
  rw [ndZ_sub]
  congr 1
  omega
theorem prod_node {k : Nat} : ∀ {m : Nat}, m ≤ k → prodAt 0 m (nd k) * facE (k - m) = facE k
  | 0, _ => by rw [prodAt, E2.one_mul, Nat.sub_zero]
  | m + 1, h => by
    have ih := prod_node (k := k) (m := m) (by omega)
    rw [prodAt, Nat.zero_add, nd_sub (by omega), E2.mul_assoc, E2.mul_comm (nd (k - m))]
    obtain ⟨d, hd⟩ : ∃ d, k - m = d + 1 := ⟨k - m - 1, by omega⟩
    rw [show k - (m + 1) = d by omega, hd]
    rw [hd] at ih
    exact ih
theorem prod_self (k : Nat) : prodAt 0 k (nd k) = facE k := by
  have h := prod_node (Nat.le_refl k)
  rw [Nat.sub_self, show facE 0 = E2.one from rfl, E2.mul_one] at h
  exact h
theorem prod_past {k : Nat} : ∀ (d : Nat), prodAt 0 (k + 1 + d) (nd k) = E2.zero
  | 0 => by rw [Nat.add_zero, prodAt, Nat.zero_add, E2.sub_self, E2.mul_zero]
  | d + 1 => by rw [← Nat.add_assoc, prodAt, prod_past d, E2.zero_mul]
theorem lag_past (c : List E2) (k : Nat) : ∀ (d : Nat), lagAt c 0 (k + 1 + d) (nd k) = facE k * cfE c k * sgE d (facE d)
  | 0 => by rw [Nat.add_zero, lagAt, Nat.zero_add, E2.sub_self, E2.mul_zero, E2.zero_add, prod_self, sgE_even (by omega), show facE 0 = E2.one from rfl, E2.mul_one]
  | d + 1 => by
    rw [← Nat.add_assoc, lagAt, prod_past d, E2.zero_mul, E2.add_zero, lag_past c k d, Nat.zero_add]
    have e : nd k - nd (k + 1 + d) = -nd (d + 1) := by
      unfold nd
      rw [ndZ_sub, ← ndZ_neg]
      congr 1
      omega
    rw [e, sgE_succ, show facE (d + 1) = facE d * nd (d + 1) from rfl, E2.mul_assoc]
    congr 1
    unfold sgE
    by_cases h : d % 2 = 1
    · rw [if_pos h, if_pos h, mul_neg', E2.neg_mul]
    · rw [if_neg h, if_neg h, mul_neg']
theorem wts_node {v : List E2} {k : Nat} (hk : k < v.length) (hn : v.length ≤ 65536) : lagAt (wtsE v) 0 v.length (nd k) = cfE v k := by
  obtain ⟨d, hd⟩ : ∃ d, v.length = k + 1 + d := ⟨v.length - k - 1, by omega⟩
  have hc : cfE (wtsE v) k = wtE v v.length k := by
    unfold wtsE
    rw [cfE_tabE, if_pos hk]
  rw [hd, lag_past, hc]
  unfold wtE
  rw [show v.length - 1 - k = d by omega, E2.mul_assoc, sgE_mul]
  have h1 := E2.mul_inv (facE_ne (k := k) (by omega))
  have h2 := E2.mul_inv (facE_ne (k := d) (by omega))
  generalize cfE v k = u
  generalize E2.inv (facE k) = p at h1 ⊢
  generalize E2.inv (facE d) = q at h2 ⊢
  generalize facE k = a at h1 ⊢
  generalize facE d = b at h2 ⊢
  have e : a * (u * (p * q) * b) = u * ((a * p) * (b * q)) := by simp only [E2.mul_comm, E2.mul_left_comm]
  rw [e, h1, h2, E2.mul_one, E2.mul_one]

/-! ### The same as polynomials -/
def prodP (f : Nat) : Nat → List E2
  | 0 => [E2.one]
  | n + 1 => mulE (prodP f n) [-nd (f + n), E2.one]
def lagP (c : List E2) (f : Nat) : Nat → List E2
  | 0 => []
  | n + 1 => addE (mulE (lagP c f n) [-nd (f + n), E2.one]) (scaleE (prodP f n) (cfE c n))
theorem evE_one (x : E2) : evE [E2.one] x = E2.one := by rw [evE_cons, evE_nil, E2.mul_zero, E2.add_zero]
theorem evE_linear (a x : E2) : evE [-a, E2.one] x = x - a := by rw [evE_cons, evE_one, E2.mul_one, E2.add_comm, ← E2.sub_eq]
theorem evE_prodP (f : Nat) (x : E2) : ∀ n, evE (prodP f n) x = prodAt f n x
  | 0 => evE_one x
  | n + 1 => by rw [prodP, evE_mulE, evE_prodP f x n, evE_linear, prodAt]
theorem evE_lagP (c : List E2) (f : Nat) (x : E2) : ∀ n, evE (lagP c f n) x = lagAt c f n x
  | 0 => rfl
  | n + 1 => by rw [lagP, evE_addE, evE_mulE, evE_scaleE, evE_lagP c f x n, evE_prodP, evE_linear, lagAt, E2.mul_comm (cfE c n)]
theorem prodP_length (f : Nat) : ∀ n, (prodP f n).length ≤ n + 1
  | 0 => Nat.le_refl _
  | n + 1 => by
    have h1 := prodP_length f n
    have h2 := mulE_length' (xs := prodP f n) (ys := [-nd (f + n), E2.one])
    rw [prodP]
    simp at h2
    omega
theorem lagP_length (c : List E2) (f : Nat) : ∀ n, (lagP c f n).length ≤ n
  | 0 => Nat.le_refl _
  | n + 1 => by
    have h1 := lagP_length c f n
    have h2 := mulE_length' (xs := lagP c f n) (ys := [-nd (f + n), E2.one])
    have h3 := prodP_length f n
    have h4 := scaleE_length (prodP f n) (cfE c n)
    have h5 := addE_length (mulE (lagP c f n) [-nd (f + n), E2.one]) (scaleE (prodP f n) (cfE c n))
    rw [lagP]
    simp at h2
    omega
theorem lagP_trim (c : List E2) (f : Nat) : ∀ n, trimE (lagP c f n) = lagP c f n
  | 0 => rfl
  | _ + 1 => addE_trim _ _

/-! ### Interpolation -/
structure IsInterp (v S : List E2) : Prop where
  trim : trimE S = S
  short : S.length ≤ v.length
  value : ∀ k, k < v.length → evE S (nd k) = cfE v k
theorem IsInterp.unique {v S T : List E2} (hn : v.length ≤ 65536) (hS : IsInterp v S) (hT : IsInterp v T) : S = T :=
  poly_eq_nodes hn hS.trim hT.trim hS.short hT.short fun i hi => (hS.value i hi).trans (hT.value i hi).symm
def interpE (v : List E2) : List E2 := lagP (wtsE v) 0 v.length
/-- the value of the interpolating polynomial -/
def atE (v : List E2) (x : E2) : E2 := lagAt (wtsE v) 0 v.length x
theorem interp_is {v : List E2} (hn : v.length ≤ 65536) : IsInterp v (interpE v) :=
  ⟨lagP_trim _ _ _, lagP_length _ _ _, fun _ hk => (evE_lagP _ _ _ _).trans (wts_node hk hn)⟩
theorem evE_interpE (v : List E2) (x : E2) : evE (interpE v) x = atE v x := evE_lagP _ _ _ _
theorem IsInterp.eq {v S : List E2} (hn : v.length ≤ 65536) (h : IsInterp v S) : S = interpE v := h.unique hn (interp_is hn)
theorem atE_node {v : List E2} {k : Nat} (hk : k < v.length) (hn : v.length ≤ 65536) : atE v (nd k) = cfE v k := wts_node hk hn
theorem interpE_length (v : List E2) : (interpE v).length ≤ v.length := lagP_length _ _ _

/-! ### Two halves -/
theorem prod_split (f h : Nat) (x : E2) : ∀ m, prodAt f (h + m) x = prodAt f h x * prodAt (f + h) m x
  | 0 => by rw [Nat.add_zero, prodAt, E2.mul_one]
  | m + 1 => by rw [← Nat.add_assoc, prodAt, prod_split f h x m, prodAt, E2.mul_assoc, Nat.add_assoc]
theorem lag_congr {c d : List E2} (f : Nat) (x : E2) : ∀ n, (∀ i, i < n → cfE c i = cfE d i) → lagAt c f n x = lagAt d f n x
  | 0, _ => rfl
  | n + 1, h => by rw [lagAt, lagAt, lag_congr f x n (fun i hi => h i (by omega)), h n (by omega)]
theorem cfE_drop (c : List E2) (h i : Nat) : cfE (c.drop h) i = cfE c (h + i) := by unfold cfE; rw [List.getElem?_drop]
theorem cfE_take {c : List E2} {h i : Nat} (hi : i < h) : cfE (c.take h) i = cfE c i := by unfold cfE; rw [List.getElem?_take_of_lt hi]
theorem lag_split (c : List E2) (f h : Nat) (x : E2) : ∀ m, lagAt c f (h + m) x = lagAt c f h x * prodAt (f + h) m x + prodAt f h x * lagAt (c.drop h) (f + h) m x
  | 0 => by rw [Nat.add_zero, prodAt, lagAt, E2.mul_one, E2.mul_zero, E2.add_zero]
  | m + 1 => by
    rw [← Nat.add_assoc, lagAt, lag_split c f h x m, prod_split, prodAt, lagAt, cfE_drop, Nat.add_assoc f h m]
    generalize lagAt c f h x = a
    generalize prodAt (f + h) m x = b
    generalize prodAt f h x = d
    generalize lagAt (c.drop h) (f + h) m x = e
    generalize x - nd (f + (h + m)) = g
    generalize cfE c (h + m) = u
    rw [E2.add_mul, E2.mul_add, E2.add_assoc, E2.mul_assoc, E2.mul_assoc, E2.mul_assoc]

/-! ### The reference's way -/
def refB (v : List E2) (n i : Nat) : Nat → List E2
  | 0 => [cfE v i]
  | k + 1 => if k = i then refB v n i k else mulE (refB v n i k) [ndZ (-(k : Int)) * E2.inv (ndZ ((i : Int) - (k : Int))), E2.inv (ndZ ((i : Int) - (k : Int)))]
def refO (v : List E2) (n : Nat) : Nat → List E2
  | 0 => []
  | i + 1 => addE (refO v n i) (refB v n i n)
theorem refB_length (v : List E2) (n i : Nat) : ∀ k, (refB v n i k).length ≤ if i < k then k else k + 1
  | 0 => Nat.le_refl _
  | k + 1 => by
    have ih := refB_length v n i k
    rw [refB]
    by_cases e : k = i
    · rw [if_pos e, if_pos (by omega)]
      rw [if_neg (by omega)] at ih
      exact ih
    · rw [if_neg e]
      have h2 := mulE_length' (xs := refB v n i k) (ys := [ndZ (-(k : Int)) * E2.inv (ndZ ((i : Int) - (k : Int))), E2.inv (ndZ ((i : Int) - (k : Int)))])
      simp at h2
      by_cases h : i < k
      · rw [if_pos h] at ih
        rw [if_pos (by omega)]
        omega
      · rw [if_neg h] at ih
        rw [if_neg (by omega)]
        omega
theorem refO_length (v : List E2) (n : Nat) : ∀ i, i ≤ n → (refO v n i).length ≤ n
  | 0, _ => Nat.zero_le _
  | i + 1, h => by
    have h1 := refO_length v n i (by omega)
    have h2 := refB_length v n i n
    rw [if_pos (by omega)] at h2
    have h3 := addE_length (refO v n i) (refB v n i n)
    rw [refO]
    omega
theorem evE_pair (a b x : E2) : evE [a, b] x = a + x * b := by rw [evE_cons, evE_cons, evE_nil, E2.mul_zero, E2.add_zero]
theorem evE_factor (i k : Nat) (x : E2) : evE [ndZ (-(k : Int)) * E2.inv (ndZ ((i : Int) - (k : Int))), E2.inv (ndZ ((i : Int) - (k : Int)))] x = (x - nd k) * E2.inv (nd i - nd k) := by
  rw [evE_pair, ndZ_neg, ← ndZ_sub, ← E2.add_mul, E2.add_comm, ← E2.sub_eq]
  rfl
theorem refB_self {v : List E2} {n i : Nat} (hi : i ≤ 65536) : ∀ k, k ≤ 65536 → evE (refB v n i k) (nd i) = cfE v i
  | 0, _ => by rw [refB, evE_cons, evE_nil, E2.mul_zero, E2.add_zero]
  | k + 1, h => by
    rw [refB]
    by_cases e : k = i
    · rw [if_pos e]
      exact refB_self hi k (by omega)
    · rw [if_neg e, evE_mulE, refB_self hi k (by omega), evE_factor, E2.mul_inv (E2_sub_ne fun h' => e (nd_inj (by omega) hi h'.symm)), E2.mul_one]
theorem refB_other {v : List E2} {n i m : Nat} (hm : m ≠ i) : ∀ k, m < k → evE (refB v n i k) (nd m) = E2.zero
  | 0, h => by omega
  | k + 1, h => by
    rw [refB]
    by_cases e : k = i
    · rw [if_pos e]
      exact refB_other hm k (by omega)
    · rw [if_neg e, evE_mulE, evE_factor]
      by_cases hmk : m = k
      · subst hmk
        rw [E2.sub_self, E2.zero_mul, E2.mul_zero]
      · rw [refB_other hm k (by omega), E2.zero_mul]
theorem refO_value {v : List E2} {n m : Nat} (hn : n ≤ 65536) (hm : m < n) : ∀ i, i ≤ n → evE (refO v n i) (nd m) = if m < i then cfE v m else E2.zero
  | 0, _ => by rw [if_neg (by omega)]; rfl
  | i + 1, h => by
    rw [refO, evE_addE, refO_value hn hm i (by omega)]
    by_cases e : m = i
    · subst e
      rw [if_neg (by omega), if_pos (by omega), refB_self (by omega) n hn, E2.zero_add]
    · rw [refB_other e n hm, E2.add_zero]
      by_cases h' : m < i
      · rw [if_pos h', if_pos (by omega)]
      · rw [if_neg h', if_neg (by omega)]
theorem refO_trim (v : List E2) (n : Nat) : ∀ i, trimE (refO v n i) = refO v n i
  | 0 => rfl
  | _ + 1 => addE_trim _ _
theorem refO_is {v : List E2} (hn : v.length ≤ 65536) : IsInterp v (refO v v.length v.length) :=
  ⟨refO_trim _ _ _, refO_length _ _ _ (Nat.le_refl _), fun k hk => by rw [refO_value hn hk _ (Nat.le_refl _), if_pos hk]⟩
theorem refO_eq {v : List E2} (hn : v.length ≤ 65536) : refO v v.length v.length = interpE v := (refO_is hn).eq hn

end Gold
