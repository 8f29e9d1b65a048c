/- The mathematics of the laws of package ntt; no conditions but lengths. -/
import Derived.Test.YtihneehceclffaaNsan
namespace Go.Proofs.Ytihneehceclffaa
open Go.RowKit Gold

theorem fwdF_tab {xs : List F} {f : Nat → F} {q : Nat} (h : ∀ i, i < 2 ^ q → cfF xs i = f i) (i : Nat) : fwdF (cfF xs) q i = fwdF f q i := by
  unfold fwdF
  exact evF_congr h _
theorem invT_tab {xs : List F} {f : Nat → F} {q : Nat} (h : ∀ i, i < 2 ^ q → cfF xs i = f i) (i : Nat) : invT (cfF xs) q i = invT f q i := by
  unfold invT
  exact congrArg (invF (natF (2 ^ q)) * ·) (evF_congr h _)
theorem inv_of_fwd {xs : List F} {N q : Nat} (hN : N = 2 ^ q) (hq : q ≤ 16) (hl : xs.length = N) : tabF N (invT (cfF (tabF N (fwdF (cfF xs) q))) q) = xs := by
  rw [tabF_congr (g := cfF xs) fun i hi => ?_]
  · exact (tabF_eq hl).symm
  · rw [invT_tab (f := fwdF (cfF xs) q) (fun j hj => cfF_tab _ (by omega))]
    exact inv_fwd hq _ (by omega)
theorem fwd_of_inv {xs : List F} {N q : Nat} (hN : N = 2 ^ q) (hq : q ≤ 16) (hl : xs.length = N) : tabF N (fwdF (cfF (tabF N (invT (cfF xs) q))) q) = xs := by
  rw [tabF_congr (g := cfF xs) fun i hi => ?_]
  · exact (tabF_eq hl).symm
  · rw [fwdF_tab (f := invT (cfF xs) q) (fun j hj => cfF_tab _ (by omega))]
    exact fwd_inv hq _ (by omega)
/-- rotated by one position -/
def rotL (xs : List F) (N : Nat) : List F := [cfF xs (N - 1)] ++ xs.take (N - 1)
theorem rotL_length {xs : List F} {N : Nat} (hl : xs.length = N) (h : 1 ≤ N) : (rotL xs N).length = N := by unfold rotL; simp; omega
theorem cfF_rot_succ {xs : List F} {N j : Nat} (hj : j + 1 < N) : cfF (rotL xs N) (j + 1) = cfF xs j := by
  unfold rotL cfF
  rw [List.getElem?_append_right (by simp)]
  rw [show j + 1 - [(xs[N - 1]?).getD 0].length = j from rfl, List.getElem?_take_of_lt (by omega)]
theorem rot_value {xs : List F} {N q : Nat} (hN : N = 2 ^ q) (hq : q ≤ 16) (k : Nat) : fwdF (cfF (rotL xs N)) q k = fwdF (cfF xs) q k * rootF q ^ k := by
  obtain ⟨m, hm⟩ : ∃ m, N = m + 1 := ⟨N - 1, by have := Nat.two_pow_pos q; omega⟩
  have hx : (rootF q ^ k) ^ N = 1 := by rw [← F_pow_mul, Nat.mul_comm, F_pow_mul, hN, rootF_full (by omega), F_one_pow]
  unfold fwdF
  rw [← hN]
  generalize rootF q ^ k = x at *
  have h1 : evF (cfF (rotL xs N)) N x = cfF xs m + sumF (fun j => cfF xs j * x ^ (j + 1)) m := by
    unfold evF
    rw [hm, sumF_front]
    have e0 : cfF (rotL xs (m + 1)) 0 = cfF xs m := rfl
    rw [e0, F_pow_zero, F_mul_one]
    congr 1
    refine sumF_congr fun j hj => ?_
    rw [cfF_rot_succ (by omega)]
  have h2 : evF (cfF xs) N x * x = sumF (fun j => cfF xs j * x ^ (j + 1)) m + cfF xs m := by
    have h3 : evF (cfF xs) N x * x = sumF (fun j => cfF xs j * x ^ (j + 1)) N := by
      unfold evF
      rw [F_mul_comm, ← sumF_mul]
      exact sumF_congr fun j _ => by rw [F_pow_succ]; grind
    rw [h3, hm]
    show sumF (fun j => cfF xs j * x ^ (j + 1)) m + cfF xs m * x ^ (m + 1) = _
    rw [← hm, hx, F_mul_one]
  rw [h1, h2]
  grind

theorem mulF'_length (xs ys : List F) : (mulF' xs ys).length = xs.length + ys.length - 1 := tabF_length _ _
theorem mul_eval {xs ys : List F} (hx : 0 < xs.length) (hy : 0 < ys.length) (x : F) : evL (mulF' xs ys) x = evL xs x * evL ys x := by
  have h1 : evL (mulF' xs ys) x = evF (convF (cfF xs) (cfF ys)) (xs.length + ys.length - 1) x := by
    rw [evL_evF, mulF'_length]
    exact evF_congr (fun i hi => cfF_tab _ hi) _
  rw [h1, evF_conv (la := xs.length) (lb := ys.length) (fun i hi => cfF_none hi) (fun i hi => cfF_none hi) (by omega), evL_evF' (by omega), evL_evF' (by omega)]
theorem min_rule (n k : Nat) : ∃ m : Nat, (if (k : Int) < (n : Int) then (k : Int) else (n : Int)) = (m : Int) ∧ m ≤ n ∧ m ≤ k ∧ (k ≤ n ∨ m = n) := by
  by_cases h : k < n
  · exact ⟨k, by rw [if_pos (by omega)], by omega, Nat.le_refl _, by omega⟩
  · exact ⟨n, by rw [if_neg (by omega)], Nat.le_refl _, by omega, by omega⟩

/-- the product, empty if a factor is -/
def mulP (xs ys : List F) : List F := if xs.length = 0 ∨ ys.length = 0 then [] else mulF' xs ys
theorem mulP_length (xs ys : List F) : (mulP xs ys).length = if xs.length = 0 ∨ ys.length = 0 then 0 else xs.length + ys.length - 1 := by
  unfold mulP
  split
  · rfl
  · exact mulF'_length _ _
theorem cfF_far (xs : List F) : ∀ i, xs.length ≤ i → cfF xs i = 0 := fun _ h => cfF_none h
theorem cfF_mulP (xs ys : List F) (i : Nat) : cfF (mulP xs ys) i = convF (cfF xs) (cfF ys) i := by
  unfold mulP
  by_cases h : xs.length = 0 ∨ ys.length = 0
  · rw [if_pos h, cfF_none (Nat.zero_le _)]
    unfold convF
    rw [sumF_congr (g := fun _ => 0) fun j _ => ?_, sumF_zero]
    rcases h with h | h
    · rw [cfF_none (xs := xs) (by omega)]; exact F_zero_mul _
    · rw [cfF_none (xs := ys) (by omega)]; exact F_mul_zero _
  · rw [if_neg h]
    by_cases hi : i < xs.length + ys.length - 1
    · exact cfF_tab _ hi
    · rw [cfF_none (by rw [mulF'_length]; omega), conv_far (cfF_far xs) (cfF_far ys) (by omega)]
theorem list_of_cf {xs ys : List F} (hl : xs.length = ys.length) (h : ∀ i, i < xs.length → cfF xs i = cfF ys i) : xs = ys := by
  rw [tabF_eq (xs := xs) rfl, tabF_eq (xs := ys) hl.symm]
  exact tabF_congr h
theorem conv_comm (a b : Nat → F) (m : Nat) : convF a b m = convF b a m := by
  unfold convF
  rw [← sumF_rev]
  refine sumF_congr fun i hi => ?_
  show a (m + 1 - 1 - i) * b (m - (m + 1 - 1 - i)) = b i * a (m - i)
  rw [show m + 1 - 1 - i = m - i by omega, show m - (m - i) = i by omega, F_mul_comm]
theorem mulP_comm (xs ys : List F) : mulP xs ys = mulP ys xs := by
  refine list_of_cf ?_ fun i _ => ?_
  · rw [mulP_length, mulP_length]
    by_cases h : xs.length = 0 ∨ ys.length = 0
    · rw [if_pos h, if_pos h.symm]
    · rw [if_neg h, if_neg (fun k => h k.symm), Nat.add_comm]
  · rw [cfF_mulP, cfF_mulP, conv_comm]
theorem mulP_short (xs ys : List F) : (mulP xs ys).length ≤ xs.length + ys.length := by rw [mulP_length]; split <;> omega
theorem conv_congr {a a' b b' : Nat → F} (ha : ∀ i, a i = a' i) (hb : ∀ i, b i = b' i) (m : Nat) : convF a b m = convF a' b' m := by
  rw [funext ha, funext hb]
theorem mulP_assoc {xs ys zs : List F} (h : xs.length + ys.length + zs.length ≤ 60000) : mulP (mulP xs ys) zs = mulP xs (mulP ys zs) := by
  have hl : (mulP (mulP xs ys) zs).length = (mulP xs (mulP ys zs)).length := by
    rw [mulP_length, mulP_length, mulP_length, mulP_length]
    by_cases hx : xs.length = 0
    · simp [hx]
    · by_cases hy : ys.length = 0
      · simp [hy]
      · by_cases hz : zs.length = 0
        · simp [hz]
        · rw [if_neg (show ¬ (xs.length = 0 ∨ ys.length = 0) by omega), if_neg (show ¬ (ys.length = 0 ∨ zs.length = 0) by omega), if_neg (by omega), if_neg (by omega)]
          omega
  refine list_of_cf hl fun i hi => ?_
  have h1 := mulP_short xs ys
  have h2 := mulP_short ys zs
  have h3 := mulP_short (mulP xs ys) zs
  refine coef_eq (k := 16) (Nat.le_refl _) (fun x => ?_) (show i < 2 ^ 16 by omega)
  rw [evF_congr (fun j _ => cfF_mulP (mulP xs ys) zs j), evF_congr (fun j _ => cfF_mulP xs (mulP ys zs) j),
    evF_conv (la := (mulP xs ys).length) (lb := zs.length) (cfF_far _) (cfF_far _) (by omega), evF_conv (la := xs.length) (lb := (mulP ys zs).length) (cfF_far _) (cfF_far _) (by omega),
    evF_congr (fun j _ => cfF_mulP xs ys j), evF_congr (fun j _ => cfF_mulP ys zs j),
    evF_conv (la := xs.length) (lb := ys.length) (cfF_far _) (cfF_far _) (by omega), evF_conv (la := ys.length) (lb := zs.length) (cfF_far _) (cfF_far _) (by omega)]
  grind
theorem mulP_one (xs : List F) : mulP xs [1] = xs := by
  refine list_of_cf ?_ fun i _ => ?_
  · rw [mulP_length]
    by_cases h : xs.length = 0
    · rw [if_pos (.inl h), h]
    · rw [if_neg (by simp [h])]
      simp
  · rw [cfF_mulP, conv_comm]
    unfold convF
    rw [sumF_one (m := 0) (by omega) fun j _ hne => ?_]
    · show 1 * cfF xs (i - 0) = _
      rw [Nat.sub_zero, F_one_mul]
    · rw [cfF_none (xs := [1]) (by simp; omega)]
      exact F_zero_mul _
/-- the sum of two lists -/
def sumP (ys zs : List F) (k : Nat) : List F := tabF k fun i => cfF ys i + cfF zs i
theorem cfF_sumP {ys zs : List F} {k : Nat} (h1 : ys.length ≤ k) (h2 : zs.length ≤ k) (i : Nat) : cfF (sumP ys zs k) i = cfF ys i + cfF zs i := by
  by_cases h : i < k
  · exact cfF_tab _ h
  · rw [cfF_none (by unfold sumP; rw [tabF_length]; omega), cfF_none (by omega), cfF_none (by omega)]
    exact (F_add_zero _).symm
theorem mulP_dist {xs ys zs : List F} {k : Nat} (h1 : ys.length ≤ k) (h2 : zs.length ≤ k) (i : Nat) : cfF (mulP xs (sumP ys zs k)) i = cfF (mulP xs ys) i + cfF (mulP xs zs) i := by
  rw [cfF_mulP, cfF_mulP, cfF_mulP]
  unfold convF
  rw [← sumF_add]
  refine sumF_congr fun j _ => ?_
  rw [cfF_sumP h1 h2]
  grind
theorem mulP_max {xs ys zs : List F} {k : Nat} (hx : 0 < xs.length) (hy : 0 < ys.length) (hz : 0 < zs.length) (hk : k = max ys.length zs.length) : (mulP xs (sumP ys zs k)).length = max (mulP xs ys).length (mulP xs zs).length := by
  have hs : (sumP ys zs k).length = k := tabF_length _ _
  rw [mulP_length, mulP_length, mulP_length, if_neg (by omega), if_neg (by omega), if_neg (by omega), hs]
  omega
theorem mul_all (A : Option Addr) (n c : Nat) (xs : List F) (B : Option Addr) (m d : Nat) (ys : List F) (w : World) (h : Sf w A n c xs) (h' : Sf w B m d ys) (hb : n + m ≤ 65537) :
    Calls Try.prog 20 #[.slice A n c, .slice B m d] w fun e w' => ∃ A' L, e = .returned (.tuple #[.slice A' L L, .int .i64 0]) ∧ Sf w' A' L L (mulP xs ys) ∧ Below w.heap.size w w' := by
  have hn := h.len
  have hm := h'.len
  by_cases h0 : n = 0 ∨ m = 0
  · refine (mul_empty A n c B m d w (by omega) (by omega) h0).mono ?_
    rintro e w' ⟨rfl, hb⟩
    refine ⟨none, 0, rfl, ?_, hb⟩
    unfold mulP
    rw [if_pos (by omega)]
    exact Sf.nil _
  · refine (mul_yes A n c xs B m d ys w h h' (by omega) (by omega) (by omega)).mono ?_
    rintro e w' ⟨g, rfl, hs, hb⟩
    refine ⟨_, _, rfl, ?_, hb⟩
    unfold mulP
    rw [if_neg (by omega)]
    exact hs

end Go.Proofs.Ytihneehceclffaa
