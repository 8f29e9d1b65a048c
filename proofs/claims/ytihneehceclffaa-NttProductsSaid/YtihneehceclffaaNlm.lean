/- The mathematics of the laws of package ntt; no conditions but lengths. -/
import Derived.Test.YtihneehceclffaaNsan
namespace Go.Proofs.Ytihneehceclffaa
open Go.RowKit Gold

theorem fwdF_tab {xs : List F} {f : Nat → F} {q : Nat} (h : ∀ i, i < 2 ^ q → cfF xs i = f i) (i : Nat) : fwdF (cfF xs) q i = fwdF f q i := by
  unfold fwdF
  exact evF_congr h _
theorem invT_tab {xs : List F} {f : Nat → F} {q : Nat} (h : ∀ i, i < 2 ^ q → cfF xs i = f i) (i : Nat) : invT (cfF xs) q i = invT f q i := by
  unfold invT
  exact congrArg (invF (natF (2 ^ q)) * ·) (evF_congr h _)
theorem inv_of_fwd {xs : List F} {N q : Nat} (hN : N = 2 ^ q) (hq : q ≤ 16) (hl : xs.length = N) : tabF N (invT (cfF (tabF N (fwdF (cfF xs) q))) q) = xs := by
  rw [tabF_congr (g := cfF xs) fun i hi => ?_]
  · exact (tabF_eq hl).symm
  · rw [invT_tab (f := fwdF (cfF xs) q) (fun j hj => cfF_tab _ (by omega))]
    exact inv_fwd hq _ (by omega)
theorem fwd_of_inv {xs : List F} {N q : Nat} (hN : N = 2 ^ q) (hq : q ≤ 16) (hl : xs.length = N) : tabF N (fwdF (cfF (tabF N (invT (cfF xs) q))) q) = xs := by
  rw [tabF_congr (g := cfF xs) fun i hi => ?_]
  · exact (tabF_eq hl).symm
  · rw [fwdF_tab (f := invT (cfF xs) q) (fun j hj => cfF_tab _ (by omega))]
    exact fwd_inv hq _ (by omega)
/-- rotated by one position -/
def rotL (xs : List F) (N : Nat) : List F := [cfF xs (N - 1)] ++ xs.take (N - 1)
theorem rotL_length {xs : List F} {N : Nat} (hl : xs.length = N) (h : 1 ≤ N) : (rotL xs N).length = N := by unfold rotL; simp; omega
theorem cfF_rot_succ {xs : List F} {N j : Nat} (hj : j + 1 < N) : cfF (rotL xs N) (j + 1) = cfF xs j := by
  unfold rotL cfF
  rw [List.getElem?_append_right (by simp)]
  rw [show j + 1 - [(xs[N - 1]?).getD 0].length = j from rfl, List.getElem?_take_of_lt (by omega)]
theorem rot_value {xs : List F} {N q : Nat} (hN : N = 2 ^ q) (hq : q ≤ 16) (k : Nat) : fwdF (cfF (rotL xs N)) q k = fwdF (cfF xs) q k * rootF q ^ k := by
  obtain ⟨m, hm⟩ : ∃ m, N = m + 1 := ⟨N - 1, by have := Nat.two_pow_pos q; omega⟩
  have hx : (rootF q ^ k) ^ N = 1 := by rw [← F_pow_mul, Nat.mul_comm, F_pow_mul, hN, rootF_full (by omega), F_one_pow]
  unfold fwdF
  rw [← hN]
  generalize rootF q ^ k = x at *
  have h1 : evF (cfF (rotL xs N)) N x = cfF xs m + sumF (fun j => cfF xs j * x ^ (j + 1)) m := by
    unfold evF
    rw [hm, sumF_front]
    have e0 : cfF (rotL xs (m + 1)) 0 = cfF xs m := rfl
    rw [e0, F_pow_zero, F_mul_one]
    congr 1
    refine sumF_congr fun j hj => ?_
    rw [cfF_rot_succ (by omega)]
  have h2 : evF (cfF xs) N x * x = sumF (fun j => cfF xs j * x ^ (j + 1)) m + cfF xs m := by
    have h3 : evF (cfF xs) N x * x = sumF (fun j => cfF xs j * x ^ (j + 1)) N := by
      unfold evF
      rw [F_mul_comm, ← sumF_mul]
      exact sumF_congr fun j _ => by rw [F_pow_succ]; grind
    rw [h3, hm]
    show sumF (fun j => cfF xs j * x ^ (j + 1)) m + cfF xs m * x ^ (m + 1) = _
    rw [← hm, hx, F_mul_one]
  rw [h1, h2]
  grind

theorem mulF'_length (xs ys : List F) : (mulF' xs ys).length = xs.length + ys.length - 1 := tabF_length _ _
theorem mul_eval {xs ys : List F} (hx : 0 < xs.length) (hy : 0 < ys.length) (x : F) : evL (mulF' xs ys) x = evL xs x * evL ys x := by
  have h1 : evL (mulF' xs ys) x = evF (convF (cfF xs) (cfF ys)) (xs.length + ys.length - 1) x := by
    rw [evL_evF, mulF'_length]
    exact evF_congr (fun i hi => cfF_tab _ hi) _
  rw [h1, evF_conv (la := xs.length) (lb := ys.length) (fun i hi => cfF_none hi) (fun i hi => cfF_none hi) (by omega), evL_evF' (by omega), evL_evF' (by omega)]
theorem min_rule (n k : Nat) : ∃ m : Nat, (if (k : Int) < (n : Int) then (k : Int) else (n : Int)) = (m : Int) ∧ m ≤ n ∧ m ≤ k ∧ (k ≤ n ∨ m = n) := by
  by_cases h : k < n
  · exact ⟨k, by rw [if_pos (by omega)], by omega, Nat.le_refl _, by omega⟩
  · exact ⟨n, by rw [if_neg (by omega)], Nat.le_refl _, by omega, by omega⟩

end Go.Proofs.Ytihneehceclffaa
