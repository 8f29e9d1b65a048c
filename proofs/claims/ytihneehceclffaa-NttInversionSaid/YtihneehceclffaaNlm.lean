/- The mathematics of the laws of package ntt; no conditions but lengths. -/
import Derived.Test.YtihneehceclffaaNsan
namespace Go.Proofs.Ytihneehceclffaa
open Go.RowKit Gold

theorem fwdF_tab {xs : List F} {f : Nat → F} {q : Nat} (h : ∀ i, i < 2 ^ q → cfF xs i = f i) (i : Nat) : fwdF (cfF xs) q i = fwdF f q i := by
  unfold fwdF
  exact evF_congr h _
theorem invT_tab {xs : List F} {f : Nat → F} {q : Nat} (h : ∀ i, i < 2 ^ q → cfF xs i = f i) (i : Nat) : invT (cfF xs) q i = invT f q i := by
  unfold invT
  exact congrArg (invF (natF (2 ^ q)) * ·) (evF_congr h _)
theorem inv_of_fwd {xs : List F} {N q : Nat} (hN : N = 2 ^ q) (hq : q ≤ 16) (hl : xs.length = N) : tabF N (invT (cfF (tabF N (fwdF (cfF xs) q))) q) = xs := by
  rw [tabF_congr (g := cfF xs) fun i hi => ?_]
  · exact (tabF_eq hl).symm
  · rw [invT_tab (f := fwdF (cfF xs) q) (fun j hj => cfF_tab _ (by omega))]
    exact inv_fwd hq _ (by omega)
theorem fwd_of_inv {xs : List F} {N q : Nat} (hN : N = 2 ^ q) (hq : q ≤ 16) (hl : xs.length = N) : tabF N (fwdF (cfF (tabF N (invT (cfF xs) q))) q) = xs := by
  rw [tabF_congr (g := cfF xs) fun i hi => ?_]
  · exact (tabF_eq hl).symm
  · rw [fwdF_tab (f := invT (cfF xs) q) (fun j hj => cfF_tab _ (by omega))]
    exact fwd_inv hq _ (by omega)

end Go.Proofs.Ytihneehceclffaa
