/- The mathematics of the laws of interpolation; no conditions but lengths. -/
import Derived.Test.YtjimnoikkgheaaaLawM
namespace Go.Proofs.Ytjimnoikkgheaaa
open Go.RowKit Gold

theorem inv_node {xs : List E2} {k : Nat} {x : E2} (hx : xs[k]? = some x) (h : xs.length ≤ 1000) : evE (interpE xs) (ndZ (k : Int)) = x := by
  have hk := (List.getElem?_eq_some_iff.1 hx).1
  have h1 := (interp_is (v := xs) (by omega)).value k hk
  rw [cfE_some hx] at h1
  exact h1
theorem at_node {xs : List E2} {k : Nat} {x : E2} (hx : xs[k]? = some x) (h : xs.length ≤ 1000) : atE xs (ndZ (k : Int)) = x := by
  have hk := (List.getElem?_eq_some_iff.1 hx).1
  have h1 := atE_node (v := xs) hk (by omega)
  rw [cfE_some hx] at h1
  exact h1
def valsE (ys : List E2) (n : Nat) : List E2 := (List.range n).map fun i => evE ys (nd i)
theorem valsE_length (ys : List E2) (n : Nat) : (valsE ys n).length = n := by unfold valsE; simp
theorem valsE_get (ys : List E2) {n k : Nat} (h : k < n) : (valsE ys n)[k]? = some (evE ys (nd k)) := by
  unfold valsE
  simp [h]
theorem valsE_succ (ys : List E2) (n : Nat) : valsE ys (n + 1) = valsE ys n ++ [evE ys (ndZ (n : Int))] := by
  unfold valsE
  rw [List.range_succ, List.map_append]
  rfl
theorem inv_values (ys : List E2) (n : Nat) (hn : ys.length ≤ n) (h : n ≤ 1000) : interpE (valsE ys n) = trimE ys := by
  symm
  refine IsInterp.eq (by rw [valsE_length]; omega) ⟨trimE_trimE _, by have := trimE_length ys; rw [valsE_length]; omega, fun k hk => ?_⟩
  rw [valsE_length] at hk
  rw [evE_trimE, cfE_some (valsE_get ys hk)]
theorem run_neqE_same (x : E2) (w : World) : (binOp .neq 25 (.agg #[.int .u64 (vF x.A), .int .u64 (vF x.B)]) (.agg #[.int .u64 (vF x.A), .int .u64 (vF x.B)])).run Try.prog w = .ok (.bool false) w := by
  simp [go_sem, Try.underlying25]

end Go.Proofs.Ytjimnoikkgheaaa
