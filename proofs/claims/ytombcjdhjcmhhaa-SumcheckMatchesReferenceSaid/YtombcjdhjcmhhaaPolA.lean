/- Contracts of package poly, its small functions: no conditions but the arguments' own form. -/
import Derived.Test.YtombcjdhjcmhhaaSli
namespace Go.Proofs.Ytombcjdhjcmhhaa
set_option maxRecDepth 8000
open Go.RowKit Gold


theorem extFromBase_one (w : World) : Calls Try.prog 102 #[.int .u64 1] w fun e w' => e = .returned (.agg #[.int .u64 1, .int .u64 0]) ∧ Below w.heap.size w w' := extFromBase_any 1 w
set_option maxHeartbeats 400000 in
theorem polyOne_lit (w : World) : Calls Try.prog 95 #[] w fun e w' => e = .returned (.agg #[.int .u64 1, .int .u64 0]) ∧ Below w.heap.size w w' := by
  go_enter Try.func95, Try.ntmps95
  go_wp2_with fail
  refine calls_named1 (fun W hB g0 hz => ?_)
  have HB := Lib.hid hB
  have c00 := Two.c0 g0; have c01 := Two.c1 g0; have f00 := Two.f0 g0; have f01 := Two.f1 g0
  clear hB g0
  go_wp2_with (first
    | (go_at_call 102; ((with_reducible refine (extFromBase_one _).mono ?_)); rintro e W1 ⟨rfl, hb⟩; replace f00 := free_after hb c00 f00; replace f01 := free_after hb c01 f01; replace c00 := cell_after hb c00; replace c01 := cell_after hb c01; replace HB := Lib.hid (HB.out.trans (hb.mono HB.out.size)); replace hz := Nat.lt_of_lt_of_le hz hb.size; clear hb))
  refine bodyPost_ret (v := .agg #[.int .u64 1, .int .u64 0]) (by simp [results, Try.results95, go_sem, c00, c01]) rfl ⟨rfl, ?_⟩
  exact (HB.out.setCell (Nat.le_refl _) _).setCell (Nat.le_refl _) _
theorem polyOne_any (w : World) : Calls Try.prog 95 #[] w fun e w' => e = .returned (.agg #[.int .u64 (vF E2.one.A), .int .u64 (vF E2.one.B)]) ∧ Below w.heap.size w w' := polyOne_lit w

set_option maxHeartbeats 400000 in
theorem node_any (n : Int) (w : World) (h0 : -9223372036854775808 ≤ n) (h1 : n < 9223372036854775808) : Calls Try.prog 97 #[.int .i64 n] w fun e w' => e = .returned (.agg #[.int .u64 (vF (E2.ofF (toF n)).A), .int .u64 (vF (E2.ofF (toF n)).B)]) ∧ Below w.heap.size w w' := by
  go_enter Try.func97, Try.ntmps97
  go_wp2_with fail
  refine calls_named1 (fun W hB g0 hz => ?_)
  have HB := Lib.hid hB
  have c00 := Two.c0 g0; have c01 := Two.c1 g0; have f00 := Two.f0 g0; have f01 := Two.f1 g0
  clear hB g0
  go_wp2_with (first
    | (go_at_call 105; ((with_reducible refine (extFromInt_any n _ h0 h1).mono ?_)); rintro e W1 ⟨rfl, hb⟩; replace f00 := free_after hb c00 f00; replace f01 := free_after hb c01 f01; replace c00 := cell_after hb c00; replace c01 := cell_after hb c01; replace HB := Lib.hid (HB.out.trans (hb.mono HB.out.size)); replace hz := Nat.lt_of_lt_of_le hz hb.size; clear hb))
  refine bodyPost_ret (v := .agg #[.int .u64 (vF (E2.ofF (toF n)).A), .int .u64 (vF (E2.ofF (toF n)).B)]) (by simp [results, Try.results97, go_sem, c00, c01]) rfl ⟨rfl, ?_⟩
  exact (HB.out.setCell (Nat.le_refl _) _).setCell (Nat.le_refl _) _



end Go.Proofs.Ytombcjdhjcmhhaa
