/- Contracts of package ext, its inverses; no conditions. -/
import Derived.Test.YtombcjdhjcmhhaaExtA
import Derived.Test.YtombcjdhjcmhhaaExtB
namespace Go.Proofs.Ytombcjdhjcmhhaa
set_option maxRecDepth 8000
open Go.RowKit Gold
theorem ext_norm_zero (w : World) : Calls Try.prog 110 #[.agg #[.int .u64 0, .int .u64 0]] w fun e w' => e = .returned (.int .u64 (vF 0)) ∧ Below w.heap.size w w' := by
  have h := ext_norm E2.zero w
  rw [show E2.norm E2.zero = 0 from rfl] at h
  exact h

set_option maxHeartbeats 1000000 in
theorem extInv_zero (w : World) : Calls Try.prog 107 #[.agg #[.int .u64 0, .int .u64 0]] w fun e w' => e = .returned (.tuple #[.agg #[.int .u64 0, .int .u64 0], .int .i64 3]) ∧ Below w.heap.size w w' := by
  go_enter Try.func107, Try.ntmps107
  go_wp2_with fail
  refine calls_named2 (fun W hB g0 g1 hz => ?_)
  have HB := Lib.hid hB
  have c00 := Two.c0 g0; have c01 := Two.c1 g0; have c10 := Two.c0 g1; have c11 := Two.c1 g1; have f10 := Two.f0 g1; have f11 := Two.f1 g1
  clear hB g0 g1
  go_wp2_with (first
    | (go_at_call 110; ((with_reducible refine (ext_norm_zero _).mono ?_)); rintro e W1 ⟨rfl, hb⟩; replace f10 := free_after hb c10 f10; replace f11 := free_after hb c11 f11; replace c00 := cell_after hb c00; replace c01 := cell_after hb c01; replace c10 := cell_after hb c10; replace c11 := cell_after hb c11; replace HB := Lib.hid (HB.out.trans (hb.mono HB.out.size)); replace hz := Nat.lt_of_lt_of_le hz hb.size; clear hb)
    | (go_at_call 109; ((with_reducible refine (invF_zero_any _).mono ?_)); rintro e W1 ⟨rfl, hb⟩; replace f10 := free_after hb c10 f10; replace f11 := free_after hb c11 f11; replace c00 := cell_after hb c00; replace c01 := cell_after hb c01; replace c10 := cell_after hb c10; replace c11 := cell_after hb c11; replace HB := Lib.hid (HB.out.trans (hb.mono HB.out.size)); replace hz := Nat.lt_of_lt_of_le hz hb.size; clear hb))
  refine bodyPost_ret (v := .tuple #[.agg #[.int .u64 0, .int .u64 0], .int .i64 3]) (by simp [results, Try.results107, go_sem, c10, c11]) rfl ⟨rfl, ?_⟩
  exact (HB.out.setCell (by simp; try omega) _).setCell (by simp; try omega) _
set_option maxHeartbeats 1000000 in
theorem extInv_any (x : E2) (w : World) (h : x ≠ E2.zero) : Calls Try.prog 107 #[.agg #[.int .u64 (vF x.A), .int .u64 (vF x.B)]] w fun e w' => e = .returned (.tuple #[.agg #[.int .u64 (vF (E2.inv x).A), .int .u64 (vF (E2.inv x).B)], .int .i64 0]) ∧ Below w.heap.size w w' := by
  have hn := Lib.hid (E2.norm_ne_zero h)
  have he := Lib.hid (E2.inv_eq x)
  clear h
  go_enter Try.func107, Try.ntmps107
  go_wp2_with fail
  refine calls_named2 (fun W hB g0 g1 hz => ?_)
  have HB := Lib.hid hB
  have c00 := Two.c0 g0; have c01 := Two.c1 g0; have c10 := Two.c0 g1; have c11 := Two.c1 g1; have f10 := Two.f0 g1; have f11 := Two.f1 g1
  clear hB g0 g1
  go_wp2_with (first
    | (go_at_call 110; ((with_reducible refine (ext_norm x _).mono ?_)); rintro e W1 ⟨rfl, hb⟩; replace f10 := free_after hb c10 f10; replace f11 := free_after hb c11 f11; replace c00 := cell_after hb c00; replace c01 := cell_after hb c01; replace c10 := cell_after hb c10; replace c11 := cell_after hb c11; replace HB := Lib.hid (HB.out.trans (hb.mono HB.out.size)); replace hz := Nat.lt_of_lt_of_le hz hb.size; clear hb)
    | (go_at_call 109; ((with_reducible refine (invF_any (E2.norm x) _ hn.out).mono ?_)); rintro e W1 ⟨rfl, hb⟩; replace f10 := free_after hb c10 f10; replace f11 := free_after hb c11 f11; replace c00 := cell_after hb c00; replace c01 := cell_after hb c01; replace c10 := cell_after hb c10; replace c11 := cell_after hb c11; replace HB := Lib.hid (HB.out.trans (hb.mono HB.out.size)); replace hz := Nat.lt_of_lt_of_le hz hb.size; clear hb)
    | (go_at_call 112; ((with_reducible refine (extConj_any x _).mono ?_)); rintro e W1 ⟨rfl, hb⟩; replace f10 := free_after hb c10 f10; replace f11 := free_after hb c11 f11; replace c00 := cell_after hb c00; replace c01 := cell_after hb c01; replace c10 := cell_after hb c10; replace c11 := cell_after hb c11; replace HB := Lib.hid (HB.out.trans (hb.mono HB.out.size)); replace hz := Nat.lt_of_lt_of_le hz hb.size; clear hb)
    | (go_at_call 111; ((with_reducible refine (extMulBase_any (E2.conj x) (invF (E2.norm x)) _).mono ?_)); rintro e W1 ⟨rfl, hb⟩; replace f10 := free_after hb c10 f10; replace f11 := free_after hb c11 f11; replace c00 := cell_after hb c00; replace c01 := cell_after hb c01; replace c10 := cell_after hb c10; replace c11 := cell_after hb c11; replace HB := Lib.hid (HB.out.trans (hb.mono HB.out.size)); replace hz := Nat.lt_of_lt_of_le hz hb.size; clear hb))
  rw [he.out]
  refine bodyPost_ret (v := .tuple #[.agg #[.int .u64 (vF (E2.conj x * E2.ofF (invF (E2.norm x))).A), .int .u64 (vF (E2.conj x * E2.ofF (invF (E2.norm x))).B)], .int .i64 0]) (by simp [results, Try.results107, go_sem, c10, c11]) rfl ⟨rfl, ?_⟩
  exact (HB.out.setCell (by simp; try omega) _).setCell (by simp; try omega) _
theorem extInv_all (x : E2) (w : World) : Calls Try.prog 107 #[.agg #[.int .u64 (vF x.A), .int .u64 (vF x.B)]] w fun e w' => e = .returned (.tuple #[.agg #[.int .u64 (vF (E2.inv x).A), .int .u64 (vF (E2.inv x).B)], .int .i64 (einvE x)]) ∧ Below w.heap.size w w' := by
  by_cases h : x = E2.zero
  · subst h
    rw [inv_zero_E, show einvE E2.zero = 3 from rfl]
    exact extInv_zero w
  · rw [show einvE x = 0 from if_neg h]
    exact extInv_any x w h

end Go.Proofs.Ytombcjdhjcmhhaa
