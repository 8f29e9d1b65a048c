/- Contracts of the reference of package ext, its inverses and powers; no conditions but that words are words. -/
import Derived.Test.YtombcjdhjcmhhaaExtR
import Derived.Deep.LoopGhost
namespace Go.Proofs.Ytombcjdhjcmhhaa
set_option maxRecDepth 8000
open Go.RowKit Gold
theorem field_A (a b : Value) (w : World) : (Instr.field 43 (.agg #[a, b]) 0).run Try.prog w = .ok a w := by kernel_rfl
theorem field_B (a b : Value) (w : World) : (Instr.field 43 (.agg #[a, b]) 1).run Try.prog w = .ok b w := by kernel_rfl

set_option maxHeartbeats 1000000 in
theorem rInvE_zero (w : World) : Calls Try.prog 71 #[.agg #[.int .u64 (vF E2.zero.A), .int .u64 (vF E2.zero.B)]] w fun e w' => e = .returned (.tuple #[.agg #[.int .u64 0, .int .u64 0], .int .i64 3]) ∧ Below w.heap.size w w' := by
  have hz : ezero E2.zero = true := rfl
  go_enter Try.func71, Try.ntmps71
  go_wp2_with fail
  refine calls_named2 (fun W hB g0 g1 hz => ?_)
  have HB := Lib.hid hB
  have c00 := Two.c0 g0; have c01 := Two.c1 g0; have c10 := Two.c0 g1; have c11 := Two.c1 g1; have f10 := Two.f0 g1; have f11 := Two.f1 g1
  clear hB g0 g1
  go_wp2_with (first
    | (go_at_call 34; ((with_reducible refine (rIsZero_any E2.zero _).mono ?_)); rintro e W1 ⟨rfl, hb⟩; replace f10 := free_after hb c10 f10; replace f11 := free_after hb c11 f11; replace c00 := cell_after hb c00; replace c01 := cell_after hb c01; replace c10 := cell_after hb c10; replace c11 := cell_after hb c11; replace HB := Lib.hid (HB.out.trans (hb.mono HB.out.size)); replace hz := Nat.lt_of_lt_of_le hz hb.size; clear hb))
  refine bodyPost_ret (v := .tuple #[.agg #[.int .u64 0, .int .u64 0], .int .i64 3]) (by simp [results, Try.results71, go_sem, c10, c11]) rfl ⟨rfl, ?_⟩
  exact (HB.out.setCell (by simp; try omega) _).setCell (by simp; try omega) _
set_option maxHeartbeats 1000000 in
theorem rInvE_any (x : E2) (w : World) (h : x ≠ E2.zero) : Calls Try.prog 71 #[.agg #[.int .u64 (vF x.A), .int .u64 (vF x.B)]] w fun e w' => e = .returned (.tuple #[.agg #[.int .u64 (vF (E2.inv x).A), .int .u64 (vF (E2.inv x).B)], .int .i64 0]) ∧ Below w.heap.size w w' := by
  have hz : ezero x = false := by
    cases k : ezero x with
    | false => rfl
    | true => exact absurd ((ezero_iff x).1 k) h
  have hn := Lib.hid (mulConj_ne_zero h)
  have he := Lib.hid (inv_eq' x)
  have hfA := field_A
  clear h
  go_enter Try.func71, Try.ntmps71
  go_wp2_with fail
  refine calls_named2 (fun W hB g0 g1 hz => ?_)
  have HB := Lib.hid hB
  have c00 := Two.c0 g0; have c01 := Two.c1 g0; have c10 := Two.c0 g1; have c11 := Two.c1 g1; have f10 := Two.f0 g1; have f11 := Two.f1 g1
  clear hB g0 g1
  go_wp2_with (first
    | (go_at_call 34; ((with_reducible refine (rIsZero_any x _).mono ?_)); rintro e W1 ⟨rfl, hb⟩; replace f10 := free_after hb c10 f10; replace f11 := free_after hb c11 f11; replace c00 := cell_after hb c00; replace c01 := cell_after hb c01; replace c10 := cell_after hb c10; replace c11 := cell_after hb c11; replace HB := Lib.hid (HB.out.trans (hb.mono HB.out.size)); replace hz := Nat.lt_of_lt_of_le hz hb.size; clear hb)
    | (go_at_call 89; ((with_reducible refine (rConj_any x _).mono ?_)); rintro e W1 ⟨rfl, hb⟩; replace f10 := free_after hb c10 f10; replace f11 := free_after hb c11 f11; replace c00 := cell_after hb c00; replace c01 := cell_after hb c01; replace c10 := cell_after hb c10; replace c11 := cell_after hb c11; replace HB := Lib.hid (HB.out.trans (hb.mono HB.out.size)); replace hz := Nat.lt_of_lt_of_le hz hb.size; clear hb); have k00 := cell_alloc c00; have k01 := cell_alloc c01)
  refine calls_named1 (fun W2 hb gc hz2 => ?_)
  have c20 := Two.c0 gc; have c21 := Two.c1 gc
  clear gc k00 k01
  replace f10 := free_after hb c10 f10; replace f11 := free_after hb c11 f11; replace c00 := cell_after hb c00; replace c01 := cell_after hb c01; replace c10 := cell_after hb c10; replace c11 := cell_after hb c11; replace HB := Lib.hid (HB.out.trans (hb.mono HB.out.size)); replace hz := Nat.lt_of_lt_of_le hz hb.size; clear hb
  go_wp2_with (first
    | (go_at_call 36; ((with_reducible refine (rMul_any x (E2.conj x) _).mono ?_)); rintro e W1 ⟨rfl, hb⟩; replace f10 := free_after hb c10 f10; replace f11 := free_after hb c11 f11; replace c00 := cell_after hb c00; replace c01 := cell_after hb c01; replace c10 := cell_after hb c10; replace c11 := cell_after hb c11; replace c20 := cell_after hb c20; replace c21 := cell_after hb c21; replace HB := Lib.hid (HB.out.trans (hb.mono HB.out.size)); replace hz := Nat.lt_of_lt_of_le hz hb.size; clear hb)
    | (go_at_call 90; ((with_reducible refine (rinvF_any (x * E2.conj x).A _ hn.out).mono ?_)); rintro e w' ⟨rfl, rfl⟩)
    | (go_at_call 91; ((with_reducible refine (rMulBase_any (E2.conj x) (invF (x * E2.conj x).A) _).mono ?_)); rintro e W1 ⟨rfl, hb⟩; replace f10 := free_after hb c10 f10; replace f11 := free_after hb c11 f11; replace c00 := cell_after hb c00; replace c01 := cell_after hb c01; replace c10 := cell_after hb c10; replace c11 := cell_after hb c11; replace c20 := cell_after hb c20; replace c21 := cell_after hb c21; replace HB := Lib.hid (HB.out.trans (hb.mono HB.out.size)); replace hz := Nat.lt_of_lt_of_le hz hb.size; clear hb))
  rw [he.out]
  refine bodyPost_ret (v := .tuple #[.agg #[.int .u64 (vF (E2.conj x * E2.ofF (invF (x * E2.conj x).A)).A), .int .u64 (vF (E2.conj x * E2.ofF (invF (x * E2.conj x).A)).B)], .int .i64 0]) (by simp [results, Try.results71, go_sem, c10, c11]) rfl ⟨rfl, ?_⟩
  exact (HB.out.setCell (by simp; try omega) _).setCell (by simp; try omega) _
theorem rInvE_all (x : E2) (w : World) : Calls Try.prog 71 #[.agg #[.int .u64 (vF x.A), .int .u64 (vF x.B)]] w fun e w' => e = .returned (.tuple #[.agg #[.int .u64 (vF (E2.inv x).A), .int .u64 (vF (E2.inv x).B)], .int .i64 (einvE x)]) ∧ Below w.heap.size w w' := by
  by_cases h : x = E2.zero
  · subst h
    rw [inv_zero_E, show einvE E2.zero = 3 from rfl]
    exact rInvE_zero w
  · rw [show einvE x = 0 from if_neg h]
    exact rInvE_any x w h


end Go.Proofs.Ytombcjdhjcmhhaa
