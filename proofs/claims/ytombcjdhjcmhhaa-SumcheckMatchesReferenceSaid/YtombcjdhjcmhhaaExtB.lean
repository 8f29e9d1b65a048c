/- Contracts of package ext, its products, conjugates, and tests; no conditions. -/
import Derived.Test.YtombcjdhjcmhhaaFieldF
import Derived.Test.YtombcjdhjcmhhaaEx
import Derived.Test.YtombcjdhjcmhhaaOrd
import Derived.Test.YtombcjdhjcmhhaaExtV
namespace Go.Proofs.Ytombcjdhjcmhhaa
set_option maxRecDepth 8000
open Go.RowKit Gold
set_option maxHeartbeats 1000000 in
theorem ext_times (x y : E2) (w : World) :
    Calls Try.prog 83 #[.agg #[.int .u64 (vF x.A), .int .u64 (vF x.B)], .agg #[.int .u64 (vF y.A), .int .u64 (vF y.B)]] w fun e w' => e = .returned (.agg #[.int .u64 (vF (x * y).A), .int .u64 (vF (x * y).B)]) ∧ Below w.heap.size w w' := by
  go_enter Try.func83, Try.ntmps83
  go_wp2_with fail
  refine wp_named3 (fun W hB g0 g1 g2 hz => ?_)
  have HB := Lib.hid hB
  have c00 := Two.c0 g0; have c01 := Two.c1 g0; have c10 := Two.c0 g1; have c11 := Two.c1 g1; have c20 := Two.c0 g2; have c21 := Two.c1 g2; have f20 := Two.f0 g2; have f21 := Two.f1 g2
  clear hB g0 g1 g2
  have l00 := Later.cell c00; have l01 := Later.cell c01; have l10 := Later.cell c10; have l11 := Later.cell c11
  refine wp_later (by kernel_rfl) (by kernel_rfl) ?_
  repeat (go_big_quiet_step (((go_at_call 94; with_reducible exact Calls.later_same (mulF _ _ _)))))
  refine wpQuiet_nil ?_
  intro X
  clear l00 l01 l10 l11
  have hb := X.below; replace f20 := free_after hb c20 f20; replace f21 := free_after hb c21 f21; replace c00 := cell_after hb c00; replace c01 := cell_after hb c01; replace c10 := cell_after hb c10; replace c11 := cell_after hb c11; replace c20 := cell_after hb c20; replace c21 := cell_after hb c21; replace HB := Lib.hid (HB.out.trans (hb.mono HB.out.size)); replace hz := Nat.lt_of_lt_of_le hz hb.size; clear hb
  go_wp2_with fail
  have l00 := Later.cell c00; have l01 := Later.cell c01; have l10 := Later.cell c10; have l11 := Later.cell c11
  refine wp_later (by kernel_rfl) (by kernel_rfl) ?_
  repeat (go_big_quiet_step (first
    | (go_at_call 65; with_reducible exact Calls.later_same (addF _ _ _))
    | (go_at_call 94; with_reducible exact Calls.later_same (mulF _ _ _))))
  refine wpQuiet_nil ?_
  intro X
  clear l00 l01 l10 l11
  have hb := X.below; replace f20 := free_after hb c20 f20; replace f21 := free_after hb c21 f21; replace c00 := cell_after hb c00; replace c01 := cell_after hb c01; replace c10 := cell_after hb c10; replace c11 := cell_after hb c11; replace c20 := cell_after hb c20; replace c21 := cell_after hb c21; replace HB := Lib.hid (HB.out.trans (hb.mono HB.out.size)); replace hz := Nat.lt_of_lt_of_le hz hb.size; clear hb
  go_wp2_with (first
    | (go_at_call 94; ((with_reducible refine (mul7F _ _).mono ?_)); rintro e w' ⟨rfl, rfl⟩)
    | (go_at_call 65; ((with_reducible refine (addF _ _ _).mono ?_)); rintro e w' ⟨rfl, rfl⟩)
    | (go_at_call 79; ((with_reducible refine (subF _ _ _).mono ?_)); rintro e w' ⟨rfl, rfl⟩))
  refine bodyPost_ret (v := .agg #[.int .u64 (vF (x.A * y.A + 7 * (x.B * y.B))), .int .u64 (vF ((x.A + x.B) * (y.A + y.B) - x.A * y.A - x.B * y.B))]) (by simp [results, Try.results83, go_sem, c20, c21]) rfl ⟨ret_E2 (x := x * y) rfl (times_B x y), ?_⟩
  exact (HB.out.setCell (by simp; try omega) _).setCell (by simp; try omega) _

set_option maxHeartbeats 400000 in
theorem ext_conjugate (x : E2) (w : World) :
    Calls Try.prog 114 #[.agg #[.int .u64 (vF x.A), .int .u64 (vF x.B)]] w fun e w' => e = .returned (.agg #[.int .u64 (vF (E2.conj x).A), .int .u64 (vF (E2.conj x).B)]) ∧ Below w.heap.size w w' := by
  go_enter Try.func114, Try.ntmps114
  go_wp2_with fail
  refine wp_named2 (fun W hB g0 g1 hz => ?_)
  have HB := Lib.hid hB
  have c00 := Two.c0 g0; have c01 := Two.c1 g0; have c10 := Two.c0 g1; have c11 := Two.c1 g1; have f10 := Two.f0 g1; have f11 := Two.f1 g1
  clear hB g0 g1
  have l00 := Later.cell c00; have l01 := Later.cell c01
  refine wp_later_tail 6 (by kernel_rfl) (by kernel_rfl) ?_
  simp only [List.take_succ_cons, List.take_zero, List.drop_succ_cons, List.drop_zero]
  repeat (go_big_quiet_step (((go_at_call 115; with_reducible exact Calls.later_same (negF _ _)))))
  refine wpQuiet_nil ?_
  intro X
  clear l00 l01
  have hb := X.below; replace f10 := free_after hb c10 f10; replace f11 := free_after hb c11 f11; replace c00 := cell_after hb c00; replace c01 := cell_after hb c01; replace c10 := cell_after hb c10; replace c11 := cell_after hb c11; replace HB := Lib.hid (HB.out.trans (hb.mono HB.out.size)); replace hz := Nat.lt_of_lt_of_le hz hb.size; clear hb
  go_wp2
  refine bodyPost_ret (v := .agg #[.int .u64 (vF (x.A)), .int .u64 (vF (-x.B))]) (by simp [results, Try.results114, go_sem, c10, c11]) rfl ⟨ret_E2 (x := E2.conj x) rfl rfl, ?_⟩
  exact (HB.out.setCell (by simp; try omega) _).setCell (by simp; try omega) _

set_option maxHeartbeats 400000 in
theorem ext_norm (x : E2) (w : World) :
    Calls Try.prog 110 #[.agg #[.int .u64 (vF x.A), .int .u64 (vF x.B)]] w fun e w' => e = .returned (.int .u64 (vF (E2.norm x))) ∧ Below w.heap.size w w' := by
  go_enter Try.func110, Try.ntmps110
  go_wp2_with fail
  refine wp_named1 (fun W hB g0 hz => ?_)
  have HB := Lib.hid hB
  have c00 := Two.c0 g0; have c01 := Two.c1 g0
  clear hB g0
  have l00 := Later.cell c00; have l01 := Later.cell c01
  refine wp_later (by kernel_rfl) (by kernel_rfl) ?_
  repeat (go_big_quiet_step (first
    | (go_at_call 94; with_reducible exact Calls.later_same (mul7F _ _))
    | (go_at_call 94; with_reducible exact Calls.later_same (mulF _ _ _))
    | (go_at_call 79; with_reducible exact Calls.later_same (subF _ _ _))))
  refine wpQuiet_nil ?_
  intro X
  clear l00 l01
  have hb := X.below; replace c00 := cell_after hb c00; replace c01 := cell_after hb c01; replace HB := Lib.hid (HB.out.trans (hb.mono HB.out.size)); replace hz := Nat.lt_of_lt_of_le hz hb.size; clear hb
  go_wp2
  go_ret
  exact ⟨rfl, HB.out⟩

set_option maxHeartbeats 400000 in
theorem extMul_any (x y : E2) (w : World) :
    Calls Try.prog 63 #[.agg #[.int .u64 (vF x.A), .int .u64 (vF x.B)], .agg #[.int .u64 (vF y.A), .int .u64 (vF y.B)]] w fun e w' => e = .returned (.agg #[.int .u64 (vF (x * y).A), .int .u64 (vF (x * y).B)]) ∧ Below w.heap.size w w' := by
  go_enter Try.func63, Try.ntmps63
  go_wp2_with fail
  refine calls_named3 (fun W hB g0 g1 g2 hz => ?_)
  have HB := Lib.hid hB
  have c00 := Two.c0 g0; have c01 := Two.c1 g0; have c10 := Two.c0 g1; have c11 := Two.c1 g1; have c20 := Two.c0 g2; have c21 := Two.c1 g2; have f20 := Two.f0 g2; have f21 := Two.f1 g2
  clear hB g0 g1 g2
  go_wp2_with (first
    | (go_at_call 83; ((with_reducible refine (ext_times x y _).mono ?_)); rintro e W1 ⟨rfl, hb⟩; replace f20 := free_after hb c20 f20; replace f21 := free_after hb c21 f21; replace c00 := cell_after hb c00; replace c01 := cell_after hb c01; replace c10 := cell_after hb c10; replace c11 := cell_after hb c11; replace c20 := cell_after hb c20; replace c21 := cell_after hb c21; replace HB := Lib.hid (HB.out.trans (hb.mono HB.out.size)); replace hz := Nat.lt_of_lt_of_le hz hb.size; clear hb))
  refine bodyPost_ret (v := .agg #[.int .u64 (vF (((x * y)).A)), .int .u64 (vF (((x * y)).B))]) (by simp [results, Try.results63, go_sem, c20, c21]) rfl ⟨ret_E2 (x := (x * y)) rfl rfl, ?_⟩
  exact (HB.out.setCell (by simp; try omega) _).setCell (by simp; try omega) _

set_option maxHeartbeats 400000 in
theorem extConj_any (x : E2) (w : World) :
    Calls Try.prog 112 #[.agg #[.int .u64 (vF x.A), .int .u64 (vF x.B)]] w fun e w' => e = .returned (.agg #[.int .u64 (vF (E2.conj x).A), .int .u64 (vF (E2.conj x).B)]) ∧ Below w.heap.size w w' := by
  go_enter Try.func112, Try.ntmps112
  go_wp2_with fail
  refine calls_named2 (fun W hB g0 g1 hz => ?_)
  have HB := Lib.hid hB
  have c00 := Two.c0 g0; have c01 := Two.c1 g0; have c10 := Two.c0 g1; have c11 := Two.c1 g1; have f10 := Two.f0 g1; have f11 := Two.f1 g1
  clear hB g0 g1
  go_wp2_with (first
    | (go_at_call 114; ((with_reducible refine (ext_conjugate x _).mono ?_)); rintro e W1 ⟨rfl, hb⟩; replace f10 := free_after hb c10 f10; replace f11 := free_after hb c11 f11; replace c00 := cell_after hb c00; replace c01 := cell_after hb c01; replace c10 := cell_after hb c10; replace c11 := cell_after hb c11; replace HB := Lib.hid (HB.out.trans (hb.mono HB.out.size)); replace hz := Nat.lt_of_lt_of_le hz hb.size; clear hb))
  refine bodyPost_ret (v := .agg #[.int .u64 (vF (((E2.conj x)).A)), .int .u64 (vF (((E2.conj x)).B))]) (by simp [results, Try.results112, go_sem, c10, c11]) rfl ⟨ret_E2 (x := (E2.conj x)) rfl rfl, ?_⟩
  exact (HB.out.setCell (by simp; try omega) _).setCell (by simp; try omega) _

set_option maxHeartbeats 400000 in
theorem extFromBase_any (a : F) (w : World) :
    Calls Try.prog 102 #[.int .u64 (vF a)] w fun e w' => e = .returned (.agg #[.int .u64 (vF (E2.ofF a).A), .int .u64 (vF (E2.ofF a).B)]) ∧ Below w.heap.size w w' := by
  go_enter Try.func102, Try.ntmps102
  go_wp2_with fail
  refine bodyPost_ret (v := .agg #[.int .u64 (vF (a)), .int .u64 (vF (0))]) (by simp [results, Try.results102, go_sem, vF_zero]) rfl ⟨ret_E2 (x := E2.ofF a) rfl rfl, ?_⟩
  exact (Below.refl _ _).alloc (Nat.le_refl _) _

set_option maxHeartbeats 400000 in
theorem extFromInt_any (n : Int) (w : World) (h0 : -9223372036854775808 ≤ n) (h1 : n < 9223372036854775808) :
    Calls Try.prog 105 #[.int .i64 n] w fun e w' => e = .returned (.agg #[.int .u64 (vF (E2.ofF (toF n)).A), .int .u64 (vF (E2.ofF (toF n)).B)]) ∧ Below w.heap.size w w' := by
  go_enter Try.func105, Try.ntmps105
  go_wp2_with fail
  go_wp2_with (go_at_call 108; ((with_reducible refine (fromIntF n _ h0 h1).mono ?_)); rintro e w' ⟨rfl, rfl⟩)
  refine calls_named1 (fun W hB g0 hz => ?_)
  have HB := Lib.hid hB
  have c00 := Two.c0 g0; have c01 := Two.c1 g0; have f00 := Two.f0 g0; have f01 := Two.f1 g0
  clear hB g0
  go_wp2_with (first
    | (go_at_call 102; ((with_reducible refine (extFromBase_any (toF n) _).mono ?_)); rintro e W1 ⟨rfl, hb⟩; replace f00 := free_after hb c00 f00; replace f01 := free_after hb c01 f01; replace c00 := cell_after hb c00; replace c01 := cell_after hb c01; replace HB := Lib.hid (HB.out.trans (hb.mono HB.out.size)); replace hz := Nat.lt_of_lt_of_le hz hb.size; clear hb))
  refine bodyPost_ret (v := .agg #[.int .u64 (vF ((E2.ofF (toF n)).A)), .int .u64 (vF ((E2.ofF (toF n)).B))]) (by simp [results, Try.results105, go_sem, c00, c01]) rfl ⟨ret_E2 (x := E2.ofF (toF n)) rfl rfl, ?_⟩
  exact (HB.out.setCell (by simp; try omega) _).setCell (by simp; try omega) _


set_option maxHeartbeats 400000 in
theorem extValid_any (a b : Int) (w : World) :
    Calls Try.prog 66 #[.agg #[.int .u64 a, .int .u64 b]] w fun e w' => e = .returned (.bool (evalid a b)) ∧ Below w.heap.size w w' := by
  by_cases h : a < 18446744069414584321
  all_goals
    go_enter Try.func66, Try.ntmps66
    go_wp2_with (first
      | (go_at_call 85; ((with_reducible refine (valid_any a _).mono ?_)); rintro e w' ⟨rfl, rfl⟩)
      | (go_at_call 85; ((with_reducible refine (valid_any b _).mono ?_)); rintro e w' ⟨rfl, rfl⟩))
    go_ret
    refine ⟨?_, (Below.refl _ _).alloc (Nat.le_refl _) _⟩
    simp [evalid, h] <;> omega

end Go.Proofs.Ytombcjdhjcmhhaa
