/- Contracts of the reference of package ext: each function returns the element of the extension field and only adds to memory; no conditions but that words are words. -/
import Derived.Test.YtombcjdhjcmhhaaFieldF
import Derived.Test.YtombcjdhjcmhhaaEx
import Derived.Test.YtombcjdhjcmhhaaOrd
import Derived.Test.YtombcjdhjcmhhaaExtV
namespace Go.Proofs.Ytombcjdhjcmhhaa
set_option maxRecDepth 8000
open Go.RowKit Gold
set_option maxHeartbeats 400000 in
theorem rMade_any (a b : Int) (w : World) (ha : U64 a) (hb0 : U64 b) :
    Calls Try.prog 31 #[.agg #[.int .u64 a, .int .u64 b]] w fun e w' => e = .returned (.agg #[.int .u64 (vF (toE a b).A), .int .u64 (vF (toE a b).B)]) ∧ Below w.heap.size w w' := by
  go_enter Try.func31, Try.ntmps31
  go_wp2_with fail
  refine wp_named2 (fun W hB g0 g1 hz => ?_)
  have HB := Lib.hid hB
  have c00 := Two.c0 g0; have c01 := Two.c1 g0; have c10 := Two.c0 g1; have c11 := Two.c1 g1; have f10 := Two.f0 g1; have f11 := Two.f1 g1
  clear hB g0 g1
  have l00 := Later.cell c00; have l01 := Later.cell c01
  refine wp_later_tail 7 (by kernel_rfl) (by kernel_rfl) ?_
  simp only [List.take_succ_cons, List.take_zero, List.drop_succ_cons, List.drop_zero]
  repeat (go_big_quiet_step (((go_at_call 51; with_reducible exact Calls.later_same (rreduceF _ _ (by assumption))))))
  refine wpQuiet_nil ?_
  intro X
  clear l00 l01
  have hb := X.below; replace f10 := free_after hb c10 f10; replace f11 := free_after hb c11 f11; replace c00 := cell_after hb c00; replace c01 := cell_after hb c01; replace c10 := cell_after hb c10; replace c11 := cell_after hb c11; replace HB := Lib.hid (HB.out.trans (hb.mono HB.out.size)); replace hz := Nat.lt_of_lt_of_le hz hb.size; clear hb
  go_wp2
  refine bodyPost_ret (v := .agg #[.int .u64 (vF (toF a)), .int .u64 (vF (toF b))]) (by simp [results, Try.results31, go_sem, c10, c11]) rfl ⟨ret_E2 (x := toE a b) rfl rfl, ?_⟩
  exact (HB.out.setCell (by simp; try omega) _).setCell (by simp; try omega) _

set_option maxHeartbeats 400000 in
theorem rAdd_any (x y : E2) (w : World) :
    Calls Try.prog 32 #[.agg #[.int .u64 (vF x.A), .int .u64 (vF x.B)], .agg #[.int .u64 (vF y.A), .int .u64 (vF y.B)]] w fun e w' => e = .returned (.agg #[.int .u64 (vF (x + y).A), .int .u64 (vF (x + y).B)]) ∧ Below w.heap.size w w' := by
  go_enter Try.func32, Try.ntmps32
  go_wp2_with fail
  refine wp_named3 (fun W hB g0 g1 g2 hz => ?_)
  have HB := Lib.hid hB
  have c00 := Two.c0 g0; have c01 := Two.c1 g0; have c10 := Two.c0 g1; have c11 := Two.c1 g1; have c20 := Two.c0 g2; have c21 := Two.c1 g2; have f20 := Two.f0 g2; have f21 := Two.f1 g2
  clear hB g0 g1 g2
  have l00 := Later.cell c00; have l01 := Later.cell c01; have l10 := Later.cell c10; have l11 := Later.cell c11
  refine wp_later_tail 11 (by kernel_rfl) (by kernel_rfl) ?_
  simp only [List.take_succ_cons, List.take_zero, List.drop_succ_cons, List.drop_zero]
  repeat (go_big_quiet_step (((go_at_call 52; with_reducible exact Calls.later_same (raddF _ _ _)))))
  refine wpQuiet_nil ?_
  intro X
  clear l00 l01 l10 l11
  have hb := X.below; replace f20 := free_after hb c20 f20; replace f21 := free_after hb c21 f21; replace c00 := cell_after hb c00; replace c01 := cell_after hb c01; replace c10 := cell_after hb c10; replace c11 := cell_after hb c11; replace c20 := cell_after hb c20; replace c21 := cell_after hb c21; replace HB := Lib.hid (HB.out.trans (hb.mono HB.out.size)); replace hz := Nat.lt_of_lt_of_le hz hb.size; clear hb
  go_wp2
  refine bodyPost_ret (v := .agg #[.int .u64 (vF (x.A + y.A)), .int .u64 (vF (x.B + y.B))]) (by simp [results, Try.results32, go_sem, c20, c21]) rfl ⟨ret_E2 (x := x + y) rfl rfl, ?_⟩
  exact (HB.out.setCell (by simp; try omega) _).setCell (by simp; try omega) _

set_option maxHeartbeats 400000 in
theorem rNeg_any (x : E2) (w : World) :
    Calls Try.prog 55 #[.agg #[.int .u64 (vF x.A), .int .u64 (vF x.B)]] w fun e w' => e = .returned (.agg #[.int .u64 (vF (-x).A), .int .u64 (vF (-x).B)]) ∧ Below w.heap.size w w' := by
  go_enter Try.func55, Try.ntmps55
  go_wp2_with fail
  refine wp_named2 (fun W hB g0 g1 hz => ?_)
  have HB := Lib.hid hB
  have c00 := Two.c0 g0; have c01 := Two.c1 g0; have c10 := Two.c0 g1; have c11 := Two.c1 g1; have f10 := Two.f0 g1; have f11 := Two.f1 g1
  clear hB g0 g1
  have l00 := Later.cell c00; have l01 := Later.cell c01
  refine wp_later_tail 7 (by kernel_rfl) (by kernel_rfl) ?_
  simp only [List.take_succ_cons, List.take_zero, List.drop_succ_cons, List.drop_zero]
  repeat (go_big_quiet_step (((go_at_call 74; with_reducible exact Calls.later_same (rnegF _ _)))))
  refine wpQuiet_nil ?_
  intro X
  clear l00 l01
  have hb := X.below; replace f10 := free_after hb c10 f10; replace f11 := free_after hb c11 f11; replace c00 := cell_after hb c00; replace c01 := cell_after hb c01; replace c10 := cell_after hb c10; replace c11 := cell_after hb c11; replace HB := Lib.hid (HB.out.trans (hb.mono HB.out.size)); replace hz := Nat.lt_of_lt_of_le hz hb.size; clear hb
  go_wp2
  refine bodyPost_ret (v := .agg #[.int .u64 (vF (-x.A)), .int .u64 (vF (-x.B))]) (by simp [results, Try.results55, go_sem, c10, c11]) rfl ⟨ret_E2 (x := -x) rfl rfl, ?_⟩
  exact (HB.out.setCell (by simp; try omega) _).setCell (by simp; try omega) _

set_option maxHeartbeats 400000 in
theorem rSub_any (x y : E2) (w : World) :
    Calls Try.prog 35 #[.agg #[.int .u64 (vF x.A), .int .u64 (vF x.B)], .agg #[.int .u64 (vF y.A), .int .u64 (vF y.B)]] w fun e w' => e = .returned (.agg #[.int .u64 (vF (x - y).A), .int .u64 (vF (x - y).B)]) ∧ Below w.heap.size w w' := by
  go_enter Try.func35, Try.ntmps35
  go_wp2_with fail
  refine wp_named3 (fun W hB g0 g1 g2 hz => ?_)
  have HB := Lib.hid hB
  have c00 := Two.c0 g0; have c01 := Two.c1 g0; have c10 := Two.c0 g1; have c11 := Two.c1 g1; have c20 := Two.c0 g2; have c21 := Two.c1 g2; have f20 := Two.f0 g2; have f21 := Two.f1 g2
  clear hB g0 g1 g2
  have l00 := Later.cell c00; have l01 := Later.cell c01; have l10 := Later.cell c10; have l11 := Later.cell c11
  refine wp_later_tail 4 (by kernel_rfl) (by kernel_rfl) ?_
  simp only [List.take_succ_cons, List.take_zero, List.drop_succ_cons, List.drop_zero]
  repeat (go_big_quiet_step (first
    | (go_at_call 55; with_reducible exact Calls.later (rNeg_any y _))
    | (go_at_call 32; with_reducible exact Calls.later (rAdd_any x (-y) _))))
  refine wpQuiet_nil ?_
  intro X
  clear l00 l01 l10 l11
  have hb := X.below; replace f20 := free_after hb c20 f20; replace f21 := free_after hb c21 f21; replace c00 := cell_after hb c00; replace c01 := cell_after hb c01; replace c10 := cell_after hb c10; replace c11 := cell_after hb c11; replace c20 := cell_after hb c20; replace c21 := cell_after hb c21; replace HB := Lib.hid (HB.out.trans (hb.mono HB.out.size)); replace hz := Nat.lt_of_lt_of_le hz hb.size; clear hb
  go_wp2
  refine bodyPost_ret (v := .agg #[.int .u64 (vF ((x + -y).A)), .int .u64 (vF ((x + -y).B))]) (by simp [results, Try.results35, go_sem, c20, c21]) rfl ⟨ret_E2 (x := x - y) (congrArg E2.A (E2.sub_eq x y).symm) (congrArg E2.B (E2.sub_eq x y).symm), ?_⟩
  exact (HB.out.setCell (by simp; try omega) _).setCell (by simp; try omega) _

set_option maxHeartbeats 1000000 in
theorem rMul_any (x y : E2) (w : World) :
    Calls Try.prog 36 #[.agg #[.int .u64 (vF x.A), .int .u64 (vF x.B)], .agg #[.int .u64 (vF y.A), .int .u64 (vF y.B)]] w fun e w' => e = .returned (.agg #[.int .u64 (vF (x * y).A), .int .u64 (vF (x * y).B)]) ∧ Below w.heap.size w w' := by
  go_enter Try.func36, Try.ntmps36
  go_wp2_with fail
  refine wp_named3 (fun W hB g0 g1 g2 hz => ?_)
  have HB := Lib.hid hB
  have c00 := Two.c0 g0; have c01 := Two.c1 g0; have c10 := Two.c0 g1; have c11 := Two.c1 g1; have c20 := Two.c0 g2; have c21 := Two.c1 g2; have f20 := Two.f0 g2; have f21 := Two.f1 g2
  clear hB g0 g1 g2
  have l00 := Later.cell c00; have l01 := Later.cell c01; have l10 := Later.cell c10; have l11 := Later.cell c11
  refine wp_later_tail 24 (by kernel_rfl) (by kernel_rfl) ?_
  simp only [List.take_succ_cons, List.take_zero, List.drop_succ_cons, List.drop_zero]
  repeat (go_big_quiet_step (first
    | (go_at_call 56; with_reducible exact Calls.later_same (rmul7F _ _))
    | (go_at_call 56; with_reducible exact Calls.later_same (rmulF _ _ _))
    | (go_at_call 52; with_reducible exact Calls.later_same (raddF _ _ _))))
  refine wpQuiet_nil ?_
  intro X
  clear l00 l01 l10 l11
  have hb := X.below; replace f20 := free_after hb c20 f20; replace f21 := free_after hb c21 f21; replace c00 := cell_after hb c00; replace c01 := cell_after hb c01; replace c10 := cell_after hb c10; replace c11 := cell_after hb c11; replace c20 := cell_after hb c20; replace c21 := cell_after hb c21; replace HB := Lib.hid (HB.out.trans (hb.mono HB.out.size)); replace hz := Nat.lt_of_lt_of_le hz hb.size; clear hb
  go_wp2
  refine bodyPost_ret (v := .agg #[.int .u64 (vF (x.A * y.A + 7 * (x.B * y.B))), .int .u64 (vF (x.A * y.B + x.B * y.A))]) (by simp [results, Try.results36, go_sem, c20, c21]) rfl ⟨ret_E2 (x := x * y) rfl rfl, ?_⟩
  exact (HB.out.setCell (by simp; try omega) _).setCell (by simp; try omega) _

set_option maxHeartbeats 400000 in
theorem rFromBase_any (a : F) (w : World) :
    Calls Try.prog 99 #[.int .u64 (vF a)] w fun e w' => e = .returned (.agg #[.int .u64 (vF (E2.ofF a).A), .int .u64 (vF (E2.ofF a).B)]) ∧ Below w.heap.size w w' := by
  go_enter Try.func99, Try.ntmps99
  go_wp2_with fail
  refine bodyPost_ret (v := .agg #[.int .u64 (vF (a)), .int .u64 (vF (0))]) (by simp [results, Try.results99, go_sem, vF_zero]) rfl ⟨ret_E2 (x := E2.ofF a) rfl rfl, ?_⟩
  exact (Below.refl _ _).alloc (Nat.le_refl _) _

set_option maxHeartbeats 400000 in
theorem rMulBase_any (x : E2) (a : F) (w : World) :
    Calls Try.prog 91 #[.agg #[.int .u64 (vF x.A), .int .u64 (vF x.B)], .int .u64 (vF a)] w fun e w' => e = .returned (.agg #[.int .u64 (vF (x * E2.ofF a).A), .int .u64 (vF (x * E2.ofF a).B)]) ∧ Below w.heap.size w w' := by
  go_enter Try.func91, Try.ntmps91
  go_wp2_with fail
  refine wp_named2 (fun W hB g0 g1 hz => ?_)
  have HB := Lib.hid hB
  have c00 := Two.c0 g0; have c01 := Two.c1 g0; have c10 := Two.c0 g1; have c11 := Two.c1 g1; have f10 := Two.f0 g1; have f11 := Two.f1 g1
  clear hB g0 g1
  have l00 := Later.cell c00; have l01 := Later.cell c01
  refine wp_later_tail 4 (by kernel_rfl) (by kernel_rfl) ?_
  simp only [List.take_succ_cons, List.take_zero, List.drop_succ_cons, List.drop_zero]
  repeat (go_big_quiet_step (first
    | (go_at_call 99; with_reducible exact Calls.later (rFromBase_any a _))
    | (go_at_call 36; with_reducible exact Calls.later (rMul_any x (E2.ofF a) _))))
  refine wpQuiet_nil ?_
  intro X
  clear l00 l01
  have hb := X.below; replace f10 := free_after hb c10 f10; replace f11 := free_after hb c11 f11; replace c00 := cell_after hb c00; replace c01 := cell_after hb c01; replace c10 := cell_after hb c10; replace c11 := cell_after hb c11; replace HB := Lib.hid (HB.out.trans (hb.mono HB.out.size)); replace hz := Nat.lt_of_lt_of_le hz hb.size; clear hb
  go_wp2
  refine bodyPost_ret (v := .agg #[.int .u64 (vF ((x * E2.ofF a).A)), .int .u64 (vF ((x * E2.ofF a).B))]) (by simp [results, Try.results91, go_sem, c10, c11]) rfl ⟨ret_E2 (x := x * E2.ofF a) rfl rfl, ?_⟩
  exact (HB.out.setCell (by simp; try omega) _).setCell (by simp; try omega) _

set_option maxHeartbeats 400000 in
theorem rConj_any (x : E2) (w : World) :
    Calls Try.prog 89 #[.agg #[.int .u64 (vF x.A), .int .u64 (vF x.B)]] w fun e w' => e = .returned (.agg #[.int .u64 (vF (E2.conj x).A), .int .u64 (vF (E2.conj x).B)]) ∧ Below w.heap.size w w' := by
  go_enter Try.func89, Try.ntmps89
  go_wp2_with fail
  refine wp_named2 (fun W hB g0 g1 hz => ?_)
  have HB := Lib.hid hB
  have c00 := Two.c0 g0; have c01 := Two.c1 g0; have c10 := Two.c0 g1; have c11 := Two.c1 g1; have f10 := Two.f0 g1; have f11 := Two.f1 g1
  clear hB g0 g1
  have l00 := Later.cell c00; have l01 := Later.cell c01
  refine wp_later_tail 6 (by kernel_rfl) (by kernel_rfl) ?_
  simp only [List.take_succ_cons, List.take_zero, List.drop_succ_cons, List.drop_zero]
  repeat (go_big_quiet_step (((go_at_call 74; with_reducible exact Calls.later_same (rnegF _ _)))))
  refine wpQuiet_nil ?_
  intro X
  clear l00 l01
  have hb := X.below; replace f10 := free_after hb c10 f10; replace f11 := free_after hb c11 f11; replace c00 := cell_after hb c00; replace c01 := cell_after hb c01; replace c10 := cell_after hb c10; replace c11 := cell_after hb c11; replace HB := Lib.hid (HB.out.trans (hb.mono HB.out.size)); replace hz := Nat.lt_of_lt_of_le hz hb.size; clear hb
  go_wp2
  refine bodyPost_ret (v := .agg #[.int .u64 (vF (x.A)), .int .u64 (vF (-x.B))]) (by simp [results, Try.results89, go_sem, c10, c11]) rfl ⟨ret_E2 (x := E2.conj x) rfl rfl, ?_⟩
  exact (HB.out.setCell (by simp; try omega) _).setCell (by simp; try omega) _

set_option maxHeartbeats 400000 in
theorem rFromInt_any (n : Int) (w : World) (h0 : -9223372036854775808 ≤ n) (h1 : n < 9223372036854775808) :
    Calls Try.prog 37 #[.int .i64 n] w fun e w' => e = .returned (.agg #[.int .u64 (vF (E2.ofF (toF n)).A), .int .u64 (vF (E2.ofF (toF n)).B)]) ∧ Below w.heap.size w w' := by
  go_enter Try.func37, Try.ntmps37
  go_wp2_with fail
  go_wp2_with (first
    | (go_at_call 57; ((with_reducible refine (rfromIntF n _ h0 h1).mono ?_)); rintro e w' ⟨rfl, rfl⟩))
  refine bodyPost_ret (v := .agg #[.int .u64 (vF (toF n)), .int .u64 (vF (0))]) (by simp [results, Try.results37, go_sem, vF_zero]) rfl ⟨ret_E2 (x := E2.ofF (toF n)) rfl rfl, ?_⟩
  exact (Below.refl _ _).alloc (Nat.le_refl _) _

set_option maxHeartbeats 400000 in
theorem rOne_any (w : World) :
    Calls Try.prog 86 #[] w fun e w' => e = .returned (.agg #[.int .u64 (vF E2.one.A), .int .u64 (vF E2.one.B)]) ∧ Below w.heap.size w w' := by
  go_enter Try.func86, Try.ntmps86
  go_wp2_with fail
  refine bodyPost_ret (v := .agg #[.int .u64 (vF (1)), .int .u64 (vF (0))]) (by simp [results, Try.results86, go_sem, vF_zero, vF_one]) rfl ⟨ret_E2 (x := E2.one) rfl rfl, ?_⟩
  exact (Below.refl _ _).alloc (Nat.le_refl _) _

set_option maxHeartbeats 400000 in
theorem rIsZero_any (x : E2) (w : World) :
    Calls Try.prog 34 #[.agg #[.int .u64 (vF x.A), .int .u64 (vF x.B)]] w fun e w' => e = .returned (.bool (ezero x)) ∧ Below w.heap.size w w' := by
  go_enter Try.func34, Try.ntmps34
  go_wp2
  all_goals
    go_ret
    refine ⟨?_, (Below.refl _ _).alloc (Nat.le_refl _) _⟩
    simp [ezero, *] <;> rfl

set_option maxHeartbeats 400000 in
theorem rValidE_any (a b : Int) (w : World) :
    Calls Try.prog 40 #[.agg #[.int .u64 a, .int .u64 b]] w fun e w' => e = .returned (.bool (evalid a b)) ∧ Below w.heap.size w w' := by
  by_cases h : a < 18446744069414584321
  all_goals
    go_enter Try.func40, Try.ntmps40
    go_wp2_with (first
      | (go_at_call 59; ((with_reducible refine (rvalid_any a _).mono ?_)); rintro e w' ⟨rfl, rfl⟩)
      | (go_at_call 59; ((with_reducible refine (rvalid_any b _).mono ?_)); rintro e w' ⟨rfl, rfl⟩))
    go_ret
    refine ⟨?_, (Below.refl _ _).alloc (Nat.le_refl _) _⟩
    simp [evalid, h] <;> omega

end Go.Proofs.Ytombcjdhjcmhhaa
