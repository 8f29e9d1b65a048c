/- Contracts of package ext at the fixed examples of its laws, and of the laws' helpers; no conditions. -/
import Derived.Test.YtbjeicbphkglfaaExtC
import Derived.Test.YtbjeicbphkglfaaExtT
import Derived.Test.YtbjeicbphkglfaaLex
namespace Go.Proofs.Ytbjeicbphkglfaa
open Go.RowKit Gold

set_option maxHeartbeats 400000 in
theorem of_any (a b : Int) (w : World) : Calls Try.prog 37 #[.int .u64 a, .int .u64 b] w fun e w' => e = .returned (.agg #[.int .u64 a, .int .u64 b]) ∧ Below w.heap.size w w' := by
  go_enter Try.func37, Try.ntmps37
  go_wp2
  refine bodyPost_ret (v := .agg #[.int .u64 a, .int .u64 b]) (by simp [results, Try.results37, go_sem]) rfl ⟨rfl, ?_⟩
  exact (Below.refl _ _).alloc (Nat.le_refl _) _
set_option maxHeartbeats 400000 in
theorem prime_any (w : World) : Calls Try.prog 38 #[] w fun e w' => e = .returned (.int .u64 18446744069414584321) ∧ w' = w := by
  go_enter Try.func38, Try.ntmps38
  go_wp2
  go_ret
  exact ⟨rfl, rfl⟩

theorem lit1 (w : World) : Calls Try.prog 23 #[.agg #[.int .u64 1, .int .u64 2], .agg #[.int .u64 3, .int .u64 4]] w fun e w' => e = .returned (.agg #[.int .u64 59, .int .u64 10]) ∧ Below w.heap.size w w' := by
  have h := extMul_any (toE 1 2) (toE 3 4) w
  simp only [show vF (toE 1 2).A = 1 by decide +kernel, show vF (toE 1 2).B = 2 by decide +kernel, show vF (toE 3 4).A = 3 by decide +kernel, show vF (toE 3 4).B = 4 by decide +kernel, show vF (toE 1 2 * toE 3 4).A = 59 by decide +kernel, show vF (toE 1 2 * toE 3 4).B = 10 by decide +kernel] at h
  exact h

theorem lit2 (w : World) : Calls Try.prog 23 #[.agg #[.int .u64 1, .int .u64 2], .agg #[.int .u64 1, .int .u64 18446744069414584319]] w fun e w' => e = .returned (.agg #[.int .u64 18446744069414584294, .int .u64 0]) ∧ Below w.heap.size w w' := by
  have h := extMul_any (toE 1 2) (toE 1 18446744069414584319) w
  simp only [show vF (toE 1 2).A = 1 by decide +kernel, show vF (toE 1 2).B = 2 by decide +kernel, show vF (toE 1 18446744069414584319).A = 1 by decide +kernel, show vF (toE 1 18446744069414584319).B = 18446744069414584319 by decide +kernel, show vF (toE 1 2 * toE 1 18446744069414584319).A = 18446744069414584294 by decide +kernel, show vF (toE 1 2 * toE 1 18446744069414584319).B = 0 by decide +kernel] at h
  exact h

theorem lit3 (w : World) : Calls Try.prog 27 #[.agg #[.int .u64 1, .int .u64 2]] w fun e w' => e = .returned (.agg #[.int .u64 1, .int .u64 18446744069414584319]) ∧ Below w.heap.size w w' := by
  have h := extConj_any (toE 1 2) w
  simp only [show vF (toE 1 2).A = 1 by decide +kernel, show vF (toE 1 2).B = 2 by decide +kernel, show vF (E2.conj (toE 1 2)).A = 1 by decide +kernel, show vF (E2.conj (toE 1 2)).B = 18446744069414584319 by decide +kernel] at h
  exact h

theorem lit4 (w : World) : Calls Try.prog 27 #[.agg #[.int .u64 59, .int .u64 10]] w fun e w' => e = .returned (.agg #[.int .u64 59, .int .u64 18446744069414584311]) ∧ Below w.heap.size w w' := by
  have h := extConj_any (toE 59 10) w
  simp only [show vF (toE 59 10).A = 59 by decide +kernel, show vF (toE 59 10).B = 10 by decide +kernel, show vF (E2.conj (toE 59 10)).A = 59 by decide +kernel, show vF (E2.conj (toE 59 10)).B = 18446744069414584311 by decide +kernel] at h
  exact h

theorem lit_inv0 (w : World) : Calls Try.prog 15 #[.agg #[.int .u64 0, .int .u64 0]] w fun e w' => e = .returned (.tuple #[.agg #[.int .u64 0, .int .u64 0], .int .i64 3]) ∧ Below w.heap.size w w' := extInv_zero w

theorem inv_two : E2.inv (toE 2 0) = toE 9223372034707292161 0 := (E2.inv_unique (E2.ext' (by decide +kernel) (by decide +kernel))).symm
theorem lit_inv2 (w : World) : Calls Try.prog 15 #[.agg #[.int .u64 2, .int .u64 0]] w fun e w' => e = .returned (.tuple #[.agg #[.int .u64 9223372034707292161, .int .u64 0], .int .i64 0]) ∧ Below w.heap.size w w' := by
  have h := extInv_any (toE 2 0) w (by decide +kernel)
  rw [inv_two] at h
  simp only [show vF (toE 2 0).A = 2 by decide +kernel, show vF (toE 2 0).B = 0 by decide +kernel, show vF (toE 9223372034707292161 0).A = 9223372034707292161 by decide +kernel, show vF (toE 9223372034707292161 0).B = 0 by decide +kernel] at h
  exact h

theorem lit5 (w : World) : Calls Try.prog 29 #[.agg #[.int .u64 0, .int .u64 1], .int .u64 2] w fun e w' => e = .returned (.agg #[.int .u64 7, .int .u64 0]) ∧ Below w.heap.size w w' := by
  have h := (fun w => extPow_nat (toE 0 1) 2 w (by omega)) w
  simp only [show vF (toE 0 1).A = 0 by decide +kernel, show vF (toE 0 1).B = 1 by decide +kernel, show vF (E2.pow (toE 0 1) 2).A = 7 by decide +kernel, show vF (E2.pow (toE 0 1) 2).B = 0 by decide +kernel, show ((2 : Nat) : Int) = 2 by decide +kernel] at h
  exact h

theorem lit6 (w : World) : Calls Try.prog 29 #[.agg #[.int .u64 0, .int .u64 1], .int .u64 3] w fun e w' => e = .returned (.agg #[.int .u64 0, .int .u64 7]) ∧ Below w.heap.size w w' := by
  have h := (fun w => extPow_nat (toE 0 1) 3 w (by omega)) w
  simp only [show vF (toE 0 1).A = 0 by decide +kernel, show vF (toE 0 1).B = 1 by decide +kernel, show vF (E2.pow (toE 0 1) 3).A = 0 by decide +kernel, show vF (E2.pow (toE 0 1) 3).B = 7 by decide +kernel, show ((3 : Nat) : Int) = 3 by decide +kernel] at h
  exact h

theorem lit7 (w : World) : Calls Try.prog 29 #[.agg #[.int .u64 0, .int .u64 0], .int .u64 0] w fun e w' => e = .returned (.agg #[.int .u64 1, .int .u64 0]) ∧ Below w.heap.size w w' := by
  have h := (fun w => extPow_nat (toE 0 0) 0 w (by omega)) w
  simp only [show vF (toE 0 0).A = 0 by decide +kernel, show vF (toE 0 0).B = 0 by decide +kernel, show vF (E2.pow (toE 0 0) 0).A = 1 by decide +kernel, show vF (E2.pow (toE 0 0) 0).B = 0 by decide +kernel, show ((0 : Nat) : Int) = 0 by decide +kernel] at h
  exact h

theorem lit8 (w : World) : Calls Try.prog 17 #[.agg #[.int .u64 1, .int .u64 18446744069414584320], .agg #[.int .u64 2, .int .u64 3]] w fun e w' => e = .returned (.agg #[.int .u64 3, .int .u64 2]) ∧ Below w.heap.size w w' := by
  have h := extAdd_any (toE 1 18446744069414584320) (toE 2 3) w
  simp only [show vF (toE 1 18446744069414584320).A = 1 by decide +kernel, show vF (toE 1 18446744069414584320).B = 18446744069414584320 by decide +kernel, show vF (toE 2 3).A = 2 by decide +kernel, show vF (toE 2 3).B = 3 by decide +kernel, show vF (toE 1 18446744069414584320 + toE 2 3).A = 3 by decide +kernel, show vF (toE 1 18446744069414584320 + toE 2 3).B = 2 by decide +kernel] at h
  exact h

theorem lit9 (w : World) : Calls Try.prog 19 #[.agg #[.int .u64 1, .int .u64 2], .agg #[.int .u64 2, .int .u64 2]] w fun e w' => e = .returned (.agg #[.int .u64 18446744069414584320, .int .u64 0]) ∧ Below w.heap.size w w' := by
  have h := extSub_any (toE 1 2) (toE 2 2) w
  simp only [show vF (toE 1 2).A = 1 by decide +kernel, show vF (toE 1 2).B = 2 by decide +kernel, show vF (toE 2 2).A = 2 by decide +kernel, show vF (toE 2 2).B = 2 by decide +kernel, show vF (toE 1 2 - toE 2 2).A = 18446744069414584320 by decide +kernel, show vF (toE 1 2 - toE 2 2).B = 0 by decide +kernel] at h
  exact h

theorem lit10 (w : World) : Calls Try.prog 21 #[.agg #[.int .u64 0, .int .u64 1]] w fun e w' => e = .returned (.agg #[.int .u64 0, .int .u64 18446744069414584320]) ∧ Below w.heap.size w w' := by
  have h := extNeg_any (toE 0 1) w
  simp only [show vF (toE 0 1).A = 0 by decide +kernel, show vF (toE 0 1).B = 1 by decide +kernel, show vF (-toE 0 1).A = 0 by decide +kernel, show vF (-toE 0 1).B = 18446744069414584320 by decide +kernel] at h
  exact h

theorem lit11 (w : World) : Calls Try.prog 35 #[.int .i64 (-1)] w fun e w' => e = .returned (.agg #[.int .u64 18446744069414584320, .int .u64 0]) ∧ Below w.heap.size w w' := by
  have h := (fun w => extFromInt_any (-1) w (by omega) (by omega)) w
  simp only [show vF (E2.ofF (toF (-1))).A = 18446744069414584320 by decide +kernel, show vF (E2.ofF (toF (-1))).B = 0 by decide +kernel] at h
  exact h

theorem lit12 (w : World) : Calls Try.prog 33 #[.int .u64 5] w fun e w' => e = .returned (.agg #[.int .u64 5, .int .u64 0]) ∧ Below w.heap.size w w' := by
  have h := extFromBase_any (toF 5) w
  simp only [show vF (toF 5) = 5 by decide +kernel, show vF (E2.ofF (toF 5)).A = 5 by decide +kernel, show vF (E2.ofF (toF 5)).B = 0 by decide +kernel] at h
  exact h

theorem lit13 (w : World) : Calls Try.prog 25 #[.agg #[.int .u64 2, .int .u64 3], .int .u64 4] w fun e w' => e = .returned (.agg #[.int .u64 8, .int .u64 12]) ∧ Below w.heap.size w w' := by
  have h := extMulBase_any (toE 2 3) (toF 4) w
  simp only [show vF (toE 2 3).A = 2 by decide +kernel, show vF (toE 2 3).B = 3 by decide +kernel, show vF (toF 4) = 4 by decide +kernel, show vF (toE 2 3 * E2.ofF (toF 4)).A = 8 by decide +kernel, show vF (toE 2 3 * E2.ofF (toF 4)).B = 12 by decide +kernel] at h
  exact h

theorem lit14 (w : World) : Calls Try.prog 12 #[.agg #[.int .u64 18446744069414584320, .int .u64 0]] w fun e w' => e = .returned (.bool true) ∧ Below w.heap.size w w' := by
  have h := extValid_any 18446744069414584320 0 w
  simp only [show evalid 18446744069414584320 0 = true by decide +kernel] at h
  exact h

theorem lit15 (w : World) : Calls Try.prog 12 #[.agg #[.int .u64 0, .int .u64 18446744069414584321]] w fun e w' => e = .returned (.bool false) ∧ Below w.heap.size w w' := by
  have h := extValid_any 0 18446744069414584321 w
  simp only [show evalid 0 18446744069414584321 = false by decide +kernel] at h
  exact h

theorem lit16 (w : World) : Calls Try.prog 31 #[.agg #[.int .u64 0, .int .u64 0]] w fun e w' => e = .returned (.bool true) ∧ Below w.heap.size w w' := by
  have h := extIsZero_any (toE 0 0) w
  simp only [show vF (toE 0 0).A = 0 by decide +kernel, show vF (toE 0 0).B = 0 by decide +kernel, show ezero (toE 0 0) = true by decide +kernel] at h
  exact h

theorem lit17 (w : World) : Calls Try.prog 31 #[.agg #[.int .u64 0, .int .u64 1]] w fun e w' => e = .returned (.bool false) ∧ Below w.heap.size w w' := by
  have h := extIsZero_any (toE 0 1) w
  simp only [show vF (toE 0 1).A = 0 by decide +kernel, show vF (toE 0 1).B = 1 by decide +kernel, show ezero (toE 0 1) = false by decide +kernel] at h
  exact h

set_option maxHeartbeats 4000000 in
set_option maxRecDepth 100000 in
theorem sanity_any (w : World) : Calls Try.prog 11 #[] w fun e w' => e = .returned (.bool true) ∧ Below w.heap.size w w' := by
  have HB := Lib.hid (Below.refl w.heap.size w)
  go_enter Try.func11, Try.ntmps11
  go_wp2_with fail
  ((with_reducible refine (of_any 1 2 _).mono ?_)); rintro e W1 ⟨rfl, hb⟩
  replace HB := Lib.hid (HB.out.trans (hb.mono HB.out.size)); clear hb
  go_wp2_with fail
  ((with_reducible refine (of_any 3 4 _).mono ?_)); rintro e W2 ⟨rfl, hb⟩
  replace HB := Lib.hid (HB.out.trans (hb.mono HB.out.size)); clear hb
  go_wp2_with fail
  ((with_reducible refine (lit1 _).mono ?_)); rintro e W3 ⟨rfl, hb⟩
  replace HB := Lib.hid (HB.out.trans (hb.mono HB.out.size)); clear hb
  go_wp2_with fail
  ((with_reducible refine (of_any 1 2 _).mono ?_)); rintro e W4 ⟨rfl, hb⟩
  have p0 := cell_after hb (Two.c0 (Two.new W3 24 (.int .u64 59) (.int .u64 10))); have p1 := cell_after hb (Two.c1 (Two.new W3 24 (.int .u64 59) (.int .u64 10)))
  replace HB := Lib.hid ((HB.out.alloc HB.out.size _).trans (hb.mono (HB.out.alloc HB.out.size _).size)); clear hb
  go_wp2_with fail
  ((with_reducible refine (of_any 1 2 _).mono ?_)); rintro e W5 ⟨rfl, hb⟩
  replace p0 := cell_after hb p0; replace p1 := cell_after hb p1
  replace HB := Lib.hid (HB.out.trans (hb.mono HB.out.size)); clear hb
  go_wp2_with fail
  ((with_reducible refine (lit3 _).mono ?_)); rintro e W6 ⟨rfl, hb⟩
  replace p0 := cell_after hb p0; replace p1 := cell_after hb p1
  replace HB := Lib.hid (HB.out.trans (hb.mono HB.out.size)); clear hb
  go_wp2_with fail
  ((with_reducible refine (lit2 _).mono ?_)); rintro e W7 ⟨rfl, hb⟩
  replace p0 := cell_after hb p0; replace p1 := cell_after hb p1
  replace HB := Lib.hid (HB.out.trans (hb.mono HB.out.size)); clear hb
  go_wp2_with fail
  ((with_reducible refine (lit_inv0 _).mono ?_)); rintro e W8 ⟨rfl, hb⟩
  have m0 := cell_after hb (Two.c0 (Two.new W7 24 (.int .u64 18446744069414584294) (.int .u64 0))); have m1 := cell_after hb (Two.c1 (Two.new W7 24 (.int .u64 18446744069414584294) (.int .u64 0)))
  replace p0 := cell_after hb (cell_alloc p0 _); replace p1 := cell_after hb (cell_alloc p1 _)
  replace HB := Lib.hid ((HB.out.alloc HB.out.size _).trans (hb.mono (HB.out.alloc HB.out.size _).size)); clear hb
  go_wp2_with fail
  ((with_reducible refine (of_any 2 0 _).mono ?_)); rintro e W9 ⟨rfl, hb⟩
  have z0 := cell_after hb (Two.c0 (Two.new W8 24 (.int .u64 0) (.int .u64 0))); have z1 := cell_after hb (Two.c1 (Two.new W8 24 (.int .u64 0) (.int .u64 0)))
  replace p0 := cell_after hb (cell_alloc p0 _); replace p1 := cell_after hb (cell_alloc p1 _)
  replace m0 := cell_after hb (cell_alloc m0 _); replace m1 := cell_after hb (cell_alloc m1 _)
  replace HB := Lib.hid ((HB.out.alloc HB.out.size _).trans (hb.mono (HB.out.alloc HB.out.size _).size)); clear hb
  go_wp2_with fail
  ((with_reducible refine (lit_inv2 _).mono ?_)); rintro e W10 ⟨rfl, hb⟩
  replace p0 := cell_after hb p0; replace p1 := cell_after hb p1
  replace m0 := cell_after hb m0; replace m1 := cell_after hb m1
  replace z0 := cell_after hb z0; replace z1 := cell_after hb z1
  replace HB := Lib.hid (HB.out.trans (hb.mono HB.out.size)); clear hb
  go_wp2_with fail
  have i0 := Two.c0 (Two.new W10 24 (.int .u64 9223372034707292161) (.int .u64 0)); have i1 := Two.c1 (Two.new W10 24 (.int .u64 9223372034707292161) (.int .u64 0))
  replace p0 := cell_alloc p0 (.cells #[.int .u64 9223372034707292161, .int .u64 0] 24); replace p1 := cell_alloc p1 (.cells #[.int .u64 9223372034707292161, .int .u64 0] 24)
  replace m0 := cell_alloc m0 (.cells #[.int .u64 9223372034707292161, .int .u64 0] 24); replace m1 := cell_alloc m1 (.cells #[.int .u64 9223372034707292161, .int .u64 0] 24)
  replace z0 := cell_alloc z0 (.cells #[.int .u64 9223372034707292161, .int .u64 0] 24); replace z1 := cell_alloc z1 (.cells #[.int .u64 9223372034707292161, .int .u64 0] 24)
  replace HB := Lib.hid (HB.out.alloc HB.out.size (.cells #[.int .u64 9223372034707292161, .int .u64 0] 24))
  generalize World.alloc W10 (.cells #[.int .u64 9223372034707292161, .int .u64 0] 24) = W at *
  have lp0 := Later.cell p0; have lp1 := Later.cell p1; have lm0 := Later.cell m0; have lm1 := Later.cell m1; have li0 := Later.cell i0; have li1 := Later.cell i1
  clear p0 p1 m0 m1 i0 i1 z0 z1
  simp only [List.append_eq, List.cons_append, List.nil_append]
  refine wp_later_lex (by kernel_rfl) (lexOK_of (by kernel_rfl) (by kernel_rfl)) ?_
  repeat (go_big_quiet_step (first
    | (go_at_call 37; with_reducible exact Calls.later (of_any _ _ _))
    | (go_at_call 38; with_reducible exact Calls.later_same (prime_any _))
    | (go_at_call 27; with_reducible exact Calls.later (lit4 _))
    | (go_at_call 29; with_reducible exact Calls.later (lit5 _))
    | (go_at_call 29; with_reducible exact Calls.later (lit6 _))
    | (go_at_call 29; with_reducible exact Calls.later (lit7 _))
    | (go_at_call 17; with_reducible exact Calls.later (lit8 _))
    | (go_at_call 19; with_reducible exact Calls.later (lit9 _))
    | (go_at_call 21; with_reducible exact Calls.later (lit10 _))
    | (go_at_call 35; with_reducible exact Calls.later (lit11 _))
    | (go_at_call 33; with_reducible exact Calls.later (lit12 _))
    | (go_at_call 25; with_reducible exact Calls.later (lit13 _))
    | (go_at_call 12; with_reducible exact Calls.later (lit14 _))
    | (go_at_call 12; with_reducible exact Calls.later (lit15 _))
    | (go_at_call 31; with_reducible exact Calls.later (lit16 _))
    | (go_at_call 31; with_reducible exact Calls.later (lit17 _))))
  refine wpQuiet_nil ?_
  intro X
  have HX := Lib.hid (HB.out.trans (X.below.mono HB.out.size))
  go_wp2
  go_ret
  exact ⟨rfl, HX.out⟩

end Go.Proofs.Ytbjeicbphkglfaa
