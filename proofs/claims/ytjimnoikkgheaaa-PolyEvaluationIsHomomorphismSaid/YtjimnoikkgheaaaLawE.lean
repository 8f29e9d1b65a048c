/- Contract of a law of package poly; no conditions but the arguments' own. -/
import Derived.Test.YtjimnoikkgheaaaLawS
set_option linter.unusedVariables false
namespace Go.Proofs.Ytjimnoikkgheaaa
open Go.RowKit Gold
variable {ops : Array Oper} {w0 : World}

set_option maxHeartbeats 16000000 in
set_option maxRecDepth 100000 in
theorem polyEvaluationIsHomomorphism_any (A0 : Option Addr) (na ca : Nat) (pa : List (Int × Int)) (B0 : Option Addr) (nb cb : Nat) (pb : List (Int × Int)) (x1 x2 : Int) (w : World) (ha : Sr w A0 na ca pa) (wa : Nums pa) (hb : Sr w B0 nb cb pb) (wb : Nums pb) (hx1 : U64 x1) (hx2 : U64 x2) :
    Calls Try.prog 5 #[.slice A0 na ca, .slice B0 nb cb, .agg #[.int .u64 x1, .int .u64 x2]] w fun e w' => e = .returned (.bool true) ∧ Below w.heap.size w w' := by
  have Pa0 := Lib.hid ha
  have Wa := Lib.hid wa
  clear ha wa
  have Pb0 := Lib.hid hb
  have Wb := Lib.hid wb
  clear hb wb
  go_enter Try.func5, Try.ntmps5
  go_wp2_with fail
  refine calls_named1 (fun V1 hbV g0 hzV => ?_)
  have X1q := Lib.hid (show Two V1 (w.heap.size) 25 (.int .u64 x1) (.int .u64 x2) from g0)
  have Pa1 := Lib.hid (Pa0.out.keep hbV)
  clear Pa0
  have Pb1 := Lib.hid (Pb0.out.keep hbV)
  clear Pb0
  have HB1 := Lib.hid hbV
  clear hbV hzV g0
  refine (sanity3_any _).mono ?_
  rintro e W2 ⟨rfl, hb⟩
  have Pa2 := Lib.hid (Pa1.out.keep hb)
  clear Pa1
  have Pb2 := Lib.hid (Pb1.out.keep hb)
  clear Pb1
  have X2 := Lib.hid (X1q.out.keep hb)
  clear X1q
  have HB2 := Lib.hid (below_step HB1.out hb)
  clear HB1
  clear hb
  go_wp2_with fail
  refine (rPMade_any A0 na ca pa 20 _ Pa2.out Wa.out (by omega)).mono ?_
  rintro e W3 ⟨A1, m1, c1, rfl, hm1, hs, ho, hb⟩
  have Pa3 := Lib.hid (Pa2.out.keep hb)
  clear Pa2
  have Pb3 := Lib.hid (Pb2.out.keep hb)
  clear Pb2
  have X3 := Lib.hid (X2.out.keep hb)
  clear X2
  have HB3 := Lib.hid (below_step HB2.out hb)
  clear HB2
  clear hb
  have L1_4 := Lib.hid hs
  clear hs
  clear ho
  clear Pa3
  go_wp2_with fail
  refine (rPMade_any B0 nb cb pb 20 _ Pb3.out Wb.out (by omega)).mono ?_
  rintro e W5 ⟨A2, m2, c2, rfl, hm2, hs, ho, hb⟩
  have Pb5 := Lib.hid (Pb3.out.keep hb)
  clear Pb3
  have X5 := Lib.hid (X3.out.keep hb)
  clear X3
  have L1_5 := Lib.hid (L1_4.out.keep hb)
  clear L1_4
  have HB5 := Lib.hid (below_step HB3.out hb)
  clear HB3
  clear hb
  have L2_6 := Lib.hid hs
  clear hs
  clear ho
  clear Pb5
  have tt := X5.out
  have c0 := tt.c0
  have c1 := tt.c1
  have c2 := tt.f0
  clear tt
  go_wp2_with fail
  clear c0 c1 c2
  refine (rMade_any x1 x2 _ hx1 hx2).mono ?_
  rintro e W8 ⟨rfl, hb⟩
  have X8 := Lib.hid (X5.out.keep hb)
  clear X5
  have L1_8 := Lib.hid (L1_5.out.keep hb)
  clear L1_5
  have L2_8 := Lib.hid (L2_6.out.keep hb)
  clear L2_6
  have HB8 := Lib.hid (below_step HB5.out hb)
  clear HB5
  clear hb
  generalize toE x1 x2 = y at *
  go_upto_region 5 with (fail)
  refine wp_named1 (fun V9 hbV g0 hzV => ?_)
  have Y9q := Lib.hid (show Two V9 (W8.heap.size) 25 (.int .u64 (vF (y).A)) (.int .u64 (vF (y).B)) from g0)
  have X9 := Lib.hid (X8.out.keep hbV)
  clear X8
  have L1_9 := Lib.hid (L1_8.out.keep hbV)
  clear L1_8
  have L2_9 := Lib.hid (L2_8.out.keep hbV)
  clear L2_8
  have HB9 := Lib.hid (below_step HB8.out hbV)
  clear HB8
  clear hbV hzV g0
  clear X9
  generalize ((pa.take 20).map madeE) = xs at *
  have hlxs : xs.length ≤ 20 := by have := L1_9.out.len; omega
  generalize ((pb.take 20).map madeE) = ys at *
  have hlys : ys.length ≤ 20 := by have := L2_9.out.len; omega
  have tt := Y9q.out
  have c0 := tt.c0
  have c1 := tt.c1
  have c2 := tt.f0
  clear tt
  go_wp2_with fail
  clear c0 c1 c2
  refine (polyEval_any A1 m1 c1 xs y _ L1_9.out).mono ?_
  rintro e W11 ⟨rfl, hb⟩
  have L1_11 := Lib.hid (L1_9.out.keep hb)
  clear L1_9
  have L2_11 := Lib.hid (L2_9.out.keep hb)
  clear L2_9
  have Y11 := Lib.hid (Y9q.out.keep hb)
  clear Y9q
  have HB11 := Lib.hid (below_step HB9.out hb)
  clear HB9
  clear hb
  go_upto_region 6 with (fail)
  refine wp_named1 (fun V12 hbV g0 hzV => ?_)
  have U12q := Lib.hid (show Two V12 (W11.heap.size) 25 (.int .u64 (vF (evE xs y).A)) (.int .u64 (vF (evE xs y).B)) from g0)
  have L1_12 := Lib.hid (L1_11.out.keep hbV)
  clear L1_11
  have L2_12 := Lib.hid (L2_11.out.keep hbV)
  clear L2_11
  have Y12 := Lib.hid (Y11.out.keep hbV)
  clear Y11
  have HB12 := Lib.hid (below_step HB11.out hbV)
  clear HB11
  clear hbV hzV g0
  have tt := Y12.out
  have c0 := tt.c0
  have c1 := tt.c1
  have c2 := tt.f0
  clear tt
  go_wp2_with fail
  clear c0 c1 c2
  refine (polyEval_any A2 m2 c2 ys y _ L2_12.out).mono ?_
  rintro e W14 ⟨rfl, hb⟩
  have L1_14 := Lib.hid (L1_12.out.keep hb)
  clear L1_12
  have L2_14 := Lib.hid (L2_12.out.keep hb)
  clear L2_12
  have Y14 := Lib.hid (Y12.out.keep hb)
  clear Y12
  have U14 := Lib.hid (U12q.out.keep hb)
  clear U12q
  have HB14 := Lib.hid (below_step HB12.out hb)
  clear HB12
  clear hb
  go_upto_region 7 with (fail)
  refine wp_named1 (fun V15 hbV g0 hzV => ?_)
  have V15q := Lib.hid (show Two V15 (W14.heap.size) 25 (.int .u64 (vF (evE ys y).A)) (.int .u64 (vF (evE ys y).B)) from g0)
  have L1_15 := Lib.hid (L1_14.out.keep hbV)
  clear L1_14
  have L2_15 := Lib.hid (L2_14.out.keep hbV)
  clear L2_14
  have Y15 := Lib.hid (Y14.out.keep hbV)
  clear Y14
  have U15 := Lib.hid (U14.out.keep hbV)
  clear U14
  have HB15 := Lib.hid (below_step HB14.out hbV)
  clear HB14
  clear hbV hzV g0
  have TY := Y15.out
  have lY0 := Later.cell TY.c0
  have lY1 := Later.cell TY.c1
  have TU := U15.out
  have lU0 := Later.cell TU.c0
  have lU1 := Later.cell TU.c1
  have TV := V15q.out
  have lV0 := Later.cell TV.c0
  have lV1 := Later.cell TV.c1
  clear Y15
  clear U15
  clear V15q
  try simp only [List.append_eq, List.cons_append, List.nil_append]
  refine wp_floatN (by kernel_rfl) (lexOK_of (by kernel_rfl) (by kernel_rfl)) (chainOF_of (by kernel_rfl)) (fun V16 hb hS => ?_)
  have L1_16 := Lib.hid (L1_15.out.keep hb)
  clear L1_15
  have L2_16 := Lib.hid (L2_15.out.keep hb)
  clear L2_15
  have HB16 := Lib.hid (below_step HB15.out hb)
  clear HB15
  clear hb
  have HS16' := Lib.hid hS
  clear hS
  refine wpF_seg 4 (by kernel_rfl) ?_
  simp only [List.take_succ_cons, List.take_zero, List.drop_succ_cons, List.drop_zero]
  repeat (go_big_quiet_step (fail))
  refine wpQuiet_nil ?_
  refine wpF_call 19 Try.func19 (by kernel_rfl) (by kernel_rfl) _ _ #[.slice A1 m1 c1, .slice A2 m2 c2] rfl (by kernel_rfl) (by kernel_rfl) HS16'.out (fun V17 hV => ?_)
  refine (polyAdd_any A1 m1 c1 xs A2 m2 c2 ys _ (L1_16.out.keep hV) (L2_16.out.keep hV) (by omega) (by omega)).mono ?_
  rintro e W17 ⟨A5, m5, c5, rfl, hm5, hs, hb⟩
  have hb2 := ext_trans hV hb
  have L1_17 := Lib.hid (L1_16.out.keep hb2)
  clear L1_16
  have L2_17 := Lib.hid (L2_16.out.keep hb2)
  clear L2_16
  have HB17 := Lib.hid (below_step HB16.out hb2)
  clear HB16
  have HS17 := Lib.hid (HS16'.out.ext hb2)
  clear HS16'
  have L5_18 := Lib.hid hs
  clear hs
  refine ⟨_, rfl, hb, ?_⟩
  clear hb hb2 hV
  simp only [Act.put, List.setIfInBounds_toArray, List.set_cons_zero, List.set_cons_succ]
  refine wpF_seg 1 (by kernel_rfl) ?_
  simp only [List.take_succ_cons, List.take_zero, List.drop_succ_cons, List.drop_zero]
  repeat (go_big_quiet_step (fail))
  refine wpQuiet_nil ?_
  refine wpF_call 27 Try.func27 (by kernel_rfl) (by kernel_rfl) _ _ #[.slice A5 m5 c5, .agg #[.int .u64 (vF (y).A), .int .u64 (vF (y).B)]] rfl (by kernel_rfl) (by kernel_rfl) HS17.out (fun V19 hV => ?_)
  refine (polyEval_any A5 m5 c5 (addE xs ys) y _ (L5_18.out.keep hV)).mono ?_
  rw [evE_addE]
  rintro e W19 ⟨rfl, hb⟩
  have hb2 := ext_trans hV hb
  have L1_19 := Lib.hid (L1_17.out.keep hb2)
  clear L1_17
  have L2_19 := Lib.hid (L2_17.out.keep hb2)
  clear L2_17
  have L5_19 := Lib.hid (L5_18.out.keep hb2)
  clear L5_18
  have HB19 := Lib.hid (below_step HB17.out hb2)
  clear HB17
  have HS19 := Lib.hid (HS17.out.ext hb2)
  clear HS17
  refine ⟨_, rfl, hb, ?_⟩
  clear hb hb2 hV
  simp only [Act.put, List.setIfInBounds_toArray, List.set_cons_zero, List.set_cons_succ]
  clear L5_19
  refine wpF_seg 2 (by kernel_rfl) ?_
  simp only [List.take_succ_cons, List.take_zero, List.drop_succ_cons, List.drop_zero]
  repeat (go_big_quiet_step (fail))
  refine wpQuiet_nil ?_
  refine wpF_call 37 Try.func37 (by kernel_rfl) (by kernel_rfl) _ _ #[.agg #[.int .u64 (vF ((evE xs y)).A), .int .u64 (vF ((evE xs y)).B)], .agg #[.int .u64 (vF ((evE ys y)).A), .int .u64 (vF ((evE ys y)).B)]] rfl (by kernel_rfl) (by kernel_rfl) HS19.out (fun V20 hV => ?_)
  refine (rAdd_any (evE xs y) (evE ys y) _).mono ?_
  rintro e W20 ⟨rfl, hb⟩
  have hb2 := ext_trans hV hb
  have L1_20 := Lib.hid (L1_19.out.keep hb2)
  clear L1_19
  have L2_20 := Lib.hid (L2_19.out.keep hb2)
  clear L2_19
  have HB20 := Lib.hid (below_step HB19.out hb2)
  clear HB19
  have HS20 := Lib.hid (HS19.out.ext hb2)
  clear HS19
  refine ⟨_, rfl, hb, ?_⟩
  clear hb hb2 hV
  simp only [Act.put, List.setIfInBounds_toArray, List.set_cons_zero, List.set_cons_succ]
  have hq36 := run_eqE_same (((evE xs y) + (evE ys y)))
  refine wpF_seg 5 (by kernel_rfl) ?_
  simp only [List.take_succ_cons, List.take_zero, List.drop_succ_cons, List.drop_zero]
  repeat (go_big_quiet_step (fail))
  refine wpQuiet_nil ?_
  refine wpF_call 21 Try.func21 (by kernel_rfl) (by kernel_rfl) _ _ #[.slice A1 m1 c1, .slice A2 m2 c2] rfl (by kernel_rfl) (by kernel_rfl) HS20.out (fun V21 hV => ?_)
  refine (polySub_any A1 m1 c1 xs A2 m2 c2 ys _ (L1_20.out.keep hV) (L2_20.out.keep hV) (by omega) (by omega)).mono ?_
  rintro e W21 ⟨A8, m8, c8, rfl, hm8, hs, hb⟩
  have hb2 := ext_trans hV hb
  have L1_21 := Lib.hid (L1_20.out.keep hb2)
  clear L1_20
  have L2_21 := Lib.hid (L2_20.out.keep hb2)
  clear L2_20
  have HB21 := Lib.hid (below_step HB20.out hb2)
  clear HB20
  have HS21 := Lib.hid (HS20.out.ext hb2)
  clear HS20
  have L8_22 := Lib.hid hs
  clear hs
  refine ⟨_, rfl, hb, ?_⟩
  clear hb hb2 hV
  simp only [Act.put, List.setIfInBounds_toArray, List.set_cons_zero, List.set_cons_succ]
  refine wpF_seg 1 (by kernel_rfl) ?_
  simp only [List.take_succ_cons, List.take_zero, List.drop_succ_cons, List.drop_zero]
  repeat (go_big_quiet_step (fail))
  refine wpQuiet_nil ?_
  refine wpF_call 27 Try.func27 (by kernel_rfl) (by kernel_rfl) _ _ #[.slice A8 m8 c8, .agg #[.int .u64 (vF (y).A), .int .u64 (vF (y).B)]] rfl (by kernel_rfl) (by kernel_rfl) HS21.out (fun V23 hV => ?_)
  refine (polyEval_any A8 m8 c8 (subE xs ys) y _ (L8_22.out.keep hV)).mono ?_
  rw [evE_subE]
  rintro e W23 ⟨rfl, hb⟩
  have hb2 := ext_trans hV hb
  have L1_23 := Lib.hid (L1_21.out.keep hb2)
  clear L1_21
  have L2_23 := Lib.hid (L2_21.out.keep hb2)
  clear L2_21
  have L8_23 := Lib.hid (L8_22.out.keep hb2)
  clear L8_22
  have HB23 := Lib.hid (below_step HB21.out hb2)
  clear HB21
  have HS23 := Lib.hid (HS21.out.ext hb2)
  clear HS21
  refine ⟨_, rfl, hb, ?_⟩
  clear hb hb2 hV
  simp only [Act.put, List.setIfInBounds_toArray, List.set_cons_zero, List.set_cons_succ]
  clear L8_23
  refine wpF_seg 2 (by kernel_rfl) ?_
  simp only [List.take_succ_cons, List.take_zero, List.drop_succ_cons, List.drop_zero]
  repeat (go_big_quiet_step (fail))
  refine wpQuiet_nil ?_
  refine wpF_call 38 Try.func38 (by kernel_rfl) (by kernel_rfl) _ _ #[.agg #[.int .u64 (vF ((evE xs y)).A), .int .u64 (vF ((evE xs y)).B)], .agg #[.int .u64 (vF ((evE ys y)).A), .int .u64 (vF ((evE ys y)).B)]] rfl (by kernel_rfl) (by kernel_rfl) HS23.out (fun V24 hV => ?_)
  refine (rSub_any (evE xs y) (evE ys y) _).mono ?_
  rintro e W24 ⟨rfl, hb⟩
  have hb2 := ext_trans hV hb
  have L1_24 := Lib.hid (L1_23.out.keep hb2)
  clear L1_23
  have L2_24 := Lib.hid (L2_23.out.keep hb2)
  clear L2_23
  have HB24 := Lib.hid (below_step HB23.out hb2)
  clear HB23
  have HS24 := Lib.hid (HS23.out.ext hb2)
  clear HS23
  refine ⟨_, rfl, hb, ?_⟩
  clear hb hb2 hV
  simp only [Act.put, List.setIfInBounds_toArray, List.set_cons_zero, List.set_cons_succ]
  have hq47 := run_eqE_same (((evE xs y) - (evE ys y)))
  refine wpF_seg 5 (by kernel_rfl) ?_
  simp only [List.take_succ_cons, List.take_zero, List.drop_succ_cons, List.drop_zero]
  repeat (go_big_quiet_step (fail))
  refine wpQuiet_nil ?_
  refine wpF_call 23 Try.func23 (by kernel_rfl) (by kernel_rfl) _ _ #[.slice A1 m1 c1, .slice A2 m2 c2] rfl (by kernel_rfl) (by kernel_rfl) HS24.out (fun V25 hV => ?_)
  refine (polyMul_any A1 m1 c1 xs A2 m2 c2 ys _ (L1_24.out.keep hV) (L2_24.out.keep hV) (by omega) (by omega)).mono ?_
  rintro e W25 ⟨A11, m11, c11, rfl, hm11, hs, hb⟩
  have hb2 := ext_trans hV hb
  have L1_25 := Lib.hid (L1_24.out.keep hb2)
  clear L1_24
  have L2_25 := Lib.hid (L2_24.out.keep hb2)
  clear L2_24
  have HB25 := Lib.hid (below_step HB24.out hb2)
  clear HB24
  have HS25 := Lib.hid (HS24.out.ext hb2)
  clear HS24
  have L11_26 := Lib.hid hs
  clear hs
  refine ⟨_, rfl, hb, ?_⟩
  clear hb hb2 hV
  simp only [Act.put, List.setIfInBounds_toArray, List.set_cons_zero, List.set_cons_succ]
  clear L2_25
  refine wpF_seg 1 (by kernel_rfl) ?_
  simp only [List.take_succ_cons, List.take_zero, List.drop_succ_cons, List.drop_zero]
  repeat (go_big_quiet_step (fail))
  refine wpQuiet_nil ?_
  refine wpF_call 27 Try.func27 (by kernel_rfl) (by kernel_rfl) _ _ #[.slice A11 m11 c11, .agg #[.int .u64 (vF (y).A), .int .u64 (vF (y).B)]] rfl (by kernel_rfl) (by kernel_rfl) HS25.out (fun V27 hV => ?_)
  refine (polyEval_any A11 m11 c11 (mulE (trimE xs) (trimE ys)) y _ (L11_26.out.keep hV)).mono ?_
  rw [evE_mulE, evE_trimE, evE_trimE]
  rintro e W27 ⟨rfl, hb⟩
  have hb2 := ext_trans hV hb
  have L1_27 := Lib.hid (L1_25.out.keep hb2)
  clear L1_25
  have L11_27 := Lib.hid (L11_26.out.keep hb2)
  clear L11_26
  have HB27 := Lib.hid (below_step HB25.out hb2)
  clear HB25
  have HS27 := Lib.hid (HS25.out.ext hb2)
  clear HS25
  refine ⟨_, rfl, hb, ?_⟩
  clear hb hb2 hV
  simp only [Act.put, List.setIfInBounds_toArray, List.set_cons_zero, List.set_cons_succ]
  clear L11_27
  refine wpF_seg 2 (by kernel_rfl) ?_
  simp only [List.take_succ_cons, List.take_zero, List.drop_succ_cons, List.drop_zero]
  repeat (go_big_quiet_step (fail))
  refine wpQuiet_nil ?_
  refine wpF_call 39 Try.func39 (by kernel_rfl) (by kernel_rfl) _ _ #[.agg #[.int .u64 (vF ((evE xs y)).A), .int .u64 (vF ((evE xs y)).B)], .agg #[.int .u64 (vF ((evE ys y)).A), .int .u64 (vF ((evE ys y)).B)]] rfl (by kernel_rfl) (by kernel_rfl) HS27.out (fun V28 hV => ?_)
  refine (rMul_any (evE xs y) (evE ys y) _).mono ?_
  rintro e W28 ⟨rfl, hb⟩
  have hb2 := ext_trans hV hb
  have L1_28 := Lib.hid (L1_27.out.keep hb2)
  clear L1_27
  have HB28 := Lib.hid (below_step HB27.out hb2)
  clear HB27
  have HS28 := Lib.hid (HS27.out.ext hb2)
  clear HS27
  refine ⟨_, rfl, hb, ?_⟩
  clear hb hb2 hV
  simp only [Act.put, List.setIfInBounds_toArray, List.set_cons_zero, List.set_cons_succ]
  have hq58 := run_eqE_same (((evE xs y) * (evE ys y)))
  refine wpF_seg 5 (by kernel_rfl) ?_
  simp only [List.take_succ_cons, List.take_zero, List.drop_succ_cons, List.drop_zero]
  repeat (go_big_quiet_step (fail))
  refine wpQuiet_nil ?_
  refine wpF_call 25 Try.func25 (by kernel_rfl) (by kernel_rfl) _ _ #[.slice A1 m1 c1, .agg #[.int .u64 (vF (y).A), .int .u64 (vF (y).B)]] rfl (by kernel_rfl) (by kernel_rfl) HS28.out (fun V29 hV => ?_)
  refine (polyScale_any A1 m1 c1 xs y _ (L1_28.out.keep hV) (by omega)).mono ?_
  rintro e W29 ⟨A14, m14, c14, rfl, hm14, hs, hb⟩
  have hb2 := ext_trans hV hb
  have L1_29 := Lib.hid (L1_28.out.keep hb2)
  clear L1_28
  have HB29 := Lib.hid (below_step HB28.out hb2)
  clear HB28
  have HS29 := Lib.hid (HS28.out.ext hb2)
  clear HS28
  have L14_30 := Lib.hid hs
  clear hs
  refine ⟨_, rfl, hb, ?_⟩
  clear hb hb2 hV
  simp only [Act.put, List.setIfInBounds_toArray, List.set_cons_zero, List.set_cons_succ]
  clear L1_29
  refine wpF_seg 1 (by kernel_rfl) ?_
  simp only [List.take_succ_cons, List.take_zero, List.drop_succ_cons, List.drop_zero]
  repeat (go_big_quiet_step (fail))
  refine wpQuiet_nil ?_
  refine wpF_call 27 Try.func27 (by kernel_rfl) (by kernel_rfl) _ _ #[.slice A14 m14 c14, .agg #[.int .u64 (vF (y).A), .int .u64 (vF (y).B)]] rfl (by kernel_rfl) (by kernel_rfl) HS29.out (fun V31 hV => ?_)
  refine (polyEval_any A14 m14 c14 (scaleE xs y) y _ (L14_30.out.keep hV)).mono ?_
  rw [evE_scaleE, E2.mul_comm y]
  rintro e W31 ⟨rfl, hb⟩
  have hb2 := ext_trans hV hb
  have L14_31 := Lib.hid (L14_30.out.keep hb2)
  clear L14_30
  have HB31 := Lib.hid (below_step HB29.out hb2)
  clear HB29
  have HS31 := Lib.hid (HS29.out.ext hb2)
  clear HS29
  refine ⟨_, rfl, hb, ?_⟩
  clear hb hb2 hV
  simp only [Act.put, List.setIfInBounds_toArray, List.set_cons_zero, List.set_cons_succ]
  clear L14_31
  refine wpF_seg 2 (by kernel_rfl) ?_
  simp only [List.take_succ_cons, List.take_zero, List.drop_succ_cons, List.drop_zero]
  repeat (go_big_quiet_step (fail))
  refine wpQuiet_nil ?_
  refine wpF_call 39 Try.func39 (by kernel_rfl) (by kernel_rfl) _ _ #[.agg #[.int .u64 (vF ((evE xs y)).A), .int .u64 (vF ((evE xs y)).B)], .agg #[.int .u64 (vF (y).A), .int .u64 (vF (y).B)]] rfl (by kernel_rfl) (by kernel_rfl) HS31.out (fun V32 hV => ?_)
  refine (rMul_any (evE xs y) y _).mono ?_
  rintro e W32 ⟨rfl, hb⟩
  have hb2 := ext_trans hV hb
  have HB32 := Lib.hid (below_step HB31.out hb2)
  clear HB31
  have HS32 := Lib.hid (HS31.out.ext hb2)
  clear HS31
  refine ⟨_, rfl, hb, ?_⟩
  clear hb hb2 hV
  simp only [Act.put, List.setIfInBounds_toArray, List.set_cons_zero, List.set_cons_succ]
  have hq69 := run_eqE_same (((evE xs y) * y))
  refine wpF_seg 3 (by kernel_rfl) ?_
  simp only [List.take_succ_cons, List.take_zero, List.drop_succ_cons, List.drop_zero]
  repeat (go_big_quiet_step (fail))
  refine wpQuiet_nil ?_
  refine wpF_nil (fun V33 hb => ?_)
  have HB33 := Lib.hid (below_step HB32.out hb)
  clear HB32
  clear hb
  go_wp2_with fail
  go_ret
  exact ⟨rfl, HB33.out⟩

end Go.Proofs.Ytjimnoikkgheaaa
