/- Contract of a law of package poly; no conditions but the arguments' own. -/
import Derived.Test.YtjimnoikkgheaaaLawS
set_option linter.unusedVariables false
namespace Go.Proofs.Ytjimnoikkgheaaa
open Go.RowKit Gold
variable {ops : Array Oper} {w0 : World}

set_option maxHeartbeats 16000000 in
set_option maxRecDepth 100000 in
theorem polyMatchesReference_any (A0 : Option Addr) (na ca : Nat) (pa : List (Int × Int)) (B0 : Option Addr) (nb cb : Nat) (pb : List (Int × Int)) (x1 x2 : Int) (w : World) (ha : Sr w A0 na ca pa) (wa : Nums pa) (hb : Sr w B0 nb cb pb) (wb : Nums pb) (hx1 : U64 x1) (hx2 : U64 x2) :
    Calls Try.prog 3 #[.slice A0 na ca, .slice B0 nb cb, .agg #[.int .u64 x1, .int .u64 x2]] w fun e w' => e = .returned (.bool true) ∧ Below w.heap.size w w' := by
  have Pa0 := Lib.hid ha
  have Wa := Lib.hid wa
  clear ha wa
  have Pb0 := Lib.hid hb
  have Wb := Lib.hid wb
  clear hb wb
  go_enter Try.func3, Try.ntmps3
  go_wp2_with fail
  refine calls_named1 (fun V1 hbV g0 hzV => ?_)
  have X1q := Lib.hid (show Two V1 (w.heap.size) 25 (.int .u64 x1) (.int .u64 x2) from g0)
  have Pa1 := Lib.hid (Pa0.out.keep hbV)
  clear Pa0
  have Pb1 := Lib.hid (Pb0.out.keep hbV)
  clear Pb0
  have HB1 := Lib.hid hbV
  clear hbV hzV g0
  refine (sanity3_any _).mono ?_
  rintro e W2 ⟨rfl, hb⟩
  have Pa2 := Lib.hid (Pa1.out.keep hb)
  clear Pa1
  have Pb2 := Lib.hid (Pb1.out.keep hb)
  clear Pb1
  have X2 := Lib.hid (X1q.out.keep hb)
  clear X1q
  have HB2 := Lib.hid (below_step HB1.out hb)
  clear HB1
  clear hb
  go_wp2_with fail
  refine (rPMade_any A0 na ca pa 12 _ Pa2.out Wa.out (by omega)).mono ?_
  rintro e W3 ⟨A1, m1, c1, rfl, hm1, hs, ho, hb⟩
  have Pa3 := Lib.hid (Pa2.out.keep hb)
  clear Pa2
  have Pb3 := Lib.hid (Pb2.out.keep hb)
  clear Pb2
  have X3 := Lib.hid (X2.out.keep hb)
  clear X2
  have HB3 := Lib.hid (below_step HB2.out hb)
  clear HB2
  clear hb
  have L1_4 := Lib.hid hs
  clear hs
  clear ho
  clear Pa3
  go_wp2_with fail
  refine (rPMade_any B0 nb cb pb 12 _ Pb3.out Wb.out (by omega)).mono ?_
  rintro e W5 ⟨A2, m2, c2, rfl, hm2, hs, ho, hb⟩
  have Pb5 := Lib.hid (Pb3.out.keep hb)
  clear Pb3
  have X5 := Lib.hid (X3.out.keep hb)
  clear X3
  have L1_5 := Lib.hid (L1_4.out.keep hb)
  clear L1_4
  have HB5 := Lib.hid (below_step HB3.out hb)
  clear HB3
  clear hb
  have L2_6 := Lib.hid hs
  clear hs
  clear ho
  clear Pb5
  have tt := X5.out
  have c0 := tt.c0
  have c1 := tt.c1
  have c2 := tt.f0
  clear tt
  go_wp2_with fail
  clear c0 c1 c2
  refine (rMade_any x1 x2 _ hx1 hx2).mono ?_
  rintro e W8 ⟨rfl, hb⟩
  have X8 := Lib.hid (X5.out.keep hb)
  clear X5
  have L1_8 := Lib.hid (L1_5.out.keep hb)
  clear L1_5
  have L2_8 := Lib.hid (L2_6.out.keep hb)
  clear L2_6
  have HB8 := Lib.hid (below_step HB5.out hb)
  clear HB5
  clear hb
  generalize toE x1 x2 = y at *
  go_upto_region 5 with (fail)
  refine wp_named1 (fun V9 hbV g0 hzV => ?_)
  have Y9q := Lib.hid (show Two V9 (W8.heap.size) 25 (.int .u64 (vF (y).A)) (.int .u64 (vF (y).B)) from g0)
  have X9 := Lib.hid (X8.out.keep hbV)
  clear X8
  have L1_9 := Lib.hid (L1_8.out.keep hbV)
  clear L1_8
  have L2_9 := Lib.hid (L2_8.out.keep hbV)
  clear L2_8
  have HB9 := Lib.hid (below_step HB8.out hbV)
  clear HB8
  clear hbV hzV g0
  clear X9
  generalize ((pa.take 12).map madeE) = xs at *
  have hlxs : xs.length ≤ 12 := by have := L1_9.out.len; omega
  generalize ((pb.take 12).map madeE) = ys at *
  have hlys : ys.length ≤ 12 := by have := L2_9.out.len; omega
  have TY := Y9q.out
  have lY0 := Later.cell TY.c0
  have lY1 := Later.cell TY.c1
  clear Y9q
  try simp only [List.append_eq, List.cons_append, List.nil_append]
  refine wp_floatN (by kernel_rfl) (lexOK_of (by kernel_rfl) (by kernel_rfl)) (chainOF_of (by kernel_rfl)) (fun V10 hb hS => ?_)
  have L1_10 := Lib.hid (L1_9.out.keep hb)
  clear L1_9
  have L2_10 := Lib.hid (L2_9.out.keep hb)
  clear L2_9
  have HB10 := Lib.hid (below_step HB9.out hb)
  clear HB9
  clear hb
  have HS10' := Lib.hid hS
  clear hS
  refine wpF_seg 3 (by kernel_rfl) ?_
  simp only [List.take_succ_cons, List.take_zero, List.drop_succ_cons, List.drop_zero]
  repeat (go_big_quiet_step (fail))
  refine wpQuiet_nil ?_
  refine wpF_call 15 Try.func15 (by kernel_rfl) (by kernel_rfl) _ _ #[.slice A1 m1 c1] rfl (by kernel_rfl) (by kernel_rfl) HS10'.out (fun V11 hV => ?_)
  refine (polyTrim_any A1 m1 c1 xs _ (L1_10.out.keep hV) (by omega)).mono ?_
  rintro e W11 ⟨A3, m3, c3, rfl, hm3, hs, hb⟩
  have hb2 := ext_trans hV hb
  have L1_11 := Lib.hid (L1_10.out.keep hb2)
  clear L1_10
  have L2_11 := Lib.hid (L2_10.out.keep hb2)
  clear L2_10
  have HB11 := Lib.hid (below_step HB10.out hb2)
  clear HB10
  have HS11 := Lib.hid (HS10'.out.ext hb2)
  clear HS10'
  have L3_12 := Lib.hid hs
  clear hs
  refine ⟨_, rfl, hb, ?_⟩
  clear hb hb2 hV
  simp only [Act.put, List.setIfInBounds_toArray, List.set_cons_zero, List.set_cons_succ]
  refine wpF_seg 1 (by kernel_rfl) ?_
  simp only [List.take_succ_cons, List.take_zero, List.drop_succ_cons, List.drop_zero]
  repeat (go_big_quiet_step (fail))
  refine wpQuiet_nil ?_
  refine wpF_call 16 Try.func16 (by kernel_rfl) (by kernel_rfl) _ _ #[.slice A1 m1 c1] rfl (by kernel_rfl) (by kernel_rfl) HS11.out (fun V13 hV => ?_)
  refine (rTrim_any A1 m1 c1 xs _ (L1_11.out.keep hV) (by omega)).mono ?_
  rintro e W13 ⟨A4, m4, c4, rfl, hm4, hs, hb⟩
  have hb2 := ext_trans hV hb
  have L1_13 := Lib.hid (L1_11.out.keep hb2)
  clear L1_11
  have L2_13 := Lib.hid (L2_11.out.keep hb2)
  clear L2_11
  have L3_13 := Lib.hid (L3_12.out.keep hb2)
  clear L3_12
  have HB13 := Lib.hid (below_step HB11.out hb2)
  clear HB11
  have HS13 := Lib.hid (HS11.out.ext hb2)
  clear HS11
  have L4_14 := Lib.hid hs
  clear hs
  refine ⟨_, rfl, hb, ?_⟩
  clear hb hb2 hV
  simp only [Act.put, List.setIfInBounds_toArray, List.set_cons_zero, List.set_cons_succ]
  refine wpF_call 14 Try.func14 (by kernel_rfl) (by kernel_rfl) _ _ #[.slice A3 m3 c3, .slice A4 m4 c4] rfl (by kernel_rfl) (by kernel_rfl) HS13.out (fun V15 hV => ?_)
  refine (same_yes A3 m3 c3 A4 m4 c4 (trimE xs) _ (L3_13.out.keep hV) (L4_14.out.keep hV)).mono ?_
  rintro e W15 ⟨rfl, hb⟩
  have hb2 := ext_trans hV hb
  have L1_15 := Lib.hid (L1_13.out.keep hb2)
  clear L1_13
  have L2_15 := Lib.hid (L2_13.out.keep hb2)
  clear L2_13
  have L3_15 := Lib.hid (L3_13.out.keep hb2)
  clear L3_13
  have L4_15 := Lib.hid (L4_14.out.keep hb2)
  clear L4_14
  have HB15 := Lib.hid (below_step HB13.out hb2)
  clear HB13
  have HS15 := Lib.hid (HS13.out.ext hb2)
  clear HS13
  refine ⟨_, rfl, hb, ?_⟩
  clear hb hb2 hV
  simp only [Act.put, List.setIfInBounds_toArray, List.set_cons_zero, List.set_cons_succ]
  clear L3_15
  clear L4_15
  refine wpF_seg 3 (by kernel_rfl) ?_
  simp only [List.take_succ_cons, List.take_zero, List.drop_succ_cons, List.drop_zero]
  repeat (go_big_quiet_step (fail))
  refine wpQuiet_nil ?_
  refine wpF_call 17 Try.func17 (by kernel_rfl) (by kernel_rfl) _ _ #[.slice A1 m1 c1] rfl (by kernel_rfl) (by kernel_rfl) HS15.out (fun V16 hV => ?_)
  refine (degree_any A1 m1 c1 xs _ (L1_15.out.keep hV)).mono ?_
  rintro e W16 ⟨rfl, hb⟩
  have hb2 := ext_trans hV hb
  have L1_16 := Lib.hid (L1_15.out.keep hb2)
  clear L1_15
  have L2_16 := Lib.hid (L2_15.out.keep hb2)
  clear L2_15
  have HB16 := Lib.hid (below_step HB15.out hb2)
  clear HB15
  have HS16 := Lib.hid (HS15.out.ext hb2)
  clear HS15
  refine ⟨_, rfl, hb, ?_⟩
  clear hb hb2 hV
  simp only [Act.put, List.setIfInBounds_toArray, List.set_cons_zero, List.set_cons_succ]
  refine wpF_seg 1 (by kernel_rfl) ?_
  simp only [List.take_succ_cons, List.take_zero, List.drop_succ_cons, List.drop_zero]
  repeat (go_big_quiet_step (fail))
  refine wpQuiet_nil ?_
  refine wpF_call 18 Try.func18 (by kernel_rfl) (by kernel_rfl) _ _ #[.slice A1 m1 c1] rfl (by kernel_rfl) (by kernel_rfl) HS16.out (fun V17 hV => ?_)
  refine (rDegree_any A1 m1 c1 xs _ (L1_16.out.keep hV) (by omega)).mono ?_
  rintro e W17 ⟨rfl, hb⟩
  have hb2 := ext_trans hV hb
  have L1_17 := Lib.hid (L1_16.out.keep hb2)
  clear L1_16
  have L2_17 := Lib.hid (L2_16.out.keep hb2)
  clear L2_16
  have HB17 := Lib.hid (below_step HB16.out hb2)
  clear HB16
  have HS17 := Lib.hid (HS16.out.ext hb2)
  clear HS16
  refine ⟨_, rfl, hb, ?_⟩
  clear hb hb2 hV
  simp only [Act.put, List.setIfInBounds_toArray, List.set_cons_zero, List.set_cons_succ]
  refine wpF_seg 5 (by kernel_rfl) ?_
  simp only [List.take_succ_cons, List.take_zero, List.drop_succ_cons, List.drop_zero]
  repeat (go_big_quiet_step (fail))
  refine wpQuiet_nil ?_
  refine wpF_call 19 Try.func19 (by kernel_rfl) (by kernel_rfl) _ _ #[.slice A1 m1 c1, .slice A2 m2 c2] rfl (by kernel_rfl) (by kernel_rfl) HS17.out (fun V18 hV => ?_)
  refine (polyAdd_any A1 m1 c1 xs A2 m2 c2 ys _ (L1_17.out.keep hV) (L2_17.out.keep hV) (by omega) (by omega)).mono ?_
  rintro e W18 ⟨A8, m8, c8, rfl, hm8, hs, hb⟩
  have hb2 := ext_trans hV hb
  have L1_18 := Lib.hid (L1_17.out.keep hb2)
  clear L1_17
  have L2_18 := Lib.hid (L2_17.out.keep hb2)
  clear L2_17
  have HB18 := Lib.hid (below_step HB17.out hb2)
  clear HB17
  have HS18 := Lib.hid (HS17.out.ext hb2)
  clear HS17
  have L8_19 := Lib.hid hs
  clear hs
  refine ⟨_, rfl, hb, ?_⟩
  clear hb hb2 hV
  simp only [Act.put, List.setIfInBounds_toArray, List.set_cons_zero, List.set_cons_succ]
  refine wpF_seg 2 (by kernel_rfl) ?_
  simp only [List.take_succ_cons, List.take_zero, List.drop_succ_cons, List.drop_zero]
  repeat (go_big_quiet_step (fail))
  refine wpQuiet_nil ?_
  refine wpF_call 20 Try.func20 (by kernel_rfl) (by kernel_rfl) _ _ #[.slice A1 m1 c1, .slice A2 m2 c2] rfl (by kernel_rfl) (by kernel_rfl) HS18.out (fun V20 hV => ?_)
  refine (rPAdd_any A1 m1 c1 xs A2 m2 c2 ys _ (L1_18.out.keep hV) (L2_18.out.keep hV) (by omega) (by omega)).mono ?_
  rintro e W20 ⟨A9, m9, c9, rfl, hm9, hs, hb⟩
  have hb2 := ext_trans hV hb
  have L1_20 := Lib.hid (L1_18.out.keep hb2)
  clear L1_18
  have L2_20 := Lib.hid (L2_18.out.keep hb2)
  clear L2_18
  have L8_20 := Lib.hid (L8_19.out.keep hb2)
  clear L8_19
  have HB20 := Lib.hid (below_step HB18.out hb2)
  clear HB18
  have HS20 := Lib.hid (HS18.out.ext hb2)
  clear HS18
  have L9_21 := Lib.hid hs
  clear hs
  refine ⟨_, rfl, hb, ?_⟩
  clear hb hb2 hV
  simp only [Act.put, List.setIfInBounds_toArray, List.set_cons_zero, List.set_cons_succ]
  refine wpF_call 14 Try.func14 (by kernel_rfl) (by kernel_rfl) _ _ #[.slice A8 m8 c8, .slice A9 m9 c9] rfl (by kernel_rfl) (by kernel_rfl) HS20.out (fun V22 hV => ?_)
  refine (same_yes A8 m8 c8 A9 m9 c9 (addE xs ys) _ (L8_20.out.keep hV) (L9_21.out.keep hV)).mono ?_
  rintro e W22 ⟨rfl, hb⟩
  have hb2 := ext_trans hV hb
  have L1_22 := Lib.hid (L1_20.out.keep hb2)
  clear L1_20
  have L2_22 := Lib.hid (L2_20.out.keep hb2)
  clear L2_20
  have L8_22 := Lib.hid (L8_20.out.keep hb2)
  clear L8_20
  have L9_22 := Lib.hid (L9_21.out.keep hb2)
  clear L9_21
  have HB22 := Lib.hid (below_step HB20.out hb2)
  clear HB20
  have HS22 := Lib.hid (HS20.out.ext hb2)
  clear HS20
  refine ⟨_, rfl, hb, ?_⟩
  clear hb hb2 hV
  simp only [Act.put, List.setIfInBounds_toArray, List.set_cons_zero, List.set_cons_succ]
  clear L8_22
  clear L9_22
  refine wpF_seg 4 (by kernel_rfl) ?_
  simp only [List.take_succ_cons, List.take_zero, List.drop_succ_cons, List.drop_zero]
  repeat (go_big_quiet_step (fail))
  refine wpQuiet_nil ?_
  refine wpF_call 21 Try.func21 (by kernel_rfl) (by kernel_rfl) _ _ #[.slice A1 m1 c1, .slice A2 m2 c2] rfl (by kernel_rfl) (by kernel_rfl) HS22.out (fun V23 hV => ?_)
  refine (polySub_any A1 m1 c1 xs A2 m2 c2 ys _ (L1_22.out.keep hV) (L2_22.out.keep hV) (by omega) (by omega)).mono ?_
  rintro e W23 ⟨A11, m11, c11, rfl, hm11, hs, hb⟩
  have hb2 := ext_trans hV hb
  have L1_23 := Lib.hid (L1_22.out.keep hb2)
  clear L1_22
  have L2_23 := Lib.hid (L2_22.out.keep hb2)
  clear L2_22
  have HB23 := Lib.hid (below_step HB22.out hb2)
  clear HB22
  have HS23 := Lib.hid (HS22.out.ext hb2)
  clear HS22
  have L11_24 := Lib.hid hs
  clear hs
  refine ⟨_, rfl, hb, ?_⟩
  clear hb hb2 hV
  simp only [Act.put, List.setIfInBounds_toArray, List.set_cons_zero, List.set_cons_succ]
  refine wpF_seg 2 (by kernel_rfl) ?_
  simp only [List.take_succ_cons, List.take_zero, List.drop_succ_cons, List.drop_zero]
  repeat (go_big_quiet_step (fail))
  refine wpQuiet_nil ?_
  refine wpF_call 22 Try.func22 (by kernel_rfl) (by kernel_rfl) _ _ #[.slice A1 m1 c1, .slice A2 m2 c2] rfl (by kernel_rfl) (by kernel_rfl) HS23.out (fun V25 hV => ?_)
  refine (rPSub_any A1 m1 c1 xs A2 m2 c2 ys _ (L1_23.out.keep hV) (L2_23.out.keep hV) (by omega) (by omega)).mono ?_
  rintro e W25 ⟨A12, m12, c12, rfl, hm12, hs, hb⟩
  have hb2 := ext_trans hV hb
  have L1_25 := Lib.hid (L1_23.out.keep hb2)
  clear L1_23
  have L2_25 := Lib.hid (L2_23.out.keep hb2)
  clear L2_23
  have L11_25 := Lib.hid (L11_24.out.keep hb2)
  clear L11_24
  have HB25 := Lib.hid (below_step HB23.out hb2)
  clear HB23
  have HS25 := Lib.hid (HS23.out.ext hb2)
  clear HS23
  have L12_26 := Lib.hid hs
  clear hs
  refine ⟨_, rfl, hb, ?_⟩
  clear hb hb2 hV
  simp only [Act.put, List.setIfInBounds_toArray, List.set_cons_zero, List.set_cons_succ]
  refine wpF_call 14 Try.func14 (by kernel_rfl) (by kernel_rfl) _ _ #[.slice A11 m11 c11, .slice A12 m12 c12] rfl (by kernel_rfl) (by kernel_rfl) HS25.out (fun V27 hV => ?_)
  refine (same_yes A11 m11 c11 A12 m12 c12 (subE xs ys) _ (L11_25.out.keep hV) (L12_26.out.keep hV)).mono ?_
  rintro e W27 ⟨rfl, hb⟩
  have hb2 := ext_trans hV hb
  have L1_27 := Lib.hid (L1_25.out.keep hb2)
  clear L1_25
  have L2_27 := Lib.hid (L2_25.out.keep hb2)
  clear L2_25
  have L11_27 := Lib.hid (L11_25.out.keep hb2)
  clear L11_25
  have L12_27 := Lib.hid (L12_26.out.keep hb2)
  clear L12_26
  have HB27 := Lib.hid (below_step HB25.out hb2)
  clear HB25
  have HS27 := Lib.hid (HS25.out.ext hb2)
  clear HS25
  refine ⟨_, rfl, hb, ?_⟩
  clear hb hb2 hV
  simp only [Act.put, List.setIfInBounds_toArray, List.set_cons_zero, List.set_cons_succ]
  clear L11_27
  clear L12_27
  refine wpF_seg 4 (by kernel_rfl) ?_
  simp only [List.take_succ_cons, List.take_zero, List.drop_succ_cons, List.drop_zero]
  repeat (go_big_quiet_step (fail))
  refine wpQuiet_nil ?_
  refine wpF_call 23 Try.func23 (by kernel_rfl) (by kernel_rfl) _ _ #[.slice A1 m1 c1, .slice A2 m2 c2] rfl (by kernel_rfl) (by kernel_rfl) HS27.out (fun V28 hV => ?_)
  refine (polyMul_any A1 m1 c1 xs A2 m2 c2 ys _ (L1_27.out.keep hV) (L2_27.out.keep hV) (by omega) (by omega)).mono ?_
  rintro e W28 ⟨A14, m14, c14, rfl, hm14, hs, hb⟩
  have hb2 := ext_trans hV hb
  have L1_28 := Lib.hid (L1_27.out.keep hb2)
  clear L1_27
  have L2_28 := Lib.hid (L2_27.out.keep hb2)
  clear L2_27
  have HB28 := Lib.hid (below_step HB27.out hb2)
  clear HB27
  have HS28 := Lib.hid (HS27.out.ext hb2)
  clear HS27
  have L14_29 := Lib.hid hs
  clear hs
  refine ⟨_, rfl, hb, ?_⟩
  clear hb hb2 hV
  simp only [Act.put, List.setIfInBounds_toArray, List.set_cons_zero, List.set_cons_succ]
  refine wpF_seg 2 (by kernel_rfl) ?_
  simp only [List.take_succ_cons, List.take_zero, List.drop_succ_cons, List.drop_zero]
  repeat (go_big_quiet_step (fail))
  refine wpQuiet_nil ?_
  refine wpF_call 24 Try.func24 (by kernel_rfl) (by kernel_rfl) _ _ #[.slice A1 m1 c1, .slice A2 m2 c2] rfl (by kernel_rfl) (by kernel_rfl) HS28.out (fun V30 hV => ?_)
  refine (rPMul_any A1 m1 c1 xs A2 m2 c2 ys _ (L1_28.out.keep hV) (L2_28.out.keep hV) (by omega) (by omega)).mono ?_
  rintro e W30 ⟨A15, m15, c15, rfl, hm15, hs, hb⟩
  have hb2 := ext_trans hV hb
  have L1_30 := Lib.hid (L1_28.out.keep hb2)
  clear L1_28
  have L2_30 := Lib.hid (L2_28.out.keep hb2)
  clear L2_28
  have L14_30 := Lib.hid (L14_29.out.keep hb2)
  clear L14_29
  have HB30 := Lib.hid (below_step HB28.out hb2)
  clear HB28
  have HS30 := Lib.hid (HS28.out.ext hb2)
  clear HS28
  have L15_31 := Lib.hid hs
  clear hs
  refine ⟨_, rfl, hb, ?_⟩
  clear hb hb2 hV
  simp only [Act.put, List.setIfInBounds_toArray, List.set_cons_zero, List.set_cons_succ]
  clear L2_30
  refine wpF_call 14 Try.func14 (by kernel_rfl) (by kernel_rfl) _ _ #[.slice A14 m14 c14, .slice A15 m15 c15] rfl (by kernel_rfl) (by kernel_rfl) HS30.out (fun V32 hV => ?_)
  refine (same_yes A14 m14 c14 A15 m15 c15 (mulE xs ys) _ ((L14_30.out.keep hV).cast (mulE_trims xs ys (by omega))) (L15_31.out.keep hV)).mono ?_
  rintro e W32 ⟨rfl, hb⟩
  have hb2 := ext_trans hV hb
  have L1_32 := Lib.hid (L1_30.out.keep hb2)
  clear L1_30
  have L14_32 := Lib.hid (L14_30.out.keep hb2)
  clear L14_30
  have L15_32 := Lib.hid (L15_31.out.keep hb2)
  clear L15_31
  have HB32 := Lib.hid (below_step HB30.out hb2)
  clear HB30
  have HS32 := Lib.hid (HS30.out.ext hb2)
  clear HS30
  refine ⟨_, rfl, hb, ?_⟩
  clear hb hb2 hV
  simp only [Act.put, List.setIfInBounds_toArray, List.set_cons_zero, List.set_cons_succ]
  clear L14_32
  clear L15_32
  refine wpF_seg 4 (by kernel_rfl) ?_
  simp only [List.take_succ_cons, List.take_zero, List.drop_succ_cons, List.drop_zero]
  repeat (go_big_quiet_step (fail))
  refine wpQuiet_nil ?_
  refine wpF_call 25 Try.func25 (by kernel_rfl) (by kernel_rfl) _ _ #[.slice A1 m1 c1, .agg #[.int .u64 (vF (y).A), .int .u64 (vF (y).B)]] rfl (by kernel_rfl) (by kernel_rfl) HS32.out (fun V33 hV => ?_)
  refine (polyScale_any A1 m1 c1 xs y _ (L1_32.out.keep hV) (by omega)).mono ?_
  rintro e W33 ⟨A17, m17, c17, rfl, hm17, hs, hb⟩
  have hb2 := ext_trans hV hb
  have L1_33 := Lib.hid (L1_32.out.keep hb2)
  clear L1_32
  have HB33 := Lib.hid (below_step HB32.out hb2)
  clear HB32
  have HS33 := Lib.hid (HS32.out.ext hb2)
  clear HS32
  have L17_34 := Lib.hid hs
  clear hs
  refine ⟨_, rfl, hb, ?_⟩
  clear hb hb2 hV
  simp only [Act.put, List.setIfInBounds_toArray, List.set_cons_zero, List.set_cons_succ]
  refine wpF_seg 2 (by kernel_rfl) ?_
  simp only [List.take_succ_cons, List.take_zero, List.drop_succ_cons, List.drop_zero]
  repeat (go_big_quiet_step (fail))
  refine wpQuiet_nil ?_
  refine wpF_call 26 Try.func26 (by kernel_rfl) (by kernel_rfl) _ _ #[.slice A1 m1 c1, .agg #[.int .u64 (vF (y).A), .int .u64 (vF (y).B)]] rfl (by kernel_rfl) (by kernel_rfl) HS33.out (fun V35 hV => ?_)
  refine (rPScale_any A1 m1 c1 xs y _ (L1_33.out.keep hV) (by omega)).mono ?_
  rintro e W35 ⟨A18, m18, c18, rfl, hm18, hs, hb⟩
  have hb2 := ext_trans hV hb
  have L1_35 := Lib.hid (L1_33.out.keep hb2)
  clear L1_33
  have L17_35 := Lib.hid (L17_34.out.keep hb2)
  clear L17_34
  have HB35 := Lib.hid (below_step HB33.out hb2)
  clear HB33
  have HS35 := Lib.hid (HS33.out.ext hb2)
  clear HS33
  have L18_36 := Lib.hid hs
  clear hs
  refine ⟨_, rfl, hb, ?_⟩
  clear hb hb2 hV
  simp only [Act.put, List.setIfInBounds_toArray, List.set_cons_zero, List.set_cons_succ]
  refine wpF_call 14 Try.func14 (by kernel_rfl) (by kernel_rfl) _ _ #[.slice A17 m17 c17, .slice A18 m18 c18] rfl (by kernel_rfl) (by kernel_rfl) HS35.out (fun V37 hV => ?_)
  refine (same_yes A17 m17 c17 A18 m18 c18 (scaleE xs y) _ (L17_35.out.keep hV) (L18_36.out.keep hV)).mono ?_
  rintro e W37 ⟨rfl, hb⟩
  have hb2 := ext_trans hV hb
  have L1_37 := Lib.hid (L1_35.out.keep hb2)
  clear L1_35
  have L17_37 := Lib.hid (L17_35.out.keep hb2)
  clear L17_35
  have L18_37 := Lib.hid (L18_36.out.keep hb2)
  clear L18_36
  have HB37 := Lib.hid (below_step HB35.out hb2)
  clear HB35
  have HS37 := Lib.hid (HS35.out.ext hb2)
  clear HS35
  refine ⟨_, rfl, hb, ?_⟩
  clear hb hb2 hV
  simp only [Act.put, List.setIfInBounds_toArray, List.set_cons_zero, List.set_cons_succ]
  clear L17_37
  clear L18_37
  refine wpF_seg 4 (by kernel_rfl) ?_
  simp only [List.take_succ_cons, List.take_zero, List.drop_succ_cons, List.drop_zero]
  repeat (go_big_quiet_step (fail))
  refine wpQuiet_nil ?_
  refine wpF_call 27 Try.func27 (by kernel_rfl) (by kernel_rfl) _ _ #[.slice A1 m1 c1, .agg #[.int .u64 (vF (y).A), .int .u64 (vF (y).B)]] rfl (by kernel_rfl) (by kernel_rfl) HS37.out (fun V38 hV => ?_)
  refine (polyEval_any A1 m1 c1 xs y _ (L1_37.out.keep hV)).mono ?_
  rintro e W38 ⟨rfl, hb⟩
  have hb2 := ext_trans hV hb
  have L1_38 := Lib.hid (L1_37.out.keep hb2)
  clear L1_37
  have HB38 := Lib.hid (below_step HB37.out hb2)
  clear HB37
  have HS38 := Lib.hid (HS37.out.ext hb2)
  clear HS37
  refine ⟨_, rfl, hb, ?_⟩
  clear hb hb2 hV
  simp only [Act.put, List.setIfInBounds_toArray, List.set_cons_zero, List.set_cons_succ]
  refine wpF_seg 2 (by kernel_rfl) ?_
  simp only [List.take_succ_cons, List.take_zero, List.drop_succ_cons, List.drop_zero]
  repeat (go_big_quiet_step (fail))
  refine wpQuiet_nil ?_
  refine wpF_call 28 Try.func28 (by kernel_rfl) (by kernel_rfl) _ _ #[.slice A1 m1 c1, .agg #[.int .u64 (vF (y).A), .int .u64 (vF (y).B)]] rfl (by kernel_rfl) (by kernel_rfl) HS38.out (fun V39 hV => ?_)
  refine (rPEval_any A1 m1 c1 xs y _ (L1_38.out.keep hV)).mono ?_
  rintro e W39 ⟨rfl, hb⟩
  have hb2 := ext_trans hV hb
  have L1_39 := Lib.hid (L1_38.out.keep hb2)
  clear L1_38
  have HB39 := Lib.hid (below_step HB38.out hb2)
  clear HB38
  have HS39 := Lib.hid (HS38.out.ext hb2)
  clear HS38
  refine ⟨_, rfl, hb, ?_⟩
  clear hb hb2 hV
  simp only [Act.put, List.setIfInBounds_toArray, List.set_cons_zero, List.set_cons_succ]
  clear L1_39
  have hq76 := run_eqE_same ((evE xs y))
  refine wpF_seg 3 (by kernel_rfl) ?_
  simp only [List.take_succ_cons, List.take_zero, List.drop_succ_cons, List.drop_zero]
  repeat (go_big_quiet_step (fail))
  refine wpQuiet_nil ?_
  refine wpF_nil (fun V40 hb => ?_)
  have HB40 := Lib.hid (below_step HB39.out hb)
  clear HB39
  clear hb
  go_wp2_with fail
  go_ret
  exact ⟨rfl, HB40.out⟩

end Go.Proofs.Ytjimnoikkgheaaa
