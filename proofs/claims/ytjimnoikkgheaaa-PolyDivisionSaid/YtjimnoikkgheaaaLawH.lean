/- Contract of a law of package poly; no conditions but the arguments' own. -/
import Derived.Test.YtjimnoikkgheaaaLawS
import Derived.Test.YtjimnoikkgheaaaLawM
import Derived.Test.YtjimnoikkgheaaaZst
set_option linter.unusedVariables false
namespace Go.Proofs.Ytjimnoikkgheaaa
open Go.RowKit Gold
variable {ops : Array Oper} {w0 : World}

set_option maxHeartbeats 16000000 in
set_option maxRecDepth 100000 in
theorem polyDivision_any (A0 : Option Addr) (na ca : Nat) (pa : List (Int × Int)) (x1 x2 : Int) (w : World) (ha : Sr w A0 na ca pa) (wa : Nums pa) (hx1 : U64 x1) (hx2 : U64 x2) :
    Calls Try.prog 8 #[.slice A0 na ca, .agg #[.int .u64 x1, .int .u64 x2]] w fun e w' => e = .returned (.bool true) ∧ Below w.heap.size w w' := by
  have Pa0 := Lib.hid ha
  have Wa := Lib.hid wa
  clear ha wa
  go_enter Try.func8, Try.ntmps8
  go_wp2_with fail
  refine calls_named1 (fun V1 hbV g0 hzV => ?_)
  have X1q := Lib.hid (show Two V1 (w.heap.size) 25 (.int .u64 x1) (.int .u64 x2) from g0)
  have Pa1 := Lib.hid (Pa0.out.keep hbV)
  clear Pa0
  have HB1 := Lib.hid hbV
  clear hbV hzV g0
  refine (sanity3_any _).mono ?_
  rintro e W2 ⟨rfl, hb⟩
  have Pa2 := Lib.hid (Pa1.out.keep hb)
  clear Pa1
  have X2 := Lib.hid (X1q.out.keep hb)
  clear X1q
  have HB2 := Lib.hid (below_step HB1.out hb)
  clear HB1
  clear hb
  go_wp2_with fail
  refine (rPMade_any A0 na ca pa 20 _ Pa2.out Wa.out (by omega)).mono ?_
  rintro e W3 ⟨A1, m1, c1, rfl, hm1, hs, ho, hb⟩
  have Pa3 := Lib.hid (Pa2.out.keep hb)
  clear Pa2
  have X3 := Lib.hid (X2.out.keep hb)
  clear X2
  have HB3 := Lib.hid (below_step HB2.out hb)
  clear HB2
  clear hb
  have L1_4 := Lib.hid hs
  clear hs
  clear ho
  clear Pa3
  have tt := X3.out
  have c0 := tt.c0
  have c1 := tt.c1
  have c2 := tt.f0
  clear tt
  go_wp2_with fail
  clear c0 c1 c2
  refine (rMade_any x1 x2 _ hx1 hx2).mono ?_
  rintro e W6 ⟨rfl, hb⟩
  have X6 := Lib.hid (X3.out.keep hb)
  clear X3
  have L1_6 := Lib.hid (L1_4.out.keep hb)
  clear L1_4
  have HB6 := Lib.hid (below_step HB3.out hb)
  clear HB3
  clear hb
  generalize toE x1 x2 = y at *
  go_upto_region 4 with (fail)
  refine wp_named1 (fun V7 hbV g0 hzV => ?_)
  have Y7q := Lib.hid (show Two V7 (W6.heap.size) 25 (.int .u64 (vF (y).A)) (.int .u64 (vF (y).B)) from g0)
  have X7 := Lib.hid (X6.out.keep hbV)
  clear X6
  have L1_7 := Lib.hid (L1_6.out.keep hbV)
  clear L1_6
  have HB7 := Lib.hid (below_step HB6.out hbV)
  clear HB6
  clear hbV hzV g0
  clear X7
  generalize ((pa.take 20).map madeE) = xs at *
  have hlxs : xs.length ≤ 20 := by have := L1_7.out.len; omega
  have tt := Y7q.out
  have c0 := tt.c0
  have c1 := tt.c1
  have c2 := tt.f0
  clear tt
  go_wp2_with fail
  clear c0 c1 c2
  refine (rNeg_any y _).mono ?_
  rintro e W9 ⟨rfl, hb⟩
  have L1_9 := Lib.hid (L1_7.out.keep hb)
  clear L1_7
  have Y9 := Lib.hid (Y7q.out.keep hb)
  clear Y7q
  have HB9 := Lib.hid (below_step HB7.out hb)
  clear HB7
  clear hb
  go_wp2_with fail
  refine (rFromNd_any 1 _ (by omega) (by omega)).mono ?_
  rintro e W10 ⟨rfl, hb⟩
  have L1_10 := Lib.hid (L1_9.out.keep hb)
  clear L1_9
  have Y10 := Lib.hid (Y9.out.keep hb)
  clear Y9
  have HB10 := Lib.hid (below_step HB9.out hb)
  clear HB9
  clear hb
  go_upto_region 5 with (fail)
  refine wp_named1 (fun V11 hbV g0 hzV => ?_)
  have hq := Row.slc (w := V11) (g := W10.heap.size) (xs := [-y, ndZ 1]) (n := 2) (c := 2) g0 rfl (by omega) (by omega)
  have L1_11 := Lib.hid (L1_10.out.keep hbV)
  clear L1_10
  have Y11 := Lib.hid (Y10.out.keep hbV)
  clear Y10
  have HB11 := Lib.hid (below_step HB10.out hbV)
  clear HB10
  clear hbV hzV g0
  have Q12 := Lib.hid hq
  clear hq
  have tt := Y11.out
  have c0 := tt.c0
  have c1 := tt.c1
  have c2 := tt.f0
  clear tt
  go_wp2_with fail
  clear c0 c1 c2
  refine (polyDivRoot_any A1 m1 c1 xs y _ L1_11.out (by omega)).mono ?_
  rintro e W14 ⟨A2, m2, c2, rfl, hm2, hs, hb⟩
  have L1_14 := Lib.hid (L1_11.out.keep hb)
  clear L1_11
  have Y14 := Lib.hid (Y11.out.keep hb)
  clear Y11
  have Q14 := Lib.hid (Q12.out.keep hb)
  clear Q12
  have HB14 := Lib.hid (below_step HB11.out hb)
  clear HB11
  clear hb
  have L2_15 := Lib.hid hs
  clear hs
  go_upto_region 6 with (fail)
  refine wp_named1 (fun V16 hbV g0 hzV => ?_)
  have T16q := Lib.hid (show Two V16 (W14.heap.size) 25 (.int .u64 (vF (evE xs y).A)) (.int .u64 (vF (evE xs y).B)) from g0)
  have L1_16 := Lib.hid (L1_14.out.keep hbV)
  clear L1_14
  have Y16 := Lib.hid (Y14.out.keep hbV)
  clear Y14
  have Q16 := Lib.hid (Q14.out.keep hbV)
  clear Q14
  have L2_16 := Lib.hid (L2_15.out.keep hbV)
  clear L2_15
  have HB16 := Lib.hid (below_step HB14.out hbV)
  clear HB14
  clear hbV hzV g0
  have TT := T16q.out
  have lT0 := Later.cell TT.c0
  have lT1 := Later.cell TT.c1
  try simp only [List.append_eq, List.cons_append, List.nil_append]
  refine wp_floatN (by kernel_rfl) (lexOK_of (by kernel_rfl) (by kernel_rfl)) (chainOF_of (by kernel_rfl)) (fun V17 hb hS => ?_)
  have L1_17 := Lib.hid (L1_16.out.keep hb)
  clear L1_16
  have Y17 := Lib.hid (Y16.out.keep hb)
  clear Y16
  have Q17 := Lib.hid (Q16.out.keep hb)
  clear Q16
  have L2_17 := Lib.hid (L2_16.out.keep hb)
  clear L2_16
  have T17 := Lib.hid (T16q.out.keep hb)
  clear T16q
  have HB17 := Lib.hid (below_step HB16.out hb)
  clear HB16
  clear hb
  have HS17' := Lib.hid hS
  clear hS
  refine wpF_seg 2 (by kernel_rfl) ?_
  simp only [List.take_succ_cons, List.take_zero, List.drop_succ_cons, List.drop_zero]
  repeat (go_big_quiet_step (fail))
  refine wpQuiet_nil ?_
  refine wpF_call 23 Try.func23 (by kernel_rfl) (by kernel_rfl) _ _ #[.slice A2 m2 c2, .slice (some ⟨W10.heap.size, 0, none⟩) 2 2] rfl (by kernel_rfl) (by kernel_rfl) HS17'.out (fun V18 hV => ?_)
  refine (polyMul_any A2 m2 c2 (quoE xs y) (some ⟨W10.heap.size, 0, none⟩) 2 2 [-y, ndZ 1] _ (L2_17.out.keep hV) (Q17.out.keep hV) (by omega) (by omega)).mono ?_
  rintro e W18 ⟨A3, m3, c3, rfl, hm3, hs, hb⟩
  have hb2 := ext_trans hV hb
  have L1_18 := Lib.hid (L1_17.out.keep hb2)
  clear L1_17
  have Y18 := Lib.hid (Y17.out.keep hb2)
  clear Y17
  have Q18 := Lib.hid (Q17.out.keep hb2)
  clear Q17
  have L2_18 := Lib.hid (L2_17.out.keep hb2)
  clear L2_17
  have T18 := Lib.hid (T17.out.keep hb2)
  clear T17
  have HB18 := Lib.hid (below_step HB17.out hb2)
  clear HB17
  have HS18 := Lib.hid (HS17'.out.ext hb2)
  clear HS17'
  have L3_19 := Lib.hid hs
  clear hs
  refine ⟨_, rfl, hb, ?_⟩
  clear hb hb2 hV
  simp only [Act.put, List.setIfInBounds_toArray, List.set_cons_zero, List.set_cons_succ]
  clear L2_18
  refine wpF_seg 1 (by kernel_rfl) ?_
  simp only [List.take_succ_cons, List.take_zero, List.drop_succ_cons, List.drop_zero]
  repeat (go_big_quiet_step (fail))
  refine wpQuiet_nil ?_
  refine wpF_exts1 (evE xs y) rfl rfl (by kernel_rfl) (fun b20 V20 hb hg => ?_)
  have L1_20 := Lib.hid (L1_18.out.keep hb)
  clear L1_18
  have Y20 := Lib.hid (Y18.out.keep hb)
  clear Y18
  have Q20 := Lib.hid (Q18.out.keep hb)
  clear Q18
  have T20 := Lib.hid (T18.out.keep hb)
  clear T18
  have L3_20 := Lib.hid (L3_19.out.keep hb)
  clear L3_19
  have HB20 := Lib.hid (below_step HB18.out hb)
  clear HB18
  have HS20 := Lib.hid (HS18.out.ext hb)
  clear HS18
  clear hb
  have L4_21 := Lib.hid hg
  clear hg
  simp only [Act.put, List.setIfInBounds_toArray, List.set_cons_zero, List.set_cons_succ]
  refine wpF_call 19 Try.func19 (by kernel_rfl) (by kernel_rfl) _ _ #[.slice A3 m3 c3, .slice (some ⟨b20, 0, none⟩) 1 1] rfl (by kernel_rfl) (by kernel_rfl) HS20.out (fun V22 hV => ?_)
  refine (polyAdd_any A3 m3 c3 (mulE (trimE (quoE xs y)) (trimE [-y, ndZ 1])) (some ⟨b20, 0, none⟩) 1 1 [(evE xs y)] _ (L3_20.out.keep hV) (L4_21.out.keep hV) (by omega) (by omega)).mono ?_
  rw [div_back xs y (by omega)]
  rintro e W22 ⟨A5, m5, c5, rfl, hm5, hs, hb⟩
  have hb2 := ext_trans hV hb
  have L1_22 := Lib.hid (L1_20.out.keep hb2)
  clear L1_20
  have Y22 := Lib.hid (Y20.out.keep hb2)
  clear Y20
  have Q22 := Lib.hid (Q20.out.keep hb2)
  clear Q20
  have T22 := Lib.hid (T20.out.keep hb2)
  clear T20
  have L3_22 := Lib.hid (L3_20.out.keep hb2)
  clear L3_20
  have L4_22 := Lib.hid (L4_21.out.keep hb2)
  clear L4_21
  have HB22 := Lib.hid (below_step HB20.out hb2)
  clear HB20
  have HS22 := Lib.hid (HS20.out.ext hb2)
  clear HS20
  have L5_23 := Lib.hid hs
  clear hs
  refine ⟨_, rfl, hb, ?_⟩
  clear hb hb2 hV
  simp only [Act.put, List.setIfInBounds_toArray, List.set_cons_zero, List.set_cons_succ]
  clear L3_22
  clear L4_22
  refine wpF_seg 1 (by kernel_rfl) ?_
  simp only [List.take_succ_cons, List.take_zero, List.drop_succ_cons, List.drop_zero]
  repeat (go_big_quiet_step (fail))
  refine wpQuiet_nil ?_
  refine wpF_nil (fun V24 hb => ?_)
  have L1_24 := Lib.hid (L1_22.out.keep hb)
  clear L1_22
  have Y24 := Lib.hid (Y22.out.keep hb)
  clear Y22
  have Q24 := Lib.hid (Q22.out.keep hb)
  clear Q22
  have T24 := Lib.hid (T22.out.keep hb)
  clear T22
  have L5_24 := Lib.hid (L5_23.out.keep hb)
  clear L5_23
  have HB24 := Lib.hid (below_step HB22.out hb)
  clear HB22
  clear hb
  clear TT lT0 lT1
  go_upto_region 7 with (fail)
  have TY := Y24.out
  have lY0 := Later.cell TY.c0
  have lY1 := Later.cell TY.c1
  try simp only [List.append_eq, List.cons_append, List.nil_append]
  refine wp_floatN (by kernel_rfl) (lexOK_of (by kernel_rfl) (by kernel_rfl)) (chainOF_of (by kernel_rfl)) (fun V25 hb hS => ?_)
  have L1_25 := Lib.hid (L1_24.out.keep hb)
  clear L1_24
  have Y25 := Lib.hid (Y24.out.keep hb)
  clear Y24
  have Q25 := Lib.hid (Q24.out.keep hb)
  clear Q24
  have T25 := Lib.hid (T24.out.keep hb)
  clear T24
  have L5_25 := Lib.hid (L5_24.out.keep hb)
  clear L5_24
  have HB25 := Lib.hid (below_step HB24.out hb)
  clear HB24
  clear hb
  have HS25' := Lib.hid hS
  clear hS
  refine wpF_seg 2 (by kernel_rfl) ?_
  simp only [List.take_succ_cons, List.take_zero, List.drop_succ_cons, List.drop_zero]
  repeat (go_big_quiet_step (fail))
  refine wpQuiet_nil ?_
  refine wpF_call 23 Try.func23 (by kernel_rfl) (by kernel_rfl) _ _ #[.slice A1 m1 c1, .slice (some ⟨W10.heap.size, 0, none⟩) 2 2] rfl (by kernel_rfl) (by kernel_rfl) HS25'.out (fun V26 hV => ?_)
  refine (polyMul_any A1 m1 c1 xs (some ⟨W10.heap.size, 0, none⟩) 2 2 [-y, ndZ 1] _ (L1_25.out.keep hV) (Q25.out.keep hV) (by omega) (by omega)).mono ?_
  rintro e W26 ⟨A6, m6, c6, rfl, hm6, hs, hb⟩
  have hb2 := ext_trans hV hb
  have L1_26 := Lib.hid (L1_25.out.keep hb2)
  clear L1_25
  have Y26 := Lib.hid (Y25.out.keep hb2)
  clear Y25
  have Q26 := Lib.hid (Q25.out.keep hb2)
  clear Q25
  have T26 := Lib.hid (T25.out.keep hb2)
  clear T25
  have L5_26 := Lib.hid (L5_25.out.keep hb2)
  clear L5_25
  have HB26 := Lib.hid (below_step HB25.out hb2)
  clear HB25
  have HS26 := Lib.hid (HS25'.out.ext hb2)
  clear HS25'
  have L6_27 := Lib.hid hs
  clear hs
  refine ⟨_, rfl, hb, ?_⟩
  clear hb hb2 hV
  simp only [Act.put, List.setIfInBounds_toArray, List.set_cons_zero, List.set_cons_succ]
  refine wpF_seg 1 (by kernel_rfl) ?_
  simp only [List.take_succ_cons, List.take_zero, List.drop_succ_cons, List.drop_zero]
  repeat (go_big_quiet_step (fail))
  refine wpQuiet_nil ?_
  refine wpF_call 29 Try.func29 (by kernel_rfl) (by kernel_rfl) _ _ #[.slice A6 m6 c6, .agg #[.int .u64 (vF (y).A), .int .u64 (vF (y).B)]] rfl (by kernel_rfl) (by kernel_rfl) HS26.out (fun V28 hV => ?_)
  refine (polyDivRoot_any A6 m6 c6 (mulE (trimE xs) (trimE [-y, ndZ 1])) y _ (L6_27.out.keep hV) (by omega)).mono ?_
  rw [div_rest, div_quo xs y (by omega)]
  rintro e W28 ⟨A7, m7, c7, rfl, hm7, hs, hb⟩
  have hb2 := ext_trans hV hb
  have L1_28 := Lib.hid (L1_26.out.keep hb2)
  clear L1_26
  have Y28 := Lib.hid (Y26.out.keep hb2)
  clear Y26
  have Q28 := Lib.hid (Q26.out.keep hb2)
  clear Q26
  have T28 := Lib.hid (T26.out.keep hb2)
  clear T26
  have L5_28 := Lib.hid (L5_26.out.keep hb2)
  clear L5_26
  have L6_28 := Lib.hid (L6_27.out.keep hb2)
  clear L6_27
  have HB28 := Lib.hid (below_step HB26.out hb2)
  clear HB26
  have HS28 := Lib.hid (HS26.out.ext hb2)
  clear HS26
  have L7_29 := Lib.hid hs
  clear hs
  refine ⟨_, rfl, hb, ?_⟩
  clear hb hb2 hV
  simp only [Act.put, List.setIfInBounds_toArray, List.set_cons_zero, List.set_cons_succ]
  clear L6_28
  refine wpF_seg 3 (by kernel_rfl) ?_
  simp only [List.take_succ_cons, List.take_zero, List.drop_succ_cons, List.drop_zero]
  repeat (go_big_quiet_step (fail))
  refine wpQuiet_nil ?_
  refine wpF_cellE rfl (by kernel_rfl) (fun b30 V30 hb hg => ?_)
  have L1_30 := Lib.hid (L1_28.out.keep hb)
  clear L1_28
  have Y30 := Lib.hid (Y28.out.keep hb)
  clear Y28
  have Q30 := Lib.hid (Q28.out.keep hb)
  clear Q28
  have T30 := Lib.hid (T28.out.keep hb)
  clear T28
  have L5_30 := Lib.hid (L5_28.out.keep hb)
  clear L5_28
  have L7_30 := Lib.hid (L7_29.out.keep hb)
  clear L7_29
  have HB30 := Lib.hid (below_step HB28.out hb)
  clear HB28
  have HS30 := Lib.hid (HS28.out.ext hb)
  clear HS28
  clear hb
  have C8_31 := Lib.hid hg
  clear hg
  simp only [Act.put, List.setIfInBounds_toArray, List.set_cons_zero, List.set_cons_succ]
  refine wpF_seg 1 (by kernel_rfl) ?_
  simp only [List.take_succ_cons, List.take_zero, List.drop_succ_cons, List.drop_zero]
  repeat (go_big_quiet_step (fail))
  refine wpQuiet_nil ?_
  refine wpF_zero _ rfl rfl rfl (by kernel_rfl) C8_31.out HS30.out (fun V32 hb => ?_)
  have L1_32 := Lib.hid (L1_30.out.keep hb)
  clear L1_30
  have Y32 := Lib.hid (Y30.out.keep hb)
  clear Y30
  have Q32 := Lib.hid (Q30.out.keep hb)
  clear Q30
  have T32 := Lib.hid (T30.out.keep hb)
  clear T30
  have L5_32 := Lib.hid (L5_30.out.keep hb)
  clear L5_30
  have L7_32 := Lib.hid (L7_30.out.keep hb)
  clear L7_30
  have C8_32 := Lib.hid (C8_31.out.keep hb)
  clear C8_31
  have HB32 := Lib.hid (below_step HB30.out hb)
  clear HB30
  have HS32 := Lib.hid (HS30.out.ext hb)
  clear HS30
  clear hb
  simp only [Act.put]
  clear TY lY0 lY1
  go_upto_region 8 with (fail)
  have TY := Y32.out
  have lY0 := Later.cell TY.c0
  have lY1 := Later.cell TY.c1
  have TT := T32.out
  have lT0 := Later.cell TT.c0
  have lT1 := Later.cell TT.c1
  have TC := C8_32.out
  have lC0 := Later.cell TC.c0
  have lC1 := Later.cell TC.c1
  have hqz := run_eqlZ E2.zero
  try simp only [List.append_eq, List.cons_append, List.nil_append]
  refine wp_floatN (by kernel_rfl) (lexOK_of (by kernel_rfl) (by kernel_rfl)) (chainOF_of (by kernel_rfl)) (fun V33 hb hS => ?_)
  have L1_33 := Lib.hid (L1_32.out.keep hb)
  clear L1_32
  have Y33 := Lib.hid (Y32.out.keep hb)
  clear Y32
  have Q33 := Lib.hid (Q32.out.keep hb)
  clear Q32
  have T33 := Lib.hid (T32.out.keep hb)
  clear T32
  have L5_33 := Lib.hid (L5_32.out.keep hb)
  clear L5_32
  have L7_33 := Lib.hid (L7_32.out.keep hb)
  clear L7_32
  have C8_33 := Lib.hid (C8_32.out.keep hb)
  clear C8_32
  have HB33 := Lib.hid (below_step HB32.out hb)
  clear HB32
  clear hb
  have HS33' := Lib.hid hS
  clear hS
  clear Y33
  clear Q33
  clear T33
  clear C8_33
  refine wpF_seg 4 (by kernel_rfl) ?_
  simp only [List.take_succ_cons, List.take_zero, List.drop_succ_cons, List.drop_zero]
  repeat (go_big_quiet_step (fail))
  refine wpQuiet_nil ?_
  refine wpF_call 15 Try.func15 (by kernel_rfl) (by kernel_rfl) _ _ #[.slice A1 m1 c1] rfl (by kernel_rfl) (by kernel_rfl) HS33'.out (fun V34 hV => ?_)
  refine (polyTrim_any A1 m1 c1 xs _ (L1_33.out.keep hV) (by omega)).mono ?_
  rintro e W34 ⟨A9, m9, c9, rfl, hm9, hs, hb⟩
  have hb2 := ext_trans hV hb
  have L1_34 := Lib.hid (L1_33.out.keep hb2)
  clear L1_33
  have L5_34 := Lib.hid (L5_33.out.keep hb2)
  clear L5_33
  have L7_34 := Lib.hid (L7_33.out.keep hb2)
  clear L7_33
  have HB34 := Lib.hid (below_step HB33.out hb2)
  clear HB33
  have HS34 := Lib.hid (HS33'.out.ext hb2)
  clear HS33'
  have L9_35 := Lib.hid hs
  clear hs
  refine ⟨_, rfl, hb, ?_⟩
  clear hb hb2 hV
  simp only [Act.put, List.setIfInBounds_toArray, List.set_cons_zero, List.set_cons_succ]
  refine wpF_call 14 Try.func14 (by kernel_rfl) (by kernel_rfl) _ _ #[.slice A5 m5 c5, .slice A9 m9 c9] rfl (by kernel_rfl) (by kernel_rfl) HS34.out (fun V36 hV => ?_)
  refine (same_yes A5 m5 c5 A9 m9 c9 (trimE xs) _ (L5_34.out.keep hV) (L9_35.out.keep hV)).mono ?_
  rintro e W36 ⟨rfl, hb⟩
  have hb2 := ext_trans hV hb
  have L1_36 := Lib.hid (L1_34.out.keep hb2)
  clear L1_34
  have L5_36 := Lib.hid (L5_34.out.keep hb2)
  clear L5_34
  have L7_36 := Lib.hid (L7_34.out.keep hb2)
  clear L7_34
  have L9_36 := Lib.hid (L9_35.out.keep hb2)
  clear L9_35
  have HB36 := Lib.hid (below_step HB34.out hb2)
  clear HB34
  have HS36 := Lib.hid (HS34.out.ext hb2)
  clear HS34
  refine ⟨_, rfl, hb, ?_⟩
  clear hb hb2 hV
  simp only [Act.put, List.setIfInBounds_toArray, List.set_cons_zero, List.set_cons_succ]
  clear L5_36
  clear L9_36
  refine wpF_seg 5 (by kernel_rfl) ?_
  simp only [List.take_succ_cons, List.take_zero, List.drop_succ_cons, List.drop_zero]
  repeat (go_big_quiet_step (fail))
  refine wpQuiet_nil ?_
  refine wpF_call 27 Try.func27 (by kernel_rfl) (by kernel_rfl) _ _ #[.slice A1 m1 c1, .agg #[.int .u64 (vF (y).A), .int .u64 (vF (y).B)]] rfl (by kernel_rfl) (by kernel_rfl) HS36.out (fun V37 hV => ?_)
  refine (polyEval_any A1 m1 c1 xs y _ (L1_36.out.keep hV)).mono ?_
  rintro e W37 ⟨rfl, hb⟩
  have hb2 := ext_trans hV hb
  have L1_37 := Lib.hid (L1_36.out.keep hb2)
  clear L1_36
  have L7_37 := Lib.hid (L7_36.out.keep hb2)
  clear L7_36
  have HB37 := Lib.hid (below_step HB36.out hb2)
  clear HB36
  have HS37 := Lib.hid (HS36.out.ext hb2)
  clear HS36
  refine ⟨_, rfl, hb, ?_⟩
  clear hb hb2 hV
  simp only [Act.put, List.setIfInBounds_toArray, List.set_cons_zero, List.set_cons_succ]
  have hq55 := run_eqE_same ((evE xs y))
  have hq60 := run_eqE_same (E2.zero)
  refine wpF_seg 10 (by kernel_rfl) ?_
  simp only [List.take_succ_cons, List.take_zero, List.drop_succ_cons, List.drop_zero]
  repeat (go_big_quiet_step (fail))
  refine wpQuiet_nil ?_
  refine wpF_call 15 Try.func15 (by kernel_rfl) (by kernel_rfl) _ _ #[.slice A1 m1 c1] rfl (by kernel_rfl) (by kernel_rfl) HS37.out (fun V38 hV => ?_)
  refine (polyTrim_any A1 m1 c1 xs _ (L1_37.out.keep hV) (by omega)).mono ?_
  rintro e W38 ⟨A12, m12, c12, rfl, hm12, hs, hb⟩
  have hb2 := ext_trans hV hb
  have L1_38 := Lib.hid (L1_37.out.keep hb2)
  clear L1_37
  have L7_38 := Lib.hid (L7_37.out.keep hb2)
  clear L7_37
  have HB38 := Lib.hid (below_step HB37.out hb2)
  clear HB37
  have HS38 := Lib.hid (HS37.out.ext hb2)
  clear HS37
  have L12_39 := Lib.hid hs
  clear hs
  refine ⟨_, rfl, hb, ?_⟩
  clear hb hb2 hV
  simp only [Act.put, List.setIfInBounds_toArray, List.set_cons_zero, List.set_cons_succ]
  clear L1_38
  refine wpF_call 14 Try.func14 (by kernel_rfl) (by kernel_rfl) _ _ #[.slice A7 m7 c7, .slice A12 m12 c12] rfl (by kernel_rfl) (by kernel_rfl) HS38.out (fun V40 hV => ?_)
  refine (same_yes A7 m7 c7 A12 m12 c12 (trimE xs) _ (L7_38.out.keep hV) (L12_39.out.keep hV)).mono ?_
  rintro e W40 ⟨rfl, hb⟩
  have hb2 := ext_trans hV hb
  have L7_40 := Lib.hid (L7_38.out.keep hb2)
  clear L7_38
  have L12_40 := Lib.hid (L12_39.out.keep hb2)
  clear L12_39
  have HB40 := Lib.hid (below_step HB38.out hb2)
  clear HB38
  have HS40 := Lib.hid (HS38.out.ext hb2)
  clear HS38
  refine ⟨_, rfl, hb, ?_⟩
  clear hb hb2 hV
  simp only [Act.put, List.setIfInBounds_toArray, List.set_cons_zero, List.set_cons_succ]
  clear L7_40
  clear L12_40
  refine wpF_seg 2 (by kernel_rfl) ?_
  simp only [List.take_succ_cons, List.take_zero, List.drop_succ_cons, List.drop_zero]
  repeat (go_big_quiet_step (fail))
  refine wpQuiet_nil ?_
  refine wpF_nil (fun V41 hb => ?_)
  have HB41 := Lib.hid (below_step HB40.out hb)
  clear HB40
  clear hb
  go_wp2_with fail
  go_ret
  exact ⟨rfl, HB41.out⟩

end Go.Proofs.Ytjimnoikkgheaaa
