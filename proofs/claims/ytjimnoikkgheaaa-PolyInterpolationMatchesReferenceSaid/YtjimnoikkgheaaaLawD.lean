/- Contract of a law of package poly; no conditions but the arguments' own. -/
import Derived.Test.YtjimnoikkgheaaaLawS
import Derived.Test.YtjimnoikkgheaaaLawM
import Derived.Test.YtjimnoikkgheaaaRefD
import Derived.Test.YtjimnoikkgheaaaRefE
set_option linter.unusedVariables false
namespace Go.Proofs.Ytjimnoikkgheaaa
open Go.RowKit Gold
variable {ops : Array Oper} {w0 : World}

set_option maxHeartbeats 16000000 in
set_option maxRecDepth 100000 in
theorem polyInterpolationMatchesReference_any (A0 : Option Addr) (na ca : Nat) (pa : List (Int × Int)) (B0 : Option Addr) (nb cb : Nat) (pb : List (Int × Int)) (x1 x2 : Int) (w : World) (ha : Sr w A0 na ca pa) (wa : Nums pa) (hb : Sr w B0 nb cb pb) (wb : Nums pb) (hx1 : U64 x1) (hx2 : U64 x2) :
    Calls Try.prog 4 #[.slice A0 na ca, .slice B0 nb cb, .agg #[.int .u64 x1, .int .u64 x2]] w fun e w' => e = .returned (.bool true) ∧ Below w.heap.size w w' := by
  have Pa0 := Lib.hid ha
  have Wa := Lib.hid wa
  clear ha wa
  have Pb0 := Lib.hid hb
  have Wb := Lib.hid wb
  clear hb wb
  go_enter Try.func4, Try.ntmps4
  go_wp2_with fail
  refine calls_named1 (fun V1 hbV g0 hzV => ?_)
  have X1q := Lib.hid (show Two V1 (w.heap.size) 25 (.int .u64 x1) (.int .u64 x2) from g0)
  have Pa1 := Lib.hid (Pa0.out.keep hbV)
  clear Pa0
  have Pb1 := Lib.hid (Pb0.out.keep hbV)
  clear Pb0
  have HB1 := Lib.hid hbV
  clear hbV hzV g0
  refine (sanity3_any _).mono ?_
  rintro e W2 ⟨rfl, hb⟩
  have Pa2 := Lib.hid (Pa1.out.keep hb)
  clear Pa1
  have Pb2 := Lib.hid (Pb1.out.keep hb)
  clear Pb1
  have X2 := Lib.hid (X1q.out.keep hb)
  clear X1q
  have HB2 := Lib.hid (below_step HB1.out hb)
  clear HB1
  clear hb
  go_wp2_with fail
  refine (rPMade_any A0 na ca pa 10 _ Pa2.out Wa.out (by omega)).mono ?_
  rintro e W3 ⟨A1, m1, c1, rfl, hm1, hs, ho, hb⟩
  have Pa3 := Lib.hid (Pa2.out.keep hb)
  clear Pa2
  have Pb3 := Lib.hid (Pb2.out.keep hb)
  clear Pb2
  have X3 := Lib.hid (X2.out.keep hb)
  clear X2
  have HB3 := Lib.hid (below_step HB2.out hb)
  clear HB2
  clear hb
  have L1_4 := Lib.hid hs
  clear hs
  clear ho
  clear Pa3
  have tt := X3.out
  have c0 := tt.c0
  have c1 := tt.c1
  have c2 := tt.f0
  clear tt
  go_wp2_with fail
  clear c0 c1 c2
  refine (rMade_any x1 x2 _ hx1 hx2).mono ?_
  rintro e W6 ⟨rfl, hb⟩
  have Pb6 := Lib.hid (Pb3.out.keep hb)
  clear Pb3
  have X6 := Lib.hid (X3.out.keep hb)
  clear X3
  have L1_6 := Lib.hid (L1_4.out.keep hb)
  clear L1_4
  have HB6 := Lib.hid (below_step HB3.out hb)
  clear HB3
  clear hb
  generalize toE x1 x2 = y at *
  go_upto_region 4 with (fail)
  refine wp_named1 (fun V7 hbV g0 hzV => ?_)
  have Y7q := Lib.hid (show Two V7 (W6.heap.size) 25 (.int .u64 (vF (y).A)) (.int .u64 (vF (y).B)) from g0)
  have Pb7 := Lib.hid (Pb6.out.keep hbV)
  clear Pb6
  have X7 := Lib.hid (X6.out.keep hbV)
  clear X6
  have L1_7 := Lib.hid (L1_6.out.keep hbV)
  clear L1_6
  have HB7 := Lib.hid (below_step HB6.out hbV)
  clear HB6
  clear hbV hzV g0
  clear X7
  generalize ((pa.take 10).map madeE) = xs at *
  have hlxs : xs.length ≤ 10 := by have := L1_7.out.len; omega
  go_wp2_with fail
  refine (rPMade_any B0 nb cb pb 10 _ Pb7.out Wb.out (by omega)).mono ?_
  rintro e W8 ⟨A2, m2, c2, rfl, hm2, hs, ho, hb⟩
  have Pb8 := Lib.hid (Pb7.out.keep hb)
  clear Pb7
  have L1_8 := Lib.hid (L1_7.out.keep hb)
  clear L1_7
  have Y8 := Lib.hid (Y7q.out.keep hb)
  clear Y7q
  have HB8 := Lib.hid (below_step HB7.out hb)
  clear HB7
  clear hb
  have L2_9 := Lib.hid hs
  clear hs
  clear ho
  clear Pb8
  generalize ((pb.take 10).map madeE) = ls at *
  have hlls : ls.length ≤ 10 := by have := L2_9.out.len; omega
  have tt := Y8.out
  have c0 := tt.c0
  have c1 := tt.c1
  have c2 := tt.f0
  clear tt
  go_wp2_with fail
  clear c0 c1 c2
  refine (polyDivRoot_any A1 m1 c1 xs y _ L1_8.out (by omega)).mono ?_
  rintro e W11 ⟨A3, m3, c3, rfl, hm3, hs, hb⟩
  have L1_11 := Lib.hid (L1_8.out.keep hb)
  clear L1_8
  have Y11 := Lib.hid (Y8.out.keep hb)
  clear Y8
  have L2_11 := Lib.hid (L2_9.out.keep hb)
  clear L2_9
  have HB11 := Lib.hid (below_step HB8.out hb)
  clear HB8
  clear hb
  have L3_12 := Lib.hid hs
  clear hs
  go_upto_region 6 with (fail)
  refine wp_named1 (fun V13 hbV g0 hzV => ?_)
  have R13q := Lib.hid (show Two V13 (W11.heap.size) 25 (.int .u64 (vF (evE xs y).A)) (.int .u64 (vF (evE xs y).B)) from g0)
  have L1_13 := Lib.hid (L1_11.out.keep hbV)
  clear L1_11
  have Y13 := Lib.hid (Y11.out.keep hbV)
  clear Y11
  have L2_13 := Lib.hid (L2_11.out.keep hbV)
  clear L2_11
  have L3_13 := Lib.hid (L3_12.out.keep hbV)
  clear L3_12
  have HB13 := Lib.hid (below_step HB11.out hbV)
  clear HB11
  clear hbV hzV g0
  have tt := Y13.out
  have c0 := tt.c0
  have c1 := tt.c1
  have c2 := tt.f0
  clear tt
  go_wp2_with fail
  clear c0 c1 c2
  refine (rPDivRoot_any A1 m1 c1 xs y _ L1_13.out (by omega)).mono ?_
  rintro e W15 ⟨A4, m4, c4, rfl, hm4, hs, hb⟩
  have L1_15 := Lib.hid (L1_13.out.keep hb)
  clear L1_13
  have Y15 := Lib.hid (Y13.out.keep hb)
  clear Y13
  have L2_15 := Lib.hid (L2_13.out.keep hb)
  clear L2_13
  have L3_15 := Lib.hid (L3_13.out.keep hb)
  clear L3_13
  have R15 := Lib.hid (R13q.out.keep hb)
  clear R13q
  have HB15 := Lib.hid (below_step HB13.out hb)
  clear HB13
  clear hb
  have L4_16 := Lib.hid hs
  clear hs
  go_upto_region 7 with (fail)
  refine wp_named1 (fun V17 hbV g0 hzV => ?_)
  have T17q := Lib.hid (show Two V17 (W15.heap.size) 25 (.int .u64 (vF (evE xs y).A)) (.int .u64 (vF (evE xs y).B)) from g0)
  have L1_17 := Lib.hid (L1_15.out.keep hbV)
  clear L1_15
  have Y17 := Lib.hid (Y15.out.keep hbV)
  clear Y15
  have L2_17 := Lib.hid (L2_15.out.keep hbV)
  clear L2_15
  have L3_17 := Lib.hid (L3_15.out.keep hbV)
  clear L3_15
  have R17 := Lib.hid (R15.out.keep hbV)
  clear R15
  have L4_17 := Lib.hid (L4_16.out.keep hbV)
  clear L4_16
  have HB17 := Lib.hid (below_step HB15.out hbV)
  clear HB15
  clear hbV hzV g0
  go_wp2_with fail
  refine (polyRoots_any A1 m1 c1 xs A2 m2 c2 ls _ L1_17.out L2_17.out (by omega)).mono ?_
  rintro e W18 ⟨A5, m5, c5, rfl, hs, hb⟩
  have L1_18 := Lib.hid (L1_17.out.keep hb)
  clear L1_17
  have Y18 := Lib.hid (Y17.out.keep hb)
  clear Y17
  have L2_18 := Lib.hid (L2_17.out.keep hb)
  clear L2_17
  have L3_18 := Lib.hid (L3_17.out.keep hb)
  clear L3_17
  have R18 := Lib.hid (R17.out.keep hb)
  clear R17
  have L4_18 := Lib.hid (L4_17.out.keep hb)
  clear L4_17
  have T18 := Lib.hid (T17q.out.keep hb)
  clear T17q
  have HB18 := Lib.hid (below_step HB17.out hb)
  clear HB17
  clear hb
  have L5_19 := Lib.hid hs
  clear hs
  go_wp2_with fail
  refine (rPRoots_any A1 m1 c1 xs A2 m2 c2 ls _ L1_18.out L2_18.out (by omega)).mono ?_
  rintro e W20 ⟨A6, m6, c6, rfl, hs, hb⟩
  have L1_20 := Lib.hid (L1_18.out.keep hb)
  clear L1_18
  have Y20 := Lib.hid (Y18.out.keep hb)
  clear Y18
  have L2_20 := Lib.hid (L2_18.out.keep hb)
  clear L2_18
  have L3_20 := Lib.hid (L3_18.out.keep hb)
  clear L3_18
  have R20 := Lib.hid (R18.out.keep hb)
  clear R18
  have L4_20 := Lib.hid (L4_18.out.keep hb)
  clear L4_18
  have T20 := Lib.hid (T18.out.keep hb)
  clear T18
  have L5_20 := Lib.hid (L5_19.out.keep hb)
  clear L5_19
  have HB20 := Lib.hid (below_step HB18.out hb)
  clear HB18
  clear hb
  have L6_21 := Lib.hid hs
  clear hs
  generalize rootsAt xs ls m2 = rs at *
  obtain rfl : m5 = m6 := L5_20.out.len.trans L6_21.out.len.symm
  clear L2_20
  have hac := L5_20.out.cap
  have hat := L5_20.out.top
  have hbc := L6_21.out.cap
  have hbt := L6_21.out.top
  go_wp2_with fail
  go_loopw [17] (fun i wr => ∃ k : Nat, k ≤ m5 ∧ i = .int .i64 k ∧ Below W20.heap.size W20 wr) (fun i _ => m5 - (intOf i).toNat)
  case atStart => exact ⟨0, Nat.zero_le _, rfl, Below.refl _ _⟩
  case round =>
    obtain ⟨k, hk, rfl, hb⟩ := hrel
    have HBL := Lib.hid hb
    clear hb
    by_cases hlt : k < m5
    · skip
      obtain ⟨x, hx⟩ : ∃ x, rs[k]? = some x := ⟨rs[k]'(by have := L5_20.out.len; omega), List.getElem?_eq_getElem _⟩
      obtain ⟨ad, rfl, h0⟩ := L5_20.out.cells k x hx
      obtain ⟨bd, rfl, h1⟩ := L6_21.out.cells k x hx
      have l0 := Later.cell (cell_keep h0 HBL.out)
      have l1 := Later.cell (cell_keep h1 HBL.out)
      clear hx h0 h1
      go_wp2_with fail
      refine wp_later_lex (by kernel_rfl) (lexOK_of (by kernel_rfl) (by kernel_rfl)) ?_
      repeat (go_big_quiet_step (fail))
      refine wpQuiet_nil ?_
      intro Xw
      clear l0 l1
      have HB3 := Lib.hid (below_step HBL.out Xw.below)
      go_wp2_with fail
      go_roundw
      case rel => exact ⟨k + 1, by omega, by go_num, HB3.out⟩
      case measure => simp [intOf]; omega
    · skip
      have hbl := HBL.out
      have L1_21 := Lib.hid (L1_20.out.keep hbl)
      clear L1_20
      have Y21 := Lib.hid (Y20.out.keep hbl)
      clear Y20
      have L3_21 := Lib.hid (L3_20.out.keep hbl)
      clear L3_20
      have R21 := Lib.hid (R20.out.keep hbl)
      clear R20
      have L4_21 := Lib.hid (L4_20.out.keep hbl)
      clear L4_20
      have T21 := Lib.hid (T20.out.keep hbl)
      clear T20
      have L5_21 := Lib.hid (L5_20.out.keep hbl)
      clear L5_20
      have L6_21 := Lib.hid (L6_21.out.keep hbl)
      clear L6_21
      have HB21 := Lib.hid (below_step HB20.out hbl)
      clear HB20
      clear hbl
      clear L5_21
      clear L6_21
      go_upto_region 16 with (fail)
      have TY := Y21.out
      have lY0 := Later.cell TY.c0
      have lY1 := Later.cell TY.c1
      have TR := R21.out
      have lR0 := Later.cell TR.c0
      have lR1 := Later.cell TR.c1
      have TT := T21.out
      have lT0 := Later.cell TT.c0
      have lT1 := Later.cell TT.c1
      clear Y21
      clear R21
      clear T21
      try simp only [List.append_eq, List.cons_append, List.nil_append]
      refine wp_floatN (by kernel_rfl) (lexOK_of (by kernel_rfl) (by kernel_rfl)) (chainOF_of (by kernel_rfl)) (fun V22 hb hS => ?_)
      have L1_22 := Lib.hid (L1_21.out.keep hb)
      clear L1_21
      have L3_22 := Lib.hid (L3_21.out.keep hb)
      clear L3_21
      have L4_22 := Lib.hid (L4_21.out.keep hb)
      clear L4_21
      have HB22 := Lib.hid (below_step HB21.out hb)
      clear HB21
      clear hb
      have HS22' := Lib.hid hS
      clear hS
      refine wpF_seg 3 (by kernel_rfl) ?_
      simp only [List.take_succ_cons, List.take_zero, List.drop_succ_cons, List.drop_zero]
      repeat (go_big_quiet_step (fail))
      refine wpQuiet_nil ?_
      refine wpF_call 33 Try.func33 (by kernel_rfl) (by kernel_rfl) _ _ #[.slice A1 m1 c1] rfl (by kernel_rfl) (by kernel_rfl) HS22'.out (fun V23 hV => ?_)
      refine (polyInterp_any A1 m1 c1 xs _ (L1_22.out.keep hV) (by omega)).mono ?_
      rintro e W23 ⟨A7, m7, c7, rfl, hm7, hs, hb⟩
      have hb2 := ext_trans hV hb
      have L1_23 := Lib.hid (L1_22.out.keep hb2)
      clear L1_22
      have L3_23 := Lib.hid (L3_22.out.keep hb2)
      clear L3_22
      have L4_23 := Lib.hid (L4_22.out.keep hb2)
      clear L4_22
      have HB23 := Lib.hid (below_step HB22.out hb2)
      clear HB22
      have HS23 := Lib.hid (HS22'.out.ext hb2)
      clear HS22'
      have L7_24 := Lib.hid hs
      clear hs
      refine ⟨_, rfl, hb, ?_⟩
      clear hb hb2 hV
      simp only [Act.put, List.setIfInBounds_toArray, List.set_cons_zero, List.set_cons_succ]
      refine wpF_seg 1 (by kernel_rfl) ?_
      simp only [List.take_succ_cons, List.take_zero, List.drop_succ_cons, List.drop_zero]
      repeat (go_big_quiet_step (fail))
      refine wpQuiet_nil ?_
      refine wpF_call 34 Try.func34 (by kernel_rfl) (by kernel_rfl) _ _ #[.slice A1 m1 c1] rfl (by kernel_rfl) (by kernel_rfl) HS23.out (fun V25 hV => ?_)
      refine (rPInterp_any A1 m1 c1 xs _ (L1_23.out.keep hV) (by omega)).mono ?_
      rintro e W25 ⟨A8, m8, c8, rfl, hm8, hs, hb⟩
      have hb2 := ext_trans hV hb
      have L1_25 := Lib.hid (L1_23.out.keep hb2)
      clear L1_23
      have L3_25 := Lib.hid (L3_23.out.keep hb2)
      clear L3_23
      have L4_25 := Lib.hid (L4_23.out.keep hb2)
      clear L4_23
      have L7_25 := Lib.hid (L7_24.out.keep hb2)
      clear L7_24
      have HB25 := Lib.hid (below_step HB23.out hb2)
      clear HB23
      have HS25 := Lib.hid (HS23.out.ext hb2)
      clear HS23
      have L8_26 := Lib.hid hs
      clear hs
      refine ⟨_, rfl, hb, ?_⟩
      clear hb hb2 hV
      simp only [Act.put, List.setIfInBounds_toArray, List.set_cons_zero, List.set_cons_succ]
      refine wpF_call 14 Try.func14 (by kernel_rfl) (by kernel_rfl) _ _ #[.slice A7 m7 c7, .slice A8 m8 c8] rfl (by kernel_rfl) (by kernel_rfl) HS25.out (fun V27 hV => ?_)
      refine (same_yes A7 m7 c7 A8 m8 c8 (interpE xs) _ (L7_25.out.keep hV) (L8_26.out.keep hV)).mono ?_
      rintro e W27 ⟨rfl, hb⟩
      have hb2 := ext_trans hV hb
      have L1_27 := Lib.hid (L1_25.out.keep hb2)
      clear L1_25
      have L3_27 := Lib.hid (L3_25.out.keep hb2)
      clear L3_25
      have L4_27 := Lib.hid (L4_25.out.keep hb2)
      clear L4_25
      have L7_27 := Lib.hid (L7_25.out.keep hb2)
      clear L7_25
      have L8_27 := Lib.hid (L8_26.out.keep hb2)
      clear L8_26
      have HB27 := Lib.hid (below_step HB25.out hb2)
      clear HB25
      have HS27 := Lib.hid (HS25.out.ext hb2)
      clear HS25
      refine ⟨_, rfl, hb, ?_⟩
      clear hb hb2 hV
      simp only [Act.put, List.setIfInBounds_toArray, List.set_cons_zero, List.set_cons_succ]
      clear L7_27
      clear L8_27
      refine wpF_seg 4 (by kernel_rfl) ?_
      simp only [List.take_succ_cons, List.take_zero, List.drop_succ_cons, List.drop_zero]
      repeat (go_big_quiet_step (fail))
      refine wpQuiet_nil ?_
      refine wpF_call 35 Try.func35 (by kernel_rfl) (by kernel_rfl) _ _ #[.slice A1 m1 c1, .agg #[.int .u64 (vF (y).A), .int .u64 (vF (y).B)]] rfl (by kernel_rfl) (by kernel_rfl) HS27.out (fun V28 hV => ?_)
      refine (polyAt_any A1 m1 c1 xs y _ (L1_27.out.keep hV) (by omega)).mono ?_
      rintro e W28 ⟨rfl, hb⟩
      have hb2 := ext_trans hV hb
      have L1_28 := Lib.hid (L1_27.out.keep hb2)
      clear L1_27
      have L3_28 := Lib.hid (L3_27.out.keep hb2)
      clear L3_27
      have L4_28 := Lib.hid (L4_27.out.keep hb2)
      clear L4_27
      have HB28 := Lib.hid (below_step HB27.out hb2)
      clear HB27
      have HS28 := Lib.hid (HS27.out.ext hb2)
      clear HS27
      refine ⟨_, rfl, hb, ?_⟩
      clear hb hb2 hV
      simp only [Act.put, List.setIfInBounds_toArray, List.set_cons_zero, List.set_cons_succ]
      refine wpF_seg 2 (by kernel_rfl) ?_
      simp only [List.take_succ_cons, List.take_zero, List.drop_succ_cons, List.drop_zero]
      repeat (go_big_quiet_step (fail))
      refine wpQuiet_nil ?_
      refine wpF_call 36 Try.func36 (by kernel_rfl) (by kernel_rfl) _ _ #[.slice A1 m1 c1, .agg #[.int .u64 (vF (y).A), .int .u64 (vF (y).B)]] rfl (by kernel_rfl) (by kernel_rfl) HS28.out (fun V29 hV => ?_)
      refine (rPAt_any A1 m1 c1 xs y _ (L1_28.out.keep hV) (by omega)).mono ?_
      rintro e W29 ⟨rfl, hb⟩
      have hb2 := ext_trans hV hb
      have L1_29 := Lib.hid (L1_28.out.keep hb2)
      clear L1_28
      have L3_29 := Lib.hid (L3_28.out.keep hb2)
      clear L3_28
      have L4_29 := Lib.hid (L4_28.out.keep hb2)
      clear L4_28
      have HB29 := Lib.hid (below_step HB28.out hb2)
      clear HB28
      have HS29 := Lib.hid (HS28.out.ext hb2)
      clear HS28
      refine ⟨_, rfl, hb, ?_⟩
      clear hb hb2 hV
      simp only [Act.put, List.setIfInBounds_toArray, List.set_cons_zero, List.set_cons_succ]
      clear L1_29
      have hq78 := run_eqE_same ((atE xs y))
      refine wpF_seg 5 (by kernel_rfl) ?_
      simp only [List.take_succ_cons, List.take_zero, List.drop_succ_cons, List.drop_zero]
      repeat (go_big_quiet_step (fail))
      refine wpQuiet_nil ?_
      refine wpF_call 14 Try.func14 (by kernel_rfl) (by kernel_rfl) _ _ #[.slice A3 m3 c3, .slice A4 m4 c4] rfl (by kernel_rfl) (by kernel_rfl) HS29.out (fun V30 hV => ?_)
      refine (same_yes A3 m3 c3 A4 m4 c4 (quoE xs y) _ (L3_29.out.keep hV) (L4_29.out.keep hV)).mono ?_
      rintro e W30 ⟨rfl, hb⟩
      have hb2 := ext_trans hV hb
      have L3_30 := Lib.hid (L3_29.out.keep hb2)
      clear L3_29
      have L4_30 := Lib.hid (L4_29.out.keep hb2)
      clear L4_29
      have HB30 := Lib.hid (below_step HB29.out hb2)
      clear HB29
      have HS30 := Lib.hid (HS29.out.ext hb2)
      clear HS29
      refine ⟨_, rfl, hb, ?_⟩
      clear hb hb2 hV
      simp only [Act.put, List.setIfInBounds_toArray, List.set_cons_zero, List.set_cons_succ]
      clear L3_30
      clear L4_30
      have hq88 := run_eqE_same ((evE xs y))
      refine wpF_seg 7 (by kernel_rfl) ?_
      simp only [List.take_succ_cons, List.take_zero, List.drop_succ_cons, List.drop_zero]
      repeat (go_big_quiet_step (fail))
      refine wpQuiet_nil ?_
      refine wpF_nil (fun V31 hb => ?_)
      have HB31 := Lib.hid (below_step HB30.out hb)
      clear HB30
      clear hb
      go_wp2_with fail
      go_ret
      exact ⟨rfl, HB31.out⟩

end Go.Proofs.Ytjimnoikkgheaaa
