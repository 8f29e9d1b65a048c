/- Contract of a law of package poly; no conditions but the arguments' own. -/
import Derived.Test.YtjimnoikkgheaaaLawS
import Derived.Test.YtjimnoikkgheaaaLawM
set_option linter.unusedVariables false
namespace Go.Proofs.Ytjimnoikkgheaaa
open Go.RowKit Gold
variable {ops : Array Oper} {w0 : World}

set_option maxHeartbeats 16000000 in
set_option maxRecDepth 100000 in
theorem polyRing_any (A0 : Option Addr) (na ca : Nat) (pa : List (Int × Int)) (B0 : Option Addr) (nb cb : Nat) (pb : List (Int × Int)) (C0 : Option Addr) (nc cc : Nat) (pc : List (Int × Int)) (w : World) (ha : Sr w A0 na ca pa) (wa : Nums pa) (hb : Sr w B0 nb cb pb) (wb : Nums pb) (hc : Sr w C0 nc cc pc) (wc : Nums pc) :
    Calls Try.prog 10 #[.slice A0 na ca, .slice B0 nb cb, .slice C0 nc cc] w fun e w' => e = .returned (.bool true) ∧ Below w.heap.size w w' := by
  have Pa0 := Lib.hid ha
  have Wa := Lib.hid wa
  clear ha wa
  have Pb0 := Lib.hid hb
  have Wb := Lib.hid wb
  clear hb wb
  have Pc0 := Lib.hid hc
  have Wc := Lib.hid wc
  clear hc wc
  go_enter Try.func10, Try.ntmps10
  go_wp2_with fail
  refine (sanity3_any _).mono ?_
  rintro e W1 ⟨rfl, hb⟩
  have Pa1 := Lib.hid (Pa0.out.keep hb)
  clear Pa0
  have Pb1 := Lib.hid (Pb0.out.keep hb)
  clear Pb0
  have Pc1 := Lib.hid (Pc0.out.keep hb)
  clear Pc0
  have HB1 := Lib.hid hb
  clear hb
  go_wp2_with fail
  refine (rPMade_any A0 na ca pa 8 _ Pa1.out Wa.out (by omega)).mono ?_
  rintro e W2 ⟨A1, m1, c1, rfl, hm1, hs, ho, hb⟩
  have Pa2 := Lib.hid (Pa1.out.keep hb)
  clear Pa1
  have Pb2 := Lib.hid (Pb1.out.keep hb)
  clear Pb1
  have Pc2 := Lib.hid (Pc1.out.keep hb)
  clear Pc1
  have HB2 := Lib.hid (below_step HB1.out hb)
  clear HB1
  clear hb
  have L1_3 := Lib.hid hs
  clear hs
  clear ho
  clear Pa2
  go_wp2_with fail
  refine (rPMade_any B0 nb cb pb 8 _ Pb2.out Wb.out (by omega)).mono ?_
  rintro e W4 ⟨A2, m2, c2, rfl, hm2, hs, ho, hb⟩
  have Pb4 := Lib.hid (Pb2.out.keep hb)
  clear Pb2
  have Pc4 := Lib.hid (Pc2.out.keep hb)
  clear Pc2
  have L1_4 := Lib.hid (L1_3.out.keep hb)
  clear L1_3
  have HB4 := Lib.hid (below_step HB2.out hb)
  clear HB2
  clear hb
  have L2_5 := Lib.hid hs
  clear hs
  clear ho
  clear Pb4
  go_wp2_with fail
  refine (rPMade_any C0 nc cc pc 8 _ Pc4.out Wc.out (by omega)).mono ?_
  rintro e W6 ⟨A3, m3, c3, rfl, hm3, hs, ho, hb⟩
  have Pc6 := Lib.hid (Pc4.out.keep hb)
  clear Pc4
  have L1_6 := Lib.hid (L1_4.out.keep hb)
  clear L1_4
  have L2_6 := Lib.hid (L2_5.out.keep hb)
  clear L2_5
  have HB6 := Lib.hid (below_step HB4.out hb)
  clear HB4
  clear hb
  have L3_7 := Lib.hid hs
  clear hs
  clear ho
  clear Pc6
  generalize ((pa.take 8).map madeE) = xs at *
  have hlxs : xs.length ≤ 8 := by have := L1_6.out.len; omega
  generalize ((pb.take 8).map madeE) = ys at *
  have hlys : ys.length ≤ 8 := by have := L2_6.out.len; omega
  generalize ((pc.take 8).map madeE) = zs at *
  have hlzs : zs.length ≤ 8 := by have := L3_7.out.len; omega
  go_wp2_with fail
  rcases len_cases (trimE xs) with hdx | ⟨dx, hdx⟩
  · skip
    refine (degree_is A1 m1 c1 xs (-1) _ L1_6.out (by rw [hdx]; rfl)).mono ?_
    rintro e W8 ⟨rfl, hb⟩
    have L1_8 := Lib.hid (L1_6.out.keep hb)
    clear L1_6
    have L2_8 := Lib.hid (L2_6.out.keep hb)
    clear L2_6
    have L3_8 := Lib.hid (L3_7.out.keep hb)
    clear L3_7
    have HB8 := Lib.hid (below_step HB6.out hb)
    clear HB6
    clear hb
    go_wp2_with fail
    refine (polyAdd_any A1 m1 c1 xs A2 m2 c2 ys _ L1_8.out L2_8.out (by omega) (by omega)).mono ?_
    rintro e W9 ⟨A4, m4, c4, rfl, hm4, hs, hb⟩
    have L1_9 := Lib.hid (L1_8.out.keep hb)
    clear L1_8
    have L2_9 := Lib.hid (L2_8.out.keep hb)
    clear L2_8
    have L3_9 := Lib.hid (L3_8.out.keep hb)
    clear L3_8
    have HB9 := Lib.hid (below_step HB8.out hb)
    clear HB8
    clear hb
    have L4_10 := Lib.hid hs
    clear hs
    go_wp2_with fail
    refine (polyAdd_any A2 m2 c2 ys A1 m1 c1 xs _ L2_9.out L1_9.out (by omega) (by omega)).mono ?_
    rintro e W11 ⟨A5, m5, c5, rfl, hm5, hs, hb⟩
    have L1_11 := Lib.hid (L1_9.out.keep hb)
    clear L1_9
    have L2_11 := Lib.hid (L2_9.out.keep hb)
    clear L2_9
    have L3_11 := Lib.hid (L3_9.out.keep hb)
    clear L3_9
    have L4_11 := Lib.hid (L4_10.out.keep hb)
    clear L4_10
    have HB11 := Lib.hid (below_step HB9.out hb)
    clear HB9
    clear hb
    have L5_12 := Lib.hid hs
    clear hs
    go_wp2_with fail
    refine (same_yes A4 m4 c4 A5 m5 c5 (addE xs ys) _ L4_11.out (L5_12.out.cast (ring_addc xs ys (by omega) (by omega)))).mono ?_
    rintro e W13 ⟨rfl, hb⟩
    have L1_13 := Lib.hid (L1_11.out.keep hb)
    clear L1_11
    have L2_13 := Lib.hid (L2_11.out.keep hb)
    clear L2_11
    have L3_13 := Lib.hid (L3_11.out.keep hb)
    clear L3_11
    have L4_13 := Lib.hid (L4_11.out.keep hb)
    clear L4_11
    have L5_13 := Lib.hid (L5_12.out.keep hb)
    clear L5_12
    have HB13 := Lib.hid (below_step HB11.out hb)
    clear HB11
    clear hb
    go_wp2_with fail
    clear L4_13
    clear L5_13
    refine (polyMul_any A1 m1 c1 xs A2 m2 c2 ys _ L1_13.out L2_13.out (by omega) (by omega)).mono ?_
    rintro e W14 ⟨A7, m7, c7, rfl, hm7, hs, hb⟩
    have L1_14 := Lib.hid (L1_13.out.keep hb)
    clear L1_13
    have L2_14 := Lib.hid (L2_13.out.keep hb)
    clear L2_13
    have L3_14 := Lib.hid (L3_13.out.keep hb)
    clear L3_13
    have HB14 := Lib.hid (below_step HB13.out hb)
    clear HB13
    clear hb
    have L7_15 := Lib.hid hs
    clear hs
    go_wp2_with fail
    refine (polyMul_any A2 m2 c2 ys A1 m1 c1 xs _ L2_14.out L1_14.out (by omega) (by omega)).mono ?_
    rintro e W16 ⟨A8, m8, c8, rfl, hm8, hs, hb⟩
    have L1_16 := Lib.hid (L1_14.out.keep hb)
    clear L1_14
    have L2_16 := Lib.hid (L2_14.out.keep hb)
    clear L2_14
    have L3_16 := Lib.hid (L3_14.out.keep hb)
    clear L3_14
    have L7_16 := Lib.hid (L7_15.out.keep hb)
    clear L7_15
    have HB16 := Lib.hid (below_step HB14.out hb)
    clear HB14
    clear hb
    have L8_17 := Lib.hid hs
    clear hs
    go_wp2_with fail
    refine (same_yes A7 m7 c7 A8 m8 c8 (mulE (trimE xs) (trimE ys)) _ L7_16.out (L8_17.out.cast (ring_mulc xs ys (by omega) (by omega)))).mono ?_
    rintro e W18 ⟨rfl, hb⟩
    have L1_18 := Lib.hid (L1_16.out.keep hb)
    clear L1_16
    have L2_18 := Lib.hid (L2_16.out.keep hb)
    clear L2_16
    have L3_18 := Lib.hid (L3_16.out.keep hb)
    clear L3_16
    have L7_18 := Lib.hid (L7_16.out.keep hb)
    clear L7_16
    have L8_18 := Lib.hid (L8_17.out.keep hb)
    clear L8_17
    have HB18 := Lib.hid (below_step HB16.out hb)
    clear HB16
    clear hb
    go_wp2_with fail
    clear L7_18
    clear L8_18
    refine (polyAdd_any A1 m1 c1 xs A2 m2 c2 ys _ L1_18.out L2_18.out (by omega) (by omega)).mono ?_
    rintro e W19 ⟨A10, m10, c10, rfl, hm10, hs, hb⟩
    have L1_19 := Lib.hid (L1_18.out.keep hb)
    clear L1_18
    have L2_19 := Lib.hid (L2_18.out.keep hb)
    clear L2_18
    have L3_19 := Lib.hid (L3_18.out.keep hb)
    clear L3_18
    have HB19 := Lib.hid (below_step HB18.out hb)
    clear HB18
    clear hb
    have L10_20 := Lib.hid hs
    clear hs
    go_wp2_with fail
    refine (polyAdd_any A10 m10 c10 (addE xs ys) A3 m3 c3 zs _ L10_20.out L3_19.out (by omega) (by omega)).mono ?_
    rintro e W21 ⟨A11, m11, c11, rfl, hm11, hs, hb⟩
    have L1_21 := Lib.hid (L1_19.out.keep hb)
    clear L1_19
    have L2_21 := Lib.hid (L2_19.out.keep hb)
    clear L2_19
    have L3_21 := Lib.hid (L3_19.out.keep hb)
    clear L3_19
    have L10_21 := Lib.hid (L10_20.out.keep hb)
    clear L10_20
    have HB21 := Lib.hid (below_step HB19.out hb)
    clear HB19
    clear hb
    have L11_22 := Lib.hid hs
    clear hs
    go_wp2_with fail
    clear L10_21
    refine (polyAdd_any A2 m2 c2 ys A3 m3 c3 zs _ L2_21.out L3_21.out (by omega) (by omega)).mono ?_
    rintro e W23 ⟨A12, m12, c12, rfl, hm12, hs, hb⟩
    have L1_23 := Lib.hid (L1_21.out.keep hb)
    clear L1_21
    have L2_23 := Lib.hid (L2_21.out.keep hb)
    clear L2_21
    have L3_23 := Lib.hid (L3_21.out.keep hb)
    clear L3_21
    have L11_23 := Lib.hid (L11_22.out.keep hb)
    clear L11_22
    have HB23 := Lib.hid (below_step HB21.out hb)
    clear HB21
    clear hb
    have L12_24 := Lib.hid hs
    clear hs
    go_wp2_with fail
    refine (polyAdd_any A1 m1 c1 xs A12 m12 c12 (addE ys zs) _ L1_23.out L12_24.out (by omega) (by omega)).mono ?_
    rintro e W25 ⟨A13, m13, c13, rfl, hm13, hs, hb⟩
    have L1_25 := Lib.hid (L1_23.out.keep hb)
    clear L1_23
    have L2_25 := Lib.hid (L2_23.out.keep hb)
    clear L2_23
    have L3_25 := Lib.hid (L3_23.out.keep hb)
    clear L3_23
    have L11_25 := Lib.hid (L11_23.out.keep hb)
    clear L11_23
    have L12_25 := Lib.hid (L12_24.out.keep hb)
    clear L12_24
    have HB25 := Lib.hid (below_step HB23.out hb)
    clear HB23
    clear hb
    have L13_26 := Lib.hid hs
    clear hs
    go_wp2_with fail
    clear L12_25
    refine (same_yes A11 m11 c11 A13 m13 c13 (addE xs (addE ys zs)) _ (L11_25.out.cast (ring_adda xs ys zs (by omega) (by omega) (by omega))) L13_26.out).mono ?_
    rintro e W27 ⟨rfl, hb⟩
    have L1_27 := Lib.hid (L1_25.out.keep hb)
    clear L1_25
    have L2_27 := Lib.hid (L2_25.out.keep hb)
    clear L2_25
    have L3_27 := Lib.hid (L3_25.out.keep hb)
    clear L3_25
    have L11_27 := Lib.hid (L11_25.out.keep hb)
    clear L11_25
    have L13_27 := Lib.hid (L13_26.out.keep hb)
    clear L13_26
    have HB27 := Lib.hid (below_step HB25.out hb)
    clear HB25
    clear hb
    go_wp2_with fail
    clear L11_27
    clear L13_27
    refine (polyMul_any A1 m1 c1 xs A2 m2 c2 ys _ L1_27.out L2_27.out (by omega) (by omega)).mono ?_
    rintro e W28 ⟨A15, m15, c15, rfl, hm15, hs, hb⟩
    have L1_28 := Lib.hid (L1_27.out.keep hb)
    clear L1_27
    have L2_28 := Lib.hid (L2_27.out.keep hb)
    clear L2_27
    have L3_28 := Lib.hid (L3_27.out.keep hb)
    clear L3_27
    have HB28 := Lib.hid (below_step HB27.out hb)
    clear HB27
    clear hb
    have L15_29 := Lib.hid hs
    clear hs
    go_wp2_with fail
    refine (polyMul_any A15 m15 c15 (mulE (trimE xs) (trimE ys)) A3 m3 c3 zs _ L15_29.out L3_28.out (by omega) (by omega)).mono ?_
    rintro e W30 ⟨A16, m16, c16, rfl, hm16, hs, hb⟩
    have L1_30 := Lib.hid (L1_28.out.keep hb)
    clear L1_28
    have L2_30 := Lib.hid (L2_28.out.keep hb)
    clear L2_28
    have L3_30 := Lib.hid (L3_28.out.keep hb)
    clear L3_28
    have L15_30 := Lib.hid (L15_29.out.keep hb)
    clear L15_29
    have HB30 := Lib.hid (below_step HB28.out hb)
    clear HB28
    clear hb
    have L16_31 := Lib.hid hs
    clear hs
    go_wp2_with fail
    clear L15_30
    refine (polyMul_any A2 m2 c2 ys A3 m3 c3 zs _ L2_30.out L3_30.out (by omega) (by omega)).mono ?_
    rintro e W32 ⟨A17, m17, c17, rfl, hm17, hs, hb⟩
    have L1_32 := Lib.hid (L1_30.out.keep hb)
    clear L1_30
    have L2_32 := Lib.hid (L2_30.out.keep hb)
    clear L2_30
    have L3_32 := Lib.hid (L3_30.out.keep hb)
    clear L3_30
    have L16_32 := Lib.hid (L16_31.out.keep hb)
    clear L16_31
    have HB32 := Lib.hid (below_step HB30.out hb)
    clear HB30
    clear hb
    have L17_33 := Lib.hid hs
    clear hs
    go_wp2_with fail
    refine (polyMul_any A1 m1 c1 xs A17 m17 c17 (mulE (trimE ys) (trimE zs)) _ L1_32.out L17_33.out (by omega) (by omega)).mono ?_
    rintro e W34 ⟨A18, m18, c18, rfl, hm18, hs, hb⟩
    have L1_34 := Lib.hid (L1_32.out.keep hb)
    clear L1_32
    have L2_34 := Lib.hid (L2_32.out.keep hb)
    clear L2_32
    have L3_34 := Lib.hid (L3_32.out.keep hb)
    clear L3_32
    have L16_34 := Lib.hid (L16_32.out.keep hb)
    clear L16_32
    have L17_34 := Lib.hid (L17_33.out.keep hb)
    clear L17_33
    have HB34 := Lib.hid (below_step HB32.out hb)
    clear HB32
    clear hb
    have L18_35 := Lib.hid hs
    clear hs
    go_wp2_with fail
    clear L17_34
    refine (same_yes A16 m16 c16 A18 m18 c18 (mulE (trimE xs) (trimE (mulE (trimE ys) (trimE zs)))) _ (L16_34.out.cast (ring_mula xs ys zs (by omega) (by omega) (by omega))) L18_35.out).mono ?_
    rintro e W36 ⟨rfl, hb⟩
    have L1_36 := Lib.hid (L1_34.out.keep hb)
    clear L1_34
    have L2_36 := Lib.hid (L2_34.out.keep hb)
    clear L2_34
    have L3_36 := Lib.hid (L3_34.out.keep hb)
    clear L3_34
    have L16_36 := Lib.hid (L16_34.out.keep hb)
    clear L16_34
    have L18_36 := Lib.hid (L18_35.out.keep hb)
    clear L18_35
    have HB36 := Lib.hid (below_step HB34.out hb)
    clear HB34
    clear hb
    go_wp2_with fail
    clear L16_36
    clear L18_36
    refine (polyAdd_any A2 m2 c2 ys A3 m3 c3 zs _ L2_36.out L3_36.out (by omega) (by omega)).mono ?_
    rintro e W37 ⟨A20, m20, c20, rfl, hm20, hs, hb⟩
    have L1_37 := Lib.hid (L1_36.out.keep hb)
    clear L1_36
    have L2_37 := Lib.hid (L2_36.out.keep hb)
    clear L2_36
    have L3_37 := Lib.hid (L3_36.out.keep hb)
    clear L3_36
    have HB37 := Lib.hid (below_step HB36.out hb)
    clear HB36
    clear hb
    have L20_38 := Lib.hid hs
    clear hs
    go_wp2_with fail
    refine (polyMul_any A1 m1 c1 xs A20 m20 c20 (addE ys zs) _ L1_37.out L20_38.out (by omega) (by omega)).mono ?_
    rintro e W39 ⟨A21, m21, c21, rfl, hm21, hs, hb⟩
    have L1_39 := Lib.hid (L1_37.out.keep hb)
    clear L1_37
    have L2_39 := Lib.hid (L2_37.out.keep hb)
    clear L2_37
    have L3_39 := Lib.hid (L3_37.out.keep hb)
    clear L3_37
    have L20_39 := Lib.hid (L20_38.out.keep hb)
    clear L20_38
    have HB39 := Lib.hid (below_step HB37.out hb)
    clear HB37
    clear hb
    have L21_40 := Lib.hid hs
    clear hs
    go_wp2_with fail
    clear L20_39
    refine (polyMul_any A1 m1 c1 xs A2 m2 c2 ys _ L1_39.out L2_39.out (by omega) (by omega)).mono ?_
    rintro e W41 ⟨A22, m22, c22, rfl, hm22, hs, hb⟩
    have L1_41 := Lib.hid (L1_39.out.keep hb)
    clear L1_39
    have L2_41 := Lib.hid (L2_39.out.keep hb)
    clear L2_39
    have L3_41 := Lib.hid (L3_39.out.keep hb)
    clear L3_39
    have L21_41 := Lib.hid (L21_40.out.keep hb)
    clear L21_40
    have HB41 := Lib.hid (below_step HB39.out hb)
    clear HB39
    clear hb
    have L22_42 := Lib.hid hs
    clear hs
    go_wp2_with fail
    refine (polyMul_any A1 m1 c1 xs A3 m3 c3 zs _ L1_41.out L3_41.out (by omega) (by omega)).mono ?_
    rintro e W43 ⟨A23, m23, c23, rfl, hm23, hs, hb⟩
    have L1_43 := Lib.hid (L1_41.out.keep hb)
    clear L1_41
    have L2_43 := Lib.hid (L2_41.out.keep hb)
    clear L2_41
    have L3_43 := Lib.hid (L3_41.out.keep hb)
    clear L3_41
    have L21_43 := Lib.hid (L21_41.out.keep hb)
    clear L21_41
    have L22_43 := Lib.hid (L22_42.out.keep hb)
    clear L22_42
    have HB43 := Lib.hid (below_step HB41.out hb)
    clear HB41
    clear hb
    have L23_44 := Lib.hid hs
    clear hs
    go_wp2_with fail
    clear L3_43
    refine (polyAdd_any A22 m22 c22 (mulE (trimE xs) (trimE ys)) A23 m23 c23 (mulE (trimE xs) (trimE zs)) _ L22_43.out L23_44.out (by omega) (by omega)).mono ?_
    rintro e W45 ⟨A24, m24, c24, rfl, hm24, hs, hb⟩
    have L1_45 := Lib.hid (L1_43.out.keep hb)
    clear L1_43
    have L2_45 := Lib.hid (L2_43.out.keep hb)
    clear L2_43
    have L21_45 := Lib.hid (L21_43.out.keep hb)
    clear L21_43
    have L22_45 := Lib.hid (L22_43.out.keep hb)
    clear L22_43
    have L23_45 := Lib.hid (L23_44.out.keep hb)
    clear L23_44
    have HB45 := Lib.hid (below_step HB43.out hb)
    clear HB43
    clear hb
    have L24_46 := Lib.hid hs
    clear hs
    go_wp2_with fail
    clear L22_45
    clear L23_45
    refine (same_yes A21 m21 c21 A24 m24 c24 (addE (mulE (trimE xs) (trimE ys)) (mulE (trimE xs) (trimE zs))) _ (L21_45.out.cast (ring_dist xs ys zs (by omega) (by omega) (by omega))) L24_46.out).mono ?_
    rintro e W47 ⟨rfl, hb⟩
    have L1_47 := Lib.hid (L1_45.out.keep hb)
    clear L1_45
    have L2_47 := Lib.hid (L2_45.out.keep hb)
    clear L2_45
    have L21_47 := Lib.hid (L21_45.out.keep hb)
    clear L21_45
    have L24_47 := Lib.hid (L24_46.out.keep hb)
    clear L24_46
    have HB47 := Lib.hid (below_step HB45.out hb)
    clear HB45
    clear hb
    go_wp2_with fail
    clear L21_47
    clear L24_47
    refine (polySub_any A1 m1 c1 xs A2 m2 c2 ys _ L1_47.out L2_47.out (by omega) (by omega)).mono ?_
    rintro e W48 ⟨A26, m26, c26, rfl, hm26, hs, hb⟩
    have L1_48 := Lib.hid (L1_47.out.keep hb)
    clear L1_47
    have L2_48 := Lib.hid (L2_47.out.keep hb)
    clear L2_47
    have HB48 := Lib.hid (below_step HB47.out hb)
    clear HB47
    clear hb
    have L26_49 := Lib.hid hs
    clear hs
    go_wp2_with fail
    refine (polyAdd_any A26 m26 c26 (subE xs ys) A2 m2 c2 ys _ L26_49.out L2_48.out (by omega) (by omega)).mono ?_
    rintro e W50 ⟨A27, m27, c27, rfl, hm27, hs, hb⟩
    have L1_50 := Lib.hid (L1_48.out.keep hb)
    clear L1_48
    have L2_50 := Lib.hid (L2_48.out.keep hb)
    clear L2_48
    have L26_50 := Lib.hid (L26_49.out.keep hb)
    clear L26_49
    have HB50 := Lib.hid (below_step HB48.out hb)
    clear HB48
    clear hb
    have L27_51 := Lib.hid hs
    clear hs
    go_wp2_with fail
    clear L2_50
    clear L26_50
    refine (polyTrim_any A1 m1 c1 xs _ L1_50.out (by omega)).mono ?_
    rintro e W52 ⟨A28, m28, c28, rfl, hm28, hs, hb⟩
    have L1_52 := Lib.hid (L1_50.out.keep hb)
    clear L1_50
    have L27_52 := Lib.hid (L27_51.out.keep hb)
    clear L27_51
    have HB52 := Lib.hid (below_step HB50.out hb)
    clear HB50
    clear hb
    have L28_53 := Lib.hid hs
    clear hs
    go_wp2_with fail
    clear L1_52
    refine (same_yes A27 m27 c27 A28 m28 c28 (trimE xs) _ (L27_52.out.cast (ring_sub xs ys (by omega) (by omega))) L28_53.out).mono ?_
    rintro e W54 ⟨rfl, hb⟩
    have L27_54 := Lib.hid (L27_52.out.keep hb)
    clear L27_52
    have L28_54 := Lib.hid (L28_53.out.keep hb)
    clear L28_53
    have HB54 := Lib.hid (below_step HB52.out hb)
    clear HB52
    clear hb
    go_wp2_with fail
    go_ret
    exact ⟨rfl, HB54.out⟩
  · skip
    refine (degree_is A1 m1 c1 xs ((dx : Int)) _ L1_6.out (by rw [hdx]; omega)).mono ?_
    rintro e W55 ⟨rfl, hb⟩
    have L1_55 := Lib.hid (L1_6.out.keep hb)
    clear L1_6
    have L2_55 := Lib.hid (L2_6.out.keep hb)
    clear L2_6
    have L3_55 := Lib.hid (L3_7.out.keep hb)
    clear L3_7
    have HB55 := Lib.hid (below_step HB6.out hb)
    clear HB6
    clear hb
    go_wp2_with fail
    rcases len_cases (trimE ys) with hdy | ⟨dy, hdy⟩
    · skip
      refine (degree_is A2 m2 c2 ys (-1) _ L2_55.out (by rw [hdy]; rfl)).mono ?_
      rintro e W56 ⟨rfl, hb⟩
      have L1_56 := Lib.hid (L1_55.out.keep hb)
      clear L1_55
      have L2_56 := Lib.hid (L2_55.out.keep hb)
      clear L2_55
      have L3_56 := Lib.hid (L3_55.out.keep hb)
      clear L3_55
      have HB56 := Lib.hid (below_step HB55.out hb)
      clear HB55
      clear hb
      go_wp2_with fail
      refine (polyAdd_any A1 m1 c1 xs A2 m2 c2 ys _ L1_56.out L2_56.out (by omega) (by omega)).mono ?_
      rintro e W57 ⟨A30, m30, c30, rfl, hm30, hs, hb⟩
      have L1_57 := Lib.hid (L1_56.out.keep hb)
      clear L1_56
      have L2_57 := Lib.hid (L2_56.out.keep hb)
      clear L2_56
      have L3_57 := Lib.hid (L3_56.out.keep hb)
      clear L3_56
      have HB57 := Lib.hid (below_step HB56.out hb)
      clear HB56
      clear hb
      have L30_58 := Lib.hid hs
      clear hs
      go_wp2_with fail
      refine (polyAdd_any A2 m2 c2 ys A1 m1 c1 xs _ L2_57.out L1_57.out (by omega) (by omega)).mono ?_
      rintro e W59 ⟨A31, m31, c31, rfl, hm31, hs, hb⟩
      have L1_59 := Lib.hid (L1_57.out.keep hb)
      clear L1_57
      have L2_59 := Lib.hid (L2_57.out.keep hb)
      clear L2_57
      have L3_59 := Lib.hid (L3_57.out.keep hb)
      clear L3_57
      have L30_59 := Lib.hid (L30_58.out.keep hb)
      clear L30_58
      have HB59 := Lib.hid (below_step HB57.out hb)
      clear HB57
      clear hb
      have L31_60 := Lib.hid hs
      clear hs
      go_wp2_with fail
      refine (same_yes A30 m30 c30 A31 m31 c31 (addE xs ys) _ L30_59.out (L31_60.out.cast (ring_addc xs ys (by omega) (by omega)))).mono ?_
      rintro e W61 ⟨rfl, hb⟩
      have L1_61 := Lib.hid (L1_59.out.keep hb)
      clear L1_59
      have L2_61 := Lib.hid (L2_59.out.keep hb)
      clear L2_59
      have L3_61 := Lib.hid (L3_59.out.keep hb)
      clear L3_59
      have L30_61 := Lib.hid (L30_59.out.keep hb)
      clear L30_59
      have L31_61 := Lib.hid (L31_60.out.keep hb)
      clear L31_60
      have HB61 := Lib.hid (below_step HB59.out hb)
      clear HB59
      clear hb
      go_wp2_with fail
      clear L30_61
      clear L31_61
      refine (polyMul_any A1 m1 c1 xs A2 m2 c2 ys _ L1_61.out L2_61.out (by omega) (by omega)).mono ?_
      rintro e W62 ⟨A33, m33, c33, rfl, hm33, hs, hb⟩
      have L1_62 := Lib.hid (L1_61.out.keep hb)
      clear L1_61
      have L2_62 := Lib.hid (L2_61.out.keep hb)
      clear L2_61
      have L3_62 := Lib.hid (L3_61.out.keep hb)
      clear L3_61
      have HB62 := Lib.hid (below_step HB61.out hb)
      clear HB61
      clear hb
      have L33_63 := Lib.hid hs
      clear hs
      go_wp2_with fail
      refine (polyMul_any A2 m2 c2 ys A1 m1 c1 xs _ L2_62.out L1_62.out (by omega) (by omega)).mono ?_
      rintro e W64 ⟨A34, m34, c34, rfl, hm34, hs, hb⟩
      have L1_64 := Lib.hid (L1_62.out.keep hb)
      clear L1_62
      have L2_64 := Lib.hid (L2_62.out.keep hb)
      clear L2_62
      have L3_64 := Lib.hid (L3_62.out.keep hb)
      clear L3_62
      have L33_64 := Lib.hid (L33_63.out.keep hb)
      clear L33_63
      have HB64 := Lib.hid (below_step HB62.out hb)
      clear HB62
      clear hb
      have L34_65 := Lib.hid hs
      clear hs
      go_wp2_with fail
      refine (same_yes A33 m33 c33 A34 m34 c34 (mulE (trimE xs) (trimE ys)) _ L33_64.out (L34_65.out.cast (ring_mulc xs ys (by omega) (by omega)))).mono ?_
      rintro e W66 ⟨rfl, hb⟩
      have L1_66 := Lib.hid (L1_64.out.keep hb)
      clear L1_64
      have L2_66 := Lib.hid (L2_64.out.keep hb)
      clear L2_64
      have L3_66 := Lib.hid (L3_64.out.keep hb)
      clear L3_64
      have L33_66 := Lib.hid (L33_64.out.keep hb)
      clear L33_64
      have L34_66 := Lib.hid (L34_65.out.keep hb)
      clear L34_65
      have HB66 := Lib.hid (below_step HB64.out hb)
      clear HB64
      clear hb
      go_wp2_with fail
      clear L33_66
      clear L34_66
      refine (polyAdd_any A1 m1 c1 xs A2 m2 c2 ys _ L1_66.out L2_66.out (by omega) (by omega)).mono ?_
      rintro e W67 ⟨A36, m36, c36, rfl, hm36, hs, hb⟩
      have L1_67 := Lib.hid (L1_66.out.keep hb)
      clear L1_66
      have L2_67 := Lib.hid (L2_66.out.keep hb)
      clear L2_66
      have L3_67 := Lib.hid (L3_66.out.keep hb)
      clear L3_66
      have HB67 := Lib.hid (below_step HB66.out hb)
      clear HB66
      clear hb
      have L36_68 := Lib.hid hs
      clear hs
      go_wp2_with fail
      refine (polyAdd_any A36 m36 c36 (addE xs ys) A3 m3 c3 zs _ L36_68.out L3_67.out (by omega) (by omega)).mono ?_
      rintro e W69 ⟨A37, m37, c37, rfl, hm37, hs, hb⟩
      have L1_69 := Lib.hid (L1_67.out.keep hb)
      clear L1_67
      have L2_69 := Lib.hid (L2_67.out.keep hb)
      clear L2_67
      have L3_69 := Lib.hid (L3_67.out.keep hb)
      clear L3_67
      have L36_69 := Lib.hid (L36_68.out.keep hb)
      clear L36_68
      have HB69 := Lib.hid (below_step HB67.out hb)
      clear HB67
      clear hb
      have L37_70 := Lib.hid hs
      clear hs
      go_wp2_with fail
      clear L36_69
      refine (polyAdd_any A2 m2 c2 ys A3 m3 c3 zs _ L2_69.out L3_69.out (by omega) (by omega)).mono ?_
      rintro e W71 ⟨A38, m38, c38, rfl, hm38, hs, hb⟩
      have L1_71 := Lib.hid (L1_69.out.keep hb)
      clear L1_69
      have L2_71 := Lib.hid (L2_69.out.keep hb)
      clear L2_69
      have L3_71 := Lib.hid (L3_69.out.keep hb)
      clear L3_69
      have L37_71 := Lib.hid (L37_70.out.keep hb)
      clear L37_70
      have HB71 := Lib.hid (below_step HB69.out hb)
      clear HB69
      clear hb
      have L38_72 := Lib.hid hs
      clear hs
      go_wp2_with fail
      refine (polyAdd_any A1 m1 c1 xs A38 m38 c38 (addE ys zs) _ L1_71.out L38_72.out (by omega) (by omega)).mono ?_
      rintro e W73 ⟨A39, m39, c39, rfl, hm39, hs, hb⟩
      have L1_73 := Lib.hid (L1_71.out.keep hb)
      clear L1_71
      have L2_73 := Lib.hid (L2_71.out.keep hb)
      clear L2_71
      have L3_73 := Lib.hid (L3_71.out.keep hb)
      clear L3_71
      have L37_73 := Lib.hid (L37_71.out.keep hb)
      clear L37_71
      have L38_73 := Lib.hid (L38_72.out.keep hb)
      clear L38_72
      have HB73 := Lib.hid (below_step HB71.out hb)
      clear HB71
      clear hb
      have L39_74 := Lib.hid hs
      clear hs
      go_wp2_with fail
      clear L38_73
      refine (same_yes A37 m37 c37 A39 m39 c39 (addE xs (addE ys zs)) _ (L37_73.out.cast (ring_adda xs ys zs (by omega) (by omega) (by omega))) L39_74.out).mono ?_
      rintro e W75 ⟨rfl, hb⟩
      have L1_75 := Lib.hid (L1_73.out.keep hb)
      clear L1_73
      have L2_75 := Lib.hid (L2_73.out.keep hb)
      clear L2_73
      have L3_75 := Lib.hid (L3_73.out.keep hb)
      clear L3_73
      have L37_75 := Lib.hid (L37_73.out.keep hb)
      clear L37_73
      have L39_75 := Lib.hid (L39_74.out.keep hb)
      clear L39_74
      have HB75 := Lib.hid (below_step HB73.out hb)
      clear HB73
      clear hb
      go_wp2_with fail
      clear L37_75
      clear L39_75
      refine (polyMul_any A1 m1 c1 xs A2 m2 c2 ys _ L1_75.out L2_75.out (by omega) (by omega)).mono ?_
      rintro e W76 ⟨A41, m41, c41, rfl, hm41, hs, hb⟩
      have L1_76 := Lib.hid (L1_75.out.keep hb)
      clear L1_75
      have L2_76 := Lib.hid (L2_75.out.keep hb)
      clear L2_75
      have L3_76 := Lib.hid (L3_75.out.keep hb)
      clear L3_75
      have HB76 := Lib.hid (below_step HB75.out hb)
      clear HB75
      clear hb
      have L41_77 := Lib.hid hs
      clear hs
      go_wp2_with fail
      refine (polyMul_any A41 m41 c41 (mulE (trimE xs) (trimE ys)) A3 m3 c3 zs _ L41_77.out L3_76.out (by omega) (by omega)).mono ?_
      rintro e W78 ⟨A42, m42, c42, rfl, hm42, hs, hb⟩
      have L1_78 := Lib.hid (L1_76.out.keep hb)
      clear L1_76
      have L2_78 := Lib.hid (L2_76.out.keep hb)
      clear L2_76
      have L3_78 := Lib.hid (L3_76.out.keep hb)
      clear L3_76
      have L41_78 := Lib.hid (L41_77.out.keep hb)
      clear L41_77
      have HB78 := Lib.hid (below_step HB76.out hb)
      clear HB76
      clear hb
      have L42_79 := Lib.hid hs
      clear hs
      go_wp2_with fail
      clear L41_78
      refine (polyMul_any A2 m2 c2 ys A3 m3 c3 zs _ L2_78.out L3_78.out (by omega) (by omega)).mono ?_
      rintro e W80 ⟨A43, m43, c43, rfl, hm43, hs, hb⟩
      have L1_80 := Lib.hid (L1_78.out.keep hb)
      clear L1_78
      have L2_80 := Lib.hid (L2_78.out.keep hb)
      clear L2_78
      have L3_80 := Lib.hid (L3_78.out.keep hb)
      clear L3_78
      have L42_80 := Lib.hid (L42_79.out.keep hb)
      clear L42_79
      have HB80 := Lib.hid (below_step HB78.out hb)
      clear HB78
      clear hb
      have L43_81 := Lib.hid hs
      clear hs
      go_wp2_with fail
      refine (polyMul_any A1 m1 c1 xs A43 m43 c43 (mulE (trimE ys) (trimE zs)) _ L1_80.out L43_81.out (by omega) (by omega)).mono ?_
      rintro e W82 ⟨A44, m44, c44, rfl, hm44, hs, hb⟩
      have L1_82 := Lib.hid (L1_80.out.keep hb)
      clear L1_80
      have L2_82 := Lib.hid (L2_80.out.keep hb)
      clear L2_80
      have L3_82 := Lib.hid (L3_80.out.keep hb)
      clear L3_80
      have L42_82 := Lib.hid (L42_80.out.keep hb)
      clear L42_80
      have L43_82 := Lib.hid (L43_81.out.keep hb)
      clear L43_81
      have HB82 := Lib.hid (below_step HB80.out hb)
      clear HB80
      clear hb
      have L44_83 := Lib.hid hs
      clear hs
      go_wp2_with fail
      clear L43_82
      refine (same_yes A42 m42 c42 A44 m44 c44 (mulE (trimE xs) (trimE (mulE (trimE ys) (trimE zs)))) _ (L42_82.out.cast (ring_mula xs ys zs (by omega) (by omega) (by omega))) L44_83.out).mono ?_
      rintro e W84 ⟨rfl, hb⟩
      have L1_84 := Lib.hid (L1_82.out.keep hb)
      clear L1_82
      have L2_84 := Lib.hid (L2_82.out.keep hb)
      clear L2_82
      have L3_84 := Lib.hid (L3_82.out.keep hb)
      clear L3_82
      have L42_84 := Lib.hid (L42_82.out.keep hb)
      clear L42_82
      have L44_84 := Lib.hid (L44_83.out.keep hb)
      clear L44_83
      have HB84 := Lib.hid (below_step HB82.out hb)
      clear HB82
      clear hb
      go_wp2_with fail
      clear L42_84
      clear L44_84
      refine (polyAdd_any A2 m2 c2 ys A3 m3 c3 zs _ L2_84.out L3_84.out (by omega) (by omega)).mono ?_
      rintro e W85 ⟨A46, m46, c46, rfl, hm46, hs, hb⟩
      have L1_85 := Lib.hid (L1_84.out.keep hb)
      clear L1_84
      have L2_85 := Lib.hid (L2_84.out.keep hb)
      clear L2_84
      have L3_85 := Lib.hid (L3_84.out.keep hb)
      clear L3_84
      have HB85 := Lib.hid (below_step HB84.out hb)
      clear HB84
      clear hb
      have L46_86 := Lib.hid hs
      clear hs
      go_wp2_with fail
      refine (polyMul_any A1 m1 c1 xs A46 m46 c46 (addE ys zs) _ L1_85.out L46_86.out (by omega) (by omega)).mono ?_
      rintro e W87 ⟨A47, m47, c47, rfl, hm47, hs, hb⟩
      have L1_87 := Lib.hid (L1_85.out.keep hb)
      clear L1_85
      have L2_87 := Lib.hid (L2_85.out.keep hb)
      clear L2_85
      have L3_87 := Lib.hid (L3_85.out.keep hb)
      clear L3_85
      have L46_87 := Lib.hid (L46_86.out.keep hb)
      clear L46_86
      have HB87 := Lib.hid (below_step HB85.out hb)
      clear HB85
      clear hb
      have L47_88 := Lib.hid hs
      clear hs
      go_wp2_with fail
      clear L46_87
      refine (polyMul_any A1 m1 c1 xs A2 m2 c2 ys _ L1_87.out L2_87.out (by omega) (by omega)).mono ?_
      rintro e W89 ⟨A48, m48, c48, rfl, hm48, hs, hb⟩
      have L1_89 := Lib.hid (L1_87.out.keep hb)
      clear L1_87
      have L2_89 := Lib.hid (L2_87.out.keep hb)
      clear L2_87
      have L3_89 := Lib.hid (L3_87.out.keep hb)
      clear L3_87
      have L47_89 := Lib.hid (L47_88.out.keep hb)
      clear L47_88
      have HB89 := Lib.hid (below_step HB87.out hb)
      clear HB87
      clear hb
      have L48_90 := Lib.hid hs
      clear hs
      go_wp2_with fail
      refine (polyMul_any A1 m1 c1 xs A3 m3 c3 zs _ L1_89.out L3_89.out (by omega) (by omega)).mono ?_
      rintro e W91 ⟨A49, m49, c49, rfl, hm49, hs, hb⟩
      have L1_91 := Lib.hid (L1_89.out.keep hb)
      clear L1_89
      have L2_91 := Lib.hid (L2_89.out.keep hb)
      clear L2_89
      have L3_91 := Lib.hid (L3_89.out.keep hb)
      clear L3_89
      have L47_91 := Lib.hid (L47_89.out.keep hb)
      clear L47_89
      have L48_91 := Lib.hid (L48_90.out.keep hb)
      clear L48_90
      have HB91 := Lib.hid (below_step HB89.out hb)
      clear HB89
      clear hb
      have L49_92 := Lib.hid hs
      clear hs
      go_wp2_with fail
      clear L3_91
      refine (polyAdd_any A48 m48 c48 (mulE (trimE xs) (trimE ys)) A49 m49 c49 (mulE (trimE xs) (trimE zs)) _ L48_91.out L49_92.out (by omega) (by omega)).mono ?_
      rintro e W93 ⟨A50, m50, c50, rfl, hm50, hs, hb⟩
      have L1_93 := Lib.hid (L1_91.out.keep hb)
      clear L1_91
      have L2_93 := Lib.hid (L2_91.out.keep hb)
      clear L2_91
      have L47_93 := Lib.hid (L47_91.out.keep hb)
      clear L47_91
      have L48_93 := Lib.hid (L48_91.out.keep hb)
      clear L48_91
      have L49_93 := Lib.hid (L49_92.out.keep hb)
      clear L49_92
      have HB93 := Lib.hid (below_step HB91.out hb)
      clear HB91
      clear hb
      have L50_94 := Lib.hid hs
      clear hs
      go_wp2_with fail
      clear L48_93
      clear L49_93
      refine (same_yes A47 m47 c47 A50 m50 c50 (addE (mulE (trimE xs) (trimE ys)) (mulE (trimE xs) (trimE zs))) _ (L47_93.out.cast (ring_dist xs ys zs (by omega) (by omega) (by omega))) L50_94.out).mono ?_
      rintro e W95 ⟨rfl, hb⟩
      have L1_95 := Lib.hid (L1_93.out.keep hb)
      clear L1_93
      have L2_95 := Lib.hid (L2_93.out.keep hb)
      clear L2_93
      have L47_95 := Lib.hid (L47_93.out.keep hb)
      clear L47_93
      have L50_95 := Lib.hid (L50_94.out.keep hb)
      clear L50_94
      have HB95 := Lib.hid (below_step HB93.out hb)
      clear HB93
      clear hb
      go_wp2_with fail
      clear L47_95
      clear L50_95
      refine (polySub_any A1 m1 c1 xs A2 m2 c2 ys _ L1_95.out L2_95.out (by omega) (by omega)).mono ?_
      rintro e W96 ⟨A52, m52, c52, rfl, hm52, hs, hb⟩
      have L1_96 := Lib.hid (L1_95.out.keep hb)
      clear L1_95
      have L2_96 := Lib.hid (L2_95.out.keep hb)
      clear L2_95
      have HB96 := Lib.hid (below_step HB95.out hb)
      clear HB95
      clear hb
      have L52_97 := Lib.hid hs
      clear hs
      go_wp2_with fail
      refine (polyAdd_any A52 m52 c52 (subE xs ys) A2 m2 c2 ys _ L52_97.out L2_96.out (by omega) (by omega)).mono ?_
      rintro e W98 ⟨A53, m53, c53, rfl, hm53, hs, hb⟩
      have L1_98 := Lib.hid (L1_96.out.keep hb)
      clear L1_96
      have L2_98 := Lib.hid (L2_96.out.keep hb)
      clear L2_96
      have L52_98 := Lib.hid (L52_97.out.keep hb)
      clear L52_97
      have HB98 := Lib.hid (below_step HB96.out hb)
      clear HB96
      clear hb
      have L53_99 := Lib.hid hs
      clear hs
      go_wp2_with fail
      clear L2_98
      clear L52_98
      refine (polyTrim_any A1 m1 c1 xs _ L1_98.out (by omega)).mono ?_
      rintro e W100 ⟨A54, m54, c54, rfl, hm54, hs, hb⟩
      have L1_100 := Lib.hid (L1_98.out.keep hb)
      clear L1_98
      have L53_100 := Lib.hid (L53_99.out.keep hb)
      clear L53_99
      have HB100 := Lib.hid (below_step HB98.out hb)
      clear HB98
      clear hb
      have L54_101 := Lib.hid hs
      clear hs
      go_wp2_with fail
      clear L1_100
      refine (same_yes A53 m53 c53 A54 m54 c54 (trimE xs) _ (L53_100.out.cast (ring_sub xs ys (by omega) (by omega))) L54_101.out).mono ?_
      rintro e W102 ⟨rfl, hb⟩
      have L53_102 := Lib.hid (L53_100.out.keep hb)
      clear L53_100
      have L54_102 := Lib.hid (L54_101.out.keep hb)
      clear L54_101
      have HB102 := Lib.hid (below_step HB100.out hb)
      clear HB100
      clear hb
      go_wp2_with fail
      go_ret
      exact ⟨rfl, HB102.out⟩
    · skip
      refine (degree_is A2 m2 c2 ys ((dy : Int)) _ L2_55.out (by rw [hdy]; omega)).mono ?_
      rintro e W103 ⟨rfl, hb⟩
      have L1_103 := Lib.hid (L1_55.out.keep hb)
      clear L1_55
      have L2_103 := Lib.hid (L2_55.out.keep hb)
      clear L2_55
      have L3_103 := Lib.hid (L3_55.out.keep hb)
      clear L3_55
      have HB103 := Lib.hid (below_step HB55.out hb)
      clear HB55
      clear hb
      go_wp2_with fail
      refine (polyMul_any A1 m1 c1 xs A2 m2 c2 ys _ L1_103.out L2_103.out (by omega) (by omega)).mono ?_
      rintro e W104 ⟨A56, m56, c56, rfl, hm56, hs, hb⟩
      have L1_104 := Lib.hid (L1_103.out.keep hb)
      clear L1_103
      have L2_104 := Lib.hid (L2_103.out.keep hb)
      clear L2_103
      have L3_104 := Lib.hid (L3_103.out.keep hb)
      clear L3_103
      have HB104 := Lib.hid (below_step HB103.out hb)
      clear HB103
      clear hb
      have L56_105 := Lib.hid hs
      clear hs
      go_wp2_with fail
      refine (degree_is A56 m56 c56 (mulE (trimE xs) (trimE ys)) ((dx : Int) + (dy : Int)) _ L56_105.out (ring_deg hdx hdy)).mono ?_
      rintro e W106 ⟨rfl, hb⟩
      have L1_106 := Lib.hid (L1_104.out.keep hb)
      clear L1_104
      have L2_106 := Lib.hid (L2_104.out.keep hb)
      clear L2_104
      have L3_106 := Lib.hid (L3_104.out.keep hb)
      clear L3_104
      have L56_106 := Lib.hid (L56_105.out.keep hb)
      clear L56_105
      have HB106 := Lib.hid (below_step HB104.out hb)
      clear HB104
      clear hb
      clear L56_106
      go_wp2_with fail
      refine (degree_is A1 m1 c1 xs ((dx : Int)) _ L1_106.out (by rw [hdx]; omega)).mono ?_
      rintro e W107 ⟨rfl, hb⟩
      have L1_107 := Lib.hid (L1_106.out.keep hb)
      clear L1_106
      have L2_107 := Lib.hid (L2_106.out.keep hb)
      clear L2_106
      have L3_107 := Lib.hid (L3_106.out.keep hb)
      clear L3_106
      have HB107 := Lib.hid (below_step HB106.out hb)
      clear HB106
      clear hb
      go_wp2_with fail
      have hwr := wrap_small (n := (dx : Int) + (dy : Int)) (by omega) (by have := trimE_length xs; have := trimE_length ys; omega)
      refine (degree_is A2 m2 c2 ys ((dy : Int)) _ L2_107.out (by rw [hdy]; omega)).mono ?_
      rintro e W108 ⟨rfl, hb⟩
      have L1_108 := Lib.hid (L1_107.out.keep hb)
      clear L1_107
      have L2_108 := Lib.hid (L2_107.out.keep hb)
      clear L2_107
      have L3_108 := Lib.hid (L3_107.out.keep hb)
      clear L3_107
      have HB108 := Lib.hid (below_step HB107.out hb)
      clear HB107
      clear hb
      go_wp2_with fail
      refine (polyAdd_any A1 m1 c1 xs A2 m2 c2 ys _ L1_108.out L2_108.out (by omega) (by omega)).mono ?_
      rintro e W109 ⟨A57, m57, c57, rfl, hm57, hs, hb⟩
      have L1_109 := Lib.hid (L1_108.out.keep hb)
      clear L1_108
      have L2_109 := Lib.hid (L2_108.out.keep hb)
      clear L2_108
      have L3_109 := Lib.hid (L3_108.out.keep hb)
      clear L3_108
      have HB109 := Lib.hid (below_step HB108.out hb)
      clear HB108
      clear hb
      have L57_110 := Lib.hid hs
      clear hs
      go_wp2_with fail
      refine (polyAdd_any A2 m2 c2 ys A1 m1 c1 xs _ L2_109.out L1_109.out (by omega) (by omega)).mono ?_
      rintro e W111 ⟨A58, m58, c58, rfl, hm58, hs, hb⟩
      have L1_111 := Lib.hid (L1_109.out.keep hb)
      clear L1_109
      have L2_111 := Lib.hid (L2_109.out.keep hb)
      clear L2_109
      have L3_111 := Lib.hid (L3_109.out.keep hb)
      clear L3_109
      have L57_111 := Lib.hid (L57_110.out.keep hb)
      clear L57_110
      have HB111 := Lib.hid (below_step HB109.out hb)
      clear HB109
      clear hb
      have L58_112 := Lib.hid hs
      clear hs
      go_wp2_with fail
      refine (same_yes A57 m57 c57 A58 m58 c58 (addE xs ys) _ L57_111.out (L58_112.out.cast (ring_addc xs ys (by omega) (by omega)))).mono ?_
      rintro e W113 ⟨rfl, hb⟩
      have L1_113 := Lib.hid (L1_111.out.keep hb)
      clear L1_111
      have L2_113 := Lib.hid (L2_111.out.keep hb)
      clear L2_111
      have L3_113 := Lib.hid (L3_111.out.keep hb)
      clear L3_111
      have L57_113 := Lib.hid (L57_111.out.keep hb)
      clear L57_111
      have L58_113 := Lib.hid (L58_112.out.keep hb)
      clear L58_112
      have HB113 := Lib.hid (below_step HB111.out hb)
      clear HB111
      clear hb
      go_wp2_with fail
      clear L57_113
      clear L58_113
      refine (polyMul_any A1 m1 c1 xs A2 m2 c2 ys _ L1_113.out L2_113.out (by omega) (by omega)).mono ?_
      rintro e W114 ⟨A60, m60, c60, rfl, hm60, hs, hb⟩
      have L1_114 := Lib.hid (L1_113.out.keep hb)
      clear L1_113
      have L2_114 := Lib.hid (L2_113.out.keep hb)
      clear L2_113
      have L3_114 := Lib.hid (L3_113.out.keep hb)
      clear L3_113
      have HB114 := Lib.hid (below_step HB113.out hb)
      clear HB113
      clear hb
      have L60_115 := Lib.hid hs
      clear hs
      go_wp2_with fail
      refine (polyMul_any A2 m2 c2 ys A1 m1 c1 xs _ L2_114.out L1_114.out (by omega) (by omega)).mono ?_
      rintro e W116 ⟨A61, m61, c61, rfl, hm61, hs, hb⟩
      have L1_116 := Lib.hid (L1_114.out.keep hb)
      clear L1_114
      have L2_116 := Lib.hid (L2_114.out.keep hb)
      clear L2_114
      have L3_116 := Lib.hid (L3_114.out.keep hb)
      clear L3_114
      have L60_116 := Lib.hid (L60_115.out.keep hb)
      clear L60_115
      have HB116 := Lib.hid (below_step HB114.out hb)
      clear HB114
      clear hb
      have L61_117 := Lib.hid hs
      clear hs
      go_wp2_with fail
      refine (same_yes A60 m60 c60 A61 m61 c61 (mulE (trimE xs) (trimE ys)) _ L60_116.out (L61_117.out.cast (ring_mulc xs ys (by omega) (by omega)))).mono ?_
      rintro e W118 ⟨rfl, hb⟩
      have L1_118 := Lib.hid (L1_116.out.keep hb)
      clear L1_116
      have L2_118 := Lib.hid (L2_116.out.keep hb)
      clear L2_116
      have L3_118 := Lib.hid (L3_116.out.keep hb)
      clear L3_116
      have L60_118 := Lib.hid (L60_116.out.keep hb)
      clear L60_116
      have L61_118 := Lib.hid (L61_117.out.keep hb)
      clear L61_117
      have HB118 := Lib.hid (below_step HB116.out hb)
      clear HB116
      clear hb
      go_wp2_with fail
      clear L60_118
      clear L61_118
      refine (polyAdd_any A1 m1 c1 xs A2 m2 c2 ys _ L1_118.out L2_118.out (by omega) (by omega)).mono ?_
      rintro e W119 ⟨A63, m63, c63, rfl, hm63, hs, hb⟩
      have L1_119 := Lib.hid (L1_118.out.keep hb)
      clear L1_118
      have L2_119 := Lib.hid (L2_118.out.keep hb)
      clear L2_118
      have L3_119 := Lib.hid (L3_118.out.keep hb)
      clear L3_118
      have HB119 := Lib.hid (below_step HB118.out hb)
      clear HB118
      clear hb
      have L63_120 := Lib.hid hs
      clear hs
      go_wp2_with fail
      refine (polyAdd_any A63 m63 c63 (addE xs ys) A3 m3 c3 zs _ L63_120.out L3_119.out (by omega) (by omega)).mono ?_
      rintro e W121 ⟨A64, m64, c64, rfl, hm64, hs, hb⟩
      have L1_121 := Lib.hid (L1_119.out.keep hb)
      clear L1_119
      have L2_121 := Lib.hid (L2_119.out.keep hb)
      clear L2_119
      have L3_121 := Lib.hid (L3_119.out.keep hb)
      clear L3_119
      have L63_121 := Lib.hid (L63_120.out.keep hb)
      clear L63_120
      have HB121 := Lib.hid (below_step HB119.out hb)
      clear HB119
      clear hb
      have L64_122 := Lib.hid hs
      clear hs
      go_wp2_with fail
      clear L63_121
      refine (polyAdd_any A2 m2 c2 ys A3 m3 c3 zs _ L2_121.out L3_121.out (by omega) (by omega)).mono ?_
      rintro e W123 ⟨A65, m65, c65, rfl, hm65, hs, hb⟩
      have L1_123 := Lib.hid (L1_121.out.keep hb)
      clear L1_121
      have L2_123 := Lib.hid (L2_121.out.keep hb)
      clear L2_121
      have L3_123 := Lib.hid (L3_121.out.keep hb)
      clear L3_121
      have L64_123 := Lib.hid (L64_122.out.keep hb)
      clear L64_122
      have HB123 := Lib.hid (below_step HB121.out hb)
      clear HB121
      clear hb
      have L65_124 := Lib.hid hs
      clear hs
      go_wp2_with fail
      refine (polyAdd_any A1 m1 c1 xs A65 m65 c65 (addE ys zs) _ L1_123.out L65_124.out (by omega) (by omega)).mono ?_
      rintro e W125 ⟨A66, m66, c66, rfl, hm66, hs, hb⟩
      have L1_125 := Lib.hid (L1_123.out.keep hb)
      clear L1_123
      have L2_125 := Lib.hid (L2_123.out.keep hb)
      clear L2_123
      have L3_125 := Lib.hid (L3_123.out.keep hb)
      clear L3_123
      have L64_125 := Lib.hid (L64_123.out.keep hb)
      clear L64_123
      have L65_125 := Lib.hid (L65_124.out.keep hb)
      clear L65_124
      have HB125 := Lib.hid (below_step HB123.out hb)
      clear HB123
      clear hb
      have L66_126 := Lib.hid hs
      clear hs
      go_wp2_with fail
      clear L65_125
      refine (same_yes A64 m64 c64 A66 m66 c66 (addE xs (addE ys zs)) _ (L64_125.out.cast (ring_adda xs ys zs (by omega) (by omega) (by omega))) L66_126.out).mono ?_
      rintro e W127 ⟨rfl, hb⟩
      have L1_127 := Lib.hid (L1_125.out.keep hb)
      clear L1_125
      have L2_127 := Lib.hid (L2_125.out.keep hb)
      clear L2_125
      have L3_127 := Lib.hid (L3_125.out.keep hb)
      clear L3_125
      have L64_127 := Lib.hid (L64_125.out.keep hb)
      clear L64_125
      have L66_127 := Lib.hid (L66_126.out.keep hb)
      clear L66_126
      have HB127 := Lib.hid (below_step HB125.out hb)
      clear HB125
      clear hb
      go_wp2_with fail
      clear L64_127
      clear L66_127
      refine (polyMul_any A1 m1 c1 xs A2 m2 c2 ys _ L1_127.out L2_127.out (by omega) (by omega)).mono ?_
      rintro e W128 ⟨A68, m68, c68, rfl, hm68, hs, hb⟩
      have L1_128 := Lib.hid (L1_127.out.keep hb)
      clear L1_127
      have L2_128 := Lib.hid (L2_127.out.keep hb)
      clear L2_127
      have L3_128 := Lib.hid (L3_127.out.keep hb)
      clear L3_127
      have HB128 := Lib.hid (below_step HB127.out hb)
      clear HB127
      clear hb
      have L68_129 := Lib.hid hs
      clear hs
      go_wp2_with fail
      refine (polyMul_any A68 m68 c68 (mulE (trimE xs) (trimE ys)) A3 m3 c3 zs _ L68_129.out L3_128.out (by omega) (by omega)).mono ?_
      rintro e W130 ⟨A69, m69, c69, rfl, hm69, hs, hb⟩
      have L1_130 := Lib.hid (L1_128.out.keep hb)
      clear L1_128
      have L2_130 := Lib.hid (L2_128.out.keep hb)
      clear L2_128
      have L3_130 := Lib.hid (L3_128.out.keep hb)
      clear L3_128
      have L68_130 := Lib.hid (L68_129.out.keep hb)
      clear L68_129
      have HB130 := Lib.hid (below_step HB128.out hb)
      clear HB128
      clear hb
      have L69_131 := Lib.hid hs
      clear hs
      go_wp2_with fail
      clear L68_130
      refine (polyMul_any A2 m2 c2 ys A3 m3 c3 zs _ L2_130.out L3_130.out (by omega) (by omega)).mono ?_
      rintro e W132 ⟨A70, m70, c70, rfl, hm70, hs, hb⟩
      have L1_132 := Lib.hid (L1_130.out.keep hb)
      clear L1_130
      have L2_132 := Lib.hid (L2_130.out.keep hb)
      clear L2_130
      have L3_132 := Lib.hid (L3_130.out.keep hb)
      clear L3_130
      have L69_132 := Lib.hid (L69_131.out.keep hb)
      clear L69_131
      have HB132 := Lib.hid (below_step HB130.out hb)
      clear HB130
      clear hb
      have L70_133 := Lib.hid hs
      clear hs
      go_wp2_with fail
      refine (polyMul_any A1 m1 c1 xs A70 m70 c70 (mulE (trimE ys) (trimE zs)) _ L1_132.out L70_133.out (by omega) (by omega)).mono ?_
      rintro e W134 ⟨A71, m71, c71, rfl, hm71, hs, hb⟩
      have L1_134 := Lib.hid (L1_132.out.keep hb)
      clear L1_132
      have L2_134 := Lib.hid (L2_132.out.keep hb)
      clear L2_132
      have L3_134 := Lib.hid (L3_132.out.keep hb)
      clear L3_132
      have L69_134 := Lib.hid (L69_132.out.keep hb)
      clear L69_132
      have L70_134 := Lib.hid (L70_133.out.keep hb)
      clear L70_133
      have HB134 := Lib.hid (below_step HB132.out hb)
      clear HB132
      clear hb
      have L71_135 := Lib.hid hs
      clear hs
      go_wp2_with fail
      clear L70_134
      refine (same_yes A69 m69 c69 A71 m71 c71 (mulE (trimE xs) (trimE (mulE (trimE ys) (trimE zs)))) _ (L69_134.out.cast (ring_mula xs ys zs (by omega) (by omega) (by omega))) L71_135.out).mono ?_
      rintro e W136 ⟨rfl, hb⟩
      have L1_136 := Lib.hid (L1_134.out.keep hb)
      clear L1_134
      have L2_136 := Lib.hid (L2_134.out.keep hb)
      clear L2_134
      have L3_136 := Lib.hid (L3_134.out.keep hb)
      clear L3_134
      have L69_136 := Lib.hid (L69_134.out.keep hb)
      clear L69_134
      have L71_136 := Lib.hid (L71_135.out.keep hb)
      clear L71_135
      have HB136 := Lib.hid (below_step HB134.out hb)
      clear HB134
      clear hb
      go_wp2_with fail
      clear L69_136
      clear L71_136
      refine (polyAdd_any A2 m2 c2 ys A3 m3 c3 zs _ L2_136.out L3_136.out (by omega) (by omega)).mono ?_
      rintro e W137 ⟨A73, m73, c73, rfl, hm73, hs, hb⟩
      have L1_137 := Lib.hid (L1_136.out.keep hb)
      clear L1_136
      have L2_137 := Lib.hid (L2_136.out.keep hb)
      clear L2_136
      have L3_137 := Lib.hid (L3_136.out.keep hb)
      clear L3_136
      have HB137 := Lib.hid (below_step HB136.out hb)
      clear HB136
      clear hb
      have L73_138 := Lib.hid hs
      clear hs
      go_wp2_with fail
      refine (polyMul_any A1 m1 c1 xs A73 m73 c73 (addE ys zs) _ L1_137.out L73_138.out (by omega) (by omega)).mono ?_
      rintro e W139 ⟨A74, m74, c74, rfl, hm74, hs, hb⟩
      have L1_139 := Lib.hid (L1_137.out.keep hb)
      clear L1_137
      have L2_139 := Lib.hid (L2_137.out.keep hb)
      clear L2_137
      have L3_139 := Lib.hid (L3_137.out.keep hb)
      clear L3_137
      have L73_139 := Lib.hid (L73_138.out.keep hb)
      clear L73_138
      have HB139 := Lib.hid (below_step HB137.out hb)
      clear HB137
      clear hb
      have L74_140 := Lib.hid hs
      clear hs
      go_wp2_with fail
      clear L73_139
      refine (polyMul_any A1 m1 c1 xs A2 m2 c2 ys _ L1_139.out L2_139.out (by omega) (by omega)).mono ?_
      rintro e W141 ⟨A75, m75, c75, rfl, hm75, hs, hb⟩
      have L1_141 := Lib.hid (L1_139.out.keep hb)
      clear L1_139
      have L2_141 := Lib.hid (L2_139.out.keep hb)
      clear L2_139
      have L3_141 := Lib.hid (L3_139.out.keep hb)
      clear L3_139
      have L74_141 := Lib.hid (L74_140.out.keep hb)
      clear L74_140
      have HB141 := Lib.hid (below_step HB139.out hb)
      clear HB139
      clear hb
      have L75_142 := Lib.hid hs
      clear hs
      go_wp2_with fail
      refine (polyMul_any A1 m1 c1 xs A3 m3 c3 zs _ L1_141.out L3_141.out (by omega) (by omega)).mono ?_
      rintro e W143 ⟨A76, m76, c76, rfl, hm76, hs, hb⟩
      have L1_143 := Lib.hid (L1_141.out.keep hb)
      clear L1_141
      have L2_143 := Lib.hid (L2_141.out.keep hb)
      clear L2_141
      have L3_143 := Lib.hid (L3_141.out.keep hb)
      clear L3_141
      have L74_143 := Lib.hid (L74_141.out.keep hb)
      clear L74_141
      have L75_143 := Lib.hid (L75_142.out.keep hb)
      clear L75_142
      have HB143 := Lib.hid (below_step HB141.out hb)
      clear HB141
      clear hb
      have L76_144 := Lib.hid hs
      clear hs
      go_wp2_with fail
      clear L3_143
      refine (polyAdd_any A75 m75 c75 (mulE (trimE xs) (trimE ys)) A76 m76 c76 (mulE (trimE xs) (trimE zs)) _ L75_143.out L76_144.out (by omega) (by omega)).mono ?_
      rintro e W145 ⟨A77, m77, c77, rfl, hm77, hs, hb⟩
      have L1_145 := Lib.hid (L1_143.out.keep hb)
      clear L1_143
      have L2_145 := Lib.hid (L2_143.out.keep hb)
      clear L2_143
      have L74_145 := Lib.hid (L74_143.out.keep hb)
      clear L74_143
      have L75_145 := Lib.hid (L75_143.out.keep hb)
      clear L75_143
      have L76_145 := Lib.hid (L76_144.out.keep hb)
      clear L76_144
      have HB145 := Lib.hid (below_step HB143.out hb)
      clear HB143
      clear hb
      have L77_146 := Lib.hid hs
      clear hs
      go_wp2_with fail
      clear L75_145
      clear L76_145
      refine (same_yes A74 m74 c74 A77 m77 c77 (addE (mulE (trimE xs) (trimE ys)) (mulE (trimE xs) (trimE zs))) _ (L74_145.out.cast (ring_dist xs ys zs (by omega) (by omega) (by omega))) L77_146.out).mono ?_
      rintro e W147 ⟨rfl, hb⟩
      have L1_147 := Lib.hid (L1_145.out.keep hb)
      clear L1_145
      have L2_147 := Lib.hid (L2_145.out.keep hb)
      clear L2_145
      have L74_147 := Lib.hid (L74_145.out.keep hb)
      clear L74_145
      have L77_147 := Lib.hid (L77_146.out.keep hb)
      clear L77_146
      have HB147 := Lib.hid (below_step HB145.out hb)
      clear HB145
      clear hb
      go_wp2_with fail
      clear L74_147
      clear L77_147
      refine (polySub_any A1 m1 c1 xs A2 m2 c2 ys _ L1_147.out L2_147.out (by omega) (by omega)).mono ?_
      rintro e W148 ⟨A79, m79, c79, rfl, hm79, hs, hb⟩
      have L1_148 := Lib.hid (L1_147.out.keep hb)
      clear L1_147
      have L2_148 := Lib.hid (L2_147.out.keep hb)
      clear L2_147
      have HB148 := Lib.hid (below_step HB147.out hb)
      clear HB147
      clear hb
      have L79_149 := Lib.hid hs
      clear hs
      go_wp2_with fail
      refine (polyAdd_any A79 m79 c79 (subE xs ys) A2 m2 c2 ys _ L79_149.out L2_148.out (by omega) (by omega)).mono ?_
      rintro e W150 ⟨A80, m80, c80, rfl, hm80, hs, hb⟩
      have L1_150 := Lib.hid (L1_148.out.keep hb)
      clear L1_148
      have L2_150 := Lib.hid (L2_148.out.keep hb)
      clear L2_148
      have L79_150 := Lib.hid (L79_149.out.keep hb)
      clear L79_149
      have HB150 := Lib.hid (below_step HB148.out hb)
      clear HB148
      clear hb
      have L80_151 := Lib.hid hs
      clear hs
      go_wp2_with fail
      clear L2_150
      clear L79_150
      refine (polyTrim_any A1 m1 c1 xs _ L1_150.out (by omega)).mono ?_
      rintro e W152 ⟨A81, m81, c81, rfl, hm81, hs, hb⟩
      have L1_152 := Lib.hid (L1_150.out.keep hb)
      clear L1_150
      have L80_152 := Lib.hid (L80_151.out.keep hb)
      clear L80_151
      have HB152 := Lib.hid (below_step HB150.out hb)
      clear HB150
      clear hb
      have L81_153 := Lib.hid hs
      clear hs
      go_wp2_with fail
      clear L1_152
      refine (same_yes A80 m80 c80 A81 m81 c81 (trimE xs) _ (L80_152.out.cast (ring_sub xs ys (by omega) (by omega))) L81_153.out).mono ?_
      rintro e W154 ⟨rfl, hb⟩
      have L80_154 := Lib.hid (L80_152.out.keep hb)
      clear L80_152
      have L81_154 := Lib.hid (L81_153.out.keep hb)
      clear L81_153
      have HB154 := Lib.hid (below_step HB152.out hb)
      clear HB152
      clear hb
      go_wp2_with fail
      go_ret
      exact ⟨rfl, HB154.out⟩

end Go.Proofs.Ytjimnoikkgheaaa
