/- Contract of the fixed examples of the laws of package mle; no conditions. -/
import Derived.Test.YtipbfonlcmegdaaMsw
namespace Go.Proofs.Ytipbfonlcmegdaa
set_option maxRecDepth 8000
open Go.RowKit Gold

set_option maxHeartbeats 8000000 in
set_option maxRecDepth 100000 in
theorem sanity5_any (w : World) : Calls Try.prog 10 #[] w fun e w' => e = .returned (.bool true) ∧ Below w.heap.size w w' := by
  go_enter Try.func10, Try.ntmps10
  go_wp2_with fail
  refine calls_named1 (fun V1 hbV gV hzV => ?_)
  have hz := Sz.of (zs := [1, 2, 5, 9]) gV (by decide)
  have HB2 := Lib.hid hbV
  clear hbV gV hzV
  refine (ints5_any (some ⟨w.heap.size, 0, none⟩) 4 4 [1, 2, 5, 9] _ hz (by intro z hz'; simp at hz'; omega) (by omega)).mono ?_
  rintro e W3 ⟨Aa, ca, rfl, hs, hb⟩
  have HB4 := Lib.hid (below_step HB2.out hb)
  clear HB2
  clear hb
  have a5 := Lib.hid hs
  clear hs
  clear hz
  go_wp2_with fail
  refine calls_named1 (fun V6 hbV gV hzV => ?_)
  have hz := Sz.of (zs := [2, 3]) gV (by decide)
  have a7 := Lib.hid (a5.out.keep hbV)
  clear a5
  have HB7 := Lib.hid (below_step HB4.out hbV)
  clear HB4
  clear hbV gV hzV
  refine (ints5_any (some ⟨W3.heap.size, 0, none⟩) 2 2 [2, 3] _ hz (by intro z hz'; simp at hz'; omega) (by omega)).mono ?_
  rintro e W8 ⟨Ap, cp, rfl, hs, hb⟩
  have a9 := Lib.hid (a7.out.keep hb)
  clear a7
  have HB9 := Lib.hid (below_step HB7.out hb)
  clear HB7
  clear hb
  have p10 := Lib.hid hs
  clear hs
  clear hz
  have hca := a9.out.cap
  have hta := a9.out.top
  have hcp := p10.out.cap
  have htp := p10.out.top
  go_wp2_with fail
  refine (mleValid_yes Aa 4 ca 2 _ _ (SlW.of a9.out) rfl (by omega) (allV_E2 _)).mono ?_
  rintro e W11 ⟨rfl, hb⟩
  have a12 := Lib.hid (a9.out.keep hb)
  clear a9
  have p12 := Lib.hid (p10.out.keep hb)
  clear p10
  have HB12 := Lib.hid (below_step HB9.out hb)
  clear HB9
  clear hb
  go_wp2_with fail
  refine (mleValid_no Aa 3 ca _ san_pow3).mono ?_
  rintro e W13 ⟨rfl, hb⟩
  have a14 := Lib.hid (a12.out.keep hb)
  clear a12
  have p14 := Lib.hid (p12.out.keep hb)
  clear p12
  have HB14 := Lib.hid (below_step HB12.out hb)
  clear HB12
  clear hb
  go_wp2_with fail
  refine (mleValid_no none 0 0 _ san_pow0).mono ?_
  rintro e W15 ⟨rfl, hb⟩
  have a16 := Lib.hid (a14.out.keep hb)
  clear a14
  have p16 := Lib.hid (p14.out.keep hb)
  clear p14
  have HB16 := Lib.hid (below_step HB14.out hb)
  clear HB14
  clear hb
  go_wp2_with fail
  refine calls_named1 (fun V17 hbV gV hzV => ?_)
  have a18 := Lib.hid (a16.out.keep hbV)
  clear a16
  have p18 := Lib.hid (p16.out.keep hbV)
  clear p16
  have HB18 := Lib.hid (below_step HB16.out hbV)
  clear HB16
  have hbad : SlW V17 (some ⟨W15.heap.size, 0, none⟩) 1 1 [(18446744069414584321, 0)] := ⟨rfl, Nat.le_refl _, by omega, (fun e => by cases e), fun i p hp => ⟨_, rfl, by
    match i, hp with
    | 0, hp =>
      injection hp with hp
      subst hp
      unfold AtV
      rw [add_base]
      exact ⟨by simp [World.cell?, gV], by simp [World.cell?, gV]⟩
    | i + 1, hp => simp at hp⟩⟩
  clear hbV gV hzV
  refine (mleValid_bad (some ⟨W15.heap.size, 0, none⟩) 1 1 0 _ _ hbad rfl (by omega) san_bad).mono ?_
  rintro e W19 ⟨rfl, hb⟩
  have a20 := Lib.hid (a18.out.keep hb)
  clear a18
  have p20 := Lib.hid (p18.out.keep hb)
  clear p18
  have HB20 := Lib.hid (below_step HB18.out hb)
  clear HB18
  clear hb
  clear hbad
  go_wp2_with fail
  refine (mleEval_any Aa 4 ca [ndZ (1), ndZ (2), ndZ (5), ndZ (9)] Ap 2 cp [ndZ (2), ndZ (3)] _ a20.out p20.out rfl (by omega)).mono ?_
  rw [san_eval]
  rintro e W21 ⟨rfl, hb⟩
  have a22 := Lib.hid (a20.out.keep hb)
  clear a20
  have p22 := Lib.hid (p20.out.keep hb)
  clear p20
  have HB22 := Lib.hid (below_step HB20.out hb)
  clear HB20
  clear hb
  go_wp2_with fail
  refine (rFromNd5 (33) _ (by omega) (by omega)).mono ?_
  rintro e W23 ⟨rfl, hb⟩
  have a24 := Lib.hid (a22.out.keep hb)
  clear a22
  have p24 := Lib.hid (p22.out.keep hb)
  clear p22
  have HB24 := Lib.hid (below_step HB22.out hb)
  clear HB22
  clear hb
  have hq58 := run_eqE_same ((ndZ (33)))
  go_wp2_with fail
  clear hq58
  refine (mleEval_any Aa 1 ca [ndZ (1)] none 0 0 [] _ ((a24.out.take (show 1 ≤ 4 by omega)).cast (rfl : _ = [ndZ (1)])) (Sl.nil _) rfl (by omega)).mono ?_
  rw [san_one]
  rintro e W25 ⟨rfl, hb⟩
  have a26 := Lib.hid (a24.out.keep hb)
  clear a24
  have p26 := Lib.hid (p24.out.keep hb)
  clear p24
  have HB26 := Lib.hid (below_step HB24.out hb)
  clear HB24
  clear hb
  go_wp2_with fail
  refine (rFromNd5 (1) _ (by omega) (by omega)).mono ?_
  rintro e W27 ⟨rfl, hb⟩
  have a28 := Lib.hid (a26.out.keep hb)
  clear a26
  have p28 := Lib.hid (p26.out.keep hb)
  clear p26
  have HB28 := Lib.hid (below_step HB26.out hb)
  clear HB26
  clear hb
  have hq65 := run_eqE_same ((ndZ (1)))
  go_wp2_with fail
  clear hq65
  refine (rFromNd5 (2) _ (by omega) (by omega)).mono ?_
  rintro e W29 ⟨rfl, hb⟩
  have a30 := Lib.hid (a28.out.keep hb)
  clear a28
  have p30 := Lib.hid (p28.out.keep hb)
  clear p28
  have HB30 := Lib.hid (below_step HB28.out hb)
  clear HB28
  clear hb
  go_wp2_with fail
  refine (mleBind_sl Aa 4 ca [ndZ (1), ndZ (2), ndZ (5), ndZ (9)] (ndZ (2)) 2 _ a30.out (by omega) (by omega) rfl).mono ?_
  rw [san_bind]
  rintro e W31 ⟨A6, c6, rfl, hs, hb⟩
  have a32 := Lib.hid (a30.out.keep hb)
  clear a30
  have p32 := Lib.hid (p30.out.keep hb)
  clear p30
  have HB32 := Lib.hid (below_step HB30.out hb)
  clear HB30
  clear hb
  have L6_33 := Lib.hid hs
  clear hs
  go_wp2_with fail
  refine calls_named1 (fun V34 hbV gV hzV => ?_)
  have hz := Sz.of (zs := [3, 13]) gV (by decide)
  have a35 := Lib.hid (a32.out.keep hbV)
  clear a32
  have p35 := Lib.hid (p32.out.keep hbV)
  clear p32
  have L6_35 := Lib.hid (L6_33.out.keep hbV)
  clear L6_33
  have HB35 := Lib.hid (below_step HB32.out hbV)
  clear HB32
  have Z7_36 := Lib.hid hz
  clear hz
  clear hbV gV hzV
  clear a35
  refine (ints5_any (some ⟨W31.heap.size, 0, none⟩) 2 2 [3, 13] _ Z7_36.out (by intro z hz'; simp at hz'; omega) (by omega)).mono ?_
  rintro e W37 ⟨A8, c8, rfl, hs, hb⟩
  have p38 := Lib.hid (p35.out.keep hb)
  clear p35
  have L6_38 := Lib.hid (L6_35.out.keep hb)
  clear L6_35
  have Z7_38 := Lib.hid (Z7_36.out.keep hb)
  clear Z7_36
  have HB38 := Lib.hid (below_step HB35.out hb)
  clear HB35
  clear hb
  have L8_39 := Lib.hid hs
  clear hs
  go_wp2_with fail
  clear Z7_38
  refine (same5_yes A6 2 c6 A8 2 c8 [ndZ (3), ndZ (13)] _ L6_38.out L8_39.out).mono ?_
  rintro e W40 ⟨rfl, hb⟩
  have p41 := Lib.hid (p38.out.keep hb)
  clear p38
  have L6_41 := Lib.hid (L6_38.out.keep hb)
  clear L6_38
  have L8_41 := Lib.hid (L8_39.out.keep hb)
  clear L8_39
  have HB41 := Lib.hid (below_step HB38.out hb)
  clear HB38
  clear hb
  go_wp2_with fail
  clear L6_41
  clear L8_41
  refine (mleEqTable_sl Ap 2 cp [ndZ (2), ndZ (3)] 4 _ p41.out (by omega) rfl).mono ?_
  rw [san_tab]
  rintro e W42 ⟨A10, c10, rfl, hs, hb⟩
  have p43 := Lib.hid (p41.out.keep hb)
  clear p41
  have HB43 := Lib.hid (below_step HB41.out hb)
  clear HB41
  clear hb
  have L10_44 := Lib.hid hs
  clear hs
  go_wp2_with fail
  refine calls_named1 (fun V45 hbV gV hzV => ?_)
  have hz := Sz.of (zs := [2, (-4), (-3), 6]) gV (by decide)
  have p46 := Lib.hid (p43.out.keep hbV)
  clear p43
  have L10_46 := Lib.hid (L10_44.out.keep hbV)
  clear L10_44
  have HB46 := Lib.hid (below_step HB43.out hbV)
  clear HB43
  have Z11_47 := Lib.hid hz
  clear hz
  clear hbV gV hzV
  refine (ints5_any (some ⟨W42.heap.size, 0, none⟩) 4 4 [2, (-4), (-3), 6] _ Z11_47.out (by intro z hz'; simp at hz'; omega) (by omega)).mono ?_
  rintro e W48 ⟨A12, c12, rfl, hs, hb⟩
  have p49 := Lib.hid (p46.out.keep hb)
  clear p46
  have L10_49 := Lib.hid (L10_46.out.keep hb)
  clear L10_46
  have Z11_49 := Lib.hid (Z11_47.out.keep hb)
  clear Z11_47
  have HB49 := Lib.hid (below_step HB46.out hb)
  clear HB46
  clear hb
  have L12_50 := Lib.hid hs
  clear hs
  go_wp2_with fail
  clear Z11_49
  refine (same5_yes A10 4 c10 A12 4 c12 [ndZ (2), ndZ (-4), ndZ (-3), ndZ (6)] _ L10_49.out L12_50.out).mono ?_
  rintro e W51 ⟨rfl, hb⟩
  have p52 := Lib.hid (p49.out.keep hb)
  clear p49
  have L10_52 := Lib.hid (L10_49.out.keep hb)
  clear L10_49
  have L12_52 := Lib.hid (L12_50.out.keep hb)
  clear L12_50
  have HB52 := Lib.hid (below_step HB49.out hb)
  clear HB49
  clear hb
  go_wp2_with fail
  clear L10_52
  clear L12_52
  refine (mleEqTable_sl none 0 0 [] 1 _ (Sl.nil _) (by omega) rfl).mono ?_
  rw [san_tab0]
  rintro e W53 ⟨A14, c14, rfl, hs, hb⟩
  have p54 := Lib.hid (p52.out.keep hb)
  clear p52
  have HB54 := Lib.hid (below_step HB52.out hb)
  clear HB52
  clear hb
  have L14_55 := Lib.hid hs
  clear hs
  go_wp2_with fail
  refine calls_named1 (fun V56 hbV gV hzV => ?_)
  have hz := Sz.of (zs := [1]) gV (by decide)
  have p57 := Lib.hid (p54.out.keep hbV)
  clear p54
  have L14_57 := Lib.hid (L14_55.out.keep hbV)
  clear L14_55
  have HB57 := Lib.hid (below_step HB54.out hbV)
  clear HB54
  have Z15_58 := Lib.hid hz
  clear hz
  clear hbV gV hzV
  refine (ints5_any (some ⟨W53.heap.size, 0, none⟩) 1 1 [1] _ Z15_58.out (by intro z hz'; simp at hz'; omega) (by omega)).mono ?_
  rintro e W59 ⟨A16, c16, rfl, hs, hb⟩
  have p60 := Lib.hid (p57.out.keep hb)
  clear p57
  have L14_60 := Lib.hid (L14_57.out.keep hb)
  clear L14_57
  have Z15_60 := Lib.hid (Z15_58.out.keep hb)
  clear Z15_58
  have HB60 := Lib.hid (below_step HB57.out hb)
  clear HB57
  clear hb
  have L16_61 := Lib.hid hs
  clear hs
  go_wp2_with fail
  clear Z15_60
  refine (same5_yes A14 1 c14 A16 1 c16 [ndZ (1)] _ L14_60.out L16_61.out).mono ?_
  rintro e W62 ⟨rfl, hb⟩
  have p63 := Lib.hid (p60.out.keep hb)
  clear p60
  have L14_63 := Lib.hid (L14_60.out.keep hb)
  clear L14_60
  have L16_63 := Lib.hid (L16_61.out.keep hb)
  clear L16_61
  have HB63 := Lib.hid (below_step HB60.out hb)
  clear HB60
  clear hb
  go_wp2_with fail
  clear L14_63
  clear L16_63
  refine (mleEqIndex_at (2) 2 Ap 2 cp [ndZ (2), ndZ (3)] _ p63.out rfl (by omega) (by omega)).mono ?_
  rw [san_idx]
  rintro e W64 ⟨rfl, hb⟩
  have p65 := Lib.hid (p63.out.keep hb)
  clear p63
  have HB65 := Lib.hid (below_step HB63.out hb)
  clear HB63
  clear hb
  go_wp2_with fail
  refine (rFromNd5 (-3) _ (by omega) (by omega)).mono ?_
  rintro e W66 ⟨rfl, hb⟩
  have p67 := Lib.hid (p65.out.keep hb)
  clear p65
  have HB67 := Lib.hid (below_step HB65.out hb)
  clear HB65
  clear hb
  have hq92 := run_eqE_same ((ndZ (-3)))
  go_wp2_with fail
  clear hq92
  refine (mleEq_any Ap 2 cp [ndZ (2), ndZ (3)] Ap 2 cp [ndZ (2), ndZ (3)] _ p67.out p67.out rfl).mono ?_
  rw [san_eq]
  rintro e W68 ⟨rfl, hb⟩
  have p69 := Lib.hid (p67.out.keep hb)
  clear p67
  have HB69 := Lib.hid (below_step HB67.out hb)
  clear HB67
  clear hb
  go_wp2_with fail
  refine (rFromNd5 (65) _ (by omega) (by omega)).mono ?_
  rintro e W70 ⟨rfl, hb⟩
  have p71 := Lib.hid (p69.out.keep hb)
  clear p69
  have HB71 := Lib.hid (below_step HB69.out hb)
  clear HB69
  clear hb
  have hq99 := run_eqE_same ((ndZ (65)))
  go_wp2_with fail
  clear hq99
  refine (rFromNd5 (33) _ (by omega) (by omega)).mono ?_
  rintro e W72 ⟨rfl, hb⟩
  have p73 := Lib.hid (p71.out.keep hb)
  clear p71
  have HB73 := Lib.hid (below_step HB71.out hb)
  clear HB71
  clear hb
  go_wp2_with fail
  refine (rFromNd5 (2) _ (by omega) (by omega)).mono ?_
  rintro e W74 ⟨rfl, hb⟩
  have p75 := Lib.hid (p73.out.keep hb)
  clear p73
  have HB75 := Lib.hid (below_step HB73.out hb)
  clear HB73
  clear hb
  go_wp2_with fail
  refine (mleAccumulate_at (ndZ (33)) (3) 3 (ndZ (2)) Ap 2 cp [ndZ (2), ndZ (3)] _ p75.out rfl (by omega) (by omega)).mono ?_
  rw [san_acc]
  rintro e W76 ⟨rfl, hb⟩
  have p77 := Lib.hid (p75.out.keep hb)
  clear p75
  have HB77 := Lib.hid (below_step HB75.out hb)
  clear HB75
  clear hb
  go_wp2_with fail
  clear p77
  refine (rFromNd5 (45) _ (by omega) (by omega)).mono ?_
  rintro e W78 ⟨rfl, hb⟩
  have HB79 := Lib.hid (below_step HB77.out hb)
  clear HB77
  clear hb
  have hq107 := run_eqE_same ((ndZ (45)))
  go_wp2_with fail
  clear hq107
  refine calls_named1 (fun V80 hbV gV hzV => ?_)
  have hz := Sz.of (zs := [1, 5]) gV (by decide)
  have HB81 := Lib.hid (below_step HB79.out hbV)
  clear HB79
  have Z26_82 := Lib.hid hz
  clear hz
  clear hbV gV hzV
  refine (ints5_any (some ⟨W78.heap.size, 0, none⟩) 2 2 [1, 5] _ Z26_82.out (by intro z hz'; simp at hz'; omega) (by omega)).mono ?_
  rintro e W83 ⟨A27, c27, rfl, hs, hb⟩
  have Z26_84 := Lib.hid (Z26_82.out.keep hb)
  clear Z26_82
  have HB84 := Lib.hid (below_step HB81.out hb)
  clear HB81
  clear hb
  have L27_85 := Lib.hid hs
  clear hs
  go_wp2_with fail
  refine calls_named1 (fun V86 hbV gV hzV => ?_)
  have hz := Sz.of (zs := [4, 3]) gV (by decide)
  have Z26_87 := Lib.hid (Z26_84.out.keep hbV)
  clear Z26_84
  have L27_87 := Lib.hid (L27_85.out.keep hbV)
  clear L27_85
  have HB87 := Lib.hid (below_step HB84.out hbV)
  clear HB84
  have Z28_88 := Lib.hid hz
  clear hz
  clear hbV gV hzV
  clear Z26_87
  refine (ints5_any (some ⟨W83.heap.size, 0, none⟩) 2 2 [4, 3] _ Z28_88.out (by intro z hz'; simp at hz'; omega) (by omega)).mono ?_
  rintro e W89 ⟨A29, c29, rfl, hs, hb⟩
  have L27_90 := Lib.hid (L27_87.out.keep hb)
  clear L27_87
  have Z28_90 := Lib.hid (Z28_88.out.keep hb)
  clear Z28_88
  have HB90 := Lib.hid (below_step HB87.out hb)
  clear HB87
  clear hb
  have L29_91 := Lib.hid hs
  clear hs
  go_wp2_with fail
  clear Z28_90
  refine (rFromNd5 (2) _ (by omega) (by omega)).mono ?_
  rintro e W92 ⟨rfl, hb⟩
  have L27_93 := Lib.hid (L27_90.out.keep hb)
  clear L27_90
  have L29_93 := Lib.hid (L29_91.out.keep hb)
  clear L29_91
  have HB93 := Lib.hid (below_step HB90.out hb)
  clear HB90
  clear hb
  go_wp2_with fail
  refine (mleLine_any A27 2 c27 [ndZ (1), ndZ (5)] A29 2 c29 [ndZ (4), ndZ (3)] (ndZ (2)) _ L27_93.out L29_93.out rfl (by omega)).mono ?_
  rw [san_line]
  rintro e W94 ⟨A31, c31, rfl, hs, hb⟩
  have L27_95 := Lib.hid (L27_93.out.keep hb)
  clear L27_93
  have L29_95 := Lib.hid (L29_93.out.keep hb)
  clear L29_93
  have HB95 := Lib.hid (below_step HB93.out hb)
  clear HB93
  clear hb
  have L31_96 := Lib.hid hs
  clear hs
  go_wp2_with fail
  refine calls_named1 (fun V97 hbV gV hzV => ?_)
  have hz := Sz.of (zs := [7, 1]) gV (by decide)
  have L27_98 := Lib.hid (L27_95.out.keep hbV)
  clear L27_95
  have L29_98 := Lib.hid (L29_95.out.keep hbV)
  clear L29_95
  have L31_98 := Lib.hid (L31_96.out.keep hbV)
  clear L31_96
  have HB98 := Lib.hid (below_step HB95.out hbV)
  clear HB95
  have Z32_99 := Lib.hid hz
  clear hz
  clear hbV gV hzV
  clear L27_98
  clear L29_98
  refine (ints5_any (some ⟨W94.heap.size, 0, none⟩) 2 2 [7, 1] _ Z32_99.out (by intro z hz'; simp at hz'; omega) (by omega)).mono ?_
  rintro e W100 ⟨A33, c33, rfl, hs, hb⟩
  have L31_101 := Lib.hid (L31_98.out.keep hb)
  clear L31_98
  have Z32_101 := Lib.hid (Z32_99.out.keep hb)
  clear Z32_99
  have HB101 := Lib.hid (below_step HB98.out hb)
  clear HB98
  clear hb
  have L33_102 := Lib.hid hs
  clear hs
  go_wp2_with fail
  clear Z32_101
  refine (same5_yes A31 2 c31 A33 2 c33 [ndZ (7), ndZ (1)] _ L31_101.out L33_102.out).mono ?_
  rintro e W103 ⟨rfl, hb⟩
  have L31_104 := Lib.hid (L31_101.out.keep hb)
  clear L31_101
  have L33_104 := Lib.hid (L33_102.out.keep hb)
  clear L33_102
  have HB104 := Lib.hid (below_step HB101.out hb)
  clear HB101
  clear hb
  go_wp2_with fail
  refine calls_named1 (fun V105 hbV gV hzV => ?_)
  have hz : Sf V105 (some ⟨W103.heap.size, 0, none⟩) 2 2 ([7, 0] : List F) := RowF.sl (show RowF V105 W103.heap.size ([7, 0] : List F) from gV) rfl (by omega) (by omega)
  have L31_106 := Lib.hid (L31_104.out.keep hbV)
  clear L31_104
  have L33_106 := Lib.hid (L33_104.out.keep hbV)
  clear L33_104
  have HB106 := Lib.hid (below_step HB104.out hbV)
  clear HB104
  have W35_107 := Lib.hid hz
  clear hz
  clear hbV gV hzV
  clear L31_106
  clear L33_106
  refine (mleLift_sl (some ⟨W103.heap.size, 0, none⟩) 2 2 [7, 0] _ W35_107.out (by omega)).mono ?_
  rw [san_lift]
  rintro e W108 ⟨A36, c36, rfl, hs, hb⟩
  have W35_109 := Lib.hid (W35_107.out.keep hb)
  clear W35_107
  have HB109 := Lib.hid (below_step HB106.out hb)
  clear HB106
  clear hb
  have L36_110 := Lib.hid hs
  clear hs
  go_wp2_with fail
  refine calls_named1 (fun V111 hbV gV hzV => ?_)
  have hz := Sz.of (zs := [7, 0]) gV (by decide)
  have W35_112 := Lib.hid (W35_109.out.keep hbV)
  clear W35_109
  have L36_112 := Lib.hid (L36_110.out.keep hbV)
  clear L36_110
  have HB112 := Lib.hid (below_step HB109.out hbV)
  clear HB109
  have Z37_113 := Lib.hid hz
  clear hz
  clear hbV gV hzV
  clear W35_112
  refine (ints5_any (some ⟨W108.heap.size, 0, none⟩) 2 2 [7, 0] _ Z37_113.out (by intro z hz'; simp at hz'; omega) (by omega)).mono ?_
  rintro e W114 ⟨A38, c38, rfl, hs, hb⟩
  have L36_115 := Lib.hid (L36_112.out.keep hb)
  clear L36_112
  have Z37_115 := Lib.hid (Z37_113.out.keep hb)
  clear Z37_113
  have HB115 := Lib.hid (below_step HB112.out hb)
  clear HB112
  clear hb
  have L38_116 := Lib.hid hs
  clear hs
  go_wp2_with fail
  clear Z37_115
  refine (same5_yes A36 2 c36 A38 2 c38 [ndZ (7), ndZ (0)] _ L36_115.out L38_116.out).mono ?_
  rintro e W117 ⟨rfl, hb⟩
  have L36_118 := Lib.hid (L36_115.out.keep hb)
  clear L36_115
  have L38_118 := Lib.hid (L38_116.out.keep hb)
  clear L38_116
  have HB118 := Lib.hid (below_step HB115.out hb)
  clear HB115
  clear hb
  go_wp2_with fail
  go_ret
  exact ⟨rfl, HB118.out⟩

end Go.Proofs.Ytipbfonlcmegdaa
