/- Contract of a law of package poly; no conditions but the arguments' own. -/
import Derived.Test.YtjimnoikkgheaaaLawS
import Derived.Test.YtjimnoikkgheaaaLawQ
set_option linter.unusedVariables false
namespace Go.Proofs.Ytjimnoikkgheaaa
open Go.RowKit Gold
variable {ops : Array Oper} {w0 : World}

set_option maxHeartbeats 16000000 in
set_option maxRecDepth 100000 in
theorem polyRootBound_any (A0 : Option Addr) (na ca : Nat) (pa : List (Int × Int)) (B0 : Option Addr) (nb cb : Nat) (pb : List (Int × Int)) (C0 : Option Addr) (nc cc : Nat) (pc : List (Int × Int)) (w : World) (ha : Sr w A0 na ca pa) (wa : Nums pa) (hb : Sr w B0 nb cb pb) (wb : Nums pb) (hc : Sr w C0 nc cc pc) (wc : Nums pc) :
    Calls Try.prog 9 #[.slice A0 na ca, .slice B0 nb cb, .slice C0 nc cc] w fun e w' => e = .returned (.bool true) ∧ Below w.heap.size w w' := by
  have Pa0 := Lib.hid ha
  have Wa := Lib.hid wa
  clear ha wa
  have Pb0 := Lib.hid hb
  have Wb := Lib.hid wb
  clear hb wb
  have Pc0 := Lib.hid hc
  have Wc := Lib.hid wc
  clear hc wc
  go_enter Try.func9, Try.ntmps9
  go_wp2_with fail
  refine (sanity3_any _).mono ?_
  rintro e W1 ⟨rfl, hb⟩
  have Pa2 := Lib.hid (Pa0.out.keep hb)
  clear Pa0
  have Pb2 := Lib.hid (Pb0.out.keep hb)
  clear Pb0
  have Pc2 := Lib.hid (Pc0.out.keep hb)
  clear Pc0
  have HB2 := Lib.hid hb
  clear hb
  go_wp2_with fail
  refine (rPMade_any A0 na ca pa 6 _ Pa2.out Wa.out (by omega)).mono ?_
  rintro e W3 ⟨A1, m1, c1, rfl, hm1, hs, ho, hb⟩
  have Pa4 := Lib.hid (Pa2.out.keep hb)
  clear Pa2
  have Pb4 := Lib.hid (Pb2.out.keep hb)
  clear Pb2
  have Pc4 := Lib.hid (Pc2.out.keep hb)
  clear Pc2
  have HB4 := Lib.hid (below_step HB2.out hb)
  clear HB2
  clear hb
  have L1_5 := Lib.hid hs
  clear hs
  clear ho
  clear Pa4
  go_wp2_with fail
  refine (rPMade_any B0 nb cb pb 6 _ Pb4.out Wb.out (by omega)).mono ?_
  rintro e W6 ⟨A2, m2, c2, rfl, hm2, hs, ho, hb⟩
  have Pb7 := Lib.hid (Pb4.out.keep hb)
  clear Pb4
  have Pc7 := Lib.hid (Pc4.out.keep hb)
  clear Pc4
  have L1_7 := Lib.hid (L1_5.out.keep hb)
  clear L1_5
  have HB7 := Lib.hid (below_step HB4.out hb)
  clear HB4
  clear hb
  have L2_8 := Lib.hid hs
  clear hs
  clear ho
  clear Pb7
  go_wp2_with fail
  refine (rPMade_any C0 nc cc pc 12 _ Pc7.out Wc.out (by omega)).mono ?_
  rintro e W9 ⟨A3, m3, c3, rfl, hm3, hs, ho, hb⟩
  have Pc10 := Lib.hid (Pc7.out.keep hb)
  clear Pc7
  have L1_10 := Lib.hid (L1_7.out.keep hb)
  clear L1_7
  have L2_10 := Lib.hid (L2_8.out.keep hb)
  clear L2_8
  have HB10 := Lib.hid (below_step HB7.out hb)
  clear HB7
  clear hb
  have L3_11 := Lib.hid hs
  clear hs
  clear ho
  clear Pc10
  generalize ((pa.take 6).map madeE) = xs at *
  have hlxs : xs.length ≤ 6 := by have := L1_10.out.len; omega
  generalize ((pb.take 6).map madeE) = ys at *
  have hlys : ys.length ≤ 6 := by have := L2_10.out.len; omega
  generalize ((pc.take 12).map madeE) = zs at *
  have hlzs : zs.length ≤ 12 := by have := L3_11.out.len; omega
  have hpc := L1_10.out.cap
  have hpt := L1_10.out.top
  have hqc := L2_10.out.cap
  have hqt := L2_10.out.top
  have hrc := L3_11.out.cap
  have hrt := L3_11.out.top
  go_wp2_with fail
  refine (different_any A3 m3 c3 zs _ L3_11.out (by omega)).mono ?_
  rintro e W12 ⟨A4, m4, c4, rfl, hs, hb⟩
  have L1_13 := Lib.hid (L1_10.out.keep hb)
  clear L1_10
  have L2_13 := Lib.hid (L2_10.out.keep hb)
  clear L2_10
  have L3_13 := Lib.hid (L3_11.out.keep hb)
  clear L3_11
  have HB13 := Lib.hid (below_step HB10.out hb)
  clear HB10
  clear hb
  have L4_14 := Lib.hid hs
  clear hs
  clear L3_13
  have hdn := Lib.hid (diffAt_nodup zs m3)
  have hdl := diffAt_length zs m3
  generalize diffAt zs m3 = ls at *
  have hml := Lib.hid L4_14.out.len
  have hm12 : m4 ≤ 12 := by have := hml.out; omega
  clear hdl
  have hsc := L4_14.out.cap
  have hst := L4_14.out.top
  obtain ⟨D, hD⟩ : ∃ D : Int, ((trimE xs).length : Int) - 1 = D := ⟨_, rfl⟩
  have HD := Lib.hid hD
  clear hD
  obtain ⟨E, hE⟩ : ∃ E : Int, ((trimE ys).length : Int) - 1 = E := ⟨_, rfl⟩
  have HE := Lib.hid hE
  clear hE
  go_wp2_with fail
  refine (rFromNd_any 1 _ (by omega) (by omega)).mono ?_
  rintro e W15 ⟨rfl, hb⟩
  have L1_16 := Lib.hid (L1_13.out.keep hb)
  clear L1_13
  have L2_16 := Lib.hid (L2_13.out.keep hb)
  clear L2_13
  have L4_16 := Lib.hid (L4_14.out.keep hb)
  clear L4_14
  have HB16 := Lib.hid (below_step HB13.out hb)
  clear HB13
  clear hb
  go_upto_region 6 with (fail)
  refine wp_named1 (fun V17 hbV g0 hzV => ?_)
  have hq := Row.slc (w := V17) (g := W15.heap.size) (xs := [ndZ 1]) (n := 1) (c := 1) g0 rfl (by omega) (by omega)
  have L1_18 := Lib.hid (L1_16.out.keep hbV)
  clear L1_16
  have L2_18 := Lib.hid (L2_16.out.keep hbV)
  clear L2_16
  have L4_18 := Lib.hid (L4_16.out.keep hbV)
  clear L4_16
  have HB18 := Lib.hid (below_step HB16.out hbV)
  clear HB16
  clear hbV hzV g0
  have Q19 := Lib.hid hq
  clear hq
  go_wp2_with fail
  go_loopw [11, 12] (fun v i wr => ∃ (k : Nat) (A9 : Option Addr) (n9 c9 : Nat), k ≤ m4 ∧ k ≤ 4 ∧ i = .int .i64 k ∧ v = .slice A9 n9 c9 ∧ Sl wr A9 n9 c9 (prodX ls k) ∧ Below V17.heap.size V17 wr) (fun _ i _ => m4 - (intOf i).toNat)
  case atStart => exact ⟨0, _, 1, 1, Nat.zero_le _, by omega, rfl, rfl, Q19.out, Below.refl _ _⟩
  clear Q19
  case round =>
    obtain ⟨k, A9, n9, c9, hk, hk4, rfl, rfl, hs9, hbl⟩ := hrel
    have hn9 : n9 ≤ 13 := by have := hs9.len; have := prodX_length ls k; omega
    have hc9 := hs9.cap
    have ht9 := hs9.top
    have HS9 := Lib.hid hs9
    clear hs9
    by_cases hlt : k < m4
    · skip
      by_cases h4 : k < 4
      · skip
        have L4_20 := Lib.hid (L4_18.out.keep hbl)
        clear L4_18
        have HB20 := Lib.hid hbl
        clear hbl
        obtain ⟨x, hx⟩ := L4_20.out.get hlt
        obtain ⟨ad, rfl, h0, h1⟩ := L4_20.out.at_ hx
        have HX := Lib.hid hx
        clear hx
        have h4i : (k : Int) < 4 := by omega
        go_wp2_with fail
        clear h0 h1 h4i
        refine (rNeg_any x _).mono ?_
        rintro e W21 ⟨rfl, hb⟩
        have L4_22 := Lib.hid (L4_20.out.keep hb)
        clear L4_20
        have S922 := Lib.hid (HS9.out.keep hb)
        clear HS9
        have HB22 := Lib.hid (below_step HB20.out hb)
        clear HB20
        clear hb
        go_wp2_with fail
        refine (rFromNd_any 1 _ (by omega) (by omega)).mono ?_
        rintro e W23 ⟨rfl, hb⟩
        have L4_24 := Lib.hid (L4_22.out.keep hb)
        clear L4_22
        have S924 := Lib.hid (S922.out.keep hb)
        clear S922
        have HB24 := Lib.hid (below_step HB22.out hb)
        clear HB22
        clear hb
        go_wp2_with fail
        refine calls_named1 (fun V25 hbV g0 hzV => ?_)
        have hq := Row.slc (w := V25) (g := W23.heap.size) (xs := [-x, ndZ 1]) (n := 2) (c := 2) g0 rfl (by omega) (by omega)
        have L4_26 := Lib.hid (L4_24.out.keep hbV)
        clear L4_24
        have S926 := Lib.hid (S924.out.keep hbV)
        clear S924
        have HB26 := Lib.hid (below_step HB24.out hbV)
        clear HB24
        clear hbV hzV g0
        have Q27 := Lib.hid hq
        clear hq
        refine (polyMul_any A9 n9 c9 (prodX ls k) (some ⟨W23.heap.size, 0, none⟩) 2 2 [-x, ndZ 1] _ S926.out Q27.out (by omega) (by omega)).mono ?_
        rintro e W28 ⟨A5, m5, c5, rfl, hm5, hs, hb⟩
        have L4_29 := Lib.hid (L4_26.out.keep hb)
        clear L4_26
        have S929 := Lib.hid (S926.out.keep hb)
        clear S926
        have Q29 := Lib.hid (Q27.out.keep hb)
        clear Q27
        have HB29 := Lib.hid (below_step HB26.out hb)
        clear HB26
        clear hb
        have L5_30 := Lib.hid hs
        clear hs
        go_wp2_with fail
        go_roundw
        case rel => exact ⟨k + 1, _, _, _, by omega, by omega, by go_num, rfl, by show Sl _ _ _ _ (mulE (trimE (prodX ls k)) (trimE [-(cfE ls k), ndZ 1])); rw [cfE_some HX.out]; exact L5_30.out, HB29.out⟩
        case measure => simp [intOf]; omega
      · skip
        have hmin : (if (4 : Int) < (m4 : Int) then (4 : Int) else (m4 : Int)) = (k : Int) := by split <;> omega
        have HMin := Lib.hid hmin
        clear hmin
        have L1_31 := Lib.hid (L1_18.out.keep hbl)
        clear L1_18
        have L2_31 := Lib.hid (L2_18.out.keep hbl)
        clear L2_18
        have L4_31 := Lib.hid (L4_18.out.keep hbl)
        clear L4_18
        have HB31 := Lib.hid (below_step HB18.out hbl)
        clear HB18
        clear hbl
        have h4i : ¬ ((k : Int) < 4) := by omega
        go_wp2_with fail
        clear hlt h4 h4i
        refine (polyRoots_any A9 n9 c9 (prodX ls k) A4 m4 c4 ls _ HS9.out L4_31.out (by omega)).mono ?_
        rintro e W32 ⟨A6, m6, c6, rfl, hs, hb⟩
        have L1_33 := Lib.hid (L1_31.out.keep hb)
        clear L1_31
        have L2_33 := Lib.hid (L2_31.out.keep hb)
        clear L2_31
        have L4_33 := Lib.hid (L4_31.out.keep hb)
        clear L4_31
        have S933 := Lib.hid (HS9.out.keep hb)
        clear HS9
        have HB33 := Lib.hid (below_step HB31.out hb)
        clear HB31
        clear hb
        have L6_34 := Lib.hid hs
        clear hs
        have hrl := L6_34.out.len
        have hrc := Lib.hid L6_34.out.cap
        have hrt := Lib.hid L6_34.out.top
        rw [hml.out] at hrl
        clear L6_34
        rw [roots_prod hdn.out (by have := hml.out; omega)] at hrl
        obtain rfl : k = m6 := hrl.symm
        clear hrc hrt
        have hmin := HMin.out
        go_wp2_with fail
        clear hmin
        refine (degree_is A9 n9 c9 (prodX ls k) (k : Int) _ S933.out (prodX_deg ls k)).mono ?_
        rintro e W35 ⟨rfl, hb⟩
        have L1_36 := Lib.hid (L1_33.out.keep hb)
        clear L1_33
        have L2_36 := Lib.hid (L2_33.out.keep hb)
        clear L2_33
        have L4_36 := Lib.hid (L4_33.out.keep hb)
        clear L4_33
        have S936 := Lib.hid (S933.out.keep hb)
        clear S933
        have HB36 := Lib.hid (below_step HB33.out hb)
        clear HB33
        clear hb
        clear S936
        go_wp2_with fail
        refine (degree_is A1 m1 c1 xs D _ L1_36.out HD.out).mono ?_
        rintro e W37 ⟨rfl, hb⟩
        have L1_38 := Lib.hid (L1_36.out.keep hb)
        clear L1_36
        have L2_38 := Lib.hid (L2_36.out.keep hb)
        clear L2_36
        have L4_38 := Lib.hid (L4_36.out.keep hb)
        clear L4_36
        have HB38 := Lib.hid (below_step HB36.out hb)
        clear HB36
        clear hb
        by_cases hD0 : 0 ≤ D
        · skip
          go_wp2_with fail
          refine (polyRoots_any A1 m1 c1 xs A4 m4 c4 ls _ L1_38.out L4_38.out (by omega)).mono ?_
          rintro e W39 ⟨A7, m7, c7, rfl, hs, hb⟩
          have L1_40 := Lib.hid (L1_38.out.keep hb)
          clear L1_38
          have L2_40 := Lib.hid (L2_38.out.keep hb)
          clear L2_38
          have L4_40 := Lib.hid (L4_38.out.keep hb)
          clear L4_38
          have HB40 := Lib.hid (below_step HB38.out hb)
          clear HB38
          clear hb
          have L7_41 := Lib.hid hs
          clear hs
          have hrl := L7_41.out.len
          have hrc := Lib.hid L7_41.out.cap
          have hrt := Lib.hid L7_41.out.top
          rw [hml.out] at hrl
          clear L7_41
          have hrb := roots_bound hdn.out xs (by have := HD.out; omega) (by omega)
          have hle : decide (D < (m7 : Int)) = false := decide_eq_false (by have := HD.out; omega)
          clear hrl hrb hrc hrt
          go_wp2_with fail
          refine (degree_is A1 m1 c1 xs D _ L1_40.out HD.out).mono ?_
          rintro e W42 ⟨rfl, hb⟩
          have L1_43 := Lib.hid (L1_40.out.keep hb)
          clear L1_40
          have L2_43 := Lib.hid (L2_40.out.keep hb)
          clear L2_40
          have L4_43 := Lib.hid (L4_40.out.keep hb)
          clear L4_40
          have HB43 := Lib.hid (below_step HB40.out hb)
          clear HB40
          clear hb
          go_wp2_with fail
          clear hle
          refine (polySub_any A1 m1 c1 xs A2 m2 c2 ys _ L1_43.out L2_43.out (by omega) (by omega)).mono ?_
          rintro e W44 ⟨A8, m8, c8, rfl, hm8, hs, hb⟩
          have L1_45 := Lib.hid (L1_43.out.keep hb)
          clear L1_43
          have L2_45 := Lib.hid (L2_43.out.keep hb)
          clear L2_43
          have L4_45 := Lib.hid (L4_43.out.keep hb)
          clear L4_43
          have HB45 := Lib.hid (below_step HB43.out hb)
          clear HB43
          clear hb
          have L8_46 := Lib.hid hs
          clear hs
          have hdl := L8_46.out.len
          have hds := subE_short xs ys
          have hdc := L8_46.out.cap
          have hdt := L8_46.out.top
          have HDL := Lib.hid hdl
          clear hdl
          have HDS := Lib.hid hds
          clear hds
          by_cases hz0 : m8 = 0
          · skip
            have hz1 : ((m8 : Int) == 0) = true := by simp; omega
            have HZ0 := Lib.hid hz0
            clear hz0
            go_wp2_with fail
            go_ret
            exact ⟨rfl, HB45.out⟩
          · skip
            have hz1 : ((m8 : Int) == 0) = false := by simp; omega
            have HZ0 := Lib.hid hz0
            clear hz0
            go_wp2_with fail
            refine (polyRoots_any A8 m8 c8 (subE xs ys) A4 m4 c4 ls _ L8_46.out L4_45.out (by omega)).mono ?_
            rintro e W47 ⟨A9, m9, c9, rfl, hs, hb⟩
            have L1_48 := Lib.hid (L1_45.out.keep hb)
            clear L1_45
            have L2_48 := Lib.hid (L2_45.out.keep hb)
            clear L2_45
            have L4_48 := Lib.hid (L4_45.out.keep hb)
            clear L4_45
            have L8_48 := Lib.hid (L8_46.out.keep hb)
            clear L8_46
            have HB48 := Lib.hid (below_step HB45.out hb)
            clear HB45
            clear hb
            have L9_49 := Lib.hid hs
            clear hs
            have hrl := L9_49.out.len
            have hrc := Lib.hid L9_49.out.cap
            have hrt := Lib.hid L9_49.out.top
            rw [hml.out] at hrl
            clear L9_49
            have hrb := roots_bound hdn.out (subE xs ys) (by rw [subE_trim]; have := HDL.out; have := HZ0.out; omega) (by have := HDL.out; have := HDS.out; have := trimE_length xs; have := trimE_length ys; omega)
            rw [subE_trim] at hrb
            obtain ⟨M, hM⟩ : ∃ M : Int, (if D < E then E else D) = M := ⟨_, rfl⟩
            have hle : decide ((m9 : Int) ≤ M) = true := decide_eq_true (by have := HD.out; have := HE.out; have := HDL.out; have := HDS.out; have := HZ0.out; rw [← hM]; split <;> omega)
            have HRL := Lib.hid hrl
            have HRB := Lib.hid hrb
            have HM := Lib.hid hM
            clear hrl hrb hrc hrt hM
            go_wp2_with fail
            refine (degree_is A1 m1 c1 xs D _ L1_48.out HD.out).mono ?_
            rintro e W50 ⟨rfl, hb⟩
            have L1_51 := Lib.hid (L1_48.out.keep hb)
            clear L1_48
            have L2_51 := Lib.hid (L2_48.out.keep hb)
            clear L2_48
            have L4_51 := Lib.hid (L4_48.out.keep hb)
            clear L4_48
            have L8_51 := Lib.hid (L8_48.out.keep hb)
            clear L8_48
            have HB51 := Lib.hid (below_step HB48.out hb)
            clear HB48
            clear hb
            go_wp2_with fail
            refine (degree_is A2 m2 c2 ys E _ L2_51.out HE.out).mono ?_
            rintro e W52 ⟨rfl, hb⟩
            have L1_53 := Lib.hid (L1_51.out.keep hb)
            clear L1_51
            have L2_53 := Lib.hid (L2_51.out.keep hb)
            clear L2_51
            have L4_53 := Lib.hid (L4_51.out.keep hb)
            clear L4_51
            have L8_53 := Lib.hid (L8_51.out.keep hb)
            clear L8_51
            have HB53 := Lib.hid (below_step HB51.out hb)
            clear HB51
            clear hb
            have hM := HM.out
            go_wp2_with fail
            go_ret
            exact ⟨rfl, HB53.out⟩
        · skip
          have hD1 : decide (0 ≤ D) = false := decide_eq_false hD0
          have HD0 := Lib.hid hD0
          clear hD0
          go_wp2_with fail
          clear hD1
          refine (polySub_any A1 m1 c1 xs A2 m2 c2 ys _ L1_38.out L2_38.out (by omega) (by omega)).mono ?_
          rintro e W54 ⟨A10, m10, c10, rfl, hm10, hs, hb⟩
          have L1_55 := Lib.hid (L1_38.out.keep hb)
          clear L1_38
          have L2_55 := Lib.hid (L2_38.out.keep hb)
          clear L2_38
          have L4_55 := Lib.hid (L4_38.out.keep hb)
          clear L4_38
          have HB55 := Lib.hid (below_step HB38.out hb)
          clear HB38
          clear hb
          have L10_56 := Lib.hid hs
          clear hs
          have hdl := L10_56.out.len
          have hds := subE_short xs ys
          have hdc := L10_56.out.cap
          have hdt := L10_56.out.top
          have HDL := Lib.hid hdl
          clear hdl
          have HDS := Lib.hid hds
          clear hds
          by_cases hz0 : m10 = 0
          · skip
            have hz1 : ((m10 : Int) == 0) = true := by simp; omega
            have HZ0 := Lib.hid hz0
            clear hz0
            go_wp2_with fail
            go_ret
            exact ⟨rfl, HB55.out⟩
          · skip
            have hz1 : ((m10 : Int) == 0) = false := by simp; omega
            have HZ0 := Lib.hid hz0
            clear hz0
            go_wp2_with fail
            refine (polyRoots_any A10 m10 c10 (subE xs ys) A4 m4 c4 ls _ L10_56.out L4_55.out (by omega)).mono ?_
            rintro e W57 ⟨A11, m11, c11, rfl, hs, hb⟩
            have L1_58 := Lib.hid (L1_55.out.keep hb)
            clear L1_55
            have L2_58 := Lib.hid (L2_55.out.keep hb)
            clear L2_55
            have L4_58 := Lib.hid (L4_55.out.keep hb)
            clear L4_55
            have L10_58 := Lib.hid (L10_56.out.keep hb)
            clear L10_56
            have HB58 := Lib.hid (below_step HB55.out hb)
            clear HB55
            clear hb
            have L11_59 := Lib.hid hs
            clear hs
            have hrl := L11_59.out.len
            have hrc := Lib.hid L11_59.out.cap
            have hrt := Lib.hid L11_59.out.top
            rw [hml.out] at hrl
            clear L11_59
            have hrb := roots_bound hdn.out (subE xs ys) (by rw [subE_trim]; have := HDL.out; have := HZ0.out; omega) (by have := HDL.out; have := HDS.out; have := trimE_length xs; have := trimE_length ys; omega)
            rw [subE_trim] at hrb
            obtain ⟨M, hM⟩ : ∃ M : Int, (if D < E then E else D) = M := ⟨_, rfl⟩
            have hle : decide ((m11 : Int) ≤ M) = true := decide_eq_true (by have := HD.out; have := HE.out; have := HDL.out; have := HDS.out; have := HZ0.out; rw [← hM]; split <;> omega)
            have HRL := Lib.hid hrl
            have HRB := Lib.hid hrb
            have HM := Lib.hid hM
            clear hrl hrb hrc hrt hM
            go_wp2_with fail
            refine (degree_is A1 m1 c1 xs D _ L1_58.out HD.out).mono ?_
            rintro e W60 ⟨rfl, hb⟩
            have L1_61 := Lib.hid (L1_58.out.keep hb)
            clear L1_58
            have L2_61 := Lib.hid (L2_58.out.keep hb)
            clear L2_58
            have L4_61 := Lib.hid (L4_58.out.keep hb)
            clear L4_58
            have L10_61 := Lib.hid (L10_58.out.keep hb)
            clear L10_58
            have HB61 := Lib.hid (below_step HB58.out hb)
            clear HB58
            clear hb
            go_wp2_with fail
            refine (degree_is A2 m2 c2 ys E _ L2_61.out HE.out).mono ?_
            rintro e W62 ⟨rfl, hb⟩
            have L1_63 := Lib.hid (L1_61.out.keep hb)
            clear L1_61
            have L2_63 := Lib.hid (L2_61.out.keep hb)
            clear L2_61
            have L4_63 := Lib.hid (L4_61.out.keep hb)
            clear L4_61
            have L10_63 := Lib.hid (L10_61.out.keep hb)
            clear L10_61
            have HB63 := Lib.hid (below_step HB61.out hb)
            clear HB61
            clear hb
            have hM := HM.out
            go_wp2_with fail
            go_ret
            exact ⟨rfl, HB63.out⟩
    · skip
      have hmin : (if (4 : Int) < (m4 : Int) then (4 : Int) else (m4 : Int)) = (k : Int) := by split <;> omega
      have HMin := Lib.hid hmin
      clear hmin
      have L1_64 := Lib.hid (L1_18.out.keep hbl)
      clear L1_18
      have L2_64 := Lib.hid (L2_18.out.keep hbl)
      clear L2_18
      have L4_64 := Lib.hid (L4_18.out.keep hbl)
      clear L4_18
      have HB64 := Lib.hid (below_step HB18.out hbl)
      clear HB18
      clear hbl
      go_wp2_with fail
      clear hlt
      refine (polyRoots_any A9 n9 c9 (prodX ls k) A4 m4 c4 ls _ HS9.out L4_64.out (by omega)).mono ?_
      rintro e W65 ⟨A12, m12, c12, rfl, hs, hb⟩
      have L1_66 := Lib.hid (L1_64.out.keep hb)
      clear L1_64
      have L2_66 := Lib.hid (L2_64.out.keep hb)
      clear L2_64
      have L4_66 := Lib.hid (L4_64.out.keep hb)
      clear L4_64
      have S966 := Lib.hid (HS9.out.keep hb)
      clear HS9
      have HB66 := Lib.hid (below_step HB64.out hb)
      clear HB64
      clear hb
      have L12_67 := Lib.hid hs
      clear hs
      have hrl := L12_67.out.len
      have hrc := Lib.hid L12_67.out.cap
      have hrt := Lib.hid L12_67.out.top
      rw [hml.out] at hrl
      clear L12_67
      rw [roots_prod hdn.out (by have := hml.out; omega)] at hrl
      obtain rfl : k = m12 := hrl.symm
      clear hrc hrt
      have hmin := HMin.out
      go_wp2_with fail
      clear hmin
      refine (degree_is A9 n9 c9 (prodX ls k) (k : Int) _ S966.out (prodX_deg ls k)).mono ?_
      rintro e W68 ⟨rfl, hb⟩
      have L1_69 := Lib.hid (L1_66.out.keep hb)
      clear L1_66
      have L2_69 := Lib.hid (L2_66.out.keep hb)
      clear L2_66
      have L4_69 := Lib.hid (L4_66.out.keep hb)
      clear L4_66
      have S969 := Lib.hid (S966.out.keep hb)
      clear S966
      have HB69 := Lib.hid (below_step HB66.out hb)
      clear HB66
      clear hb
      clear S969
      go_wp2_with fail
      refine (degree_is A1 m1 c1 xs D _ L1_69.out HD.out).mono ?_
      rintro e W70 ⟨rfl, hb⟩
      have L1_71 := Lib.hid (L1_69.out.keep hb)
      clear L1_69
      have L2_71 := Lib.hid (L2_69.out.keep hb)
      clear L2_69
      have L4_71 := Lib.hid (L4_69.out.keep hb)
      clear L4_69
      have HB71 := Lib.hid (below_step HB69.out hb)
      clear HB69
      clear hb
      by_cases hD0 : 0 ≤ D
      · skip
        go_wp2_with fail
        refine (polyRoots_any A1 m1 c1 xs A4 m4 c4 ls _ L1_71.out L4_71.out (by omega)).mono ?_
        rintro e W72 ⟨A13, m13, c13, rfl, hs, hb⟩
        have L1_73 := Lib.hid (L1_71.out.keep hb)
        clear L1_71
        have L2_73 := Lib.hid (L2_71.out.keep hb)
        clear L2_71
        have L4_73 := Lib.hid (L4_71.out.keep hb)
        clear L4_71
        have HB73 := Lib.hid (below_step HB71.out hb)
        clear HB71
        clear hb
        have L13_74 := Lib.hid hs
        clear hs
        have hrl := L13_74.out.len
        have hrc := Lib.hid L13_74.out.cap
        have hrt := Lib.hid L13_74.out.top
        rw [hml.out] at hrl
        clear L13_74
        have hrb := roots_bound hdn.out xs (by have := HD.out; omega) (by omega)
        have hle : decide (D < (m13 : Int)) = false := decide_eq_false (by have := HD.out; omega)
        clear hrl hrb hrc hrt
        go_wp2_with fail
        refine (degree_is A1 m1 c1 xs D _ L1_73.out HD.out).mono ?_
        rintro e W75 ⟨rfl, hb⟩
        have L1_76 := Lib.hid (L1_73.out.keep hb)
        clear L1_73
        have L2_76 := Lib.hid (L2_73.out.keep hb)
        clear L2_73
        have L4_76 := Lib.hid (L4_73.out.keep hb)
        clear L4_73
        have HB76 := Lib.hid (below_step HB73.out hb)
        clear HB73
        clear hb
        go_wp2_with fail
        clear hle
        refine (polySub_any A1 m1 c1 xs A2 m2 c2 ys _ L1_76.out L2_76.out (by omega) (by omega)).mono ?_
        rintro e W77 ⟨A14, m14, c14, rfl, hm14, hs, hb⟩
        have L1_78 := Lib.hid (L1_76.out.keep hb)
        clear L1_76
        have L2_78 := Lib.hid (L2_76.out.keep hb)
        clear L2_76
        have L4_78 := Lib.hid (L4_76.out.keep hb)
        clear L4_76
        have HB78 := Lib.hid (below_step HB76.out hb)
        clear HB76
        clear hb
        have L14_79 := Lib.hid hs
        clear hs
        have hdl := L14_79.out.len
        have hds := subE_short xs ys
        have hdc := L14_79.out.cap
        have hdt := L14_79.out.top
        have HDL := Lib.hid hdl
        clear hdl
        have HDS := Lib.hid hds
        clear hds
        by_cases hz0 : m14 = 0
        · skip
          have hz1 : ((m14 : Int) == 0) = true := by simp; omega
          have HZ0 := Lib.hid hz0
          clear hz0
          go_wp2_with fail
          go_ret
          exact ⟨rfl, HB78.out⟩
        · skip
          have hz1 : ((m14 : Int) == 0) = false := by simp; omega
          have HZ0 := Lib.hid hz0
          clear hz0
          go_wp2_with fail
          refine (polyRoots_any A14 m14 c14 (subE xs ys) A4 m4 c4 ls _ L14_79.out L4_78.out (by omega)).mono ?_
          rintro e W80 ⟨A15, m15, c15, rfl, hs, hb⟩
          have L1_81 := Lib.hid (L1_78.out.keep hb)
          clear L1_78
          have L2_81 := Lib.hid (L2_78.out.keep hb)
          clear L2_78
          have L4_81 := Lib.hid (L4_78.out.keep hb)
          clear L4_78
          have L14_81 := Lib.hid (L14_79.out.keep hb)
          clear L14_79
          have HB81 := Lib.hid (below_step HB78.out hb)
          clear HB78
          clear hb
          have L15_82 := Lib.hid hs
          clear hs
          have hrl := L15_82.out.len
          have hrc := Lib.hid L15_82.out.cap
          have hrt := Lib.hid L15_82.out.top
          rw [hml.out] at hrl
          clear L15_82
          have hrb := roots_bound hdn.out (subE xs ys) (by rw [subE_trim]; have := HDL.out; have := HZ0.out; omega) (by have := HDL.out; have := HDS.out; have := trimE_length xs; have := trimE_length ys; omega)
          rw [subE_trim] at hrb
          obtain ⟨M, hM⟩ : ∃ M : Int, (if D < E then E else D) = M := ⟨_, rfl⟩
          have hle : decide ((m15 : Int) ≤ M) = true := decide_eq_true (by have := HD.out; have := HE.out; have := HDL.out; have := HDS.out; have := HZ0.out; rw [← hM]; split <;> omega)
          have HRL := Lib.hid hrl
          have HRB := Lib.hid hrb
          have HM := Lib.hid hM
          clear hrl hrb hrc hrt hM
          go_wp2_with fail
          refine (degree_is A1 m1 c1 xs D _ L1_81.out HD.out).mono ?_
          rintro e W83 ⟨rfl, hb⟩
          have L1_84 := Lib.hid (L1_81.out.keep hb)
          clear L1_81
          have L2_84 := Lib.hid (L2_81.out.keep hb)
          clear L2_81
          have L4_84 := Lib.hid (L4_81.out.keep hb)
          clear L4_81
          have L14_84 := Lib.hid (L14_81.out.keep hb)
          clear L14_81
          have HB84 := Lib.hid (below_step HB81.out hb)
          clear HB81
          clear hb
          go_wp2_with fail
          refine (degree_is A2 m2 c2 ys E _ L2_84.out HE.out).mono ?_
          rintro e W85 ⟨rfl, hb⟩
          have L1_86 := Lib.hid (L1_84.out.keep hb)
          clear L1_84
          have L2_86 := Lib.hid (L2_84.out.keep hb)
          clear L2_84
          have L4_86 := Lib.hid (L4_84.out.keep hb)
          clear L4_84
          have L14_86 := Lib.hid (L14_84.out.keep hb)
          clear L14_84
          have HB86 := Lib.hid (below_step HB84.out hb)
          clear HB84
          clear hb
          have hM := HM.out
          go_wp2_with fail
          go_ret
          exact ⟨rfl, HB86.out⟩
      · skip
        have hD1 : decide (0 ≤ D) = false := decide_eq_false hD0
        have HD0 := Lib.hid hD0
        clear hD0
        go_wp2_with fail
        clear hD1
        refine (polySub_any A1 m1 c1 xs A2 m2 c2 ys _ L1_71.out L2_71.out (by omega) (by omega)).mono ?_
        rintro e W87 ⟨A16, m16, c16, rfl, hm16, hs, hb⟩
        have L1_88 := Lib.hid (L1_71.out.keep hb)
        clear L1_71
        have L2_88 := Lib.hid (L2_71.out.keep hb)
        clear L2_71
        have L4_88 := Lib.hid (L4_71.out.keep hb)
        clear L4_71
        have HB88 := Lib.hid (below_step HB71.out hb)
        clear HB71
        clear hb
        have L16_89 := Lib.hid hs
        clear hs
        have hdl := L16_89.out.len
        have hds := subE_short xs ys
        have hdc := L16_89.out.cap
        have hdt := L16_89.out.top
        have HDL := Lib.hid hdl
        clear hdl
        have HDS := Lib.hid hds
        clear hds
        by_cases hz0 : m16 = 0
        · skip
          have hz1 : ((m16 : Int) == 0) = true := by simp; omega
          have HZ0 := Lib.hid hz0
          clear hz0
          go_wp2_with fail
          go_ret
          exact ⟨rfl, HB88.out⟩
        · skip
          have hz1 : ((m16 : Int) == 0) = false := by simp; omega
          have HZ0 := Lib.hid hz0
          clear hz0
          go_wp2_with fail
          refine (polyRoots_any A16 m16 c16 (subE xs ys) A4 m4 c4 ls _ L16_89.out L4_88.out (by omega)).mono ?_
          rintro e W90 ⟨A17, m17, c17, rfl, hs, hb⟩
          have L1_91 := Lib.hid (L1_88.out.keep hb)
          clear L1_88
          have L2_91 := Lib.hid (L2_88.out.keep hb)
          clear L2_88
          have L4_91 := Lib.hid (L4_88.out.keep hb)
          clear L4_88
          have L16_91 := Lib.hid (L16_89.out.keep hb)
          clear L16_89
          have HB91 := Lib.hid (below_step HB88.out hb)
          clear HB88
          clear hb
          have L17_92 := Lib.hid hs
          clear hs
          have hrl := L17_92.out.len
          have hrc := Lib.hid L17_92.out.cap
          have hrt := Lib.hid L17_92.out.top
          rw [hml.out] at hrl
          clear L17_92
          have hrb := roots_bound hdn.out (subE xs ys) (by rw [subE_trim]; have := HDL.out; have := HZ0.out; omega) (by have := HDL.out; have := HDS.out; have := trimE_length xs; have := trimE_length ys; omega)
          rw [subE_trim] at hrb
          obtain ⟨M, hM⟩ : ∃ M : Int, (if D < E then E else D) = M := ⟨_, rfl⟩
          have hle : decide ((m17 : Int) ≤ M) = true := decide_eq_true (by have := HD.out; have := HE.out; have := HDL.out; have := HDS.out; have := HZ0.out; rw [← hM]; split <;> omega)
          have HRL := Lib.hid hrl
          have HRB := Lib.hid hrb
          have HM := Lib.hid hM
          clear hrl hrb hrc hrt hM
          go_wp2_with fail
          refine (degree_is A1 m1 c1 xs D _ L1_91.out HD.out).mono ?_
          rintro e W93 ⟨rfl, hb⟩
          have L1_94 := Lib.hid (L1_91.out.keep hb)
          clear L1_91
          have L2_94 := Lib.hid (L2_91.out.keep hb)
          clear L2_91
          have L4_94 := Lib.hid (L4_91.out.keep hb)
          clear L4_91
          have L16_94 := Lib.hid (L16_91.out.keep hb)
          clear L16_91
          have HB94 := Lib.hid (below_step HB91.out hb)
          clear HB91
          clear hb
          go_wp2_with fail
          refine (degree_is A2 m2 c2 ys E _ L2_94.out HE.out).mono ?_
          rintro e W95 ⟨rfl, hb⟩
          have L1_96 := Lib.hid (L1_94.out.keep hb)
          clear L1_94
          have L2_96 := Lib.hid (L2_94.out.keep hb)
          clear L2_94
          have L4_96 := Lib.hid (L4_94.out.keep hb)
          clear L4_94
          have L16_96 := Lib.hid (L16_94.out.keep hb)
          clear L16_94
          have HB96 := Lib.hid (below_step HB94.out hb)
          clear HB94
          clear hb
          have hM := HM.out
          go_wp2_with fail
          go_ret
          exact ⟨rfl, HB96.out⟩

end Go.Proofs.Ytjimnoikkgheaaa
