/- The walk of the law MleLines of package mle: the points of the line at zero and one are its ends, and the difference of order n + 1 of the values along the line is zero; no conditions. -/
import Derived.Test.YtompkhgnbbadaaaMsn
import Derived.Deep.Cut
namespace Go.Proofs.Ytompkhgnbbadaaa
open Go.RowKit Gold

def lenV : Value → Nat
  | .slice _ n _ => n
  | _ => 0
theorem get_cfE {l : List E2} {i : Nat} (h : i < l.length) : l[i]? = some (cfE l i) := by rw [cfE_lt h, List.getElem?_eq_getElem h]
theorem cfE_set {l : List E2} {k : Nat} (x : E2) (h : k < l.length) (i : Nat) : cfE (l.set k x) i = if i = k then x else cfE l i := by
  unfold cfE
  rw [List.getElem?_set]
  by_cases e : k = i
  · subst e
    rw [if_pos rfl, if_pos h, if_pos rfl]
    rfl
  · rw [if_neg e, if_neg (fun c => e c.symm)]
set_option maxHeartbeats 8000000 in
set_option maxRecDepth 100000 in
theorem mleLines_any (A0 : Option Addr) (n0 c0 : Nat) (ts : List (Int × Int)) (B0 : Option Addr) (m0 d0 : Nat) (us : List (Int × Int)) (C0 : Option Addr) (k0 e0 : Nat) (vs : List (Int × Int)) (N0 : Int) (z : Int) (w : World) (hT : Sr w A0 n0 c0 ts) (hU : Sr w B0 m0 d0 us) (hV : Sr w C0 k0 e0 vs) (wT : Nums ts) (wU : Nums us) (wV : Nums vs) (hN : 0 ≤ N0 ∧ N0 ≤ 255) (hz : 0 ≤ z ∧ z ≤ 65535) :
    Calls Try.prog 10 #[.agg #[.slice A0 n0 c0, .slice B0 m0 d0, .slice C0 k0 e0, .int .u8 N0], .int .u16 z] w fun e w' => e = .returned (.bool true) ∧ Below w.heap.size w w' := by
  have HT := Lib.hid hT
  have HU := Lib.hid hU
  have HV := Lib.hid hV
  have WT := Lib.hid wT
  have WU := Lib.hid wU
  have WV := Lib.hid wV
  clear hT hU hV wT wU wV
  go_enter Try.func10, Try.ntmps10
  go_wp2_with fail
  refine calls_named1 (fun V1 hbV g0 hzV => ?_)
  have hq0 : Box4 V1 (w.heap.size) 24 (.slice A0 n0 c0) (.slice B0 m0 d0) (.slice C0 k0 e0) (.int .u8 N0) := g0
  have qT2 := Lib.hid (HT.out.keep hbV)
  clear HT
  have qU2 := Lib.hid (HU.out.keep hbV)
  clear HU
  have qV2 := Lib.hid (HV.out.keep hbV)
  clear HV
  have HB2 := Lib.hid hbV
  have Q3 := Lib.hid hq0
  clear hq0
  clear hbV hzV g0
  refine (sanity5_any _).mono ?_
  rintro e W4 ⟨rfl, hb⟩
  have qT5 := Lib.hid (qT2.out.keep hb)
  clear qT2
  have qU5 := Lib.hid (qU2.out.keep hb)
  clear qU2
  have qV5 := Lib.hid (qV2.out.keep hb)
  clear qV2
  have Q5 := Lib.hid (Q3.out.keep hb)
  clear Q3
  have HB5 := Lib.hid (below_step HB2.out hb)
  clear HB2
  clear hb
  have q0 := Q5.out.c0
  have q1 := Q5.out.c1
  have q2 := Q5.out.c2
  have q3 := Q5.out.c3
  have hwq := HB5.out.size
  go_wp2_with fail
  clear q0 q1 q2 q3
  refine (made_any A0 n0 c0 ts B0 m0 d0 us C0 k0 e0 vs N0 _ qT5.out qU5.out qV5.out WT.out WU.out WV.out hN).mono ?_
  rintro e W6 ⟨K, g, M, c1, xs, A2, c2, ps, A3, c3, ss, rfl, htr, hb⟩
  have qT7 := Lib.hid (qT5.out.keep hb)
  clear qT5
  have qU7 := Lib.hid (qU5.out.keep hb)
  clear qU5
  have qV7 := Lib.hid (qV5.out.keep hb)
  clear qV5
  have Q7 := Lib.hid (Q5.out.keep hb)
  clear Q5
  have HB7 := Lib.hid (below_step HB5.out hb)
  clear HB5
  clear hb
  have R8 := Lib.hid htr
  clear htr
  clear qT7
  clear qU7
  clear qV7
  clear Q7
  have hk6 := R8.out.k6
  have hm64 := R8.out.m64
  have hm0 := R8.out.m0
  have hc1 := R8.out.cap
  have ht1 := R8.out.top
  have hc2 := R8.out.p.cap
  have ht2 := R8.out.p.top
  have hc3 := R8.out.pts.cap
  have ht3 := R8.out.pts.top
  have HPOW := Lib.hid R8.out.pow
  have HLX := Lib.hid R8.out.len
  have HLP := Lib.hid R8.out.p.len
  have HLS := Lib.hid R8.out.pts.len
  have ht0 := R8.out.t
  have t9 := Lib.hid ht0
  clear ht0
  have hp0 := R8.out.p
  have p10 := Lib.hid hp0
  clear hp0
  have hs0 := R8.out.pts
  have s11 := Lib.hid hs0
  clear hs0
  clear R8
  obtain ⟨fv, hfv⟩ : ∃ fv : Nat → E2, ∀ j : Nat, mleE xs (lineE ps ss (ndZ (z + (j : Int)))) = fv j := ⟨fun j => mleE xs (lineE ps ss (ndZ (z + (j : Int)))), fun _ => rfl⟩
  have hdg : dg (K + 1) fv := by
    have h := dg_mle xs (fun j => ndZ (z + (j : Int))) (fun j => by
      show ndZ (z + ((j + 1 : Nat) : Int)) = ndZ (z + (j : Int)) + ndZ 1
      rw [ndZ_add, Int.natCast_add, ← Int.add_assoc]
      rfl) ps ss (by rw [← HLP.out, ← HLS.out])
    rw [← HLP.out] at h
    exact dg_congr (fun j => (hfv j)) h
  have HFV := Lib.hid hfv
  have HDG := Lib.hid hdg
  have HL0 := Lib.hid (lineE_zero (p := ps) (q := ss) (by rw [← HLP.out, ← HLS.out]))
  have HL1 := Lib.hid (lineE_one (p := ps) (q := ss) (by rw [← HLP.out, ← HLS.out]))
  clear hfv hdg
  go_wp2_with fail
  generalize W6 = W0 at *
  have HT0 := Lib.hid t9.out
  have HP0 := Lib.hid p10.out
  have HS0 := Lib.hid s11.out
  have HB0 := Lib.hid HB7.out
  clear t9 p10 s11 HB7
  go_loopw [10, 11] (fun v t wr => ∃ k : Nat, k ≤ K + 2 ∧ t = .int .i64 k ∧ OwE wr W0.heap.size v k (tabE k fv) ∧ Below W0.heap.size W0 wr) (fun _ t _ => K + 2 - (intOf t).toNat)
  case atStart => exact ⟨0, Nat.zero_le _, rfl, OwE.made W0 _ (Nat.le_refl _), (Below.refl _ _).alloc (Nat.le_refl _) _⟩
  case round =>
    obtain ⟨k, hk, rfl, ho, hb⟩ := hrel
    have HO := Lib.hid ho
    have HB := Lib.hid hb
    clear ho hb
    by_cases hlt : k < K + 2
    · have hk1 : (k : Int) ≤ (K : Int) + 1 := by omega
      have hk0 : (0 : Int) ≤ (k : Int) := by omega
      go_wp2_with fail
      refine (rFromNd5 (z + (k : Int)) _ (by omega) (by omega)).mono ?_
      rintro e W1 ⟨rfl, hb⟩
      have HO1 := Lib.hid (HO.out.keep hb)
      have HB1 := Lib.hid (below_step HB.out hb)
      clear hb HO HB
      go_wp2_with fail
      refine (mleLine_any A2 K c2 ps A3 K c3 ss (ndZ (z + (k : Int))) _ (HP0.out.keep HB1.out) (HS0.out.keep HB1.out) rfl (by omega)).mono ?_
      rintro e W2 ⟨AL, cL, rfl, hL, hb⟩
      have HLn := Lib.hid hL
      have HO2 := Lib.hid (HO1.out.keep hb)
      have HB2 := Lib.hid (below_step HB1.out hb)
      clear hL hb HO1 HB1
      go_wp2_with fail
      refine (mleEval_any (some ⟨g, 0, none⟩) M c1 xs AL K cL (lineE ps ss (ndZ (z + (k : Int)))) _ (HT0.out.keep HB2.out) HLn.out HPOW.out (by omega)).mono ?_
      rw [HFV.out]
      rintro e W3 ⟨rfl, hb⟩
      have HO3 := Lib.hid (HO2.out.keep hb)
      have HB3 := Lib.hid (below_step HB2.out hb)
      clear hb HO2 HB2 HLn
      go_wp2_with (at_builtin; refine wpList_appendE rfl (.tmp 29) (.tmp 40) rfl (W0.heap.size) _ k _ rfl (HO3.out.keep ((Below.refl _ _).alloc (Nat.le_refl _) _)) W3.heap.size 1 (fv k) rfl (Two.new W3 _ _ _) (by omega) (by have := HB3.out.size; simp; omega) ?_; intro v1 w1 hown1 hg1; have HO4 := Lib.hid hown1; have HB4 := Lib.hid (below_grown (w0 := W0) (HB3.out.alloc HB3.out.size _) hg1 (HO3.out.keep ((Below.refl _ _).alloc (Nat.le_refl _) _)) (Nat.le_refl _)); clear hown1 hg1)
      go_roundw
      case rel => exact ⟨k + 1, by omega, by go_num, by rw [tabE_succ]; exact HO4.out, HB4.out⟩
      case measure => simp [intOf]; omega
    · have hkn : k = K + 2 := by omega
      subst hkn
      have hk2 : ¬ ((K : Int) + 2 ≤ (K : Int) + 1) := by omega
      obtain ⟨gv, cv, rfl, hgv, hcv, htv, hTv⟩ := HO.out.tab (by omega)
      have HTv := Lib.hid hTv
      have HBv := Lib.hid HB.out
      clear hTv HO HB
      go_wp2_with fail
      generalize wr = W4 at *
      go_loopw [10] (fun v wr => ∃ (N : Nat) (f : Nat → E2) (zs : List E2), 1 ≤ N ∧ N ≤ K + 2 ∧ v = .slice (some ⟨gv, 0, none⟩) N cv ∧ zs.length = K + 2 ∧ Tab wr gv zs ∧ dg (N - 1) f ∧ (∀ j, j < N → cfE zs j = f j) ∧ Below W0.heap.size W0 wr) (fun v _ => lenV v)
      case atStart => exact ⟨K + 2, fv, tabE (K + 2) fv, by omega, Nat.le_refl _, rfl, tabE_length _ _, HTv.out, HDG.out, fun j hj => by rw [cfE_tabE, if_pos hj], HBv.out⟩
      case round =>
        clear HTv HBv HDG
        obtain ⟨N, f, zs, hN1, hN2, rfl, hzl, hT, hdg, hzs, hb⟩ := hrel
        have HZL := Lib.hid hzl
        have HT := Lib.hid hT
        have HDG := Lib.hid hdg
        have HZS := Lib.hid hzs
        have HB := Lib.hid hb
        clear hzl hT hdg hzs hb
        by_cases hlt : 1 < N
        · have hN3 : (1 : Int) < (N : Int) := by omega
          go_wp2_with fail
          generalize wr = W5 at *
          go_loopw [12] (fun s w2 => ∃ (j : Nat) (zs2 : List E2), j + 1 ≤ N ∧ s = .int .i64 j ∧ zs2.length = K + 2 ∧ Tab w2 gv zs2 ∧ (∀ i, i < j → cfE zs2 i = f (i + 1) - f i) ∧ (∀ i, j ≤ i → i < N → cfE zs2 i = f i) ∧ Below W0.heap.size W0 w2) (fun s _ => N - (intOf s).toNat)
          case atStart => exact ⟨0, zs, by omega, rfl, HZL.out, HT.out, fun i hi => absurd hi (Nat.not_lt_zero _), fun i _ hi => HZS.out i hi, HB.out⟩
          case round =>
            clear HZL HT HZS HB
            obtain ⟨j, zs2, hj, rfl, hzl, hT, hd1, hd2, hb⟩ := hrel
            have HZL := Lib.hid hzl
            have HT := Lib.hid hT
            have HD1 := Lib.hid hd1
            have HD2 := Lib.hid hd2
            have HB := Lib.hid hb
            clear hzl hT hd1 hd2 hb
            by_cases hlj : j + 1 < N
            · have hx := HT.out.at_ (show zs2[j + 1]? = some (f (j + 1)) by rw [get_cfE (by have := HZL.out; omega), HD2.out (j + 1) (by omega) hlj])
              have hy := HT.out.at_ (show zs2[j]? = some (f j) by rw [get_cfE (by have := HZL.out; omega), HD2.out j (Nat.le_refl _) (by omega)])
              have lx0 := Later.cell hx.1
              have lx1 := Later.cell hx.2
              have ly0 := Later.cell hy.1
              have ly1 := Later.cell hy.2
              clear hx hy
              have i0 : (0 : Int) ≤ (j : Int) := by omega
              have i1 : (j : Int) < (N : Int) := by omega
              have i2 : (j : Int) + 1 < (N : Int) := by omega
              have i5 : ((j : Int) + 1).toNat = j + 1 := by omega
              go_wp2_with fail
              refine wp_later_tail 13 (by kernel_rfl) (by kernel_rfl) ?_
              simp only [List.take_succ_cons, List.take_zero, List.drop_succ_cons, List.drop_zero]
              repeat (go_big_quiet_step ((go_at_call 38; with_reducible exact Calls.later (extSub_any (f (j + 1)) (f j) _))))
              refine wpQuiet_nil ?_
              intro X
              clear lx0 lx1 ly0 ly1
              have HTX := Lib.hid (HT.out.keep X.below)
              have HBX := Lib.hid (below_step HB.out X.below)
              have hz := HTX.out.at_ (show zs2[j]? = some (f j) by rw [get_cfE (by have := HZL.out; omega), HD2.out j (Nat.le_refl _) (by omega)])
              have c0 := hz.1
              have c1 := hz.2
              have f0 := HTX.out.free (j * 2)
              have f1 := HTX.out.free (j * 2 + 1)
              clear hz
              go_wp2_with fail
              go_roundw
              case rel => exact ⟨j + 1, zs2.set j (f (j + 1) - f j), by omega, by go_num, by rw [List.length_set]; exact HZL.out, HTX.out.set j _,
                fun i hi => by rw [cfE_set _ (by have := HZL.out; omega)]; by_cases e : i = j
                               · subst e; rw [if_pos rfl]
                               · rw [if_neg e]; exact HD1.out i (by omega),
                fun i hi hi2 => by rw [cfE_set _ (by have := HZL.out; omega), if_neg (by omega)]; exact HD2.out i (by omega) hi2,
                (HBX.out.setCell hgv _).setCell hgv _⟩
              case measure => simp [intOf]; omega
            · have hjN : j + 1 = N := by omega
              have i2 : ¬ ((j : Int) + 1 < (N : Int)) := by omega
              have i6 : ((N : Int) - 1).toNat = N - 1 := by omega
              have i7 : (0 : Int) ≤ (N : Int) - 1 := by omega
              have i8 : (N : Int) - 1 ≤ (cv : Int) := by omega
              have HJN := Lib.hid hjN
              clear hjN
              go_wp2_with fail
              go_roundw
              case rel => exact ⟨N - 1, fun j => f (j + 1) - f j, zs2, by omega, by omega, rfl, HZL.out, HT.out, by have h := HDG.out; rw [show N - 1 = N - 1 - 1 + 1 by omega] at h; exact h, fun i hi => HD1.out i (by have := HJN.out; omega), HB.out⟩
              case measure => simp [lenV]; omega
        · have hN : N = 1 := by omega
          subst hN
          have hf0 : cfE zs 0 = E2.zero := by rw [HZS.out 0 (by omega)]; exact HDG.out 0
          obtain ⟨q, hq⟩ : ∃ q, zs[0]? = some q := ⟨zs[0]'(by have := HZL.out; omega), List.getElem?_eq_getElem _⟩
          have hqz : q = E2.zero := by rw [← cfE_some hq]; exact hf0
          have HQZ := Lib.hid ((ezero_iff q).2 hqz)
          have t0 := (HT.out.at_ hq).1
          have t1 := (HT.out.at_ hq).2
          simp only [Nat.zero_mul, Nat.zero_add] at t0 t1
          have HPf := Lib.hid (HP0.out.keep HB.out)
          have HSf := Lib.hid (HS0.out.keep HB.out)
          have HBf := Lib.hid (below_step HB0.out HB.out)
          clear hq hqz hf0 HT HZS HZL HDG HP0 HS0 HT0 HB HB0
          go_wp2_with fail
          clear t0 t1
          refine (extIsZero_any q _).mono ?_
          rw [HQZ.out]
          rintro e W12 ⟨rfl, hb⟩
          have p13 := Lib.hid (HPf.out.keep hb)
          clear HPf
          have s13 := Lib.hid (HSf.out.keep hb)
          clear HSf
          have HB13 := Lib.hid (below_step HBf.out hb)
          clear HBf
          clear hb
          go_wp2_with fail
          refine (mleLine_any A2 K c2 ps A3 K c3 ss E2.zero _ p13.out s13.out rfl (by omega)).mono ?_
          rw [HL0.out]
          rintro e W14 ⟨AL0, cL0, rfl, hs, hb⟩
          have p15 := Lib.hid (p13.out.keep hb)
          clear p13
          have s15 := Lib.hid (s13.out.keep hb)
          clear s13
          have HB15 := Lib.hid (below_step HB13.out hb)
          clear HB13
          clear hb
          have L16 := Lib.hid hs
          clear hs
          go_wp2_with fail
          refine (same5_yes AL0 K cL0 A2 K c2 ps _ L16.out p15.out).mono ?_
          rintro e W17 ⟨rfl, hb⟩
          have p18 := Lib.hid (p15.out.keep hb)
          clear p15
          have s18 := Lib.hid (s15.out.keep hb)
          clear s15
          have L18 := Lib.hid (L16.out.keep hb)
          clear L16
          have HB18 := Lib.hid (below_step HB15.out hb)
          clear HB15
          clear hb
          go_wp2_with fail
          clear L18
          refine (rOne_any _).mono ?_
          rintro e W19 ⟨rfl, hb⟩
          have p20 := Lib.hid (p18.out.keep hb)
          clear p18
          have s20 := Lib.hid (s18.out.keep hb)
          clear s18
          have HB20 := Lib.hid (below_step HB18.out hb)
          clear HB18
          clear hb
          go_wp2_with fail
          refine (mleLine_any A2 K c2 ps A3 K c3 ss E2.one _ p20.out s20.out rfl (by omega)).mono ?_
          rw [HL1.out]
          rintro e W21 ⟨AL1, cL1, rfl, hs, hb⟩
          have p22 := Lib.hid (p20.out.keep hb)
          clear p20
          have s22 := Lib.hid (s20.out.keep hb)
          clear s20
          have HB22 := Lib.hid (below_step HB20.out hb)
          clear HB20
          clear hb
          have L23 := Lib.hid hs
          clear hs
          go_wp2_with fail
          refine (same5_yes AL1 K cL1 A3 K c3 ss _ L23.out s22.out).mono ?_
          rintro e W24 ⟨rfl, hb⟩
          have p25 := Lib.hid (p22.out.keep hb)
          clear p22
          have s25 := Lib.hid (s22.out.keep hb)
          clear s22
          have L25 := Lib.hid (L23.out.keep hb)
          clear L23
          have HB25 := Lib.hid (below_step HB22.out hb)
          clear HB22
          clear hb
          go_wp2_with fail
          clear L25
          go_ret
          exact ⟨rfl, HB25.out⟩

end Go.Proofs.Ytompkhgnbbadaaa
