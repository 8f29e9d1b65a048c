/- The walk of the law MleSums of package mle: the sum of the elements is the length times the value at one half; no conditions. -/
import Derived.Test.YtompkhgnbbadaaaMsn
import Derived.Deep.Cut
namespace Go.Proofs.Ytompkhgnbbadaaa
open Go.RowKit Gold

theorem ow_set {w : World} {base g n c : Nat} {xs : List E2} (h : OwE w base (.slice (some ⟨g, 0, none⟩) n c) n xs) (i : Nat) (x : E2) : OwE ((w.setCell ⟨g, i * 2, none⟩ (.int .u64 (vF x.A))).setCell ⟨g, i * 2 + 1, none⟩ (.int .u64 (vF x.B))) base (.slice (some ⟨g, 0, none⟩) n c) n (xs.set i x) := by
  have hl := h.len
  rcases h.2 with ⟨hn, _⟩ | ⟨g', cap, cur, e, hb, hg, hc, hm, hs, ht⟩
  · cases hn
  · injection e with e1 e2 e3
    injection e1 with e1
    injection e1 with e1
    subst e1
    subst e3
    have k1 := heap_setCell_at (i := i * 2) hg (.int .u64 (vF x.A))
    have k2 := heap_setCell_at (i := i * 2 + 1) k1 (.int .u64 (vF x.B))
    refine ⟨by rw [cellsE_length, List.length_set]; omega, .inr ⟨g, c, _, rfl, hb, k2, hc, hm, by simp [hs], ?_⟩⟩
    rw [Array.toList_setIfInBounds, Array.toList_setIfInBounds, List.take_set, List.take_set, ht, cellsE_set]
theorem take_set_rep {zs : List E2} {k : Nat} {h : E2} (hl : k < zs.length) (e : zs.take k = List.replicate k h) : (zs.set k h).take (k + 1) = List.replicate (k + 1) h := by
  rw [List.take_succ_eq_append_getElem (by simpa using hl), List.take_set, List.set_eq_of_length_le (by simp; omega), e, List.getElem_set_self, List.replicate_succ']
set_option maxHeartbeats 8000000 in
set_option maxRecDepth 100000 in
theorem mleSums_any (A0 : Option Addr) (n0 c0 : Nat) (ts : List (Int × Int)) (B0 : Option Addr) (m0 d0 : Nat) (us : List (Int × Int)) (C0 : Option Addr) (k0 e0 : Nat) (vs : List (Int × Int)) (N0 : Int) (w : World) (hT : Sr w A0 n0 c0 ts) (hU : Sr w B0 m0 d0 us) (hV : Sr w C0 k0 e0 vs) (wT : Nums ts) (wU : Nums us) (wV : Nums vs) (hN : 0 ≤ N0 ∧ N0 ≤ 255) :
    Calls Try.prog 11 #[.agg #[.slice A0 n0 c0, .slice B0 m0 d0, .slice C0 k0 e0, .int .u8 N0]] w fun e w' => e = .returned (.bool true) ∧ Below w.heap.size w w' := by
  have HT := Lib.hid hT
  have HU := Lib.hid hU
  have HV := Lib.hid hV
  have WT := Lib.hid wT
  have WU := Lib.hid wU
  have WV := Lib.hid wV
  clear hT hU hV wT wU wV
  go_enter Try.func11, Try.ntmps11
  go_wp2_with fail
  refine calls_named1 (fun V1 hbV g0 hzV => ?_)
  have hq0 : Box4 V1 (w.heap.size) 24 (.slice A0 n0 c0) (.slice B0 m0 d0) (.slice C0 k0 e0) (.int .u8 N0) := g0
  have qT2 := Lib.hid (HT.out.keep hbV)
  clear HT
  have qU2 := Lib.hid (HU.out.keep hbV)
  clear HU
  have qV2 := Lib.hid (HV.out.keep hbV)
  clear HV
  have HB2 := Lib.hid hbV
  have Q3 := Lib.hid hq0
  clear hq0
  clear hbV hzV g0
  refine (sanity5_any _).mono ?_
  rintro e W4 ⟨rfl, hb⟩
  have qT5 := Lib.hid (qT2.out.keep hb)
  clear qT2
  have qU5 := Lib.hid (qU2.out.keep hb)
  clear qU2
  have qV5 := Lib.hid (qV2.out.keep hb)
  clear qV2
  have Q5 := Lib.hid (Q3.out.keep hb)
  clear Q3
  have HB5 := Lib.hid (below_step HB2.out hb)
  clear HB2
  clear hb
  have q0 := Q5.out.c0
  have q1 := Q5.out.c1
  have q2 := Q5.out.c2
  have q3 := Q5.out.c3
  have hwq := HB5.out.size
  go_wp2_with fail
  clear q0 q1 q2 q3
  refine (made_any A0 n0 c0 ts B0 m0 d0 us C0 k0 e0 vs N0 _ qT5.out qU5.out qV5.out WT.out WU.out WV.out hN).mono ?_
  rintro e W6 ⟨K, g, M, c1, xs, A2, c2, ps, A3, c3, ss, rfl, htr, hb⟩
  have qT7 := Lib.hid (qT5.out.keep hb)
  clear qT5
  have qU7 := Lib.hid (qU5.out.keep hb)
  clear qU5
  have qV7 := Lib.hid (qV5.out.keep hb)
  clear qV5
  have Q7 := Lib.hid (Q5.out.keep hb)
  clear Q5
  have HB7 := Lib.hid (below_step HB5.out hb)
  clear HB5
  clear hb
  have R8 := Lib.hid htr
  clear htr
  clear qT7
  clear qU7
  clear qV7
  clear Q7
  have hk6 := R8.out.k6
  have hm64 := R8.out.m64
  have hm0 := R8.out.m0
  have hc1 := R8.out.cap
  have ht1 := R8.out.top
  have hc2 := R8.out.p.cap
  have ht2 := R8.out.p.top
  have hc3 := R8.out.pts.cap
  have ht3 := R8.out.pts.top
  have HPOW := Lib.hid R8.out.pow
  have HLX := Lib.hid R8.out.len
  have HLP := Lib.hid R8.out.p.len
  have HLS := Lib.hid R8.out.pts.len
  obtain ⟨h, hh, hinv⟩ : ∃ h, nd 2 * h = E2.one ∧ E2.inv (ndZ 2) = h := ⟨_, E2.mul_inv (nd_ne (by omega) (by omega)), rfl⟩
  have HH := Lib.hid hh
  have HINV := Lib.hid hinv
  clear hh hinv
  go_wp2_with fail
  refine (rFromNd5 2 _ (by omega) (by omega)).mono ?_
  rintro e W9 ⟨rfl, hb⟩
  have R10 := Lib.hid (R8.out.keep hb)
  clear R8
  have HB10 := Lib.hid (below_step HB7.out hb)
  clear HB7
  clear hb
  go_wp2_with fail
  refine (extInv_as (ndZ 2) h _ (nd_ne (i := 2) (by omega) (by omega)) HINV.out).mono ?_
  rintro e W11 ⟨rfl, hb⟩
  have R12 := Lib.hid (R10.out.keep hb)
  clear R10
  have HB12 := Lib.hid (below_step HB10.out hb)
  clear HB10
  clear hb
  have hl0 : ∀ q, (Value.slice A2 K c2).ownBlock = some q → q < W11.heap.size := by
    intro q hq
    obtain ⟨B2, _, _, h3⟩ := R12.out.own
    exact (World.ownsRow.lt h3 q hq).2
  have hg0 : g < W11.heap.size := R12.out.tab.lt
  have hw0 : w.heap.size ≤ W11.heap.size := HB12.out.size
  go_wp2_with fail
  refine wp_named1 (fun V13 hbV g0 hzV => ?_)
  have h7 : Two V13 W11.heap.size 27 (.int .u64 (vF (h).A)) (.int .u64 (vF (h).B)) := g0
  have R14 := Lib.hid (R12.out.keep hbV)
  clear R12
  have HB14 := Lib.hid (below_step HB12.out hbV)
  clear HB12
  have C7_15 := Lib.hid h7
  clear h7
  clear hbV g0 hzV
  obtain ⟨B2, hgB, hwB, hown⟩ := R14.out.own
  have HO := Lib.hid hown
  have HT := Lib.hid R14.out.tab
  have H7 := Lib.hid C7_15.out
  have HB := Lib.hid HB14.out
  have hgw : w.heap.size ≤ g := Nat.le_trans hwq R14.out.base
  generalize W11.heap.size = b7 at *
  clear hown R14 C7_15 HB14
  go_loopw [9] (fun s wr => ∃ (k : Nat) (zs : List E2), k ≤ K ∧ s = .int .i64 k ∧ zs.take k = List.replicate k h ∧ OwE wr B2 (.slice A2 K c2) K zs ∧ Tab wr g xs ∧ Two wr b7 27 (.int .u64 (vF (h).A)) (.int .u64 (vF (h).B)) ∧ Below w.heap.size w wr) (fun s _ => K - (intOf s).toNat)
  case atStart => exact ⟨0, ps, Nat.zero_le _, rfl, rfl, HO.out, HT.out, H7.out, HB.out⟩
  case round =>
    clear HO HT H7 HB
    obtain ⟨k, zs, hk, rfl, htk, ho, ht, h7, hb⟩ := hrel
    have HK := Lib.hid htk
    have HO := Lib.hid ho
    have HT := Lib.hid ht
    have H7 := Lib.hid h7
    have HB := Lib.hid hb
    have HZL := Lib.hid ho.len
    clear htk ho ht h7 hb
    by_cases hlt : k < K
    · obtain ⟨g2, c2', e2, hg2, _, _, hT2⟩ := HO.out.tab (by omega)
      injection e2 with e2 e3 e4
      subst e2
      subst e4
      have hgb : g2 < b7 := hl0 g2 rfl
      obtain ⟨z, hz⟩ : ∃ z, zs[k]? = some z := ⟨zs[k]'(by have := HZL.out; omega), List.getElem?_eq_getElem _⟩
      have c0 := (hT2.at_ hz).1
      have c1 := (hT2.at_ hz).2
      have f0 := hT2.free (k * 2)
      have f1 := hT2.free (k * 2 + 1)
      have d0 := H7.out.c0
      have d1 := H7.out.c1
      clear hT2 hz
      have hk0 : (0 : Int) ≤ (k : Int) := by omega
      have hk1 : (k : Int) < (K : Int) := by omega
      go_wp2_with fail
      go_roundw
      case rel => exact ⟨k + 1, zs.set k h, by omega, by go_num, take_set_rep (by have := HZL.out; omega) HK.out, ow_set HO.out k h, (HT.out.far _ (by simp; omega)).far _ (by simp; omega), (H7.out.far _ (by simp; omega)).far _ (by simp; omega), (HB.out.setCell (by simp; omega) _).setCell (by simp; omega) _⟩
      case measure => simp [intOf]; omega
    · have hkK : k = K := by omega
      subst hkK
      have hzs : zs = List.replicate k h := by
        have := HK.out
        rw [List.take_of_length_le (by have := HZL.out; omega)] at this
        exact this
      have HZS := Lib.hid (show nd M * mleE xs zs = sumE M (cfE xs) by rw [hzs, HPOW.out]; exact mleF_half HH.out k _)
      have HPs := Lib.hid HO.out.sl'
      have HTs := Lib.hid (HT.out.sl HLX.out.symm hc1 ht1)
      clear hzs HK HT HO
      go_wp2_with fail
      have hsz0 := HB.out.size
      generalize wr = W1 at *
      refine wp_named1 (fun V2 hbV g0 hzV => ?_)
      have h10 : Two V2 W1.heap.size 27 (.int .u64 (vF (E2.zero).A)) (.int .u64 (vF (E2.zero).B)) := g0
      have H10 := Lib.hid h10
      have HV := Lib.hid hbV
      clear h10 g0 hbV
      obtain ⟨b10, hb10⟩ : ∃ b, b = W1.heap.size := ⟨_, rfl⟩
      rw [← hb10] at H10
      have hle : W1.heap.size ≤ b10 := by omega
      rw [← hb10]
      clear hb10
      go_loopw [11] (fun s w2 => ∃ j : Nat, j ≤ M ∧ s = .int .i64 j ∧ Two w2 b10 27 (.int .u64 (vF (sumE j (cfE xs)).A)) (.int .u64 (vF (sumE j (cfE xs)).B)) ∧ Below W1.heap.size W1 w2) (fun s _ => M - (intOf s).toNat)
      case atStart => exact ⟨0, Nat.zero_le _, rfl, H10.out, HV.out⟩
      case round =>
        clear H10 HV
        obtain ⟨j, hj, rfl, h10, hb⟩ := hrel
        have HBb := Lib.hid hb
        clear hb
        by_cases hltj : j < M
        · generalize hu : sumE j (cfE xs) = u at h10
          have HU := Lib.hid hu
          have H10 := Lib.hid h10
          clear hu h10
          obtain ⟨x, hx⟩ := HTs.out.get hltj
          obtain ⟨adx, hadx, p0, p1⟩ := (HTs.out.keep HBb.out).at_ hx
          injection hadx with hadx
          subst hadx
          simp only [add_base] at p0 p1
          have HX := Lib.hid (cfE_some hx)
          have l0 := Later.cell p0
          have l1 := Later.cell p1
          have l2 := Later.cell H10.out.c0
          have l3 := Later.cell H10.out.c1
          clear hx p0 p1
          have hj0 : (0 : Int) ≤ (j : Int) := by omega
          have hj1 : (j : Int) < (M : Int) := by omega
          go_wp2_with fail
          refine wp_later_tail 6 (by kernel_rfl) (by kernel_rfl) ?_
          simp only [List.take_succ_cons, List.take_zero, List.drop_succ_cons, List.drop_zero]
          repeat (go_big_quiet_step ((go_at_call 36; with_reducible exact Calls.later (extAdd_any u x _))))
          refine wpQuiet_nil ?_
          intro X
          clear l0 l1 l2 l3
          have HBX := Lib.hid (below_step HBb.out X.below)
          have HX10 := Lib.hid (H10.out.keep X.below)
          have c0 := HX10.out.c0
          have c1 := HX10.out.c1
          have f0 := HX10.out.f0
          have f1 := HX10.out.f1
          go_wp2_with fail
          go_roundw
          case rel => exact ⟨j + 1, by omega, by go_num, by rw [sumE, HU.out, HX.out]; exact (HX10.out.set0 _).set1 _, (HBX.out.setCell hle _).setCell hle _⟩
          case measure => simp [intOf]; omega
        · have hjM : j = M := by omega
          subst hjM
          have hC := h10
          clear h10
          have HPt := Lib.hid (HPs.out.keep HBb.out)
          have HTt := Lib.hid (HTs.out.keep HBb.out)
          have HBt := Lib.hid (below_step HB.out HBb.out)
          clear HB HBb HPs HTs H7
          have C16 := Lib.hid hC
          clear hC
          go_upto_region 13 with fail
          have l0 := Later.cell C16.out.c0
          have l1 := Later.cell C16.out.c1
          try simp only [List.append_eq, List.cons_append, List.nil_append]
          refine wp_floatN (by kernel_rfl) (lexOK_of (by kernel_rfl) (by kernel_rfl)) (chainOF_of (by kernel_rfl)) (fun V17 hb hS => ?_)
          have t18 := Lib.hid (HTt.out.keep hb)
          clear HTt
          have p18 := Lib.hid (HPt.out.keep hb)
          clear HPt
          have C18 := Lib.hid (C16.out.keep hb)
          clear C16
          have HB18 := Lib.hid (below_step HBt.out hb)
          clear HBt
          clear hb
          have HS17' := Lib.hid hS
          clear hS
          clear C18
          refine wpF_seg 4 (by kernel_rfl) ?_
          simp only [List.take_succ_cons, List.take_zero, List.drop_succ_cons, List.drop_zero]
          repeat (go_big_quiet_step (fail))
          refine wpQuiet_nil ?_
          refine wpF_len (some ⟨g, 0, none⟩) j c1 rfl rfl (fun W => by go_simp) (by kernel_rfl) HS17'.out (fun V19 hb => ?_)
          have t20 := Lib.hid (t18.out.keep hb)
          clear t18
          have p20 := Lib.hid (p18.out.keep hb)
          clear p18
          have HB20 := Lib.hid (below_step HB18.out hb)
          clear HB18
          have HS20 := Lib.hid (HS17'.out.ext hb)
          clear HS17'
          clear hb
          simp only [Act.put, List.setIfInBounds_toArray, List.set_cons_zero, List.set_cons_succ]
          refine wpF_call 40 Try.func40 (by kernel_rfl) (by kernel_rfl) _ _ #[.int .i64 ((j : Int))] rfl (by kernel_rfl) (by kernel_rfl) HS20.out (fun V21 hV => ?_)
          refine (rFromNd5 ((j : Int)) _ (by omega) (by omega)).mono ?_
          rintro e W21 ⟨rfl, hb⟩
          have hb2 := ext_trans hV hb
          have t22 := Lib.hid (t20.out.keep hb2)
          clear t20
          have p22 := Lib.hid (p20.out.keep hb2)
          clear p20
          have HB22 := Lib.hid (below_step HB20.out hb2)
          clear HB20
          have HS22 := Lib.hid (HS20.out.ext hb2)
          clear HS20
          refine ⟨_, rfl, hb, ?_⟩
          clear hb hb2 hV
          simp only [Act.put, List.setIfInBounds_toArray, List.set_cons_zero, List.set_cons_succ]
          refine wpF_seg 2 (by kernel_rfl) ?_
          simp only [List.take_succ_cons, List.take_zero, List.drop_succ_cons, List.drop_zero]
          repeat (go_big_quiet_step (fail))
          refine wpQuiet_nil ?_
          refine wpF_call 20 Try.func20 (by kernel_rfl) (by kernel_rfl) _ _ #[.slice (some ⟨g, 0, none⟩) j c1, .slice A2 k c2] rfl (by kernel_rfl) (by kernel_rfl) HS22.out (fun V23 hV => ?_)
          refine (mleEval_any (some ⟨g, 0, none⟩) j c1 xs A2 k c2 zs _ (t22.out.keep hV) (p22.out.keep hV) HPOW.out (by omega)).mono ?_
          rintro e W23 ⟨rfl, hb⟩
          have hb2 := ext_trans hV hb
          have t24 := Lib.hid (t22.out.keep hb2)
          clear t22
          have p24 := Lib.hid (p22.out.keep hb2)
          clear p22
          have HB24 := Lib.hid (below_step HB22.out hb2)
          clear HB22
          have HS24 := Lib.hid (HS22.out.ext hb2)
          clear HS22
          refine ⟨_, rfl, hb, ?_⟩
          clear hb hb2 hV
          simp only [Act.put, List.setIfInBounds_toArray, List.set_cons_zero, List.set_cons_succ]
          refine wpF_call 37 Try.func37 (by kernel_rfl) (by kernel_rfl) _ _ #[.agg #[.int .u64 (vF ((ndZ ((j : Int)))).A), .int .u64 (vF ((ndZ ((j : Int)))).B)], .agg #[.int .u64 (vF ((mleE xs zs)).A), .int .u64 (vF ((mleE xs zs)).B)]] rfl (by kernel_rfl) (by kernel_rfl) HS24.out (fun V25 hV => ?_)
          refine (extMul_any (ndZ ((j : Int))) (mleE xs zs) _).mono ?_
          rw [show ndZ (j : Int) * mleE xs zs = sumE j (cfE xs) from HZS.out]
          rintro e W25 ⟨rfl, hb⟩
          have hb2 := ext_trans hV hb
          have t26 := Lib.hid (t24.out.keep hb2)
          clear t24
          have p26 := Lib.hid (p24.out.keep hb2)
          clear p24
          have HB26 := Lib.hid (below_step HB24.out hb2)
          clear HB24
          have HS26 := Lib.hid (HS24.out.ext hb2)
          clear HS24
          refine ⟨_, rfl, hb, ?_⟩
          clear hb hb2 hV
          simp only [Act.put, List.setIfInBounds_toArray, List.set_cons_zero, List.set_cons_succ]
          have hq58 := run_eqE_same ((sumE j (cfE xs)))
          refine wpF_seg 7 (by kernel_rfl) ?_
          simp only [List.take_succ_cons, List.take_zero, List.drop_succ_cons, List.drop_zero]
          repeat (go_big_quiet_step (fail))
          refine wpQuiet_nil ?_
          refine wpF_nil (fun V27 hb => ?_)
          have t28 := Lib.hid (t26.out.keep hb)
          clear t26
          have p28 := Lib.hid (p26.out.keep hb)
          clear p26
          have HB28 := Lib.hid (below_step HB26.out hb)
          clear HB26
          clear hb
          go_wp2_with fail
          go_ret
          exact ⟨rfl, HB28.out⟩

end Go.Proofs.Ytompkhgnbbadaaa
