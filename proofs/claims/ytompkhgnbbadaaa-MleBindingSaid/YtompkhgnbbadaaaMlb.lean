/- The walk of the law MleBinding of package mle: binding the variables one by one leaves the value; no conditions. -/
import Derived.Test.YtompkhgnbbadaaaMsn
import Derived.Deep.Cut
namespace Go.Proofs.Ytompkhgnbbadaaa
open Go.RowKit Gold

theorem run_neqE_same (x : E2) (w : World) : (binOp .neq 27 (.agg #[.int .u64 (vF x.A), .int .u64 (vF x.B)]) (.agg #[.int .u64 (vF x.A), .int .u64 (vF x.B)])).run Try.prog w = .ok (.bool false) w := by
  simp [go_sem, Try.underlying27]
set_option maxHeartbeats 8000000 in
set_option maxRecDepth 100000 in
theorem mleBinding_any (A0 : Option Addr) (n0 c0 : Nat) (ts : List (Int × Int)) (B0 : Option Addr) (m0 d0 : Nat) (us : List (Int × Int)) (C0 : Option Addr) (k0 e0 : Nat) (vs : List (Int × Int)) (N0 : Int) (w : World) (hT : Sr w A0 n0 c0 ts) (hU : Sr w B0 m0 d0 us) (hV : Sr w C0 k0 e0 vs) (wT : Nums ts) (wU : Nums us) (wV : Nums vs) (hN : 0 ≤ N0 ∧ N0 ≤ 255) :
    Calls Try.prog 5 #[.agg #[.slice A0 n0 c0, .slice B0 m0 d0, .slice C0 k0 e0, .int .u8 N0]] w fun e w' => e = .returned (.bool true) ∧ Below w.heap.size w w' := by
  have HT := Lib.hid hT
  have HU := Lib.hid hU
  have HV := Lib.hid hV
  have WT := Lib.hid wT
  have WU := Lib.hid wU
  have WV := Lib.hid wV
  clear hT hU hV wT wU wV
  go_enter Try.func5, Try.ntmps5
  go_wp2_with fail
  refine calls_named1 (fun V1 hbV g0 hzV => ?_)
  have hq0 : Box4 V1 (w.heap.size) 24 (.slice A0 n0 c0) (.slice B0 m0 d0) (.slice C0 k0 e0) (.int .u8 N0) := g0
  have qT2 := Lib.hid (HT.out.keep hbV)
  clear HT
  have qU2 := Lib.hid (HU.out.keep hbV)
  clear HU
  have qV2 := Lib.hid (HV.out.keep hbV)
  clear HV
  have HB2 := Lib.hid hbV
  have Q3 := Lib.hid hq0
  clear hq0
  clear hbV hzV g0
  refine (sanity5_any _).mono ?_
  rintro e W4 ⟨rfl, hb⟩
  have qT5 := Lib.hid (qT2.out.keep hb)
  clear qT2
  have qU5 := Lib.hid (qU2.out.keep hb)
  clear qU2
  have qV5 := Lib.hid (qV2.out.keep hb)
  clear qV2
  have Q5 := Lib.hid (Q3.out.keep hb)
  clear Q3
  have HB5 := Lib.hid (below_step HB2.out hb)
  clear HB2
  clear hb
  have q0 := Q5.out.c0
  have q1 := Q5.out.c1
  have q2 := Q5.out.c2
  have q3 := Q5.out.c3
  have hwq := HB5.out.size
  go_wp2_with fail
  clear q0 q1 q2 q3
  refine (made_any A0 n0 c0 ts B0 m0 d0 us C0 k0 e0 vs N0 _ qT5.out qU5.out qV5.out WT.out WU.out WV.out hN).mono ?_
  rintro e W6 ⟨K, g, M, c1, xs, A2, c2, ps, A3, c3, ss, rfl, htr, hb⟩
  have qT7 := Lib.hid (qT5.out.keep hb)
  clear qT5
  have qU7 := Lib.hid (qU5.out.keep hb)
  clear qU5
  have qV7 := Lib.hid (qV5.out.keep hb)
  clear qV5
  have Q7 := Lib.hid (Q5.out.keep hb)
  clear Q5
  have HB7 := Lib.hid (below_step HB5.out hb)
  clear HB5
  clear hb
  have R8 := Lib.hid htr
  clear htr
  clear qT7
  clear qU7
  clear qV7
  clear Q7
  have hk6 := R8.out.k6
  have hm64 := R8.out.m64
  have hm0 := R8.out.m0
  have hc1 := R8.out.cap
  have ht1 := R8.out.top
  have hc2 := R8.out.p.cap
  have ht2 := R8.out.p.top
  have hc3 := R8.out.pts.cap
  have ht3 := R8.out.pts.top
  have HPOW := Lib.hid R8.out.pow
  have HLX := Lib.hid R8.out.len
  have HLP := Lib.hid R8.out.p.len
  have HLS := Lib.hid R8.out.pts.len
  have ht0 := R8.out.t
  have t9 := Lib.hid ht0
  clear ht0
  have hp0 := R8.out.p
  have p10 := Lib.hid hp0
  clear hp0
  go_wp2_with fail
  refine (mleEval_any (some ⟨g, 0, none⟩) M c1 xs A2 K c2 ps _ t9.out p10.out HPOW.out (by omega)).mono ?_
  rintro e W11 ⟨rfl, hb⟩
  have R12 := Lib.hid (R8.out.keep hb)
  clear R8
  have t12 := Lib.hid (t9.out.keep hb)
  clear t9
  have p12 := Lib.hid (p10.out.keep hb)
  clear p10
  have HB12 := Lib.hid (below_step HB7.out hb)
  clear HB7
  clear hb
  generalize hv : mleE xs ps = v
  have HV := Lib.hid hv
  clear hv
  go_wp2_with fail
  refine wp_named1 (fun V13 hbV g0 hzV => ?_)
  have h7 : Two V13 W11.heap.size 27 (.int .u64 (vF (v).A)) (.int .u64 (vF (v).B)) := g0
  have R14 := Lib.hid (R12.out.keep hbV)
  clear R12
  have t14 := Lib.hid (t12.out.keep hbV)
  clear t12
  have p14 := Lib.hid (p12.out.keep hbV)
  clear p12
  have HB14 := Lib.hid (below_step HB12.out hbV)
  clear HB12
  clear hbV g0 hzV
  obtain ⟨B2, hgB, hwB, hown⟩ := R14.out.own
  have HO := Lib.hid hown
  have HT := Lib.hid R14.out.tab
  have H7 := Lib.hid h7
  have HB := Lib.hid HB14.out
  generalize W11.heap.size = b7 at *
  generalize V13 = W0 at *
  clear hown h7 R14 t14 p14 HB14
  go_loopw [4, 8] (fun t s wr => ∃ (k N ga c : Nat) (ys : List E2), k ≤ K ∧ s = .int .i64 k ∧ t = .slice (some ⟨ga, 0, none⟩) N c ∧ N = 2 ^ (K - k) ∧ N ≤ 64 ∧ N ≤ c ∧ c ≤ 9223372036854775807 ∧ ys.length = N ∧ mleE ys (ps.drop k) = v ∧ Tab wr ga ys ∧ Two wr b7 27 (.int .u64 (vF (v).A)) (.int .u64 (vF (v).B)) ∧ Below W0.heap.size W0 wr) (fun _ s _ => K - (intOf s).toNat)
  case atStart => exact ⟨0, M, g, c1, xs, Nat.zero_le _, rfl, rfl, HPOW.out, hm64, hc1, ht1, HLX.out, HV.out, HT.out, H7.out, Below.refl _ _⟩
  case round =>
    clear HT H7
    obtain ⟨k, N, ga, c, ys, hk, rfl, rfl, hN, hN64, hNc, hct, hly, hmv, hT, h7, hb⟩ := hrel
    have HN := Lib.hid hN
    have HLY := Lib.hid hly
    have HMV := Lib.hid hmv
    have HT := Lib.hid (hT.sl hly.symm hNc hct)
    have HTb := Lib.hid hT
    have H7 := Lib.hid h7
    have HBb := Lib.hid hb
    have hN0 : 0 < N := by rw [hN]; exact Nat.two_pow_pos _
    clear hN hly hmv hT h7 hb
    by_cases hlt : k < K
    · obtain ⟨g2, c2', e2, hg2, hcc2, _, hT2⟩ := HO.out.tab (by omega)
      injection e2 with e2 e3 e4
      subst e2
      subst e4
      have HP := Lib.hid (HO.out.sl'.keep HBb.out)
      clear hT2
      obtain ⟨r, hr⟩ := HP.out.get hlt
      obtain ⟨adp, hadp, p0, p1⟩ := HP.out.at_ hr
      injection hadp with hadp
      subst hadp
      simp only [add_base] at p0 p1
      have HR := Lib.hid hr
      clear hr
      have hk0 : (0 : Int) ≤ (k : Int) := by omega
      have hk1 : (k : Int) < (K : Int) := by omega
      go_wp2_with fail
      clear p0 p1
      have hB0 := mleBind_any _ N c ys r wr HT.out (by omega) hN0
      obtain ⟨H, hNH⟩ : ∃ H, N / 2 = H := ⟨_, rfl⟩
      rw [hNH] at hB0
      refine hB0.mono ?_
      rintro e W1 ⟨gb, cb, rfl, hTb, _, hcb, htb, hb⟩
      clear hB0
      rw [← hNH] at hcb
      have hH2 : N / 2 = 2 ^ (K - (k + 1)) := by
        have := HN.out
        rw [show K - k = K - (k + 1) + 1 by omega, Nat.pow_succ] at this
        omega
      have hbl : (bndE ys r).length = N / 2 := by rw [bndE_length, HLY.out]
      have hdr : ps.drop k = r :: ps.drop (k + 1) := by
        obtain ⟨hl, he⟩ := List.getElem?_eq_some_iff.1 HR.out
        rw [List.drop_eq_getElem_cons hl, he]
      have hmv2 : mleE (bndE ys r) (ps.drop (k + 1)) = v := by
        rw [mleE_cons (by rw [HLY.out, HN.out, List.length_drop, ← HLP.out, show K - k = K - (k + 1) + 1 by omega]), ← hdr]
        exact HMV.out
      generalize hys : bndE ys r = zs at *
      rw [hNH] at hH2 hbl hcb
      have hH64 : H ≤ 64 := by omega
      have HMV2 := Lib.hid hmv2
      have HH2 := Lib.hid hH2
      have HZL := Lib.hid hbl
      have HZT := Lib.hid hTb
      have HZS := Lib.hid (hTb.sl hbl.symm hcb htb)
      have HP1 := Lib.hid (HP.out.keep hb)
      have H71 := Lib.hid (H7.out.keep hb)
      have HB1 := Lib.hid (below_step HBb.out hb)
      clear hmv2 hH2 hbl hTb hb hdr hys hNH HP H7 HBb HT
      go_wp2_with fail
      have hc0 := mleValid_yes _ H cb (K - (k + 1)) _ W1 (SlW.of HZS.out) HH2.out (by omega) (allV_E2 _)
      rw [show ((K - (k + 1) : Nat) : Int) = (K : Int) - (k : Int) - 1 by omega] at hc0
      refine hc0.mono ?_
      rintro e W2 ⟨rfl, hb⟩
      have HZT2 := Lib.hid (HZT.out.keep hb)
      have HZS2 := Lib.hid (HZS.out.keep hb)
      have HP2 := Lib.hid (HP1.out.keep hb)
      have H72 := Lib.hid (H71.out.keep hb)
      have HB2 := Lib.hid (below_step HB1.out hb)
      clear hb hc0 HZT HZS HP1 H71 HB1
      go_wp2_with fail
      have l0 := Later.cell H72.out.c0
      have l1 := Later.cell H72.out.c1
      by_cases hcc : c2 = k + 1
      · try simp only [List.append_eq, List.cons_append, List.nil_append]
        refine wp_floatN (by kernel_rfl) (lexOK_of (by kernel_rfl) (by kernel_rfl)) (chainOF_of (by kernel_rfl)) (fun V15 hb hS => ?_)
        have z16 := Lib.hid (HZS2.out.keep hb)
        clear HZS2
        have p16 := Lib.hid (HP2.out.keep hb)
        clear HP2
        have T16 := Lib.hid (HZT2.out.keep hb)
        clear HZT2
        have C16 := Lib.hid (H72.out.keep hb)
        clear H72
        have HB16 := Lib.hid (below_step HB2.out hb)
        clear HB2
        clear hb
        have HS15' := Lib.hid hS
        clear hS
        refine wpF_seg 5 (by kernel_rfl) ?_
        simp only [List.take_succ_cons, List.take_zero, List.drop_succ_cons, List.drop_zero]
        repeat (go_big_quiet_step (fail))
        refine wpQuiet_nil ?_
        refine wpF_len (some ⟨g2, 0, none⟩) K c2 rfl rfl (fun W => by go_simp) (by kernel_rfl) HS15'.out (fun V17 hb => ?_)
        have z18 := Lib.hid (z16.out.keep hb)
        clear z16
        have p18 := Lib.hid (p16.out.keep hb)
        clear p16
        have T18 := Lib.hid (T16.out.keep hb)
        clear T16
        have C18 := Lib.hid (C16.out.keep hb)
        clear C16
        have HB18 := Lib.hid (below_step HB16.out hb)
        clear HB16
        have HS18 := Lib.hid (HS15'.out.ext hb)
        clear HS15'
        clear hb
        simp only [Act.put, List.setIfInBounds_toArray, List.set_cons_zero, List.set_cons_succ]
        refine wpF_seg 11 (by kernel_rfl) ?_
        simp only [List.take_succ_cons, List.take_zero, List.drop_succ_cons, List.drop_zero]
        repeat (go_big_quiet_step (fail))
        refine wpQuiet_nil ?_
        refine wpF_call 20 Try.func20 (by kernel_rfl) (by kernel_rfl) _ _ #[.slice (some ⟨gb, 0, none⟩) H cb, .slice (some ⟨g2, 0, none⟩) (K - (k + 1)) 0] rfl (by kernel_rfl) (by kernel_rfl) HS18.out (fun V19 hV => ?_)
        refine (mleEval_any (some ⟨gb, 0, none⟩) H cb zs (some ⟨g2, 0, none⟩) (K - (k + 1)) 0 (ps.drop (k + 1)) _ (z18.out.keep hV) (show Sl _ (some ⟨g2, 0, none⟩) (K - (k + 1)) 0 (ps.drop (k + 1)) by have h9 := (p18.out.keep hV).drop (k := k + 1) (by omega); rw [if_pos hcc, show c2 - (k + 1) = 0 by omega] at h9; exact h9) HH2.out (by omega)).mono ?_
        rw [HMV2.out]
        rintro e W19 ⟨rfl, hb⟩
        have hb2 := ext_trans hV hb
        have z20 := Lib.hid (z18.out.keep hb2)
        clear z18
        have p20 := Lib.hid (p18.out.keep hb2)
        clear p18
        have T20 := Lib.hid (T18.out.keep hb2)
        clear T18
        have C20 := Lib.hid (C18.out.keep hb2)
        clear C18
        have HB20 := Lib.hid (below_step HB18.out hb2)
        clear HB18
        have HS20 := Lib.hid (HS18.out.ext hb2)
        clear HS18
        refine ⟨_, rfl, hb, ?_⟩
        clear hb hb2 hV
        simp only [Act.put, List.setIfInBounds_toArray, List.set_cons_zero, List.set_cons_succ]
        have hq57 := run_neqE_same (v)
        refine wpF_seg 3 (by kernel_rfl) ?_
        simp only [List.take_succ_cons, List.take_zero, List.drop_succ_cons, List.drop_zero]
        repeat (go_big_quiet_step (fail))
        refine wpQuiet_nil ?_
        refine wpF_nil (fun V21 hb => ?_)
        have z22 := Lib.hid (z20.out.keep hb)
        clear z20
        have p22 := Lib.hid (p20.out.keep hb)
        clear p20
        have T22 := Lib.hid (T20.out.keep hb)
        clear T20
        have C22 := Lib.hid (C20.out.keep hb)
        clear C20
        have HB22 := Lib.hid (below_step HB20.out hb)
        clear HB20
        clear hb
        clear l0 l1
        go_wp2_with fail
        go_roundw
        case rel => exact ⟨k + 1, H, gb, cb, zs, by omega, by go_num, rfl, HH2.out, hH64, hcb, htb, HZL.out, HMV2.out, T22.out, C22.out, HB22.out⟩
        case measure => simp [intOf]; omega
      · try simp only [List.append_eq, List.cons_append, List.nil_append]
        refine wp_floatN (by kernel_rfl) (lexOK_of (by kernel_rfl) (by kernel_rfl)) (chainOF_of (by kernel_rfl)) (fun V23 hb hS => ?_)
        have z24 := Lib.hid (HZS2.out.keep hb)
        clear HZS2
        have p24 := Lib.hid (HP2.out.keep hb)
        clear HP2
        have T24 := Lib.hid (HZT2.out.keep hb)
        clear HZT2
        have C24 := Lib.hid (H72.out.keep hb)
        clear H72
        have HB24 := Lib.hid (below_step HB2.out hb)
        clear HB2
        clear hb
        have HS23' := Lib.hid hS
        clear hS
        refine wpF_seg 5 (by kernel_rfl) ?_
        simp only [List.take_succ_cons, List.take_zero, List.drop_succ_cons, List.drop_zero]
        repeat (go_big_quiet_step (fail))
        refine wpQuiet_nil ?_
        refine wpF_len (some ⟨g2, 0, none⟩) K c2 rfl rfl (fun W => by go_simp) (by kernel_rfl) HS23'.out (fun V25 hb => ?_)
        have z26 := Lib.hid (z24.out.keep hb)
        clear z24
        have p26 := Lib.hid (p24.out.keep hb)
        clear p24
        have T26 := Lib.hid (T24.out.keep hb)
        clear T24
        have C26 := Lib.hid (C24.out.keep hb)
        clear C24
        have HB26 := Lib.hid (below_step HB24.out hb)
        clear HB24
        have HS26 := Lib.hid (HS23'.out.ext hb)
        clear HS23'
        clear hb
        simp only [Act.put, List.setIfInBounds_toArray, List.set_cons_zero, List.set_cons_succ]
        refine wpF_seg 11 (by kernel_rfl) ?_
        simp only [List.take_succ_cons, List.take_zero, List.drop_succ_cons, List.drop_zero]
        repeat (go_big_quiet_step (fail))
        refine wpQuiet_nil ?_
        refine wpF_call 20 Try.func20 (by kernel_rfl) (by kernel_rfl) _ _ #[.slice (some ⟨gb, 0, none⟩) H cb, .slice (some ⟨g2, (k + 1) * 2, none⟩) (K - (k + 1)) (c2 - (k + 1))] rfl (by kernel_rfl) (by kernel_rfl) HS26.out (fun V27 hV => ?_)
        refine (mleEval_any (some ⟨gb, 0, none⟩) H cb zs (some ⟨g2, (k + 1) * 2, none⟩) (K - (k + 1)) (c2 - (k + 1)) (ps.drop (k + 1)) _ (z26.out.keep hV) (show Sl _ (some ⟨g2, (k + 1) * 2, none⟩) (K - (k + 1)) (c2 - (k + 1)) (ps.drop (k + 1)) by have h9 := (p26.out.keep hV).drop (k := k + 1) (by omega); rw [if_neg hcc] at h9; simpa only [Option.map_some, add_base] using h9) HH2.out (by omega)).mono ?_
        rw [HMV2.out]
        rintro e W27 ⟨rfl, hb⟩
        have hb2 := ext_trans hV hb
        have z28 := Lib.hid (z26.out.keep hb2)
        clear z26
        have p28 := Lib.hid (p26.out.keep hb2)
        clear p26
        have T28 := Lib.hid (T26.out.keep hb2)
        clear T26
        have C28 := Lib.hid (C26.out.keep hb2)
        clear C26
        have HB28 := Lib.hid (below_step HB26.out hb2)
        clear HB26
        have HS28 := Lib.hid (HS26.out.ext hb2)
        clear HS26
        refine ⟨_, rfl, hb, ?_⟩
        clear hb hb2 hV
        simp only [Act.put, List.setIfInBounds_toArray, List.set_cons_zero, List.set_cons_succ]
        have hq57 := run_neqE_same (v)
        refine wpF_seg 3 (by kernel_rfl) ?_
        simp only [List.take_succ_cons, List.take_zero, List.drop_succ_cons, List.drop_zero]
        repeat (go_big_quiet_step (fail))
        refine wpQuiet_nil ?_
        refine wpF_nil (fun V29 hb => ?_)
        have z30 := Lib.hid (z28.out.keep hb)
        clear z28
        have p30 := Lib.hid (p28.out.keep hb)
        clear p28
        have T30 := Lib.hid (T28.out.keep hb)
        clear T28
        have C30 := Lib.hid (C28.out.keep hb)
        clear C28
        have HB30 := Lib.hid (below_step HB28.out hb)
        clear HB28
        clear hb
        clear l0 l1
        go_wp2_with fail
        go_roundw
        case rel => exact ⟨k + 1, H, gb, cb, zs, by omega, by go_num, rfl, HH2.out, hH64, hcb, htb, HZL.out, HMV2.out, T30.out, C30.out, HB30.out⟩
        case measure => simp [intOf]; omega
    · have hkK : k = K := by omega
      subst hkK
      have hN1 : N = 1 := by rw [HN.out, Nat.sub_self]
      subst hN1
      obtain ⟨q, hq⟩ : ∃ q, ys[0]? = some q := ⟨ys[0]'(by have := HLY.out; omega), List.getElem?_eq_getElem _⟩
      have hqv : q = v := by
        have := HMV.out
        rw [List.drop_eq_nil_of_le (by have := HLP.out; omega), mleE_nil, cfE_some hq] at this
        exact this
      subst hqv
      have t0 := (HTb.out.at_ hq).1
      have t1 := (HTb.out.at_ hq).2
      simp only [Nat.zero_mul, Nat.zero_add] at t0 t1
      have l0 := Later.cell t0
      have l1 := Later.cell t1
      have l2 := Later.cell H7.out.c0
      have l3 := Later.cell H7.out.c1
      have heq := run_eqE_same q
      clear t0 t1 hq
      go_upto_region 11 with fail
      refine wp_later_lex (by kernel_rfl) (lexOK_of (by kernel_rfl) (by kernel_rfl)) ?_
      repeat (go_big_quiet_step (fail))
      refine wpQuiet_nil ?_
      intro X
      go_wp2_with fail
      go_ret
      exact ⟨rfl, below_step (below_step HB.out HBb.out) X.below⟩

end Go.Proofs.Ytompkhgnbbadaaa
