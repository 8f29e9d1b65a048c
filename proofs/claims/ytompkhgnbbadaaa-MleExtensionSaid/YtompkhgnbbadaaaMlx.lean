/- The walk of the law MleExtension of package mle: at vertices the value is the element of the table, and along each coordinate it is affine; no conditions. -/
import Derived.Test.YtompkhgnbbadaaaMsn
import Derived.Deep.Cut
namespace Go.Proofs.Ytompkhgnbbadaaa
open Go.RowKit Gold

theorem run_neqE_same (x : E2) (w : World) : (binOp .neq 27 (.agg #[.int .u64 (vF x.A), .int .u64 (vF x.B)]) (.agg #[.int .u64 (vF x.A), .int .u64 (vF x.B)])).run Try.prog w = .ok (.bool false) w := by
  simp [go_sem, Try.underlying27]
set_option maxHeartbeats 8000000 in
set_option maxRecDepth 100000 in
theorem mleExtension_any (A0 : Option Addr) (n0 c0 : Nat) (ts : List (Int × Int)) (B0 : Option Addr) (m0 d0 : Nat) (us : List (Int × Int)) (C0 : Option Addr) (k0 e0 : Nat) (vs : List (Int × Int)) (N0 : Int) (i : Int) (j : Int) (w : World) (hT : Sr w A0 n0 c0 ts) (hU : Sr w B0 m0 d0 us) (hV : Sr w C0 k0 e0 vs) (wT : Nums ts) (wU : Nums us) (wV : Nums vs) (hN : 0 ≤ N0 ∧ N0 ≤ 255) (hi : 0 ≤ i ∧ i ≤ 255) (hj : 0 ≤ j ∧ j ≤ 255) :
    Calls Try.prog 4 #[.agg #[.slice A0 n0 c0, .slice B0 m0 d0, .slice C0 k0 e0, .int .u8 N0], .int .u8 i, .int .u8 j] w fun e w' => e = .returned (.bool true) ∧ Below w.heap.size w w' := by
  have HT := Lib.hid hT
  have HU := Lib.hid hU
  have HV := Lib.hid hV
  have WT := Lib.hid wT
  have WU := Lib.hid wU
  have WV := Lib.hid wV
  clear hT hU hV wT wU wV
  go_enter Try.func4, Try.ntmps4
  go_wp2_with fail
  refine calls_named1 (fun V1 hbV g0 hzV => ?_)
  have hq0 : Box4 V1 (w.heap.size) 24 (.slice A0 n0 c0) (.slice B0 m0 d0) (.slice C0 k0 e0) (.int .u8 N0) := g0
  have qT2 := Lib.hid (HT.out.keep hbV)
  clear HT
  have qU2 := Lib.hid (HU.out.keep hbV)
  clear HU
  have qV2 := Lib.hid (HV.out.keep hbV)
  clear HV
  have HB2 := Lib.hid hbV
  have Q3 := Lib.hid hq0
  clear hq0
  clear hbV hzV g0
  refine (sanity5_any _).mono ?_
  rintro e W4 ⟨rfl, hb⟩
  have qT5 := Lib.hid (qT2.out.keep hb)
  clear qT2
  have qU5 := Lib.hid (qU2.out.keep hb)
  clear qU2
  have qV5 := Lib.hid (qV2.out.keep hb)
  clear qV2
  have Q5 := Lib.hid (Q3.out.keep hb)
  clear Q3
  have HB5 := Lib.hid (below_step HB2.out hb)
  clear HB2
  clear hb
  have q0 := Q5.out.c0
  have q1 := Q5.out.c1
  have q2 := Q5.out.c2
  have q3 := Q5.out.c3
  have hwq := HB5.out.size
  go_wp2_with fail
  clear q0 q1 q2 q3
  refine (made_any A0 n0 c0 ts B0 m0 d0 us C0 k0 e0 vs N0 _ qT5.out qU5.out qV5.out WT.out WU.out WV.out hN).mono ?_
  rintro e W6 ⟨K, g, M, c1, xs, A2, c2, ps, A3, c3, ss, rfl, htr, hb⟩
  have qT7 := Lib.hid (qT5.out.keep hb)
  clear qT5
  have qU7 := Lib.hid (qU5.out.keep hb)
  clear qU5
  have qV7 := Lib.hid (qV5.out.keep hb)
  clear qV5
  have Q7 := Lib.hid (Q5.out.keep hb)
  clear Q5
  have HB7 := Lib.hid (below_step HB5.out hb)
  clear HB5
  clear hb
  have R8 := Lib.hid htr
  clear htr
  clear qT7
  clear qU7
  clear qV7
  clear Q7
  have hk6 := R8.out.k6
  have hm64 := R8.out.m64
  have hm0 := R8.out.m0
  have hc1 := R8.out.cap
  have ht1 := R8.out.top
  have hc2 := R8.out.p.cap
  have ht2 := R8.out.p.top
  have hc3 := R8.out.pts.cap
  have ht3 := R8.out.pts.top
  have HPOW := Lib.hid R8.out.pow
  have HLX := Lib.hid R8.out.len
  have HLP := Lib.hid R8.out.p.len
  have HLS := Lib.hid R8.out.pts.len
  have ht0 := R8.out.t
  have t9 := Lib.hid ht0
  clear ht0
  have hp0 := R8.out.p
  have p10 := Lib.hid hp0
  clear hp0
  have hs0 := R8.out.pts
  have s11 := Lib.hid hs0
  clear hs0
  clear R8
  clear s11
  have hMi : (0 : Int) < (M : Int) := by omega
  obtain ⟨a, ha⟩ : ∃ a : Nat, i % (M : Int) = (a : Int) := ⟨(i % (M : Int)).toNat, by have := Int.emod_nonneg i (show (M : Int) ≠ 0 by omega); omega⟩
  have hla : a < M := by have := Int.emod_lt_of_pos i hMi; omega
  have hlai : (a : Int) < (M : Int) := by omega
  have hM0 : ((M : Int) == 0) = false := by rw [beq_eq_false_iff_ne]; omega
  obtain ⟨q, hq⟩ := t9.out.get hla
  obtain ⟨adx, hadx, t0, t1⟩ := t9.out.at_ hq
  injection hadx with hadx
  subst hadx
  simp only [add_base] at t0 t1
  have HQV := Lib.hid (show mleE xs (vtx a K) = q by rw [mleE_vtx (by rw [← HPOW.out]; exact hla), cfE_some hq])
  have l0 := Later.cell t0
  have l1 := Later.cell t1
  clear t0 t1 hq
  go_upto_region 4 with fail
  simp only [ha]
  clear ha hM0
  try simp only [List.append_eq, List.cons_append, List.nil_append]
  refine wp_floatN (by kernel_rfl) (lexOK_of (by kernel_rfl) (by kernel_rfl)) (chainOF_of (by kernel_rfl)) (fun V12 hb hS => ?_)
  have t13 := Lib.hid (t9.out.keep hb)
  clear t9
  have p13 := Lib.hid (p10.out.keep hb)
  clear p10
  have HB13 := Lib.hid (below_step HB7.out hb)
  clear HB7
  clear hb
  have HS12' := Lib.hid hS
  clear hS
  refine wpF_seg 3 (by kernel_rfl) ?_
  simp only [List.take_succ_cons, List.take_zero, List.drop_succ_cons, List.drop_zero]
  repeat (go_big_quiet_step (fail))
  refine wpQuiet_nil ?_
  refine wpF_len A2 K c2 rfl rfl (fun W => by go_simp) (by kernel_rfl) HS12'.out (fun V14 hb => ?_)
  have t15 := Lib.hid (t13.out.keep hb)
  clear t13
  have p15 := Lib.hid (p13.out.keep hb)
  clear p13
  have HB15 := Lib.hid (below_step HB13.out hb)
  clear HB13
  have HS15 := Lib.hid (HS12'.out.ext hb)
  clear HS12'
  clear hb
  simp only [Act.put, List.setIfInBounds_toArray, List.set_cons_zero, List.set_cons_succ]
  refine wpF_call 34 Try.func34 (by kernel_rfl) (by kernel_rfl) _ _ #[.int .i64 ((a : Int)), .int .i64 ((K : Int))] rfl (by kernel_rfl) (by kernel_rfl) HS15.out (fun V16 hV => ?_)
  refine (rVertex_at ((a : Int)) a K _ rfl (by omega) (by omega)).mono ?_
  rintro e W16 ⟨A21, c21, rfl, hs, hb⟩
  have hb2 := ext_trans hV hb
  have t17 := Lib.hid (t15.out.keep hb2)
  clear t15
  have p17 := Lib.hid (p15.out.keep hb2)
  clear p15
  have HB17 := Lib.hid (below_step HB15.out hb2)
  clear HB15
  have HS17 := Lib.hid (HS15.out.ext hb2)
  clear HS15
  have L21_18 := Lib.hid hs
  clear hs
  refine ⟨_, rfl, hb, ?_⟩
  clear hb hb2 hV
  simp only [Act.put, List.setIfInBounds_toArray, List.set_cons_zero, List.set_cons_succ]
  refine wpF_call 20 Try.func20 (by kernel_rfl) (by kernel_rfl) _ _ #[.slice (some ⟨g, 0, none⟩) M c1, .slice A21 K c21] rfl (by kernel_rfl) (by kernel_rfl) HS17.out (fun V19 hV => ?_)
  refine (mleEval_any (some ⟨g, 0, none⟩) M c1 xs A21 K c21 (vtx a K) _ (t17.out.keep hV) (L21_18.out.keep hV) HPOW.out (by omega)).mono ?_
  rw [HQV.out]
  rintro e W19 ⟨rfl, hb⟩
  have hb2 := ext_trans hV hb
  have t20 := Lib.hid (t17.out.keep hb2)
  clear t17
  have p20 := Lib.hid (p17.out.keep hb2)
  clear p17
  have L21_20 := Lib.hid (L21_18.out.keep hb2)
  clear L21_18
  have HB20 := Lib.hid (below_step HB17.out hb2)
  clear HB17
  have HS20 := Lib.hid (HS17.out.ext hb2)
  clear HS17
  refine ⟨_, rfl, hb, ?_⟩
  clear hb hb2 hV
  simp only [Act.put, List.setIfInBounds_toArray, List.set_cons_zero, List.set_cons_succ]
  clear L21_20
  have hq39 := run_neqE_same (q)
  refine wpF_seg 5 (by kernel_rfl) ?_
  simp only [List.take_succ_cons, List.take_zero, List.drop_succ_cons, List.drop_zero]
  repeat (go_big_quiet_step (fail))
  refine wpQuiet_nil ?_
  refine wpF_nil (fun V21 hb => ?_)
  have t22 := Lib.hid (t20.out.keep hb)
  clear t20
  have p22 := Lib.hid (p20.out.keep hb)
  clear p20
  have HB22 := Lib.hid (below_step HB20.out hb)
  clear HB20
  clear hb
  clear l0 l1
  by_cases hK0 : K = 0
  · have hk0 : ((K : Int) == 0) = true := by rw [beq_iff_eq]; omega
    go_wp2_with fail
    go_ret
    exact ⟨rfl, HB22.out⟩
  · have hk0 : ((K : Int) == 0) = false := by rw [beq_eq_false_iff_ne]; omega
    have hKi : (0 : Int) < (K : Int) := by omega
    obtain ⟨b, hb⟩ : ∃ b : Nat, j % (K : Int) = (b : Int) := ⟨(j % (K : Int)).toNat, by have := Int.emod_nonneg j (show (K : Int) ≠ 0 by omega); omega⟩
    have hlb : b < K := by have := Int.emod_lt_of_pos j hKi; omega
    have hlbi : (b : Int) < (K : Int) := by omega
    have hb0 : (0 : Int) ≤ (b : Int) := by omega
    obtain ⟨x, hx⟩ := p22.out.get hlb
    obtain ⟨adp, rfl, _, _⟩ := p22.out.at_ hx
    have HX := Lib.hid hx
    clear hx
    generalize V21 = W0 at *
    have HT0 := Lib.hid t22.out
    have HP0 := Lib.hid p22.out
    have HB0 := Lib.hid HB22.out
    clear t22 p22 HB22
    have hK2 : ((K : Int) == 0) = false := hk0
    go_upto_region 9 with fail
    simp only [hb]
    go_wp2_with (first
      | (at_builtin; refine wpList_appendSl rfl (.tmp 49) (.tmp 50) rfl (W0.heap.size) _ 0 [] rfl (OwE.made W0 _ (Nat.le_refl _)) adp K c2 ps rfl (HP0.out.keep ((Below.refl _ _).alloc (Nat.le_refl _) _)) (by omega) (by simp) ?_; intro v1 w1 hown1 hg1; have HBl := Lib.hid (below_grown (w0 := W0) ((Below.refl _ _).alloc (Nat.le_refl _) _) hg1 (OwE.made W0 _ (Nat.le_refl _)) (Nat.le_refl _)); rw [Nat.zero_add, List.nil_append] at hown1; obtain ⟨gl, cl, rfl, hgl, hcl, htl, hTl⟩ := hown1.tab (by omega); have HTl := Lib.hid hTl; clear hown1 hg1 hTl)
      | (at_builtin; refine wpList_appendSl rfl (.tmp 52) (.tmp 53) rfl (w1.heap.size) _ 0 [] rfl (OwE.made w1 _ (Nat.le_refl _)) adp K c2 ps rfl ((HP0.out.keep HBl.out).keep ((Below.refl _ _).alloc (Nat.le_refl _) _)) (by omega) (by simp) ?_; intro v2 w2 hown2 hg2; have hB2 := below_grown (w0 := w1) ((Below.refl _ _).alloc (Nat.le_refl _) _) hg2 (OwE.made w1 _ (Nat.le_refl _)) (Nat.le_refl _); have HBh := Lib.hid (below_step HBl.out hB2); have HTl2 := Lib.hid (HTl.out.keep hB2); rw [Nat.zero_add, List.nil_append] at hown2; obtain ⟨gh, ch, rfl, hgh, hch, hth, hTh⟩ := hown2.tab (by omega); have HTh := Lib.hid hTh; have hlh : gl < gh := Nat.lt_of_lt_of_le HTl.out.lt hgh; have z0 := (HTl2.out.at_ HX.out).1; have z1 := (HTl2.out.at_ HX.out).2; have f0 := HTl2.out.free (b * 2); have f1 := HTl2.out.free (b * 2 + 1); clear hown2 hg2 hB2 hTh))
    clear z0 z1 f0 f1
    have hwl : W0.heap.size ≤ gh := by omega
    refine calls_named (fun V => Tab V gl (ps.set b E2.zero) ∧ Tab V gh ps ∧ Below W0.heap.size W0 V) ⟨HTl2.out.set b E2.zero, (HTh.out.far _ (by simp; omega)).far _ (by simp; omega), (HBh.out.setCell hgl _).setCell hgl _⟩ ?_
    rintro V3 ⟨hl3, hh3, hb3⟩
    refine (rOne_any V3).mono ?_
    rintro e W4 ⟨rfl, hb4⟩
    have HTl4 := Lib.hid (hl3.keep hb4)
    have HTh4 := Lib.hid (hh3.keep hb4)
    have HB4 := Lib.hid (below_step hb3 hb4)
    clear hl3 hh3 hb3 hb4 HTl HTl2 HTh HBl HBh
    have z0 := (HTh4.out.at_ HX.out).1
    have z1 := (HTh4.out.at_ HX.out).2
    have f0 := HTh4.out.free (b * 2)
    have f1 := HTh4.out.free (b * 2 + 1)
    go_wp2_with fail
    clear z0 z1 f0 f1
    refine calls_named (fun V => Tab V gl (ps.set b E2.zero) ∧ Tab V gh (ps.set b E2.one) ∧ Below W0.heap.size W0 V) ⟨(HTl4.out.far _ (by simp; omega)).far _ (by simp; omega), HTh4.out.set b E2.one, (HB4.out.setCell hwl _).setCell hwl _⟩ ?_
    rintro V5 ⟨hl5, hh5, hb5⟩
    have HLl := Lib.hid (hl5.sl (n := K) (c := cl) (by rw [List.length_set]; exact HLP.out) hcl htl)
    have HLh := Lib.hid (hh5.sl (n := K) (c := ch) (by rw [List.length_set]; exact HLP.out) hch hth)
    have HT5 := Lib.hid (HT0.out.keep hb5)
    have HP5 := Lib.hid (HP0.out.keep hb5)
    have HB5 := Lib.hid (below_step HB0.out hb5)
    clear hl5 hh5 hb5 HTl4 HTh4 HB4 HT0 HP0 HB0
    have haff := mleF_affine ps b x (cfE xs) HX.out
    generalize hu : mleE xs (ps.set b E2.zero) = u
    generalize hv : mleE xs (ps.set b E2.one) = v
    have HAFF := Lib.hid (show mleE xs ps = u + x * (v - u) by rw [← hu, ← hv]; exact haff)
    have HU := Lib.hid hu
    have HV := Lib.hid hv
    clear haff hu hv
    refine (mleEval_any (some ⟨g, 0, none⟩) M c1 xs (some ⟨gl, 0, none⟩) K cl (ps.set b E2.zero) _ HT5.out HLl.out HPOW.out (by omega)).mono ?_
    rw [HU.out]
    rintro e W23 ⟨rfl, hb⟩
    have l24 := Lib.hid (HLl.out.keep hb)
    clear HLl
    have h24 := Lib.hid (HLh.out.keep hb)
    clear HLh
    have t24 := Lib.hid (HT5.out.keep hb)
    clear HT5
    have p24 := Lib.hid (HP5.out.keep hb)
    clear HP5
    have HB24 := Lib.hid (below_step HB5.out hb)
    clear HB5
    clear hb
    go_wp2_with fail
    refine (mleEval_any (some ⟨g, 0, none⟩) M c1 xs (some ⟨gh, 0, none⟩) K ch (ps.set b E2.one) _ t24.out h24.out HPOW.out (by omega)).mono ?_
    rw [HV.out]
    rintro e W25 ⟨rfl, hb⟩
    have l26 := Lib.hid (l24.out.keep hb)
    clear l24
    have h26 := Lib.hid (h24.out.keep hb)
    clear h24
    have t26 := Lib.hid (t24.out.keep hb)
    clear t24
    have p26 := Lib.hid (p24.out.keep hb)
    clear p24
    have HB26 := Lib.hid (below_step HB24.out hb)
    clear HB24
    clear hb
    go_wp2_with fail
    refine wp_named2 (fun V27 hbV g0 g1 hzV => ?_)
    have hu : Two V27 W25.heap.size 27 (.int .u64 (vF (u).A)) (.int .u64 (vF (u).B)) := g0
    have hv : Two V27 (W25.heap.size + 1) 27 (.int .u64 (vF (v).A)) (.int .u64 (vF (v).B)) := g1
    have l28 := Lib.hid (l26.out.keep hbV)
    clear l26
    have h28 := Lib.hid (h26.out.keep hbV)
    clear h26
    have t28 := Lib.hid (t26.out.keep hbV)
    clear t26
    have p28 := Lib.hid (p26.out.keep hbV)
    clear p26
    have HB28 := Lib.hid (below_step HB26.out hbV)
    clear HB26
    have U29 := Lib.hid hu
    clear hu
    have V_30 := Lib.hid hv
    clear hv
    clear hbV g0 g1 hzV
    clear l28
    clear h28
    obtain ⟨_, hadx, x0, x1⟩ := p28.out.at_ HX.out
    injection hadx with hadx
    subst hadx
    have l0 := Later.cell x0
    have l1 := Later.cell x1
    have l2 := Later.cell U29.out.c0
    have l3 := Later.cell U29.out.c1
    have l4 := Later.cell V_30.out.c0
    have l5 := Later.cell V_30.out.c1
    clear x0 x1
    clear U29
    clear V_30
    try simp only [List.append_eq, List.cons_append, List.nil_append]
    refine wp_floatN (by kernel_rfl) (lexOK_of (by kernel_rfl) (by kernel_rfl)) (chainOF_of (by kernel_rfl)) (fun V31 hb hS => ?_)
    have t32 := Lib.hid (t28.out.keep hb)
    clear t28
    have p32 := Lib.hid (p28.out.keep hb)
    clear p28
    have HB32 := Lib.hid (below_step HB28.out hb)
    clear HB28
    clear hb
    have HS31' := Lib.hid hS
    clear hS
    refine wpF_seg 2 (by kernel_rfl) ?_
    simp only [List.take_succ_cons, List.take_zero, List.drop_succ_cons, List.drop_zero]
    repeat (go_big_quiet_step (fail))
    refine wpQuiet_nil ?_
    refine wpF_call 20 Try.func20 (by kernel_rfl) (by kernel_rfl) _ _ #[.slice (some ⟨g, 0, none⟩) M c1, .slice (some adp) K c2] rfl (by kernel_rfl) (by kernel_rfl) HS31'.out (fun V33 hV => ?_)
    refine (mleEval_any (some ⟨g, 0, none⟩) M c1 xs (some adp) K c2 ps _ (t32.out.keep hV) (p32.out.keep hV) HPOW.out (by omega)).mono ?_
    rw [HAFF.out]
    rintro e W33 ⟨rfl, hb⟩
    have hb2 := ext_trans hV hb
    have t34 := Lib.hid (t32.out.keep hb2)
    clear t32
    have p34 := Lib.hid (p32.out.keep hb2)
    clear p32
    have HB34 := Lib.hid (below_step HB32.out hb2)
    clear HB32
    have HS34 := Lib.hid (HS31'.out.ext hb2)
    clear HS31'
    refine ⟨_, rfl, hb, ?_⟩
    clear hb hb2 hV
    simp only [Act.put, List.setIfInBounds_toArray, List.set_cons_zero, List.set_cons_succ]
    refine wpF_seg 7 (by kernel_rfl) ?_
    simp only [List.take_succ_cons, List.take_zero, List.drop_succ_cons, List.drop_zero]
    repeat (go_big_quiet_step (fail))
    refine wpQuiet_nil ?_
    refine wpF_call 38 Try.func38 (by kernel_rfl) (by kernel_rfl) _ _ #[.agg #[.int .u64 (vF (v).A), .int .u64 (vF (v).B)], .agg #[.int .u64 (vF (u).A), .int .u64 (vF (u).B)]] rfl (by kernel_rfl) (by kernel_rfl) HS34.out (fun V35 hV => ?_)
    refine (extSub_any v u _).mono ?_
    rintro e W35 ⟨rfl, hb⟩
    have hb2 := ext_trans hV hb
    have t36 := Lib.hid (t34.out.keep hb2)
    clear t34
    have p36 := Lib.hid (p34.out.keep hb2)
    clear p34
    have HB36 := Lib.hid (below_step HB34.out hb2)
    clear HB34
    have HS36 := Lib.hid (HS34.out.ext hb2)
    clear HS34
    refine ⟨_, rfl, hb, ?_⟩
    clear hb hb2 hV
    simp only [Act.put, List.setIfInBounds_toArray, List.set_cons_zero, List.set_cons_succ]
    refine wpF_call 37 Try.func37 (by kernel_rfl) (by kernel_rfl) _ _ #[.agg #[.int .u64 (vF (x).A), .int .u64 (vF (x).B)], .agg #[.int .u64 (vF ((v - u)).A), .int .u64 (vF ((v - u)).B)]] rfl (by kernel_rfl) (by kernel_rfl) HS36.out (fun V37 hV => ?_)
    refine (extMul_any x (v - u) _).mono ?_
    rintro e W37 ⟨rfl, hb⟩
    have hb2 := ext_trans hV hb
    have t38 := Lib.hid (t36.out.keep hb2)
    clear t36
    have p38 := Lib.hid (p36.out.keep hb2)
    clear p36
    have HB38 := Lib.hid (below_step HB36.out hb2)
    clear HB36
    have HS38 := Lib.hid (HS36.out.ext hb2)
    clear HS36
    refine ⟨_, rfl, hb, ?_⟩
    clear hb hb2 hV
    simp only [Act.put, List.setIfInBounds_toArray, List.set_cons_zero, List.set_cons_succ]
    refine wpF_call 36 Try.func36 (by kernel_rfl) (by kernel_rfl) _ _ #[.agg #[.int .u64 (vF (u).A), .int .u64 (vF (u).B)], .agg #[.int .u64 (vF ((x * (v - u))).A), .int .u64 (vF ((x * (v - u))).B)]] rfl (by kernel_rfl) (by kernel_rfl) HS38.out (fun V39 hV => ?_)
    refine (extAdd_any u (x * (v - u)) _).mono ?_
    rintro e W39 ⟨rfl, hb⟩
    have hb2 := ext_trans hV hb
    have t40 := Lib.hid (t38.out.keep hb2)
    clear t38
    have p40 := Lib.hid (p38.out.keep hb2)
    clear p38
    have HB40 := Lib.hid (below_step HB38.out hb2)
    clear HB38
    have HS40 := Lib.hid (HS38.out.ext hb2)
    clear HS38
    refine ⟨_, rfl, hb, ?_⟩
    clear hb hb2 hV
    simp only [Act.put, List.setIfInBounds_toArray, List.set_cons_zero, List.set_cons_succ]
    have hq82 := run_eqE_same ((u + (x * (v - u))))
    refine wpF_seg 5 (by kernel_rfl) ?_
    simp only [List.take_succ_cons, List.take_zero, List.drop_succ_cons, List.drop_zero]
    repeat (go_big_quiet_step (fail))
    refine wpQuiet_nil ?_
    refine wpF_nil (fun V41 hb => ?_)
    have t42 := Lib.hid (t40.out.keep hb)
    clear t40
    have p42 := Lib.hid (p40.out.keep hb)
    clear p40
    have HB42 := Lib.hid (below_step HB40.out hb)
    clear HB40
    clear hb
    go_wp2_with fail
    go_ret
    exact ⟨rfl, HB42.out⟩

end Go.Proofs.Ytompkhgnbbadaaa
