/- The walk of the law SumcheckRoundPolynomial: the values at 0 and 1 add up to the sum, the value at r is the sum with the first variable put to r; no conditions. -/
import Derived.Test.YtombcjdhjcmhhaaGf
import Derived.Test.YtombcjdhjcmhhaaGf
import Derived.Test.YtombcjdhjcmhhaaGe
import Derived.Test.YtombcjdhjcmhhaaGb
import Derived.Test.YtombcjdhjcmhhaaRefD
import Derived.Deep.CutRange
namespace Go.Proofs.Ytombcjdhjcmhhaa
set_option maxRecDepth 8000
open Go.RowKit Gold

set_option maxHeartbeats 8000000 in
set_option maxRecDepth 100000 in
theorem sumcheckRoundPolynomial_any (x : Value) (r1 r2 : Int) (w : World) (hx : RawS w x) (u1 : U64 r1) (u2 : U64 r2) :
    Calls Try.prog 5 #[x, .agg #[.int .u64 r1, .int .u64 r2]] w fun e w' => e = .returned (.bool true) ∧ Below w.heap.size w w' := by
  obtain ⟨A0, A1, A2, B, n0, c0, n1, c1, n2, c2, m, e, q0, q1, q2, rs, N, rfl, hN, h0, h1, h2, w0, w1, w2, hR, wR⟩ := hx.ex
  have H0 := Lib.hid h0
  have H1 := Lib.hid h1
  have H2 := Lib.hid h2
  have HR := Lib.hid hR
  have WR := Lib.hid wR
  clear hx h0 h1 h2 hR wR
  go_enter Try.func5, Try.ntmps5
  go_wp2_with fail
  refine calls_named2 (fun V1 hbV g0 g1 hzV => ?_)
  have X0 := Lib.hid (show Five V1 w.heap.size 26 (.slice A0 n0 c0) (.slice A1 n1 c1) (.slice A2 n2 c2) (.slice B m e) (.int .u8 N) from g0)
  have X1 := Lib.hid (show Two V1 (w.heap.size + 1) 43 (.int .u64 r1) (.int .u64 r2) from g1)
  have HBa := Lib.hid hbV
  clear hbV g0 g1
  refine (sanity6_any _).mono ?_
  rintro e W2 ⟨rfl, hb⟩
  have X2 := Lib.hid (X1.out.keep hb)
  have HB2 := Lib.hid (below_step HBa.out hb)
  have XX := X0.out.keep hb
  have x0 := XX.c0
  have x1 := XX.c1
  have x2 := XX.c2
  have x3 := XX.c3
  have x4 := XX.c4
  clear hb XX X0 X1 HBa
  go_wp2_with fail
  refine (rSumMade_any A0 A1 A2 B n0 c0 n1 c1 n2 c2 m _ q0 q1 q2 rs N 5 _ (by omega) hN (Sr.keep H0.out HB2.out) (Sr.keep H1.out HB2.out) (Sr.keep H2.out HB2.out) w0 w1 w2 (HR.out.keep HB2.out) WR.out).mono ?_
  rintro e W3 ⟨A, c, B', m', c', Ls, ts, d, rfl, hT, hM, hok, hd, hl3, ht4, hb⟩
  clear x0 x1 x2 x3 x4
  have HS := Lib.hid (SumIn.mk hT hM hok)
  have X3 := Lib.hid (X2.out.keep hb)
  have HB3 := Lib.hid (below_step HB2.out hb)
  clear hb hT hM hok H0 H1 H2 HR WR w0 w1 w2 X2 HB2 hN
  go_upto_region 3 with fail
  refine wp_named1 (fun V4 hb g4 hz4 => ?_)
  have XS := Lib.hid (show Two V4 W3.heap.size 30 (.slice A 3 c) (.slice B' m' c') from g4)
  have HS4 := Lib.hid (HS.out.keep hb)
  have X4 := Lib.hid (X3.out.keep hb)
  have HB4 := Lib.hid (below_step HB3.out hb)
  clear hb g4 HS X3 HB3
  generalize W3.heap.size = bS at *
  have s0 := XS.out.c0
  have s1 := XS.out.c1
  go_wp2_with fail
  obtain ⟨L, hL⟩ : ∃ L, Ls[0]? = some L := ⟨Ls[0], List.getElem?_eq_getElem _⟩
  have hLd := HS4.out.ok.len L (List.mem_of_getElem? hL)
  refine (rLog_any A 3 c (.slice B' m' c') Ls L d _ HS4.out.t hL hLd hd).mono ?_
  rintro e W5 ⟨rfl, hb⟩
  have XS5 := Lib.hid (XS.out.keep hb)
  have HS5 := Lib.hid (HS4.out.keep hb)
  have X5 := Lib.hid (X4.out.keep hb)
  have HB5 := Lib.hid (below_step HB4.out hb)
  clear hb XS HS4 X4 HB4 s0 s1 hL hLd
  have s0 := XS5.out.c0
  have s1 := XS5.out.c1
  cases d with
  | zero =>
    go_wp2_with fail
    go_ret
    exact ⟨rfl, HB5.out⟩
  | succ K =>
    have hK0 : ¬ (((K + 1 : Nat) : Int) = 0) := by omega
    go_wp2_with fail
    refine (sRound_any A 3 c Ls B' m' c' ts K _ HS5.out.t HS5.out.m HS5.out.ok).mono ?_
    rintro e W6 ⟨g, q, rfl, hq, hR6, hg, hb⟩
    have hd1 := degT_pos ts
    have hd3 := HS5.out.ok.deg3
    have hsum := rnd_sum HS5.out.ok
    have HAT := Lib.hid (at_rnd HS5.out.ok)
    obtain ⟨D, hD⟩ : ∃ D, degT ts = D := ⟨_, rfl⟩
    obtain ⟨R, hRR⟩ : ∃ R, rndE Ls ts (2 ^ (K + 1)) = R := ⟨_, rfl⟩
    have hRl : R.length = D + 1 := by rw [← hRR, rnd_length, hD]
    have HD := Lib.hid hD
    rw [hD] at hq hd1 hd3
    rw [hRR] at hR6 hsum
    subst hq
    have HRR := Lib.hid hRR
    have XS6 := Lib.hid (XS5.out.keep hb)
    have HS6 := Lib.hid (HS5.out.keep hb)
    have X6 := Lib.hid (X5.out.keep hb)
    have HB6 := Lib.hid (below_step HB5.out hb)
    have HR6 := Lib.hid hR6
    have HSUM := Lib.hid hsum
    clear hb XS5 HS5 X5 HB5 s0 s1 hR6 hg hD hRR hsum
    have x0 := X6.out.c0
    have x1 := X6.out.c1
    go_wp2_with fail
    refine (rMade_any r1 r2 _ u1 u2).mono ?_
    rintro e W7 ⟨rfl, hb⟩
    have XS7 := Lib.hid (XS6.out.keep hb)
    have HS7 := Lib.hid (HS6.out.keep hb)
    have HR7 := Lib.hid (HR6.out.keep hb)
    have HB7 := Lib.hid (below_step HB6.out hb)
    clear hb XS6 HS6 X6 HB6 HR6 x0 x1
    go_upto_region 7 with fail
    refine wp_named1 (fun V8 hb g8 hz8 => ?_)
    have XY := Lib.hid (show Two V8 W7.heap.size 43 (.int .u64 (vF (toE r1 r2).A)) (.int .u64 (vF (toE r1 r2).B)) from g8)
    have XS8 := Lib.hid (XS7.out.keep hb)
    have HS8 := Lib.hid (HS7.out.keep hb)
    have HR8 := Lib.hid (HR7.out.keep hb)
    have HB8 := Lib.hid (below_step HB7.out hb)
    clear hb g8 XS7 HS7 HR7 HB7
    generalize W7.heap.size = bY at *
    generalize toE r1 r2 = y at *
    have s0 := XS8.out.c0
    have s1 := XS8.out.c1
    go_wp2_with fail
    refine (sDegree_as (.slice A 3 c) B' m' c' (rawT ts) D _ HS8.out.m ⟨_, _, _, rfl⟩ HD.out).mono ?_
    rintro e W9 ⟨rfl, hb⟩
    have XY9 := Lib.hid (XY.out.keep hb)
    have XS9 := Lib.hid (XS8.out.keep hb)
    have HS9 := Lib.hid (HS8.out.keep hb)
    have HR9 := Lib.hid (HR8.out.keep hb)
    have HB9 := Lib.hid (below_step HB8.out hb)
    clear hb XY XS8 HS8 HR8 HB8 s0 s1
    have hd2 : ¬ ((D : Int) + 1 < 2) := by omega
    go_upto_region 9 with fail
    obtain ⟨u, hu⟩ : ∃ u, R[0]? = some u := ⟨R[0]'(by omega), List.getElem?_eq_getElem _⟩
    obtain ⟨v, hv⟩ : ∃ v, R[1]? = some v := ⟨R[1]'(by omega), List.getElem?_eq_getElem _⟩
    have HT1 := Lib.hid (show totE Ls ts (2 ^ (K + 1)) = u + v by rw [← HSUM.out, cfE_some hu, cfE_some hv])
    have HT2 := Lib.hid (show totE (bndS Ls y) ts (2 ^ K) = atE R y by rw [← HRR.out, HAT.out])
    obtain ⟨z0, z1⟩ := HR9.out.at_ hu
    obtain ⟨z2, z3⟩ := HR9.out.at_ hv
    simp only [Nat.zero_mul, Nat.zero_add, Nat.one_mul] at z0 z1 z2 z3
    have l0 := Later.cell z0
    have l1 := Later.cell z1
    have l2 := Later.cell z2
    have l3 := Later.cell z3
    have l4 := Later.cell XS9.out.c0
    have l5 := Later.cell XS9.out.c1
    have l6 := Later.cell XY9.out.c0
    have l7 := Later.cell XY9.out.c1
    have i0 : (0 : Int) < (D : Int) + 1 := by omega
    have i1 : (1 : Int) < (D : Int) + 1 := by omega
    have i2 : (0 : Int) < (D : Int) := by omega
    have HRl := Lib.hid hRl
    clear z0 z1 z2 z3 hu hv hRl
    refine wp_floatN (by kernel_rfl) (lexOK_of (by kernel_rfl) (by kernel_rfl)) (chainOF_of (by kernel_rfl)) (fun V10 hb hS => ?_)
    have HW := Lib.hid hb
    have HSL := Lib.hid hS
    clear hb hS
    refine wpF_seg 8 (by kernel_rfl) ?_
    simp only [List.take_succ_cons, List.take_zero, List.drop_succ_cons, List.drop_zero]
    repeat (go_big_quiet_step (fail))
    refine wpQuiet_nil ?_
    refine wpF_call 32 Try.func32 (by kernel_rfl) (by kernel_rfl) _ _ #[.agg #[.int .u64 (vF u.A), .int .u64 (vF u.B)], .agg #[.int .u64 (vF v.A), .int .u64 (vF v.B)]] rfl (by kernel_rfl) (by kernel_rfl) HSL.out (fun V11 hV => ?_)
    refine (rAdd_any u v _).mono ?_
    rintro e W11 ⟨rfl, hb⟩
    have hb2 := ext_trans hV hb
    have HW2 := Lib.hid (below_step HW.out hb2)
    have HSL2 := Lib.hid (HSL.out.ext hb2)
    clear HW HSL
    refine ⟨_, rfl, hb, ?_⟩
    clear hb hb2 hV
    simp only [Act.put, List.setIfInBounds_toArray, List.set_cons_zero, List.set_cons_succ]
    refine wpF_seg 1 (by kernel_rfl) ?_
    simp only [List.take_succ_cons, List.take_zero, List.drop_succ_cons, List.drop_zero]
    repeat (go_big_quiet_step (fail))
    refine wpQuiet_nil ?_
    refine wpF_call 21 Try.func21 (by kernel_rfl) (by kernel_rfl) _ _ #[.agg #[.slice A 3 c, .slice B' m' c']] rfl (by kernel_rfl) (by kernel_rfl) HSL2.out (fun V12 hV => ?_)
    have HW3 := Lib.hid (below_step HW2.out hV)
    refine (sTotal_as A 3 c Ls B' m' c' ts (K + 1) (u + v) _ (HS9.out.t.keep HW3.out) (HS9.out.m.keep HW3.out) HS9.out.ok HT1.out).mono ?_
    rintro e W12 ⟨rfl, hb⟩
    have hb2 := ext_trans hV hb
    have HW4 := Lib.hid (below_step HW2.out hb2)
    have HSL4 := Lib.hid (HSL2.out.ext hb2)
    clear HW2 HSL2 HW3
    refine ⟨_, rfl, hb, ?_⟩
    clear hb hb2 hV
    simp only [Act.put, List.setIfInBounds_toArray, List.set_cons_zero, List.set_cons_succ]
    have hq42 := run_eqE_same (u + v)
    refine wpF_seg 5 (by kernel_rfl) ?_
    simp only [List.take_succ_cons, List.take_zero, List.drop_succ_cons, List.drop_zero]
    repeat (go_big_quiet_step (fail))
    refine wpQuiet_nil ?_
    refine wpF_call 33 Try.func33 (by kernel_rfl) (by kernel_rfl) _ _ #[.slice (some ⟨g, 0, none⟩) (D + 1) (D + 1), .agg #[.int .u64 (vF y.A), .int .u64 (vF y.B)]] rfl (by kernel_rfl) (by kernel_rfl) HSL4.out (fun V13 hV => ?_)
    have HW5 := Lib.hid (below_step HW4.out hV)
    refine (rPAt_any (some ⟨g, 0, none⟩) (D + 1) (D + 1) R y _ ((HR9.out.keep HW5.out).sl HRl.out.symm (Nat.le_refl _) (by omega)) (by omega)).mono ?_
    rintro e W13 ⟨rfl, hb⟩
    have hb2 := ext_trans hV hb
    have HW6 := Lib.hid (below_step HW4.out hb2)
    have HSL6 := Lib.hid (HSL4.out.ext hb2)
    clear HW4 HSL4 HW5
    refine ⟨_, rfl, hb, ?_⟩
    clear hb hb2 hV
    simp only [Act.put, List.setIfInBounds_toArray, List.set_cons_zero, List.set_cons_succ]
    refine wpF_seg 2 (by kernel_rfl) ?_
    simp only [List.take_succ_cons, List.take_zero, List.drop_succ_cons, List.drop_zero]
    repeat (go_big_quiet_step (fail))
    refine wpQuiet_nil ?_
    refine wpF_call 25 Try.func25 (by kernel_rfl) (by kernel_rfl) _ _ #[.agg #[.slice A 3 c, .slice B' m' c'], .agg #[.int .u64 (vF y.A), .int .u64 (vF y.B)]] rfl (by kernel_rfl) (by kernel_rfl) HSL6.out (fun V14 hV => ?_)
    have HW7 := Lib.hid (below_step HW6.out hV)
    have hpw := HS9.out.ok.pow
    refine (sBind_any A 3 c Ls B' m' c' (rawT ts) y _ (HS9.out.t.keep HW7.out) (fun L hL => by rw [HS9.out.ok.len L hL]; exact ⟨Nat.two_pow_pos _, hpw⟩) (HS9.out.m.keep HW7.out) HS9.out.ok.raw (by omega) (by omega) (by have := HS9.out.m.len; omega)).mono ?_
    rintro e W14 ⟨A', c1', B'', d', rfl, hT14, hM14, hb⟩
    have hb2 := ext_trans hV hb
    have HW8 := Lib.hid (below_step HW6.out hb2)
    have HSL8 := Lib.hid (HSL6.out.ext hb2)
    have HS14 := Lib.hid (SumIn.mk (K := K) hT14 hM14 (HS9.out.ok.bnd y))
    clear HW6 HSL6 HW7 hpw hT14 hM14
    refine ⟨_, rfl, hb, ?_⟩
    clear hb hb2 hV
    simp only [Act.put, List.setIfInBounds_toArray, List.set_cons_zero, List.set_cons_succ]
    refine wpF_call 21 Try.func21 (by kernel_rfl) (by kernel_rfl) _ _ #[.agg #[.slice A' 3 c1', .slice B'' m' d']] rfl (by kernel_rfl) (by kernel_rfl) HSL8.out (fun V15 hV => ?_)
    refine (sTotal_as A' 3 c1' (bndS Ls y) B'' m' d' ts K (atE R y) _ (HS14.out.t.keep hV) (HS14.out.m.keep hV) HS14.out.ok HT2.out).mono ?_
    rintro e W15 ⟨rfl, hb⟩
    have hb2 := ext_trans hV hb
    have HW9 := Lib.hid (below_step HW8.out hb2)
    have HSL9 := Lib.hid (HSL8.out.ext hb2)
    clear HW8 HSL8
    refine ⟨_, rfl, hb, ?_⟩
    clear hb hb2 hV
    simp only [Act.put, List.setIfInBounds_toArray, List.set_cons_zero, List.set_cons_succ]
    have hq52 := run_eqE_same (atE R y)
    refine wpF_seg 3 (by kernel_rfl) ?_
    simp only [List.take_succ_cons, List.take_zero, List.drop_succ_cons, List.drop_zero]
    repeat (go_big_quiet_step (fail))
    refine wpQuiet_nil ?_
    refine wpF_nil (fun V16 hb => ?_)
    have HBz := Lib.hid (below_step HB9.out (below_step HW9.out hb))
    clear hb
    go_wp2_with fail
    go_ret
    exact ⟨rfl, HBz.out⟩

end Go.Proofs.Ytombcjdhjcmhhaa
