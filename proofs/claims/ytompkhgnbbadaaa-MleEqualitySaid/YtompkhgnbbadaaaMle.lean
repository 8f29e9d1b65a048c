/- The walk of the law MleEquality of package mle: the equality polynomial is symmetric, and what it is at vertices; no conditions. -/
import Derived.Test.YtompkhgnbbadaaaMsn
import Derived.Deep.Cut
namespace Go.Proofs.Ytompkhgnbbadaaa
open Go.RowKit Gold

set_option maxHeartbeats 8000000 in
set_option maxRecDepth 100000 in
theorem mleEquality_any (A0 : Option Addr) (n0 c0 : Nat) (ts : List (Int × Int)) (B0 : Option Addr) (m0 d0 : Nat) (us : List (Int × Int)) (C0 : Option Addr) (k0 e0 : Nat) (vs : List (Int × Int)) (N0 : Int) (i : Int) (j : Int) (w : World) (hT : Sr w A0 n0 c0 ts) (hU : Sr w B0 m0 d0 us) (hV : Sr w C0 k0 e0 vs) (wT : Nums ts) (wU : Nums us) (wV : Nums vs) (hN : 0 ≤ N0 ∧ N0 ≤ 255) (hi : 0 ≤ i ∧ i ≤ 255) (hj : 0 ≤ j ∧ j ≤ 255) :
    Calls Try.prog 8 #[.agg #[.slice A0 n0 c0, .slice B0 m0 d0, .slice C0 k0 e0, .int .u8 N0], .int .u8 i, .int .u8 j] w fun e w' => e = .returned (.bool true) ∧ Below w.heap.size w w' := by
  have HT := Lib.hid hT
  have HU := Lib.hid hU
  have HV := Lib.hid hV
  have WT := Lib.hid wT
  have WU := Lib.hid wU
  have WV := Lib.hid wV
  clear hT hU hV wT wU wV
  go_enter Try.func8, Try.ntmps8
  go_wp2_with fail
  refine calls_named1 (fun V1 hbV g0 hzV => ?_)
  have hq0 : Box4 V1 (w.heap.size) 24 (.slice A0 n0 c0) (.slice B0 m0 d0) (.slice C0 k0 e0) (.int .u8 N0) := g0
  have qT2 := Lib.hid (HT.out.keep hbV)
  clear HT
  have qU2 := Lib.hid (HU.out.keep hbV)
  clear HU
  have qV2 := Lib.hid (HV.out.keep hbV)
  clear HV
  have HB2 := Lib.hid hbV
  have Q3 := Lib.hid hq0
  clear hq0
  clear hbV hzV g0
  refine (sanity5_any _).mono ?_
  rintro e W4 ⟨rfl, hb⟩
  have qT5 := Lib.hid (qT2.out.keep hb)
  clear qT2
  have qU5 := Lib.hid (qU2.out.keep hb)
  clear qU2
  have qV5 := Lib.hid (qV2.out.keep hb)
  clear qV2
  have Q5 := Lib.hid (Q3.out.keep hb)
  clear Q3
  have HB5 := Lib.hid (below_step HB2.out hb)
  clear HB2
  clear hb
  have q0 := Q5.out.c0
  have q1 := Q5.out.c1
  have q2 := Q5.out.c2
  have q3 := Q5.out.c3
  go_wp2_with fail
  clear q0 q1 q2 q3
  refine (made_any A0 n0 c0 ts B0 m0 d0 us C0 k0 e0 vs N0 _ qT5.out qU5.out qV5.out WT.out WU.out WV.out hN).mono ?_
  rintro e W6 ⟨K, g, M, c1, xs, A2, c2, ps, A3, c3, ss, rfl, htr, hb⟩
  have qT7 := Lib.hid (qT5.out.keep hb)
  clear qT5
  have qU7 := Lib.hid (qU5.out.keep hb)
  clear qU5
  have qV7 := Lib.hid (qV5.out.keep hb)
  clear qV5
  have Q7 := Lib.hid (Q5.out.keep hb)
  clear Q5
  have HB7 := Lib.hid (below_step HB5.out hb)
  clear HB5
  clear hb
  have R8 := Lib.hid htr
  clear htr
  clear qT7
  clear qU7
  clear qV7
  clear Q7
  have hk6 := R8.out.k6
  have hm64 := R8.out.m64
  have hm0 := R8.out.m0
  have hc1 := R8.out.cap
  have ht1 := R8.out.top
  have hc2 := R8.out.p.cap
  have ht2 := R8.out.p.top
  have hc3 := R8.out.pts.cap
  have ht3 := R8.out.pts.top
  have HPOW := Lib.hid R8.out.pow
  have HLX := Lib.hid R8.out.len
  have HLP := Lib.hid R8.out.p.len
  have HLS := Lib.hid R8.out.pts.len
  have ht0 := R8.out.t
  have t9 := Lib.hid ht0
  clear ht0
  have hp0 := R8.out.p
  have p10 := Lib.hid hp0
  clear hp0
  have hs0 := R8.out.pts
  have s11 := Lib.hid hs0
  clear hs0
  clear R8
  have hMw : wrap64 (2 ^ K) = (M : Int) := by rw [HPOW.out]; exact wrap_pow2 (by omega)
  have hMi : (0 : Int) < (M : Int) := by omega
  obtain ⟨a, ha⟩ : ∃ a : Nat, i % (M : Int) = (a : Int) := ⟨(i % (M : Int)).toNat, by have := Int.emod_nonneg i (show (M : Int) ≠ 0 by omega); omega⟩
  obtain ⟨b, hb⟩ : ∃ b : Nat, j % (M : Int) = (b : Int) := ⟨(j % (M : Int)).toNat, by have := Int.emod_nonneg j (show (M : Int) ≠ 0 by omega); omega⟩
  have hla : a < M := by have := Int.emod_lt_of_pos i hMi; omega
  have hlb : b < M := by have := Int.emod_lt_of_pos j hMi; omega
  have hM0 : ((M : Int) == 0) = false := by rw [beq_eq_false_iff_ne]; omega
  go_wp2_with fail
  refine wp_later_lex (by kernel_rfl) (lexOK_of (by kernel_rfl) (by kernel_rfl)) ?_
  repeat (go_big_quiet_step (fail))
  refine wpQuiet_nil ?_
  intro X
  have hbX := X.below
  generalize X.at = W0 at *
  simp only [ha, hb]
  have t12 := Lib.hid (t9.out.keep hbX)
  clear t9
  have p12 := Lib.hid (p10.out.keep hbX)
  clear p10
  have s12 := Lib.hid (s11.out.keep hbX)
  clear s11
  have HB12 := Lib.hid (below_step HB7.out hbX)
  clear HB7
  clear hbX hMw ha hb hM0
  have H53 := Lib.hid (mleE_eqT (ps := ps) (ss := ss) (by rw [← HLP.out, ← HLS.out]))
  have H63 := Lib.hid (eqE_vertices K a b (by rw [← HPOW.out]; exact hla) (by rw [← HPOW.out]; exact hlb))
  have H72 := Lib.hid (eqE_vtx' ss a K HLS.out.symm)
  by_cases hab : a = b
  · subst hab
    have H64 := Lib.hid (show eqE (vtx a K) (vtx a K) = E2.one by rw [H63.out, if_pos rfl])
    have hq : True := trivial
    go_wp2_with fail
    refine calls_named1 (fun Va hbV g0 hzV => ?_)
    have hC : Two Va W0.heap.size 27 (.int .u64 0) (.int .u64 0) := g0
    refine (rOne_any Va).mono ?_
    rintro e Vb ⟨rfl, hb⟩
    have hC2 := hC.keep hb
    have z0 := hC2.c0
    have z1 := hC2.c1
    have f0 := hC2.f0
    have f1 := hC2.f1
    go_wp2_with fail
    clear z0 z1 f0 f1
    refine wp_named (fun V => Two V W0.heap.size 27 (.int .u64 (vF E2.one.A)) (.int .u64 (vF E2.one.B)) ∧ Below W0.heap.size W0 V) ⟨(hC2.set0 _).set1 _, ((below_step hbV hb).setCell (Nat.le_refl _) _).setCell (Nat.le_refl _) _⟩ ?_
    rintro V13 ⟨hw, hb5⟩
    clear hC hC2 hbV hb g0 hzV
    have t14 := Lib.hid (t12.out.keep hb5)
    clear t12
    have p14 := Lib.hid (p12.out.keep hb5)
    clear p12
    have s14 := Lib.hid (s12.out.keep hb5)
    clear s12
    have HB14 := Lib.hid (below_step HB12.out hb5)
    clear HB12
    have C15 := Lib.hid hw
    clear hw
    clear hb5 hq
    have lw0 := Later.cell C15.out.c0
    have lw1 := Later.cell C15.out.c1
    clear C15
    try simp only [List.append_eq, List.cons_append, List.nil_append]
    refine wp_floatN (by kernel_rfl) (lexOK_of (by kernel_rfl) (by kernel_rfl)) (chainOF_of (by kernel_rfl)) (fun V16 hb hS => ?_)
    have t17 := Lib.hid (t14.out.keep hb)
    clear t14
    have p17 := Lib.hid (p14.out.keep hb)
    clear p14
    have s17 := Lib.hid (s14.out.keep hb)
    clear s14
    have HB17 := Lib.hid (below_step HB14.out hb)
    clear HB14
    clear hb
    have HS16' := Lib.hid hS
    clear hS
    clear t17
    refine wpF_seg 2 (by kernel_rfl) ?_
    simp only [List.take_succ_cons, List.take_zero, List.drop_succ_cons, List.drop_zero]
    repeat (go_big_quiet_step (fail))
    refine wpQuiet_nil ?_
    refine wpF_call 22 Try.func22 (by kernel_rfl) (by kernel_rfl) _ _ #[.slice A2 K c2, .slice A3 K c3] rfl (by kernel_rfl) (by kernel_rfl) HS16'.out (fun V18 hV => ?_)
    refine (mleEq_any A2 K c2 ps A3 K c3 ss _ (p17.out.keep hV) (s17.out.keep hV) rfl).mono ?_
    rintro e W18 ⟨rfl, hb⟩
    have hb2 := ext_trans hV hb
    have p19 := Lib.hid (p17.out.keep hb2)
    clear p17
    have s19 := Lib.hid (s17.out.keep hb2)
    clear s17
    have HB19 := Lib.hid (below_step HB17.out hb2)
    clear HB17
    have HS19 := Lib.hid (HS16'.out.ext hb2)
    clear HS16'
    refine ⟨_, rfl, hb, ?_⟩
    clear hb hb2 hV
    simp only [Act.put, List.setIfInBounds_toArray, List.set_cons_zero, List.set_cons_succ]
    refine wpF_seg 2 (by kernel_rfl) ?_
    simp only [List.take_succ_cons, List.take_zero, List.drop_succ_cons, List.drop_zero]
    repeat (go_big_quiet_step (fail))
    refine wpQuiet_nil ?_
    refine wpF_call 22 Try.func22 (by kernel_rfl) (by kernel_rfl) _ _ #[.slice A3 K c3, .slice A2 K c2] rfl (by kernel_rfl) (by kernel_rfl) HS19.out (fun V20 hV => ?_)
    refine (mleEq_any A3 K c3 ss A2 K c2 ps _ (s19.out.keep hV) (p19.out.keep hV) rfl).mono ?_
    rw [eqE_comm ss ps]
    rintro e W20 ⟨rfl, hb⟩
    have hb2 := ext_trans hV hb
    have p21 := Lib.hid (p19.out.keep hb2)
    clear p19
    have s21 := Lib.hid (s19.out.keep hb2)
    clear s19
    have HB21 := Lib.hid (below_step HB19.out hb2)
    clear HB19
    have HS21 := Lib.hid (HS19.out.ext hb2)
    clear HS19
    refine ⟨_, rfl, hb, ?_⟩
    clear hb hb2 hV
    simp only [Act.put, List.setIfInBounds_toArray, List.set_cons_zero, List.set_cons_succ]
    have hq45 := run_eqE_same ((eqE ps ss))
    refine wpF_seg 4 (by kernel_rfl) ?_
    simp only [List.take_succ_cons, List.take_zero, List.drop_succ_cons, List.drop_zero]
    repeat (go_big_quiet_step (fail))
    refine wpQuiet_nil ?_
    refine wpF_call 22 Try.func22 (by kernel_rfl) (by kernel_rfl) _ _ #[.slice A2 K c2, .slice A3 K c3] rfl (by kernel_rfl) (by kernel_rfl) HS21.out (fun V22 hV => ?_)
    refine (mleEq_any A2 K c2 ps A3 K c3 ss _ (p21.out.keep hV) (s21.out.keep hV) rfl).mono ?_
    rintro e W22 ⟨rfl, hb⟩
    have hb2 := ext_trans hV hb
    have p23 := Lib.hid (p21.out.keep hb2)
    clear p21
    have s23 := Lib.hid (s21.out.keep hb2)
    clear s21
    have HB23 := Lib.hid (below_step HB21.out hb2)
    clear HB21
    have HS23 := Lib.hid (HS21.out.ext hb2)
    clear HS21
    refine ⟨_, rfl, hb, ?_⟩
    clear hb hb2 hV
    simp only [Act.put, List.setIfInBounds_toArray, List.set_cons_zero, List.set_cons_succ]
    refine wpF_seg 1 (by kernel_rfl) ?_
    simp only [List.take_succ_cons, List.take_zero, List.drop_succ_cons, List.drop_zero]
    repeat (go_big_quiet_step (fail))
    refine wpQuiet_nil ?_
    refine wpF_call 26 Try.func26 (by kernel_rfl) (by kernel_rfl) _ _ #[.slice A2 K c2] rfl (by kernel_rfl) (by kernel_rfl) HS23.out (fun V24 hV => ?_)
    refine (mleEqTable_sl A2 K c2 ps M _ (p23.out.keep hV) (by omega) HPOW.out.symm).mono ?_
    rintro e W24 ⟨A4, c4, rfl, hs, hb⟩
    have hb2 := ext_trans hV hb
    have p25 := Lib.hid (p23.out.keep hb2)
    clear p23
    have s25 := Lib.hid (s23.out.keep hb2)
    clear s23
    have HB25 := Lib.hid (below_step HB23.out hb2)
    clear HB23
    have HS25 := Lib.hid (HS23.out.ext hb2)
    clear HS23
    have L4_26 := Lib.hid hs
    clear hs
    refine ⟨_, rfl, hb, ?_⟩
    clear hb hb2 hV
    simp only [Act.put, List.setIfInBounds_toArray, List.set_cons_zero, List.set_cons_succ]
    refine wpF_seg 1 (by kernel_rfl) ?_
    simp only [List.take_succ_cons, List.take_zero, List.drop_succ_cons, List.drop_zero]
    repeat (go_big_quiet_step (fail))
    refine wpQuiet_nil ?_
    refine wpF_call 20 Try.func20 (by kernel_rfl) (by kernel_rfl) _ _ #[.slice A4 M c4, .slice A3 K c3] rfl (by kernel_rfl) (by kernel_rfl) HS25.out (fun V27 hV => ?_)
    refine (mleEval_any A4 M c4 (eqT ps) A3 K c3 ss _ (L4_26.out.keep hV) (s25.out.keep hV) HPOW.out (by omega)).mono ?_
    rw [H53.out]
    rintro e W27 ⟨rfl, hb⟩
    have hb2 := ext_trans hV hb
    have p28 := Lib.hid (p25.out.keep hb2)
    clear p25
    have s28 := Lib.hid (s25.out.keep hb2)
    clear s25
    have L4_28 := Lib.hid (L4_26.out.keep hb2)
    clear L4_26
    have HB28 := Lib.hid (below_step HB25.out hb2)
    clear HB25
    have HS28 := Lib.hid (HS25.out.ext hb2)
    clear HS25
    refine ⟨_, rfl, hb, ?_⟩
    clear hb hb2 hV
    simp only [Act.put, List.setIfInBounds_toArray, List.set_cons_zero, List.set_cons_succ]
    clear L4_28
    have hq54 := run_eqE_same ((eqE ps ss))
    refine wpF_seg 5 (by kernel_rfl) ?_
    simp only [List.take_succ_cons, List.take_zero, List.drop_succ_cons, List.drop_zero]
    repeat (go_big_quiet_step (fail))
    refine wpQuiet_nil ?_
    refine wpF_call 34 Try.func34 (by kernel_rfl) (by kernel_rfl) _ _ #[.int .i64 ((a : Int)), .int .i64 ((K : Int))] rfl (by kernel_rfl) (by kernel_rfl) HS28.out (fun V29 hV => ?_)
    refine (rVertex_at ((a : Int)) a K _ rfl (by omega) (by omega)).mono ?_
    rintro e W29 ⟨A6, c6, rfl, hs, hb⟩
    have hb2 := ext_trans hV hb
    have p30 := Lib.hid (p28.out.keep hb2)
    clear p28
    have s30 := Lib.hid (s28.out.keep hb2)
    clear s28
    have HB30 := Lib.hid (below_step HB28.out hb2)
    clear HB28
    have HS30 := Lib.hid (HS28.out.ext hb2)
    clear HS28
    have L6_31 := Lib.hid hs
    clear hs
    refine ⟨_, rfl, hb, ?_⟩
    clear hb hb2 hV
    simp only [Act.put, List.setIfInBounds_toArray, List.set_cons_zero, List.set_cons_succ]
    refine wpF_seg 2 (by kernel_rfl) ?_
    simp only [List.take_succ_cons, List.take_zero, List.drop_succ_cons, List.drop_zero]
    repeat (go_big_quiet_step (fail))
    refine wpQuiet_nil ?_
    refine wpF_call 34 Try.func34 (by kernel_rfl) (by kernel_rfl) _ _ #[.int .i64 ((a : Int)), .int .i64 ((K : Int))] rfl (by kernel_rfl) (by kernel_rfl) HS30.out (fun V32 hV => ?_)
    refine (rVertex_at ((a : Int)) a K _ rfl (by omega) (by omega)).mono ?_
    rintro e W32 ⟨A7, c7, rfl, hs, hb⟩
    have hb2 := ext_trans hV hb
    have p33 := Lib.hid (p30.out.keep hb2)
    clear p30
    have s33 := Lib.hid (s30.out.keep hb2)
    clear s30
    have L6_33 := Lib.hid (L6_31.out.keep hb2)
    clear L6_31
    have HB33 := Lib.hid (below_step HB30.out hb2)
    clear HB30
    have HS33 := Lib.hid (HS30.out.ext hb2)
    clear HS30
    have L7_34 := Lib.hid hs
    clear hs
    refine ⟨_, rfl, hb, ?_⟩
    clear hb hb2 hV
    simp only [Act.put, List.setIfInBounds_toArray, List.set_cons_zero, List.set_cons_succ]
    refine wpF_call 22 Try.func22 (by kernel_rfl) (by kernel_rfl) _ _ #[.slice A6 K c6, .slice A7 K c7] rfl (by kernel_rfl) (by kernel_rfl) HS33.out (fun V35 hV => ?_)
    refine (mleEq_any A6 K c6 (vtx a K) A7 K c7 (vtx a K) _ (L6_33.out.keep hV) (L7_34.out.keep hV) rfl).mono ?_
    rw [H64.out]
    rintro e W35 ⟨rfl, hb⟩
    have hb2 := ext_trans hV hb
    have p36 := Lib.hid (p33.out.keep hb2)
    clear p33
    have s36 := Lib.hid (s33.out.keep hb2)
    clear s33
    have L6_36 := Lib.hid (L6_33.out.keep hb2)
    clear L6_33
    have L7_36 := Lib.hid (L7_34.out.keep hb2)
    clear L7_34
    have HB36 := Lib.hid (below_step HB33.out hb2)
    clear HB33
    have HS36 := Lib.hid (HS33.out.ext hb2)
    clear HS33
    refine ⟨_, rfl, hb, ?_⟩
    clear hb hb2 hV
    simp only [Act.put, List.setIfInBounds_toArray, List.set_cons_zero, List.set_cons_succ]
    clear L6_36
    clear L7_36
    have hq65 := run_eqE_same (E2.one)
    refine wpF_seg 6 (by kernel_rfl) ?_
    simp only [List.take_succ_cons, List.take_zero, List.drop_succ_cons, List.drop_zero]
    repeat (go_big_quiet_step (fail))
    refine wpQuiet_nil ?_
    refine wpF_call 34 Try.func34 (by kernel_rfl) (by kernel_rfl) _ _ #[.int .i64 ((a : Int)), .int .i64 ((K : Int))] rfl (by kernel_rfl) (by kernel_rfl) HS36.out (fun V37 hV => ?_)
    refine (rVertex_at ((a : Int)) a K _ rfl (by omega) (by omega)).mono ?_
    rintro e W37 ⟨A9, c9, rfl, hs, hb⟩
    have hb2 := ext_trans hV hb
    have p38 := Lib.hid (p36.out.keep hb2)
    clear p36
    have s38 := Lib.hid (s36.out.keep hb2)
    clear s36
    have HB38 := Lib.hid (below_step HB36.out hb2)
    clear HB36
    have HS38 := Lib.hid (HS36.out.ext hb2)
    clear HS36
    have L9_39 := Lib.hid hs
    clear hs
    refine ⟨_, rfl, hb, ?_⟩
    clear hb hb2 hV
    simp only [Act.put, List.setIfInBounds_toArray, List.set_cons_zero, List.set_cons_succ]
    refine wpF_seg 1 (by kernel_rfl) ?_
    simp only [List.take_succ_cons, List.take_zero, List.drop_succ_cons, List.drop_zero]
    repeat (go_big_quiet_step (fail))
    refine wpQuiet_nil ?_
    refine wpF_call 22 Try.func22 (by kernel_rfl) (by kernel_rfl) _ _ #[.slice A9 K c9, .slice A3 K c3] rfl (by kernel_rfl) (by kernel_rfl) HS38.out (fun V40 hV => ?_)
    refine (mleEq_any A9 K c9 (vtx a K) A3 K c3 ss _ (L9_39.out.keep hV) (s38.out.keep hV) rfl).mono ?_
    rw [H72.out]
    rintro e W40 ⟨rfl, hb⟩
    have hb2 := ext_trans hV hb
    have p41 := Lib.hid (p38.out.keep hb2)
    clear p38
    have s41 := Lib.hid (s38.out.keep hb2)
    clear s38
    have L9_41 := Lib.hid (L9_39.out.keep hb2)
    clear L9_39
    have HB41 := Lib.hid (below_step HB38.out hb2)
    clear HB38
    have HS41 := Lib.hid (HS38.out.ext hb2)
    clear HS38
    refine ⟨_, rfl, hb, ?_⟩
    clear hb hb2 hV
    simp only [Act.put, List.setIfInBounds_toArray, List.set_cons_zero, List.set_cons_succ]
    clear L9_41
    refine wpF_seg 2 (by kernel_rfl) ?_
    simp only [List.take_succ_cons, List.take_zero, List.drop_succ_cons, List.drop_zero]
    repeat (go_big_quiet_step (fail))
    refine wpQuiet_nil ?_
    refine wpF_call 24 Try.func24 (by kernel_rfl) (by kernel_rfl) _ _ #[.int .i64 ((a : Int)), .slice A3 K c3] rfl (by kernel_rfl) (by kernel_rfl) HS41.out (fun V42 hV => ?_)
    refine (mleEqIndex_at ((a : Int)) a A3 K c3 ss _ (s41.out.keep hV) rfl (by omega) (by omega)).mono ?_
    rintro e W42 ⟨rfl, hb⟩
    have hb2 := ext_trans hV hb
    have p43 := Lib.hid (p41.out.keep hb2)
    clear p41
    have s43 := Lib.hid (s41.out.keep hb2)
    clear s41
    have HB43 := Lib.hid (below_step HB41.out hb2)
    clear HB41
    have HS43 := Lib.hid (HS41.out.ext hb2)
    clear HS41
    refine ⟨_, rfl, hb, ?_⟩
    clear hb hb2 hV
    simp only [Act.put, List.setIfInBounds_toArray, List.set_cons_zero, List.set_cons_succ]
    have hq76 := run_eqE_same ((eqW a ss))
    refine wpF_seg 6 (by kernel_rfl) ?_
    simp only [List.take_succ_cons, List.take_zero, List.drop_succ_cons, List.drop_zero]
    repeat (go_big_quiet_step (fail))
    refine wpQuiet_nil ?_
    refine wpF_nil (fun V44 hb => ?_)
    have p45 := Lib.hid (p43.out.keep hb)
    clear p43
    have s45 := Lib.hid (s43.out.keep hb)
    clear s43
    have HB45 := Lib.hid (below_step HB43.out hb)
    clear HB43
    clear hb
    go_wp2_with fail
    go_ret
    exact ⟨rfl, HB45.out⟩
  · have H64 := Lib.hid (show eqE (vtx a K) (vtx b K) = E2.zero by rw [H63.out, if_neg hab])
    have hq : ((a : Int) == (b : Int)) = false := by rw [beq_eq_false_iff_ne]; omega
    go_wp2_with fail
    refine wp_named1 (fun V46 hb5 g0 hzV => ?_)
    have hw : Two V46 W0.heap.size 27 (.int .u64 (vF E2.zero.A)) (.int .u64 (vF E2.zero.B)) := g0
    clear g0 hzV
    have t47 := Lib.hid (t12.out.keep hb5)
    clear t12
    have p47 := Lib.hid (p12.out.keep hb5)
    clear p12
    have s47 := Lib.hid (s12.out.keep hb5)
    clear s12
    have HB47 := Lib.hid (below_step HB12.out hb5)
    clear HB12
    have C48 := Lib.hid hw
    clear hw
    clear hb5 hq
    have lw0 := Later.cell C48.out.c0
    have lw1 := Later.cell C48.out.c1
    clear C48
    try simp only [List.append_eq, List.cons_append, List.nil_append]
    refine wp_floatN (by kernel_rfl) (lexOK_of (by kernel_rfl) (by kernel_rfl)) (chainOF_of (by kernel_rfl)) (fun V49 hb hS => ?_)
    have t50 := Lib.hid (t47.out.keep hb)
    clear t47
    have p50 := Lib.hid (p47.out.keep hb)
    clear p47
    have s50 := Lib.hid (s47.out.keep hb)
    clear s47
    have HB50 := Lib.hid (below_step HB47.out hb)
    clear HB47
    clear hb
    have HS49' := Lib.hid hS
    clear hS
    clear t50
    refine wpF_seg 2 (by kernel_rfl) ?_
    simp only [List.take_succ_cons, List.take_zero, List.drop_succ_cons, List.drop_zero]
    repeat (go_big_quiet_step (fail))
    refine wpQuiet_nil ?_
    refine wpF_call 22 Try.func22 (by kernel_rfl) (by kernel_rfl) _ _ #[.slice A2 K c2, .slice A3 K c3] rfl (by kernel_rfl) (by kernel_rfl) HS49'.out (fun V51 hV => ?_)
    refine (mleEq_any A2 K c2 ps A3 K c3 ss _ (p50.out.keep hV) (s50.out.keep hV) rfl).mono ?_
    rintro e W51 ⟨rfl, hb⟩
    have hb2 := ext_trans hV hb
    have p52 := Lib.hid (p50.out.keep hb2)
    clear p50
    have s52 := Lib.hid (s50.out.keep hb2)
    clear s50
    have HB52 := Lib.hid (below_step HB50.out hb2)
    clear HB50
    have HS52 := Lib.hid (HS49'.out.ext hb2)
    clear HS49'
    refine ⟨_, rfl, hb, ?_⟩
    clear hb hb2 hV
    simp only [Act.put, List.setIfInBounds_toArray, List.set_cons_zero, List.set_cons_succ]
    refine wpF_seg 2 (by kernel_rfl) ?_
    simp only [List.take_succ_cons, List.take_zero, List.drop_succ_cons, List.drop_zero]
    repeat (go_big_quiet_step (fail))
    refine wpQuiet_nil ?_
    refine wpF_call 22 Try.func22 (by kernel_rfl) (by kernel_rfl) _ _ #[.slice A3 K c3, .slice A2 K c2] rfl (by kernel_rfl) (by kernel_rfl) HS52.out (fun V53 hV => ?_)
    refine (mleEq_any A3 K c3 ss A2 K c2 ps _ (s52.out.keep hV) (p52.out.keep hV) rfl).mono ?_
    rw [eqE_comm ss ps]
    rintro e W53 ⟨rfl, hb⟩
    have hb2 := ext_trans hV hb
    have p54 := Lib.hid (p52.out.keep hb2)
    clear p52
    have s54 := Lib.hid (s52.out.keep hb2)
    clear s52
    have HB54 := Lib.hid (below_step HB52.out hb2)
    clear HB52
    have HS54 := Lib.hid (HS52.out.ext hb2)
    clear HS52
    refine ⟨_, rfl, hb, ?_⟩
    clear hb hb2 hV
    simp only [Act.put, List.setIfInBounds_toArray, List.set_cons_zero, List.set_cons_succ]
    have hq45 := run_eqE_same ((eqE ps ss))
    refine wpF_seg 4 (by kernel_rfl) ?_
    simp only [List.take_succ_cons, List.take_zero, List.drop_succ_cons, List.drop_zero]
    repeat (go_big_quiet_step (fail))
    refine wpQuiet_nil ?_
    refine wpF_call 22 Try.func22 (by kernel_rfl) (by kernel_rfl) _ _ #[.slice A2 K c2, .slice A3 K c3] rfl (by kernel_rfl) (by kernel_rfl) HS54.out (fun V55 hV => ?_)
    refine (mleEq_any A2 K c2 ps A3 K c3 ss _ (p54.out.keep hV) (s54.out.keep hV) rfl).mono ?_
    rintro e W55 ⟨rfl, hb⟩
    have hb2 := ext_trans hV hb
    have p56 := Lib.hid (p54.out.keep hb2)
    clear p54
    have s56 := Lib.hid (s54.out.keep hb2)
    clear s54
    have HB56 := Lib.hid (below_step HB54.out hb2)
    clear HB54
    have HS56 := Lib.hid (HS54.out.ext hb2)
    clear HS54
    refine ⟨_, rfl, hb, ?_⟩
    clear hb hb2 hV
    simp only [Act.put, List.setIfInBounds_toArray, List.set_cons_zero, List.set_cons_succ]
    refine wpF_seg 1 (by kernel_rfl) ?_
    simp only [List.take_succ_cons, List.take_zero, List.drop_succ_cons, List.drop_zero]
    repeat (go_big_quiet_step (fail))
    refine wpQuiet_nil ?_
    refine wpF_call 26 Try.func26 (by kernel_rfl) (by kernel_rfl) _ _ #[.slice A2 K c2] rfl (by kernel_rfl) (by kernel_rfl) HS56.out (fun V57 hV => ?_)
    refine (mleEqTable_sl A2 K c2 ps M _ (p56.out.keep hV) (by omega) HPOW.out.symm).mono ?_
    rintro e W57 ⟨A15, c15, rfl, hs, hb⟩
    have hb2 := ext_trans hV hb
    have p58 := Lib.hid (p56.out.keep hb2)
    clear p56
    have s58 := Lib.hid (s56.out.keep hb2)
    clear s56
    have HB58 := Lib.hid (below_step HB56.out hb2)
    clear HB56
    have HS58 := Lib.hid (HS56.out.ext hb2)
    clear HS56
    have L15_59 := Lib.hid hs
    clear hs
    refine ⟨_, rfl, hb, ?_⟩
    clear hb hb2 hV
    simp only [Act.put, List.setIfInBounds_toArray, List.set_cons_zero, List.set_cons_succ]
    refine wpF_seg 1 (by kernel_rfl) ?_
    simp only [List.take_succ_cons, List.take_zero, List.drop_succ_cons, List.drop_zero]
    repeat (go_big_quiet_step (fail))
    refine wpQuiet_nil ?_
    refine wpF_call 20 Try.func20 (by kernel_rfl) (by kernel_rfl) _ _ #[.slice A15 M c15, .slice A3 K c3] rfl (by kernel_rfl) (by kernel_rfl) HS58.out (fun V60 hV => ?_)
    refine (mleEval_any A15 M c15 (eqT ps) A3 K c3 ss _ (L15_59.out.keep hV) (s58.out.keep hV) HPOW.out (by omega)).mono ?_
    rw [H53.out]
    rintro e W60 ⟨rfl, hb⟩
    have hb2 := ext_trans hV hb
    have p61 := Lib.hid (p58.out.keep hb2)
    clear p58
    have s61 := Lib.hid (s58.out.keep hb2)
    clear s58
    have L15_61 := Lib.hid (L15_59.out.keep hb2)
    clear L15_59
    have HB61 := Lib.hid (below_step HB58.out hb2)
    clear HB58
    have HS61 := Lib.hid (HS58.out.ext hb2)
    clear HS58
    refine ⟨_, rfl, hb, ?_⟩
    clear hb hb2 hV
    simp only [Act.put, List.setIfInBounds_toArray, List.set_cons_zero, List.set_cons_succ]
    clear L15_61
    have hq54 := run_eqE_same ((eqE ps ss))
    refine wpF_seg 5 (by kernel_rfl) ?_
    simp only [List.take_succ_cons, List.take_zero, List.drop_succ_cons, List.drop_zero]
    repeat (go_big_quiet_step (fail))
    refine wpQuiet_nil ?_
    refine wpF_call 34 Try.func34 (by kernel_rfl) (by kernel_rfl) _ _ #[.int .i64 ((a : Int)), .int .i64 ((K : Int))] rfl (by kernel_rfl) (by kernel_rfl) HS61.out (fun V62 hV => ?_)
    refine (rVertex_at ((a : Int)) a K _ rfl (by omega) (by omega)).mono ?_
    rintro e W62 ⟨A17, c17, rfl, hs, hb⟩
    have hb2 := ext_trans hV hb
    have p63 := Lib.hid (p61.out.keep hb2)
    clear p61
    have s63 := Lib.hid (s61.out.keep hb2)
    clear s61
    have HB63 := Lib.hid (below_step HB61.out hb2)
    clear HB61
    have HS63 := Lib.hid (HS61.out.ext hb2)
    clear HS61
    have L17_64 := Lib.hid hs
    clear hs
    refine ⟨_, rfl, hb, ?_⟩
    clear hb hb2 hV
    simp only [Act.put, List.setIfInBounds_toArray, List.set_cons_zero, List.set_cons_succ]
    refine wpF_seg 2 (by kernel_rfl) ?_
    simp only [List.take_succ_cons, List.take_zero, List.drop_succ_cons, List.drop_zero]
    repeat (go_big_quiet_step (fail))
    refine wpQuiet_nil ?_
    refine wpF_call 34 Try.func34 (by kernel_rfl) (by kernel_rfl) _ _ #[.int .i64 ((b : Int)), .int .i64 ((K : Int))] rfl (by kernel_rfl) (by kernel_rfl) HS63.out (fun V65 hV => ?_)
    refine (rVertex_at ((b : Int)) b K _ rfl (by omega) (by omega)).mono ?_
    rintro e W65 ⟨A18, c18, rfl, hs, hb⟩
    have hb2 := ext_trans hV hb
    have p66 := Lib.hid (p63.out.keep hb2)
    clear p63
    have s66 := Lib.hid (s63.out.keep hb2)
    clear s63
    have L17_66 := Lib.hid (L17_64.out.keep hb2)
    clear L17_64
    have HB66 := Lib.hid (below_step HB63.out hb2)
    clear HB63
    have HS66 := Lib.hid (HS63.out.ext hb2)
    clear HS63
    have L18_67 := Lib.hid hs
    clear hs
    refine ⟨_, rfl, hb, ?_⟩
    clear hb hb2 hV
    simp only [Act.put, List.setIfInBounds_toArray, List.set_cons_zero, List.set_cons_succ]
    refine wpF_call 22 Try.func22 (by kernel_rfl) (by kernel_rfl) _ _ #[.slice A17 K c17, .slice A18 K c18] rfl (by kernel_rfl) (by kernel_rfl) HS66.out (fun V68 hV => ?_)
    refine (mleEq_any A17 K c17 (vtx a K) A18 K c18 (vtx b K) _ (L17_66.out.keep hV) (L18_67.out.keep hV) rfl).mono ?_
    rw [H64.out]
    rintro e W68 ⟨rfl, hb⟩
    have hb2 := ext_trans hV hb
    have p69 := Lib.hid (p66.out.keep hb2)
    clear p66
    have s69 := Lib.hid (s66.out.keep hb2)
    clear s66
    have L17_69 := Lib.hid (L17_66.out.keep hb2)
    clear L17_66
    have L18_69 := Lib.hid (L18_67.out.keep hb2)
    clear L18_67
    have HB69 := Lib.hid (below_step HB66.out hb2)
    clear HB66
    have HS69 := Lib.hid (HS66.out.ext hb2)
    clear HS66
    refine ⟨_, rfl, hb, ?_⟩
    clear hb hb2 hV
    simp only [Act.put, List.setIfInBounds_toArray, List.set_cons_zero, List.set_cons_succ]
    clear L17_69
    clear L18_69
    have hq65 := run_eqE_same (E2.zero)
    refine wpF_seg 6 (by kernel_rfl) ?_
    simp only [List.take_succ_cons, List.take_zero, List.drop_succ_cons, List.drop_zero]
    repeat (go_big_quiet_step (fail))
    refine wpQuiet_nil ?_
    refine wpF_call 34 Try.func34 (by kernel_rfl) (by kernel_rfl) _ _ #[.int .i64 ((a : Int)), .int .i64 ((K : Int))] rfl (by kernel_rfl) (by kernel_rfl) HS69.out (fun V70 hV => ?_)
    refine (rVertex_at ((a : Int)) a K _ rfl (by omega) (by omega)).mono ?_
    rintro e W70 ⟨A20, c20, rfl, hs, hb⟩
    have hb2 := ext_trans hV hb
    have p71 := Lib.hid (p69.out.keep hb2)
    clear p69
    have s71 := Lib.hid (s69.out.keep hb2)
    clear s69
    have HB71 := Lib.hid (below_step HB69.out hb2)
    clear HB69
    have HS71 := Lib.hid (HS69.out.ext hb2)
    clear HS69
    have L20_72 := Lib.hid hs
    clear hs
    refine ⟨_, rfl, hb, ?_⟩
    clear hb hb2 hV
    simp only [Act.put, List.setIfInBounds_toArray, List.set_cons_zero, List.set_cons_succ]
    refine wpF_seg 1 (by kernel_rfl) ?_
    simp only [List.take_succ_cons, List.take_zero, List.drop_succ_cons, List.drop_zero]
    repeat (go_big_quiet_step (fail))
    refine wpQuiet_nil ?_
    refine wpF_call 22 Try.func22 (by kernel_rfl) (by kernel_rfl) _ _ #[.slice A20 K c20, .slice A3 K c3] rfl (by kernel_rfl) (by kernel_rfl) HS71.out (fun V73 hV => ?_)
    refine (mleEq_any A20 K c20 (vtx a K) A3 K c3 ss _ (L20_72.out.keep hV) (s71.out.keep hV) rfl).mono ?_
    rw [H72.out]
    rintro e W73 ⟨rfl, hb⟩
    have hb2 := ext_trans hV hb
    have p74 := Lib.hid (p71.out.keep hb2)
    clear p71
    have s74 := Lib.hid (s71.out.keep hb2)
    clear s71
    have L20_74 := Lib.hid (L20_72.out.keep hb2)
    clear L20_72
    have HB74 := Lib.hid (below_step HB71.out hb2)
    clear HB71
    have HS74 := Lib.hid (HS71.out.ext hb2)
    clear HS71
    refine ⟨_, rfl, hb, ?_⟩
    clear hb hb2 hV
    simp only [Act.put, List.setIfInBounds_toArray, List.set_cons_zero, List.set_cons_succ]
    clear L20_74
    refine wpF_seg 2 (by kernel_rfl) ?_
    simp only [List.take_succ_cons, List.take_zero, List.drop_succ_cons, List.drop_zero]
    repeat (go_big_quiet_step (fail))
    refine wpQuiet_nil ?_
    refine wpF_call 24 Try.func24 (by kernel_rfl) (by kernel_rfl) _ _ #[.int .i64 ((a : Int)), .slice A3 K c3] rfl (by kernel_rfl) (by kernel_rfl) HS74.out (fun V75 hV => ?_)
    refine (mleEqIndex_at ((a : Int)) a A3 K c3 ss _ (s74.out.keep hV) rfl (by omega) (by omega)).mono ?_
    rintro e W75 ⟨rfl, hb⟩
    have hb2 := ext_trans hV hb
    have p76 := Lib.hid (p74.out.keep hb2)
    clear p74
    have s76 := Lib.hid (s74.out.keep hb2)
    clear s74
    have HB76 := Lib.hid (below_step HB74.out hb2)
    clear HB74
    have HS76 := Lib.hid (HS74.out.ext hb2)
    clear HS74
    refine ⟨_, rfl, hb, ?_⟩
    clear hb hb2 hV
    simp only [Act.put, List.setIfInBounds_toArray, List.set_cons_zero, List.set_cons_succ]
    have hq76 := run_eqE_same ((eqW a ss))
    refine wpF_seg 6 (by kernel_rfl) ?_
    simp only [List.take_succ_cons, List.take_zero, List.drop_succ_cons, List.drop_zero]
    repeat (go_big_quiet_step (fail))
    refine wpQuiet_nil ?_
    refine wpF_nil (fun V77 hb => ?_)
    have p78 := Lib.hid (p76.out.keep hb)
    clear p76
    have s78 := Lib.hid (s76.out.keep hb)
    clear s76
    have HB78 := Lib.hid (below_step HB76.out hb)
    clear HB76
    clear hb
    go_wp2_with fail
    go_ret
    exact ⟨rfl, HB78.out⟩

end Go.Proofs.Ytompkhgnbbadaaa
