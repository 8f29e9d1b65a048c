/- The walk of the law MleWeights of package mle: the weights add up to one, and they give the value; no conditions. -/
import Derived.Test.YtompkhgnbbadaaaMsn
import Derived.Deep.Cut
namespace Go.Proofs.Ytompkhgnbbadaaa
open Go.RowKit Gold

theorem run_neqE_x (x : E2) (w : World) : (binOp .neq 27 (.agg #[.int .u64 (vF x.A), .int .u64 (vF x.B)]) (.agg #[.int .u64 (vF x.A), .int .u64 (vF x.B)])).run Try.prog w = .ok (.bool false) w := by
  simp [go_sem, Try.underlying27]
set_option maxHeartbeats 8000000 in
set_option maxRecDepth 100000 in
theorem mleWeights_any (A0 : Option Addr) (n0 c0 : Nat) (ts : List (Int × Int)) (B0 : Option Addr) (m0 d0 : Nat) (us : List (Int × Int)) (C0 : Option Addr) (k0 e0 : Nat) (vs : List (Int × Int)) (N0 : Int) (w : World) (hT : Sr w A0 n0 c0 ts) (hU : Sr w B0 m0 d0 us) (hV : Sr w C0 k0 e0 vs) (wT : Nums ts) (wU : Nums us) (wV : Nums vs) (hN : 0 ≤ N0 ∧ N0 ≤ 255) :
    Calls Try.prog 7 #[.agg #[.slice A0 n0 c0, .slice B0 m0 d0, .slice C0 k0 e0, .int .u8 N0]] w fun e w' => e = .returned (.bool true) ∧ Below w.heap.size w w' := by
  have HT := Lib.hid hT
  have HU := Lib.hid hU
  have HV := Lib.hid hV
  have WT := Lib.hid wT
  have WU := Lib.hid wU
  have WV := Lib.hid wV
  clear hT hU hV wT wU wV
  go_enter Try.func7, Try.ntmps7
  go_wp2_with fail
  refine calls_named1 (fun V1 hbV g0 hzV => ?_)
  have hq0 : Box4 V1 (w.heap.size) 24 (.slice A0 n0 c0) (.slice B0 m0 d0) (.slice C0 k0 e0) (.int .u8 N0) := g0
  have qT2 := Lib.hid (HT.out.keep hbV)
  clear HT
  have qU2 := Lib.hid (HU.out.keep hbV)
  clear HU
  have qV2 := Lib.hid (HV.out.keep hbV)
  clear HV
  have HB2 := Lib.hid hbV
  have Q3 := Lib.hid hq0
  clear hq0
  clear hbV hzV g0
  refine (sanity5_any _).mono ?_
  rintro e W4 ⟨rfl, hb⟩
  have qT5 := Lib.hid (qT2.out.keep hb)
  clear qT2
  have qU5 := Lib.hid (qU2.out.keep hb)
  clear qU2
  have qV5 := Lib.hid (qV2.out.keep hb)
  clear qV2
  have Q5 := Lib.hid (Q3.out.keep hb)
  clear Q3
  have HB5 := Lib.hid (below_step HB2.out hb)
  clear HB2
  clear hb
  have q0 := Q5.out.c0
  have q1 := Q5.out.c1
  have q2 := Q5.out.c2
  have q3 := Q5.out.c3
  go_wp2_with fail
  clear q0 q1 q2 q3
  refine (made_any A0 n0 c0 ts B0 m0 d0 us C0 k0 e0 vs N0 _ qT5.out qU5.out qV5.out WT.out WU.out WV.out hN).mono ?_
  rintro e W6 ⟨K, g, M, c1, xs, A2, c2, ps, A3, c3, ss, rfl, htr, hb⟩
  have qT7 := Lib.hid (qT5.out.keep hb)
  clear qT5
  have qU7 := Lib.hid (qU5.out.keep hb)
  clear qU5
  have qV7 := Lib.hid (qV5.out.keep hb)
  clear qV5
  have Q7 := Lib.hid (Q5.out.keep hb)
  clear Q5
  have HB7 := Lib.hid (below_step HB5.out hb)
  clear HB5
  clear hb
  have R8 := Lib.hid htr
  clear htr
  clear qT7
  clear qU7
  clear qV7
  clear Q7
  have hk6 := R8.out.k6
  have hm64 := R8.out.m64
  have hm0 := R8.out.m0
  have hc1 := R8.out.cap
  have ht1 := R8.out.top
  have hc2 := R8.out.p.cap
  have ht2 := R8.out.p.top
  have hc3 := R8.out.pts.cap
  have ht3 := R8.out.pts.top
  have HPOW := Lib.hid R8.out.pow
  have HLX := Lib.hid R8.out.len
  have HLP := Lib.hid R8.out.p.len
  have HLS := Lib.hid R8.out.pts.len
  have ht0 := R8.out.t
  have t9 := Lib.hid ht0
  clear ht0
  have hp0 := R8.out.p
  have p10 := Lib.hid hp0
  clear hp0
  have hs0 := R8.out.pts
  have s11 := Lib.hid hs0
  clear hs0
  clear R8
  clear s11
  have HTOT := Lib.hid (show sumE M (fun i => eqW i ps) = E2.one by rw [HPOW.out, HLP.out]; exact eqW_total ps)
  have HVAL := Lib.hid (show sumE M (fun i => eqW i ps * cfE xs i) = mleE xs ps by rw [HPOW.out, HLP.out]; exact mleF_sum' ps _)
  go_wp2_with fail
  refine (mleEqTable_sl A2 K c2 ps M _ p10.out (by omega) HPOW.out.symm).mono ?_
  rintro e W12 ⟨A4, c4, rfl, hs, hb⟩
  have t13 := Lib.hid (t9.out.keep hb)
  clear t9
  have p13 := Lib.hid (p10.out.keep hb)
  clear p10
  have HB13 := Lib.hid (below_step HB7.out hb)
  clear HB7
  clear hb
  have v14 := Lib.hid hs
  clear hs
  have hc4 := v14.out.cap
  have ht4 := v14.out.top
  go_wp2_with fail
  refine wp_named2 (fun V15 hbV g0 g1 hzV => ?_)
  have h8 : Two V15 W12.heap.size 27 (.int .u64 (vF E2.zero.A)) (.int .u64 (vF E2.zero.B)) := g0
  have h9 : Two V15 (W12.heap.size + 1) 27 (.int .u64 (vF E2.zero.A)) (.int .u64 (vF E2.zero.B)) := g1
  have H8 := Lib.hid h8
  have H9 := Lib.hid h9
  have HV := Lib.hid hbV
  clear h8 h9 hbV g0 g1 hzV
  generalize hb8 : W12.heap.size = b8 at *
  have HBB := Lib.hid hb8.symm
  have hle : W12.heap.size ≤ b8 := by omega
  clear hb8
  go_loopw [10] (fun s wr => ∃ k : Nat, k ≤ M ∧ s = .int .i64 k ∧ Two wr b8 27 (.int .u64 (vF (sumE k (fun i => eqW i ps)).A)) (.int .u64 (vF (sumE k (fun i => eqW i ps)).B)) ∧ Two wr (b8 + 1) 27 (.int .u64 (vF (sumE k (fun i => eqW i ps * cfE xs i)).A)) (.int .u64 (vF (sumE k (fun i => eqW i ps * cfE xs i)).B)) ∧ Below W12.heap.size W12 wr) (fun s _ => M - (intOf s).toNat)
  case atStart => exact ⟨0, Nat.zero_le _, rfl, H8.out, H9.out, by have := HV.out; rw [HBB.out] at this; exact this⟩
  case round =>
    clear H8 H9 HV
    obtain ⟨k, hk, rfl, h8, h9, hb⟩ := hrel
    have HB := Lib.hid hb
    clear hb
    by_cases hlt : k < M
    · generalize hu : sumE k (fun i => eqW i ps) = u at h8
      generalize hv : sumE k (fun i => eqW i ps * cfE xs i) = v at h9
      have HU := Lib.hid hu
      have HVv := Lib.hid hv
      have H8 := Lib.hid h8
      have H9 := Lib.hid h9
      clear hu hv h8 h9
      obtain ⟨x, hx⟩ := t13.out.get hlt
      obtain ⟨adx, hadx, p0, p1⟩ := (t13.out.keep HB.out).at_ hx
      injection hadx with hadx
      subst hadx
      simp only [add_base] at p0 p1
      have hq : (eqT ps)[k]? = some (eqW k ps) := tabE_get _ (by rw [← HLP.out, ← HPOW.out]; exact hlt)
      obtain ⟨ad, rfl, q0, q1⟩ := (v14.out.keep HB.out).at_ hq
      have HX := Lib.hid (cfE_some hx)
      clear hx hq
      generalize hwk : eqW k ps = z at *
      have HZ := Lib.hid hwk
      have P0 := Lib.hid p0
      have P1 := Lib.hid p1
      have Q0 := Lib.hid q0
      have Q1 := Lib.hid q1
      have l0 := Later.cell q0
      have l1 := Later.cell q1
      clear p0 p1 q0 q1 hwk
      have hk0 : (0 : Int) ≤ (k : Int) := by omega
      have hk1 : (k : Int) < (M : Int) := by omega
      have hne := run_neqE_x z
      go_wp2_with fail
      refine wp_later_lex (by kernel_rfl) (lexOK_of (by kernel_rfl) (by kernel_rfl)) ?_
      repeat (go_big_quiet_step ((go_at_call 24; with_reducible exact Calls.later (HZ.out ▸ mleEqIndex_any k A2 K c2 ps _ ((p13.out.keep HB.out).keep (Later.below _)) (by omega) (by omega)))))
      refine wpQuiet_nil ?_
      intro X
      have HBX := Lib.hid (below_step HB.out X.below)
      have H8X := Lib.hid (H8.out.keep X.below)
      have H9X := Lib.hid (H9.out.keep X.below)
      have R0 := Lib.hid (cell_keep Q0.out X.below)
      have R1 := Lib.hid (cell_keep Q1.out X.below)
      have S0 := Lib.hid (cell_keep P0.out X.below)
      have S1 := Lib.hid (cell_keep P1.out X.below)
      generalize X.at = V2 at *
      clear l0 l1 hne Q0 Q1 P0 P1 H8 H9
      have l0 := Later.cell R0.out
      have l1 := Later.cell R1.out
      have l2 := Later.cell H8X.out.c0
      have l3 := Later.cell H8X.out.c1
      go_wp2_with fail
      refine wp_later_tail 6 (by kernel_rfl) (by kernel_rfl) ?_
      simp only [List.take_succ_cons, List.take_zero, List.drop_succ_cons, List.drop_zero]
      repeat (go_big_quiet_step ((go_at_call 36; with_reducible exact Calls.later (extAdd_any u z _))))
      refine wpQuiet_nil ?_
      intro X2
      clear l0 l1 l2 l3
      have HBY := Lib.hid (below_step HBX.out X2.below)
      have H8Y := Lib.hid (H8X.out.keep X2.below)
      have H9Y := Lib.hid (H9X.out.keep X2.below)
      have hzs := HBX.out.size
      have c0 := H8Y.out.c0
      have c1 := H8Y.out.c1
      have f0 := H8Y.out.f0
      have f1 := H8Y.out.f1
      go_wp2_with fail
      refine wp_named (fun V3 => Two V3 b8 27 (.int .u64 (vF (u + z).A)) (.int .u64 (vF (u + z).B)) ∧ Two V3 (b8 + 1) 27 (.int .u64 (vF (v).A)) (.int .u64 (vF (v).B)) ∧ Below W12.heap.size W12 V3)
        ⟨(H8Y.out.set0 _).set1 _, (H9Y.out.far _ (by simp)).far _ (by simp), (HBY.out.setCell (by simp; omega) _).setCell (by simp; omega) _⟩ ?_
      rintro V3 ⟨h83, h93, hb3⟩
      have H83 := Lib.hid h83
      have H93 := Lib.hid h93
      have HB3 := Lib.hid hb3
      clear c0 c1 f0 f1 h83 h93 hb3 H8Y H9Y HBY H8X H9X R0 R1 S0 S1
      obtain ⟨_, hadx, p0, p1⟩ := (t13.out.keep HB3.out).at_ (show xs[k]? = some x by rw [← HX.out]; exact List.getElem?_eq_getElem (by have := HLX.out; omega) |>.trans (by rw [cfE_lt (by have := HLX.out; omega)]))
      injection hadx with hadx
      subst hadx
      simp only [add_base] at p0 p1
      obtain ⟨_, hady, q0, q1⟩ := (v14.out.keep HB3.out).at_ (show (eqT ps)[k]? = some z by rw [← HZ.out]; exact tabE_get _ (by rw [← HLP.out, ← HPOW.out]; exact hlt))
      injection hady with hady
      subst hady
      have l0 := Later.cell q0
      have l1 := Later.cell q1
      have l2 := Later.cell p0
      have l3 := Later.cell p1
      have l4 := Later.cell H93.out.c0
      have l5 := Later.cell H93.out.c1
      clear p0 p1 q0 q1
      refine wp_later_tail 11 (by kernel_rfl) (by kernel_rfl) ?_
      simp only [List.take_succ_cons, List.take_zero, List.drop_succ_cons, List.drop_zero]
      repeat (go_big_quiet_step (first
        | (go_at_call 37; with_reducible exact Calls.later (extMul_any z x _))
        | (go_at_call 36; with_reducible exact Calls.later (extAdd_any v (z * x) _))))
      refine wpQuiet_nil ?_
      intro X3
      clear l0 l1 l2 l3 l4 l5
      have HBZ := Lib.hid (below_step HB3.out X3.below)
      have H8Z := Lib.hid (H83.out.keep X3.below)
      have H9Z := Lib.hid (H93.out.keep X3.below)
      have c0 := H9Z.out.c0
      have c1 := H9Z.out.c1
      have f0 := H9Z.out.f0
      have f1 := H9Z.out.f1
      go_wp2_with fail
      go_roundw
      case rel => exact ⟨k + 1, by omega, by go_num, by rw [sumE, HU.out, HZ.out]; exact (H8Z.out.far _ (by simp)).far _ (by simp), by rw [sumE, HVv.out, HZ.out, HX.out]; exact (H9Z.out.set0 _).set1 _, (HBZ.out.setCell (by simp; omega) _).setCell (by simp; omega) _⟩
      case measure => simp [intOf]; omega
    · have hkM : k = M := by omega
      subst hkM
      rw [HTOT.out] at h8
      rw [HVAL.out] at h9
      have H8 := Lib.hid h8
      have H9 := Lib.hid h9
      clear h8 h9
      have t16 := Lib.hid (t13.out.keep HB.out)
      clear t13
      have p16 := Lib.hid (p13.out.keep HB.out)
      clear p13
      have v16 := Lib.hid (v14.out.keep HB.out)
      clear v14
      have HB16 := Lib.hid (below_step HB13.out HB.out)
      clear HB13
      have hC := H8.out
      have C17 := Lib.hid hC
      clear hC
      have hD := H9.out
      have D18 := Lib.hid hD
      clear hD
      clear HB H8 H9
      go_upto_region 14 with fail
      have l80 := Later.cell C17.out.c0
      have l81 := Later.cell C17.out.c1
      have l90 := Later.cell D18.out.c0
      have l91 := Later.cell D18.out.c1
      try simp only [List.append_eq, List.cons_append, List.nil_append]
      refine wp_floatN (by kernel_rfl) (lexOK_of (by kernel_rfl) (by kernel_rfl)) (chainOF_of (by kernel_rfl)) (fun V19 hb hS => ?_)
      have t20 := Lib.hid (t16.out.keep hb)
      clear t16
      have p20 := Lib.hid (p16.out.keep hb)
      clear p16
      have v20 := Lib.hid (v16.out.keep hb)
      clear v16
      have C20 := Lib.hid (C17.out.keep hb)
      clear C17
      have D20 := Lib.hid (D18.out.keep hb)
      clear D18
      have HB20 := Lib.hid (below_step HB16.out hb)
      clear HB16
      clear hb
      have HS19' := Lib.hid hS
      clear hS
      clear v20
      clear C20
      clear D20
      refine wpF_seg 1 (by kernel_rfl) ?_
      simp only [List.take_succ_cons, List.take_zero, List.drop_succ_cons, List.drop_zero]
      repeat (go_big_quiet_step (fail))
      refine wpQuiet_nil ?_
      refine wpF_call 35 Try.func35 (by kernel_rfl) (by kernel_rfl) _ _ #[] rfl (by kernel_rfl) (by kernel_rfl) HS19'.out (fun V21 hV => ?_)
      refine (rOne_any _).mono ?_
      rintro e W21 ⟨rfl, hb⟩
      have hb2 := ext_trans hV hb
      have t22 := Lib.hid (t20.out.keep hb2)
      clear t20
      have p22 := Lib.hid (p20.out.keep hb2)
      clear p20
      have HB22 := Lib.hid (below_step HB20.out hb2)
      clear HB20
      have HS22 := Lib.hid (HS19'.out.ext hb2)
      clear HS19'
      refine ⟨_, rfl, hb, ?_⟩
      clear hb hb2 hV
      simp only [Act.put, List.setIfInBounds_toArray, List.set_cons_zero, List.set_cons_succ]
      have hq60 := run_eqE_same (E2.one)
      refine wpF_seg 5 (by kernel_rfl) ?_
      simp only [List.take_succ_cons, List.take_zero, List.drop_succ_cons, List.drop_zero]
      repeat (go_big_quiet_step (fail))
      refine wpQuiet_nil ?_
      refine wpF_call 20 Try.func20 (by kernel_rfl) (by kernel_rfl) _ _ #[.slice (some ⟨g, 0, none⟩) k c1, .slice A2 K c2] rfl (by kernel_rfl) (by kernel_rfl) HS22.out (fun V23 hV => ?_)
      refine (mleEval_any (some ⟨g, 0, none⟩) k c1 xs A2 K c2 ps _ (t22.out.keep hV) (p22.out.keep hV) HPOW.out (by omega)).mono ?_
      rintro e W23 ⟨rfl, hb⟩
      have hb2 := ext_trans hV hb
      have t24 := Lib.hid (t22.out.keep hb2)
      clear t22
      have p24 := Lib.hid (p22.out.keep hb2)
      clear p22
      have HB24 := Lib.hid (below_step HB22.out hb2)
      clear HB22
      have HS24 := Lib.hid (HS22.out.ext hb2)
      clear HS22
      refine ⟨_, rfl, hb, ?_⟩
      clear hb hb2 hV
      simp only [Act.put, List.setIfInBounds_toArray, List.set_cons_zero, List.set_cons_succ]
      have hq66 := run_eqE_same ((mleE xs ps))
      refine wpF_seg 6 (by kernel_rfl) ?_
      simp only [List.take_succ_cons, List.take_zero, List.drop_succ_cons, List.drop_zero]
      repeat (go_big_quiet_step (fail))
      refine wpQuiet_nil ?_
      refine wpF_nil (fun V25 hb => ?_)
      have t26 := Lib.hid (t24.out.keep hb)
      clear t24
      have p26 := Lib.hid (p24.out.keep hb)
      clear p24
      have HB26 := Lib.hid (below_step HB24.out hb)
      clear HB24
      clear hb
      go_wp2_with fail
      go_ret
      exact ⟨rfl, HB26.out⟩

end Go.Proofs.Ytompkhgnbbadaaa
