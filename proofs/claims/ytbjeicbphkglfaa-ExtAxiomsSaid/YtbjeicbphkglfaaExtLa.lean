/- ExtAxioms, the walk: ring laws of all elements. -/
import Derived.Test.YtbjeicbphkglfaaExtU
namespace Go.Proofs.Ytbjeicbphkglfaa
open Go.RowKit Gold

set_option maxHeartbeats 4000000 in
set_option maxRecDepth 100000 in
theorem axioms_any (x0 x1 x2 x3 x4 x5 : Int) (w : World) (u0 : U64 x0) (u1 : U64 x1) (u2 : U64 x2) (u3 : U64 x3) (u4 : U64 x4) (u5 : U64 x5) :
    Calls Try.prog 4 #[.agg #[.int .u64 x0, .int .u64 x1, .int .u64 x2, .int .u64 x3, .int .u64 x4, .int .u64 x5]] w fun e w' => e = .returned (.bool true) ∧ Below w.heap.size w w' := by
  go_enter Try.func4, Try.ntmps4
  go_wp2_with fail
  refine calls_named1 (fun W hB g0 hz => ?_)
  refine (sanity_any _).mono ?_
  rintro e W1 ⟨rfl, hb⟩
  have HB := Lib.hid (hB.trans (hb.mono hB.size))
  have g1 := heap_keep g0 hb
  have k0 := Later.cell (cells_at g1 0 (v := .int .u64 x0) rfl); have k1 := Later.cell (cells_at g1 1 (v := .int .u64 x1) rfl); have k2 := Later.cell (cells_at g1 2 (v := .int .u64 x2) rfl); have k3 := Later.cell (cells_at g1 3 (v := .int .u64 x3) rfl); have k4 := Later.cell (cells_at g1 4 (v := .int .u64 x4) rfl); have k5 := Later.cell (cells_at g1 5 (v := .int .u64 x5) rfl)
  clear hB hb g0 g1 hz
  go_wp2_with fail
  refine wp_decl (l2 := [_, _, _]) (l3 := [_, _, _]) (zs := [.cells #[.int .u64 0, .int .u64 0] 24, .cells #[.int .u64 0, .int .u64 0] 24, .cells #[.int .u64 0, .int .u64 0] 24]) 9 (by kernel_rfl) (lexOK_of (by kernel_rfl) (by kernel_rfl)) rfl (Nat.le_of_ble_eq_true rfl) (by simp) (by kernel_rfl) (by kernel_rfl) rfl
    (all_cons rfl (all_cons rfl (all_cons rfl all_nil))) (mk_same 24 _ run_allocE (all_cons rfl (all_cons rfl (all_cons rfl all_nil))) (all_cons rfl (all_cons rfl (all_cons rfl all_nil)))) ?_
  simp only [List.take_succ_cons, List.take_zero]
  repeat (refine wpCalm_step (fun K hK => ?_); go_simp; first
    | (refine hK _ ?_; clear hK K)
    | (apply Exists.intro
       refine ⟨fun _ => ?_, hK _ ?_⟩
       · first
         | (go_at_call 14; with_reducible exact Calls.calm (rMade_any _ _ _ (by assumption) (by assumption)))
       clear hK K))
  refine wpCalm_nil ?_
  refine fun ba bb bc X hX => ?_
  have pa := hX.get 9 ba _ rfl rfl
  have pb := hX.get 10 bb _ rfl rfl
  have pc := hX.get 11 bc _ rfl rfl
  have nab := hX.ne 9 10 ba bb (by omega) rfl rfl
  have nac := hX.ne 9 11 ba bc (by omega) rfl rfl
  have nba := hX.ne 10 9 bb ba (by omega) rfl rfl
  have nbc := hX.ne 10 11 bb bc (by omega) rfl rfl
  have nca := hX.ne 11 9 bc ba (by omega) rfl rfl
  have ncb := hX.ne 11 10 bc bb (by omega) rfl rfl
  have hb := hX.below
  have HB0 := HB.out.size
  replace HB := Lib.hid (HB.out.trans (hb.mono HB.out.size))
  have za0 := Two.c0 pa.1; have za1 := Two.c1 pa.1; have fa0 := Two.f0 pa.1; have fa1 := Two.f1 pa.1
  have lea : w.heap.size ≤ ba := Nat.le_trans HB0 pa.2
  have Pa := Lib.hid (show Two X ba 24 (.int .u64 0) (.int .u64 0) from pa.1)
  have zb0 := Two.c0 pb.1; have zb1 := Two.c1 pb.1; have fb0 := Two.f0 pb.1; have fb1 := Two.f1 pb.1
  have leb : w.heap.size ≤ bb := Nat.le_trans HB0 pb.2
  have Pb := Lib.hid (show Two X bb 24 (.int .u64 0) (.int .u64 0) from pb.1)
  have zc0 := Two.c0 pc.1; have zc1 := Two.c1 pc.1; have fc0 := Two.f0 pc.1; have fc1 := Two.f1 pc.1
  have lec : w.heap.size ≤ bc := Nat.le_trans HB0 pc.2
  have Pc := Lib.hid (show Two X bc 24 (.int .u64 0) (.int .u64 0) from pc.1)
  clear hb hX HB0 pa pb pc  k0 k1 k2 k3 k4 k5 u0 u1 u2 u3 u4 u5
  simp only [ptr]
  go_wp2_with fail
  refine wp_named (fun Y => Two Y ba 24 (.int .u64 (vF (toE x0 x1).A)) (.int .u64 (vF (toE x0 x1).B)) ∧ Two Y bb 24 (.int .u64 (vF (toE x2 x3).A)) (.int .u64 (vF (toE x2 x3).B)) ∧ Two Y bc 24 (.int .u64 (vF (toE x4 x5).A)) (.int .u64 (vF (toE x4 x5).B)) ∧ Below w.heap.size w Y) ⟨((((((Pa.out).set0 _).set1 _).far _ nab).far _ nab).far _ nac).far _ nac, ((((((Pb.out).far _ nba).far _ nba).set0 _).set1 _).far _ nbc).far _ nbc, ((((((Pc.out).far _ nca).far _ nca).far _ ncb).far _ ncb).set0 _).set1 _, ((((((HB.out).setCell lea _).setCell lea _).setCell leb _).setCell leb _).setCell lec _).setCell lec _⟩ (fun W ⟨ta, tb, tc, hB⟩ => ?_)
  clear za0 za1 fa0 fa1 Pa zb0 zb1 fb0 fb1 Pb zc0 zc1 fc0 fc1 Pc  HB 
  have lta := ta.lt; have Ta := Lib.hid ta; have ltb := tb.lt; have Tb := Lib.hid tb; have ltc := tc.lt; have Tc := Lib.hid tc; have HB := Lib.hid hB
  clear hB ta tb tc
  generalize toE x0 x1 = a at *
  generalize toE x2 x3 = b at *
  generalize toE x4 x5 = c at *
  have la0 := Later.cell Ta.out.c0; have la1 := Later.cell Ta.out.c1; have lb0 := Later.cell Tb.out.c0; have lb1 := Later.cell Tb.out.c1
  refine wp_decl (l2 := [_, _]) (l3 := [_, _]) (zs := [.cells #[.int .u64 0, .int .u64 0] 24, .cells #[.int .u64 0, .int .u64 0] 24]) 6 (by kernel_rfl) (lexOK_of (by kernel_rfl) (by kernel_rfl)) rfl (Nat.le_of_ble_eq_true rfl) (by simp) (by kernel_rfl) (by kernel_rfl) rfl
    (all_cons rfl (all_cons rfl all_nil)) (mk_same 24 _ run_allocE (all_cons rfl (all_cons rfl all_nil)) (all_cons rfl (all_cons rfl all_nil))) ?_
  simp only [List.take_succ_cons, List.take_zero]
  repeat (refine wpCalm_step (fun K hK => ?_); go_simp; first
    | (refine hK _ ?_; clear hK K)
    | (apply Exists.intro
       refine ⟨fun _ => ?_, hK _ ?_⟩
       · first
         | (go_at_call 17; with_reducible exact Calls.calm (extAdd_any a b _))
         | (go_at_call 23; with_reducible exact Calls.calm (extMul_any a b _))
       clear hK K))
  refine wpCalm_nil ?_
  refine fun bs bp X hX => ?_
  have ps := hX.get 6 bs _ rfl rfl
  have pp := hX.get 7 bp _ rfl rfl
  have nsp := hX.ne 6 7 bs bp (by omega) rfl rfl
  have nps := hX.ne 7 6 bp bs (by omega) rfl rfl
  have hb := hX.below
  replace Ta := Lib.hid (Ta.out.keep hb); replace Tb := Lib.hid (Tb.out.keep hb); replace Tc := Lib.hid (Tc.out.keep hb)
  have nas : ba ≠ bs := Nat.ne_of_lt (Nat.lt_of_lt_of_le lta ps.2)
  have nap : ba ≠ bp := Nat.ne_of_lt (Nat.lt_of_lt_of_le lta pp.2)
  have nbs : bb ≠ bs := Nat.ne_of_lt (Nat.lt_of_lt_of_le ltb ps.2)
  have nbp : bb ≠ bp := Nat.ne_of_lt (Nat.lt_of_lt_of_le ltb pp.2)
  have ncs : bc ≠ bs := Nat.ne_of_lt (Nat.lt_of_lt_of_le ltc ps.2)
  have ncp : bc ≠ bp := Nat.ne_of_lt (Nat.lt_of_lt_of_le ltc pp.2)
  have HB0 := HB.out.size
  replace HB := Lib.hid (HB.out.trans (hb.mono HB.out.size))
  have zs0 := Two.c0 ps.1; have zs1 := Two.c1 ps.1; have fs0 := Two.f0 ps.1; have fs1 := Two.f1 ps.1
  have les : w.heap.size ≤ bs := Nat.le_trans HB0 ps.2
  have Ps := Lib.hid (show Two X bs 24 (.int .u64 0) (.int .u64 0) from ps.1)
  have zp0 := Two.c0 pp.1; have zp1 := Two.c1 pp.1; have fp0 := Two.f0 pp.1; have fp1 := Two.f1 pp.1
  have lep : w.heap.size ≤ bp := Nat.le_trans HB0 pp.2
  have Pp := Lib.hid (show Two X bp 24 (.int .u64 0) (.int .u64 0) from pp.1)
  have lta' : ba < X.heap.size := Ta.out.lt
  have ltb' : bb < X.heap.size := Tb.out.lt
  have ltc' : bc < X.heap.size := Tc.out.lt
  clear hb hX HB0 ps pp lta ltb ltc 
  clear la0 la1 lb0 lb1
  simp only [ptr]
  go_wp2_with fail
  refine wp_named (fun Y => Two Y ba 24 (.int .u64 (vF a.A)) (.int .u64 (vF a.B)) ∧ Two Y bb 24 (.int .u64 (vF b.A)) (.int .u64 (vF b.B)) ∧ Two Y bc 24 (.int .u64 (vF c.A)) (.int .u64 (vF c.B)) ∧ Two Y bs 24 (.int .u64 (vF (a + b).A)) (.int .u64 (vF (a + b).B)) ∧ Two Y bp 24 (.int .u64 (vF (a * b).A)) (.int .u64 (vF (a * b).B)) ∧ Below w.heap.size w Y) ⟨((((Ta.out).far _ nas).far _ nas).far _ nap).far _ nap, ((((Tb.out).far _ nbs).far _ nbs).far _ nbp).far _ nbp, ((((Tc.out).far _ ncs).far _ ncs).far _ ncp).far _ ncp, ((((Ps.out).set0 _).set1 _).far _ nsp).far _ nsp, ((((Pp.out).far _ nps).far _ nps).set0 _).set1 _, ((((HB.out).setCell les _).setCell les _).setCell lep _).setCell lep _⟩ (fun W ⟨ta, tb, tc, ts, tp, hB⟩ => ?_)
  clear zs0 zs1 fs0 fs1 Ps zp0 zp1 fp0 fp1 Pp Ta Tb Tc HB lta' ltb' ltc'
  have lta := ta.lt; have Ta := Lib.hid ta; have ltb := tb.lt; have Tb := Lib.hid tb; have ltc := tc.lt; have Tc := Lib.hid tc; have lts := ts.lt; have Ts := Lib.hid ts; have ltp := tp.lt; have Tp := Lib.hid tp; have HB := Lib.hid hB
  clear hB ta tb tc ts tp
  have la0 := Later.cell Ta.out.c0; have la1 := Later.cell Ta.out.c1; have lb0 := Later.cell Tb.out.c0; have lb1 := Later.cell Tb.out.c1; have lc0 := Later.cell Tc.out.c0; have lc1 := Later.cell Tc.out.c1; have ls0 := Later.cell Ts.out.c0; have ls1 := Later.cell Ts.out.c1; have lp0 := Later.cell Tp.out.c0; have lp1 := Later.cell Tp.out.c1

  refine wp_later_lex (by kernel_rfl) (lexOK_of (by kernel_rfl) (by kernel_rfl)) ?_
  repeat (go_big_quiet_step (first
    | (go_at_call 17; with_reducible exact Calls.later (extAdd_as (b) (a) (a + b) _ (E2.add_comm b a)))
    | (go_at_call 23; with_reducible exact Calls.later (extMul_as (b) (a) (a * b) _ (E2.mul_comm b a)))
    | (go_at_call 17; with_reducible exact Calls.later (extAdd_as (a + b) (c) (a + b + c) _ (rfl)))
    | (go_at_call 17; with_reducible exact Calls.later (extAdd_as (b) (c) (b + c) _ (rfl)))
    | (go_at_call 17; with_reducible exact Calls.later (extAdd_as (a) (b + c) (a + b + c) _ ((E2.add_assoc a b c).symm)))
    | (go_at_call 23; with_reducible exact Calls.later (extMul_as (a * b) (c) (a * b * c) _ (rfl)))
    | (go_at_call 23; with_reducible exact Calls.later (extMul_as (b) (c) (b * c) _ (rfl)))
    | (go_at_call 23; with_reducible exact Calls.later (extMul_as (a) (b * c) (a * b * c) _ ((E2.mul_assoc a b c).symm)))
    | (go_at_call 23; with_reducible exact Calls.later (extMul_as (a) (b + c) (a * b + a * c) _ (E2.mul_add a b c)))
    | (go_at_call 23; with_reducible exact Calls.later (extMul_as (a) (c) (a * c) _ (rfl)))
    | (go_at_call 17; with_reducible exact Calls.later (extAdd_as (a * b) (a * c) (a * b + a * c) _ (rfl)))))
  refine wpQuiet_nil ?_
  intro X
  have hb := X.below
  replace Ta := Lib.hid (Ta.out.keep hb); replace Tb := Lib.hid (Tb.out.keep hb); replace Tc := Lib.hid (Tc.out.keep hb); replace Ts := Lib.hid (Ts.out.keep hb); replace Tp := Lib.hid (Tp.out.keep hb); replace HB := Lib.hid (HB.out.trans (hb.mono HB.out.size))
  clear hb
  clear la0 la1 lb0 lb1 lc0 lc1 ls0 ls1 lp0 lp1
  go_wp2_with fail
  have la0 := Later.cell Ta.out.c0; have la1 := Later.cell Ta.out.c1; have lb0 := Later.cell Tb.out.c0; have lb1 := Later.cell Tb.out.c1; have lc0 := Later.cell Tc.out.c0; have lc1 := Later.cell Tc.out.c1; have ls0 := Later.cell Ts.out.c0; have ls1 := Later.cell Ts.out.c1; have lp0 := Later.cell Tp.out.c0; have lp1 := Later.cell Tp.out.c1

  refine wp_later_lex (by kernel_rfl) (lexOK_of (by kernel_rfl) (by kernel_rfl)) ?_
  repeat (go_big_quiet_step (first
    | (go_at_call 17; with_reducible exact Calls.later (extAdd_zero a _))
    | (go_at_call 37; with_reducible exact Calls.later (of_any _ _ _))
    | (go_at_call 23; with_reducible exact Calls.later (extMul_one a _))
    | (go_at_call 21; with_reducible exact Calls.later (extNeg_any (a) _))
    | (go_at_call 17; with_reducible exact Calls.later (extAdd_as (a) (-a) (E2.zero) _ (E2.add_neg a)))
    | (go_at_call 31; with_reducible exact Calls.later (extIsZero_zero _))
    | (go_at_call 19; with_reducible exact Calls.later (extSub_as (a) (b) (a - b) _ (rfl)))
    | (go_at_call 21; with_reducible exact Calls.later (extNeg_any (b) _))
    | (go_at_call 17; with_reducible exact Calls.later (extAdd_as (a) (-b) (a - b) _ ((E2.sub_eq a b).symm)))
    | (go_at_call 12; with_reducible exact Calls.later (extValid_E2 _ _))
    | (go_at_call 13; with_reducible exact Calls.later (rValid_E2 _ _))))
  refine wpQuiet_nil ?_
  intro X
  have hb := X.below
  replace Ta := Lib.hid (Ta.out.keep hb); replace Tb := Lib.hid (Tb.out.keep hb); replace Tc := Lib.hid (Tc.out.keep hb); replace Ts := Lib.hid (Ts.out.keep hb); replace Tp := Lib.hid (Tp.out.keep hb); replace HB := Lib.hid (HB.out.trans (hb.mono HB.out.size))
  clear hb
  clear la0 la1 lb0 lb1 lc0 lc1 ls0 ls1 lp0 lp1
  go_wp2
  go_ret
  exact ⟨rfl, HB.out⟩

end Go.Proofs.Ytbjeicbphkglfaa
