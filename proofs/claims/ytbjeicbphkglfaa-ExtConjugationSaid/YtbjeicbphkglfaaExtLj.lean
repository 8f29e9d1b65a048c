/- ExtConjugation, the walk: conjugation is a field automorphism, and the power of the order. -/
import Derived.Test.YtbjeicbphkglfaaExtU
namespace Go.Proofs.Ytbjeicbphkglfaa
open Go.RowKit Gold

set_option maxHeartbeats 4000000 in
set_option maxRecDepth 100000 in
theorem conjugation_any (x0 x1 x2 x3 : Int) (w : World) (u0 : U64 x0) (u1 : U64 x1) (u2 : U64 x2) (u3 : U64 x3) :
    Calls Try.prog 6 #[.agg #[.int .u64 x0, .int .u64 x1, .int .u64 x2, .int .u64 x3]] w fun e w' => e = .returned (.bool true) ∧ Below w.heap.size w w' := by
  go_enter Try.func6, Try.ntmps6
  go_wp2_with fail
  refine calls_named1 (fun W hB g0 hz => ?_)
  refine (sanity_any _).mono ?_
  rintro e W1 ⟨rfl, hb⟩
  have HB := Lib.hid (hB.trans (hb.mono hB.size))
  have g1 := heap_keep g0 hb
  have k0 := Later.cell (cells_at g1 0 (v := .int .u64 x0) rfl); have k1 := Later.cell (cells_at g1 1 (v := .int .u64 x1) rfl); have k2 := Later.cell (cells_at g1 2 (v := .int .u64 x2) rfl); have k3 := Later.cell (cells_at g1 3 (v := .int .u64 x3) rfl)
  clear hB hb g0 g1 hz
  go_wp2_with fail
  refine wp_decl (l2 := [_, _]) (l3 := [_, _]) (zs := [.cells #[.int .u64 0, .int .u64 0] 24, .cells #[.int .u64 0, .int .u64 0] 24]) 6 (by kernel_rfl) (lexOK_of (by kernel_rfl) (by kernel_rfl)) rfl (Nat.le_of_ble_eq_true rfl) (by simp) (by kernel_rfl) (by kernel_rfl) rfl
    (all_cons rfl (all_cons rfl all_nil)) (mk_same 24 _ run_allocE (all_cons rfl (all_cons rfl all_nil)) (all_cons rfl (all_cons rfl all_nil))) ?_
  simp only [List.take_succ_cons, List.take_zero]
  repeat (refine wpCalm_step (fun K hK => ?_); go_simp; first
    | (refine hK _ ?_; clear hK K)
    | (apply Exists.intro
       refine ⟨fun _ => ?_, hK _ ?_⟩
       · first
         | (go_at_call 14; with_reducible exact Calls.calm (rMade_any _ _ _ (by assumption) (by assumption)))
       clear hK K))
  refine wpCalm_nil ?_
  refine fun ba bb X hX => ?_
  have pa := hX.get 6 ba _ rfl rfl
  have pb := hX.get 7 bb _ rfl rfl
  have nab := hX.ne 6 7 ba bb (by omega) rfl rfl
  have nba := hX.ne 7 6 bb ba (by omega) rfl rfl
  have hb := hX.below
  have HB0 := HB.out.size
  replace HB := Lib.hid (HB.out.trans (hb.mono HB.out.size))
  have za0 := Two.c0 pa.1; have za1 := Two.c1 pa.1; have fa0 := Two.f0 pa.1; have fa1 := Two.f1 pa.1
  have lea : w.heap.size ≤ ba := Nat.le_trans HB0 pa.2
  have Pa := Lib.hid (show Two X ba 24 (.int .u64 0) (.int .u64 0) from pa.1)
  have zb0 := Two.c0 pb.1; have zb1 := Two.c1 pb.1; have fb0 := Two.f0 pb.1; have fb1 := Two.f1 pb.1
  have leb : w.heap.size ≤ bb := Nat.le_trans HB0 pb.2
  have Pb := Lib.hid (show Two X bb 24 (.int .u64 0) (.int .u64 0) from pb.1)
  clear hb hX HB0 pa pb  k0 k1 k2 k3 u0 u1 u2 u3 
  simp only [ptr]
  go_wp2_with fail
  refine calls_named (fun Y => Two Y ba 24 (.int .u64 (vF (toE x0 x1).A)) (.int .u64 (vF (toE x0 x1).B)) ∧ Two Y bb 24 (.int .u64 (vF (toE x2 x3).A)) (.int .u64 (vF (toE x2 x3).B)) ∧ Below w.heap.size w Y) ⟨((((Pa.out).set0 _).set1 _).far _ nab).far _ nab, ((((Pb.out).far _ nba).far _ nba).set0 _).set1 _, ((((HB.out).setCell lea _).setCell lea _).setCell leb _).setCell leb _⟩ (fun W ⟨ta, tb, hB⟩ => ?_)
  clear za0 za1 fa0 fa1 Pa zb0 zb1 fb0 fb1 Pb  HB 
  have lta := ta.lt; have Ta := Lib.hid ta; have ltb := tb.lt; have Tb := Lib.hid tb; have HB := Lib.hid hB
  clear hB ta tb
  generalize toE x0 x1 = a at *
  generalize toE x2 x3 = b at *
  ((with_reducible refine (extConj_any a _).mono ?_)); rintro e W11 ⟨rfl, hb⟩
  replace Ta := Lib.hid (Ta.out.keep hb); replace Tb := Lib.hid (Tb.out.keep hb); replace HB := Lib.hid (HB.out.trans (hb.mono HB.out.size)); clear hb
  have aa0 := cell_alloc Ta.out.c0; have aa1 := cell_alloc Ta.out.c1; have ab0 := cell_alloc Tb.out.c0; have ab1 := cell_alloc Tb.out.c1
  go_wp2_with fail
  clear aa0 aa1 ab0 ab1
  refine wp_named1 (fun W hb g hz => ?_)
  replace Ta := Lib.hid (Ta.out.keep hb); replace Tb := Lib.hid (Tb.out.keep hb); replace HB := Lib.hid (HB.out.trans (hb.mono HB.out.size)); have Tc := Lib.hid (show Two W W11.heap.size 24 (.int .u64 (vF (E2.conj a).A)) (.int .u64 (vF (E2.conj a).B)) from g); have lec := Nat.le_of_lt hz; clear hb g hz
  generalize W11.heap.size = bc at *
  have la0 := Later.cell Ta.out.c0; have la1 := Later.cell Ta.out.c1; have lb0 := Later.cell Tb.out.c0; have lb1 := Later.cell Tb.out.c1; have lc0 := Later.cell Tc.out.c0; have lc1 := Later.cell Tc.out.c1
  have hqc := run_eqlE (E2.conj a) a; have fc : decide (E2.conj a = a) = (vF a.B == 0) := conj_fix_bool a

  refine wp_later_lex (by kernel_rfl) (lexOK_of (by kernel_rfl) (by kernel_rfl)) ?_
  repeat (go_big_quiet_step (first
    | (go_at_call 17; with_reducible exact Calls.later (extAdd_as (a) (b) (a + b) _ (rfl)))
    | (go_at_call 27; with_reducible exact Calls.later (extConj_as (a + b) (E2.conj a + E2.conj b) _ (E2.conj_add a b)))
    | (go_at_call 27; with_reducible exact Calls.later (extConj_as (b) (E2.conj b) _ (rfl)))
    | (go_at_call 17; with_reducible exact Calls.later (extAdd_as (E2.conj a) (E2.conj b) (E2.conj a + E2.conj b) _ (rfl)))
    | (go_at_call 23; with_reducible exact Calls.later (extMul_as (a) (b) (a * b) _ (rfl)))
    | (go_at_call 27; with_reducible exact Calls.later (extConj_as (a * b) (E2.conj a * E2.conj b) _ (E2.conj_mul a b)))
    | (go_at_call 23; with_reducible exact Calls.later (extMul_as (E2.conj a) (E2.conj b) (E2.conj a * E2.conj b) _ (rfl)))
    | (go_at_call 27; with_reducible exact Calls.later (extConj_as (E2.conj a) (a) _ (E2.conj_conj a)))))
  refine wpQuiet_nil ?_
  intro X
  have hb := X.below
  replace Ta := Lib.hid (Ta.out.keep hb); replace Tb := Lib.hid (Tb.out.keep hb); replace Tc := Lib.hid (Tc.out.keep hb); replace HB := Lib.hid (HB.out.trans (hb.mono HB.out.size))
  clear hb
  clear la0 la1 lb0 lb1 lc0 lc1
  have hfB := field_B
  go_wp2_with fail
  have la0 := Later.cell Ta.out.c0; have la1 := Later.cell Ta.out.c1; have lb0 := Later.cell Tb.out.c0; have lb1 := Later.cell Tb.out.c1; have lc0 := Later.cell Tc.out.c0; have lc1 := Later.cell Tc.out.c1

  refine wp_later_lex (by kernel_rfl) (lexOK_of (by kernel_rfl) (by kernel_rfl)) ?_
  repeat (go_big_quiet_step (first
    | (go_at_call 17; with_reducible exact Calls.later (extAdd_real a (E2.conj a) (a.A + a.A) _ (add_conj a)))
    | (go_at_call 23; with_reducible exact Calls.later (extMul_real a (E2.conj a) (E2.norm a) _ (E2.mul_conj a)))
    | (go_at_call 38; with_reducible exact Calls.later_same (prime_any _))
    | (go_at_call 29; with_reducible exact Calls.later (extPow_order a _))))
  refine wpQuiet_nil ?_
  intro X
  have hb := X.below
  replace Ta := Lib.hid (Ta.out.keep hb); replace Tb := Lib.hid (Tb.out.keep hb); replace Tc := Lib.hid (Tc.out.keep hb); replace HB := Lib.hid (HB.out.trans (hb.mono HB.out.size))
  clear hb
  clear la0 la1 lb0 lb1 lc0 lc1
  go_wp2
  go_ret
  exact ⟨rfl, HB.out⟩

end Go.Proofs.Ytbjeicbphkglfaa
