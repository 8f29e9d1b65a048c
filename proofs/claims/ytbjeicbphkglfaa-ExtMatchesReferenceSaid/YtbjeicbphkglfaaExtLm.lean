/- ExtMatchesReference, the walk: every function of package ext answers as its reference does. -/
import Derived.Test.YtbjeicbphkglfaaExtU
namespace Go.Proofs.Ytbjeicbphkglfaa
open Go.RowKit Gold

set_option maxHeartbeats 4000000 in
set_option maxRecDepth 100000 in
theorem matches_any (x0 x1 x2 x3 : Int) (n k : Int) (w : World) (u0 : U64 x0) (u1 : U64 x1) (u2 : U64 x2) (u3 : U64 x3) (hn : U64 n) (hk : -9223372036854775808 ≤ k ∧ k ≤ 9223372036854775807) :
    Calls Try.prog 3 #[.agg #[.int .u64 x0, .int .u64 x1, .int .u64 x2, .int .u64 x3], .int .u64 n, .int .i64 k] w fun e w' => e = .returned (.bool true) ∧ Below w.heap.size w w' := by
  go_enter Try.func3, Try.ntmps3
  go_wp2_with fail
  refine calls_named1 (fun W hB g0 hz => ?_)
  refine (sanity_any _).mono ?_
  rintro e W1 ⟨rfl, hb⟩
  have HB := Lib.hid (hB.trans (hb.mono hB.size))
  have g1 := heap_keep g0 hb
  have k0 := Later.cell (cells_at g1 0 (v := .int .u64 x0) rfl); have k1 := Later.cell (cells_at g1 1 (v := .int .u64 x1) rfl); have k2 := Later.cell (cells_at g1 2 (v := .int .u64 x2) rfl); have k3 := Later.cell (cells_at g1 3 (v := .int .u64 x3) rfl)
  clear hB hb g0 g1 hz
  go_wp2_with fail
  have HN := Lib.hid (And.intro hn.1 hn.2); have HK := Lib.hid hk
  clear hn hk
  refine wp_later_lex (by kernel_rfl) (lexOK_of (by kernel_rfl) (by kernel_rfl)) ?_
  repeat (go_big_quiet_step (first
    | (go_at_call 12; with_reducible exact Calls.later (extValid_any x0 x1 _))
    | (go_at_call 13; with_reducible exact Calls.later (rValidE_any x0 x1 _))))
  refine wpQuiet_nil ?_
  intro X
  have hb := X.below
  replace k0 := (k0 X); replace k1 := (k1 X); replace k2 := (k2 X); replace k3 := (k3 X); replace HB := Lib.hid (HB.out.trans (hb.mono HB.out.size)); clear hb
  generalize X.at = W2 at *
  clear X
  go_wp2_with fail
  replace k0 := Later.cell k0; replace k1 := Later.cell k1; replace k2 := Later.cell k2; replace k3 := Later.cell k3
  refine wp_decl (l2 := [_, _]) (l3 := [_, _]) (zs := [.cells #[.int .u64 0, .int .u64 0] 24, .cells #[.int .u64 0, .int .u64 0] 24]) 6 (by kernel_rfl) (lexOK_of (by kernel_rfl) (by kernel_rfl)) rfl (Nat.le_of_ble_eq_true rfl) (by simp) (by kernel_rfl) (by kernel_rfl) rfl
    (all_cons rfl (all_cons rfl all_nil)) (mk_same 24 _ run_allocE (all_cons rfl (all_cons rfl all_nil)) (all_cons rfl (all_cons rfl all_nil))) ?_
  simp only [List.take_succ_cons, List.take_zero]
  repeat (refine wpCalm_step (fun K hK => ?_); go_simp; first
    | (refine hK _ ?_; clear hK K)
    | (apply Exists.intro
       refine ⟨fun _ => ?_, hK _ ?_⟩
       · first
         | (go_at_call 14; with_reducible exact Calls.calm (rMade_any _ _ _ (by assumption) (by assumption)))
       clear hK K))
  refine wpCalm_nil ?_
  refine fun ba bb X hX => ?_
  have pa := hX.get 6 ba _ rfl rfl
  have pb := hX.get 7 bb _ rfl rfl
  have nab := hX.ne 6 7 ba bb (by omega) rfl rfl
  have nba := hX.ne 7 6 bb ba (by omega) rfl rfl
  have hb := hX.below
  have HB0 := HB.out.size
  replace HB := Lib.hid (HB.out.trans (hb.mono HB.out.size))
  have za0 := Two.c0 pa.1; have za1 := Two.c1 pa.1; have fa0 := Two.f0 pa.1; have fa1 := Two.f1 pa.1
  have lea : w.heap.size ≤ ba := Nat.le_trans HB0 pa.2
  have Pa := Lib.hid (show Two X ba 24 (.int .u64 0) (.int .u64 0) from pa.1)
  have zb0 := Two.c0 pb.1; have zb1 := Two.c1 pb.1; have fb0 := Two.f0 pb.1; have fb1 := Two.f1 pb.1
  have leb : w.heap.size ≤ bb := Nat.le_trans HB0 pb.2
  have Pb := Lib.hid (show Two X bb 24 (.int .u64 0) (.int .u64 0) from pb.1)
  clear hb hX HB0 pa pb  k0 k1 k2 k3 u0 u1 u2 u3 
  simp only [ptr]
  go_wp2_with fail
  refine calls_named (fun Y => Two Y ba 24 (.int .u64 (vF (toE x0 x1).A)) (.int .u64 (vF (toE x0 x1).B)) ∧ Two Y bb 24 (.int .u64 (vF (toE x2 x3).A)) (.int .u64 (vF (toE x2 x3).B)) ∧ Below w.heap.size w Y) ⟨((((Pa.out).set0 _).set1 _).far _ nab).far _ nab, ((((Pb.out).far _ nba).far _ nba).set0 _).set1 _, ((((HB.out).setCell lea _).setCell lea _).setCell leb _).setCell leb _⟩ (fun W ⟨ta, tb, hB⟩ => ?_)
  clear za0 za1 fa0 fa1 Pa zb0 zb1 fb0 fb1 Pb  HB 
  have lta := ta.lt; have Ta := Lib.hid ta; have ltb := tb.lt; have Tb := Lib.hid tb; have HB := Lib.hid hB
  clear hB ta tb
  generalize toE x0 x1 = a at *
  generalize toE x2 x3 = b at *
  obtain ⟨er, her⟩ : ∃ er, einvE a = er := ⟨_, rfl⟩
  obtain ⟨z, hz⟩ : ∃ z, E2.inv a = z := ⟨_, rfl⟩
  have HE := Lib.hid her; have HZ := Lib.hid hz
  clear her hz
  ((with_reducible refine (extInv_er a z er _ HZ.out HE.out).mono ?_)); rintro e W44 ⟨rfl, hb⟩
  replace Ta := Lib.hid (Ta.out.keep hb); replace Tb := Lib.hid (Tb.out.keep hb); replace HB := Lib.hid (HB.out.trans (hb.mono HB.out.size)); clear hb
  have aa0 := cell_alloc Ta.out.c0; have aa1 := cell_alloc Ta.out.c1
  go_wp2_with fail
  clear aa0 aa1
  refine calls_named1 (fun W hb g hz => ?_)
  replace Ta := Lib.hid (Ta.out.keep hb); replace Tb := Lib.hid (Tb.out.keep hb); replace HB := Lib.hid (HB.out.trans (hb.mono HB.out.size)); have Ti := Lib.hid (show Two W W44.heap.size 24 (.int .u64 (vF (z).A)) (.int .u64 (vF (z).B)) from g); have lei := Nat.le_of_lt hz; clear hb g hz
  generalize W44.heap.size = bi at *
  ((with_reducible refine (rInvE_er a z er _ HZ.out HE.out).mono ?_)); rintro e W45 ⟨rfl, hb⟩
  replace Ta := Lib.hid (Ta.out.keep hb); replace Tb := Lib.hid (Tb.out.keep hb); replace Ti := Lib.hid (Ti.out.keep hb); replace HB := Lib.hid (HB.out.trans (hb.mono HB.out.size)); clear hb
  go_wp2_with fail
  refine wp_named1 (fun W hb g hz => ?_)
  replace Ta := Lib.hid (Ta.out.keep hb); replace Tb := Lib.hid (Tb.out.keep hb); replace Ti := Lib.hid (Ti.out.keep hb); replace HB := Lib.hid (HB.out.trans (hb.mono HB.out.size)); have Tj := Lib.hid (show Two W W45.heap.size 24 (.int .u64 (vF (z).A)) (.int .u64 (vF (z).B)) from g); have lej := Nat.le_of_lt hz; clear hb g hz
  generalize W45.heap.size = bj at *
  have la0 := Later.cell Ta.out.c0; have la1 := Later.cell Ta.out.c1; have lb0 := Later.cell Tb.out.c0; have lb1 := Later.cell Tb.out.c1; have li0 := Later.cell Ti.out.c0; have li1 := Later.cell Ti.out.c1; have lj0 := Later.cell Tj.out.c0; have lj1 := Later.cell Tj.out.c1
  simp only [List.append_eq, List.cons_append, List.nil_append]
  refine wp_later_lex (by kernel_rfl) (lexOK_of (by kernel_rfl) (by kernel_rfl)) ?_
  repeat (go_big_quiet_step (first
    | (go_at_call 17; with_reducible exact Calls.later (extAdd_any a b _))
    | (go_at_call 18; with_reducible exact Calls.later (rAdd_any a b _))
    | (go_at_call 19; with_reducible exact Calls.later (extSub_any a b _))
    | (go_at_call 20; with_reducible exact Calls.later (rSub_any a b _))
    | (go_at_call 21; with_reducible exact Calls.later (extNeg_any a _))
    | (go_at_call 22; with_reducible exact Calls.later (rNeg_any a _))
    | (go_at_call 23; with_reducible exact Calls.later (extMul_any a b _))
    | (go_at_call 24; with_reducible exact Calls.later (rMul_any a b _))
    | (go_at_call 25; with_reducible exact Calls.later (extMulBase_any a b.A _))
    | (go_at_call 26; with_reducible exact Calls.later (rMulBase_any a b.A _))
    | (go_at_call 27; with_reducible exact Calls.later (extConj_any a _))
    | (go_at_call 28; with_reducible exact Calls.later (rConj_any a _))
    | (go_at_call 29; with_reducible exact Calls.later (extPow_int a n _ _ HN.out.1 HN.out.2 rfl))
    | (go_at_call 30; with_reducible exact Calls.later (rPow_int a n _ HN.out.1 HN.out.2))
    | (go_at_call 31; with_reducible exact Calls.later (extIsZero_any a _))
    | (go_at_call 32; with_reducible exact Calls.later (rIsZero_any a _))
    | (go_at_call 33; with_reducible exact Calls.later (extFromBase_any (b.B) _))
    | (go_at_call 34; with_reducible exact Calls.later (rFromBase_any b.B _))
    | (go_at_call 35; with_reducible exact Calls.later (extFromInt_any k _ HK.out.1 (Int.lt_of_le_of_lt HK.out.2 (by decide))))
    | (go_at_call 36; with_reducible exact Calls.later (rFromInt_any k _ HK.out.1 (Int.lt_of_le_of_lt HK.out.2 (by decide))))))
  refine wpQuiet_nil ?_
  intro X
  have hb := X.below
  replace Ta := Lib.hid (Ta.out.keep hb); replace Tb := Lib.hid (Tb.out.keep hb); replace Ti := Lib.hid (Ti.out.keep hb); replace Tj := Lib.hid (Tj.out.keep hb); replace HB := Lib.hid (HB.out.trans (hb.mono HB.out.size))
  clear hb
  clear la0 la1 lb0 lb1 li0 li1 lj0 lj1
  go_wp2
  go_ret
  exact ⟨rfl, HB.out⟩

end Go.Proofs.Ytbjeicbphkglfaa
