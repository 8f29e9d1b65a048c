/- ExtPowers, the walk: laws of exponents, and the orders of the two groups. -/
import Derived.Test.YtbjeicbphkglfaaExtU
namespace Go.Proofs.Ytbjeicbphkglfaa
open Go.RowKit Gold

set_option maxHeartbeats 4000000 in
set_option maxRecDepth 100000 in
theorem powersz_any (x0 x1 : Int) (m n : Int) (w : World) (u0 : U64 x0) (u1 : U64 x1) (m0 : 0 ≤ m) (m1 : m < 4294967296) (n0 : 0 ≤ n) (n1 : n < 4294967296) (hx : toE x0 x1 = E2.zero) :
    Calls Try.prog 7 #[.agg #[.int .u64 x0, .int .u64 x1], .int .u32 m, .int .u32 n] w fun e w' => e = .returned (.bool true) ∧ Below w.heap.size w w' := by
  go_enter Try.func7, Try.ntmps7
  go_wp2_with fail
  refine calls_named1 (fun W hB g0 hz => ?_)
  refine (sanity_any _).mono ?_
  rintro e W1 ⟨rfl, hb⟩
  have HB := Lib.hid (hB.trans (hb.mono hB.size))
  have Ti := Lib.hid (show Two W1 w.heap.size 24 (.int .u64 x0) (.int .u64 x1) from heap_keep g0 hb)
  clear hB hb g0 hz
  have qi0 := Ti.out.c0; have qi1 := Ti.out.c1
  go_wp2_with fail
  clear qi0 qi1 Ti
  have HX := Lib.hid hx
  have wm : IntKind.u64.wrap m = m := by rw [IntKind.wrap_u64]; omega
  have wn : IntKind.u64.wrap n = n := by rw [IntKind.wrap_u64]; omega
  have ws : IntKind.u64.wrap (m + n) = m + n := by rw [IntKind.wrap_u64]; omega
  have hp := Lib.hid (prod32 ⟨m0, m1⟩ ⟨n0, n1⟩)
  have wp : IntKind.u64.wrap (m * n) = m * n := by rw [IntKind.wrap_u64]; have := hp.out; omega
  have M0 := Lib.hid (And.intro m0 m1); have N0 := Lib.hid (And.intro n0 n1)
  clear hx
  ((with_reducible refine (rMade_any x0 x1 _ u0 u1).mono ?_)); rintro e W16 ⟨rfl, hb⟩
  replace HB := Lib.hid (HB.out.trans (hb.mono HB.out.size)); clear hb
  go_wp2_with fail
  generalize toE x0 x1 = x at *
  refine wp_named1 (fun W hb g hz => ?_)
  replace HB := Lib.hid (HB.out.trans (hb.mono HB.out.size)); have Tx := Lib.hid (show Two W W16.heap.size 24 (.int .u64 (vF (x).A)) (.int .u64 (vF (x).B)) from g); have lex := Nat.le_of_lt hz; clear hb g hz
  generalize W16.heap.size = bx at *
  have ltx := Tx.out.lt
  have lx0 := Later.cell Tx.out.c0; have lx1 := Later.cell Tx.out.c1
  refine wp_decl (l2 := [_, _]) (l3 := [_, _]) (zs := [.cells #[.int .u64 0, .int .u64 0] 24, .cells #[.int .u64 0, .int .u64 0] 24]) 8 (by kernel_rfl) (lexOK_of (by kernel_rfl) (by kernel_rfl)) rfl (Nat.le_of_ble_eq_true rfl) (by simp) (by kernel_rfl) (by kernel_rfl) rfl
    (all_cons rfl (all_cons rfl all_nil)) (mk_same 24 _ run_allocE (all_cons rfl (all_cons rfl all_nil)) (all_cons rfl (all_cons rfl all_nil))) ?_
  simp only [List.take_succ_cons, List.take_zero]
  repeat (refine wpCalm_step (fun K hK => ?_); go_simp; first
    | (refine hK _ ?_; clear hK K)
    | (apply Exists.intro
       refine ⟨fun _ => ?_, hK _ ?_⟩
       · first
         | (go_at_call 29; with_reducible exact Calls.calm (extPow_int x m _ _ M0.out.1 (Int.lt_trans M0.out.2 (by decide)) rfl))
         | (go_at_call 29; with_reducible exact Calls.calm (extPow_int x n _ _ N0.out.1 (Int.lt_trans N0.out.2 (by decide)) rfl))
       clear hK K))
  refine wpCalm_nil ?_
  refine fun bp bq X hX => ?_
  have pp := hX.get 8 bp _ rfl rfl
  have pq := hX.get 9 bq _ rfl rfl
  have npq := hX.ne 8 9 bp bq (by omega) rfl rfl
  have nqp := hX.ne 9 8 bq bp (by omega) rfl rfl
  have hb := hX.below
  replace Tx := Lib.hid (Tx.out.keep hb)
  have nxp : bx ≠ bp := Nat.ne_of_lt (Nat.lt_of_lt_of_le ltx pp.2)
  have nxq : bx ≠ bq := Nat.ne_of_lt (Nat.lt_of_lt_of_le ltx pq.2)
  have HB0 := HB.out.size
  replace HB := Lib.hid (HB.out.trans (hb.mono HB.out.size))
  have zp0 := Two.c0 pp.1; have zp1 := Two.c1 pp.1; have fp0 := Two.f0 pp.1; have fp1 := Two.f1 pp.1
  have lep : w.heap.size ≤ bp := Nat.le_trans HB0 pp.2
  have Pp := Lib.hid (show Two X bp 24 (.int .u64 0) (.int .u64 0) from pp.1)
  have zq0 := Two.c0 pq.1; have zq1 := Two.c1 pq.1; have fq0 := Two.f0 pq.1; have fq1 := Two.f1 pq.1
  have leq : w.heap.size ≤ bq := Nat.le_trans HB0 pq.2
  have Pq := Lib.hid (show Two X bq 24 (.int .u64 0) (.int .u64 0) from pq.1)
  have ltx' : bx < X.heap.size := Tx.out.lt
  clear hb hX HB0 pp pq ltx 
  clear lx0 lx1
  simp only [ptr]
  go_wp2_with fail
  refine wp_named (fun Y => Two Y bx 24 (.int .u64 (vF (x).A)) (.int .u64 (vF (x).B)) ∧ Two Y bp 24 (.int .u64 (vF (E2.pow x m.toNat).A)) (.int .u64 (vF (E2.pow x m.toNat).B)) ∧ Two Y bq 24 (.int .u64 (vF (E2.pow x n.toNat).A)) (.int .u64 (vF (E2.pow x n.toNat).B)) ∧ Below w.heap.size w Y) ⟨((((Tx.out).far _ nxp).far _ nxp).far _ nxq).far _ nxq, ((((Pp.out).set0 _).set1 _).far _ npq).far _ npq, ((((Pq.out).far _ nqp).far _ nqp).set0 _).set1 _, ((((HB.out).setCell lep _).setCell lep _).setCell leq _).setCell leq _⟩ (fun W ⟨tx, tp, tq, hB⟩ => ?_)
  clear zp0 zp1 fp0 fp1 Pp zq0 zq1 fq0 fq1 Pq Tx HB ltx'
  have ltx := tx.lt; have Tx := Lib.hid tx; have ltp := tp.lt; have Tp := Lib.hid tp; have ltq := tq.lt; have Tq := Lib.hid tq; have HB := Lib.hid hB
  clear hB tx tp tq
  have lx0 := Later.cell Tx.out.c0; have lx1 := Later.cell Tx.out.c1; have lp0 := Later.cell Tp.out.c0; have lp1 := Later.cell Tp.out.c1; have lq0 := Later.cell Tq.out.c0; have lq1 := Later.cell Tq.out.c1

  refine wp_later_lex (by kernel_rfl) (lexOK_of (by kernel_rfl) (by kernel_rfl)) ?_
  repeat (go_big_quiet_step (first
    | (go_at_call 23; with_reducible exact Calls.later (extMul_as (E2.pow x m.toNat) (E2.pow x n.toNat) (E2.pow x (m + n).toNat) _ (by rw [Int.toNat_add M0.out.1 N0.out.1, E2.pow_add])))
    | (go_at_call 29; with_reducible exact Calls.later (extPow_int x (m + n) _ _ (Int.add_nonneg M0.out.1 N0.out.1) (by have := M0.out.2; have := N0.out.2; omega) rfl))
    | (go_at_call 29; with_reducible exact Calls.later (extPow_int (E2.pow x m.toNat) n (E2.pow x (m * n).toNat) _ N0.out.1 (Int.lt_trans N0.out.2 (by decide)) (by rw [Int.toNat_mul M0.out.1 N0.out.1, E2.pow_mul])))
    | (go_at_call 29; with_reducible exact Calls.later (extPow_int x (m * n) _ _ hp.out.1 hp.out.2 rfl))
    | (go_at_call 29; with_reducible exact Calls.later (extPow_at x 1 1 x _ rfl (by omega) (E2.pow_one x)))
    | (go_at_call 29; with_reducible exact Calls.later (extPow_unit x 0 0 _ rfl (by omega) (E2.pow_zero x)))
    | (go_at_call 37; with_reducible exact Calls.later (of_any _ _ _))))
  refine wpQuiet_nil ?_
  intro X
  have hb := X.below
  replace Tx := Lib.hid (Tx.out.keep hb); replace Tp := Lib.hid (Tp.out.keep hb); replace Tq := Lib.hid (Tq.out.keep hb); replace HB := Lib.hid (HB.out.trans (hb.mono HB.out.size))
  clear hb
  clear lx0 lx1 lp0 lp1 lq0 lq1
  have qx0 := Tx.out.c0; have qx1 := Tx.out.c1
  go_wp2_with fail
  clear qx0 qx1
  have fz : ezero x = true := (ezero_iff x).2 HX.out
  ((with_reducible refine (extIsZero_any x _).mono ?_)); rintro e W17 ⟨rfl, hb⟩
  replace Tx := Lib.hid (Tx.out.keep hb); replace Tp := Lib.hid (Tp.out.keep hb); replace Tq := Lib.hid (Tq.out.keep hb); replace HB := Lib.hid (HB.out.trans (hb.mono HB.out.size)); clear hb
  go_wp2_with fail
  go_ret
  exact ⟨rfl, HB.out⟩

set_option maxHeartbeats 4000000 in
set_option maxRecDepth 100000 in
theorem powersa_any (x0 x1 : Int) (m n : Int) (w : World) (u0 : U64 x0) (u1 : U64 x1) (m0 : 0 ≤ m) (m1 : m < 4294967296) (n0 : 0 ≤ n) (n1 : n < 4294967296) (hx : toE x0 x1 ≠ E2.zero ∧ (toE x0 x1).A = 0) :
    Calls Try.prog 7 #[.agg #[.int .u64 x0, .int .u64 x1], .int .u32 m, .int .u32 n] w fun e w' => e = .returned (.bool true) ∧ Below w.heap.size w w' := by
  go_enter Try.func7, Try.ntmps7
  go_wp2_with fail
  refine calls_named1 (fun W hB g0 hz => ?_)
  refine (sanity_any _).mono ?_
  rintro e W1 ⟨rfl, hb⟩
  have HB := Lib.hid (hB.trans (hb.mono hB.size))
  have Ti := Lib.hid (show Two W1 w.heap.size 24 (.int .u64 x0) (.int .u64 x1) from heap_keep g0 hb)
  clear hB hb g0 hz
  have qi0 := Ti.out.c0; have qi1 := Ti.out.c1
  go_wp2_with fail
  clear qi0 qi1 Ti
  have HX := Lib.hid hx
  have wm : IntKind.u64.wrap m = m := by rw [IntKind.wrap_u64]; omega
  have wn : IntKind.u64.wrap n = n := by rw [IntKind.wrap_u64]; omega
  have ws : IntKind.u64.wrap (m + n) = m + n := by rw [IntKind.wrap_u64]; omega
  have hp := Lib.hid (prod32 ⟨m0, m1⟩ ⟨n0, n1⟩)
  have wp : IntKind.u64.wrap (m * n) = m * n := by rw [IntKind.wrap_u64]; have := hp.out; omega
  have M0 := Lib.hid (And.intro m0 m1); have N0 := Lib.hid (And.intro n0 n1)
  clear hx
  ((with_reducible refine (rMade_any x0 x1 _ u0 u1).mono ?_)); rintro e W18 ⟨rfl, hb⟩
  replace HB := Lib.hid (HB.out.trans (hb.mono HB.out.size)); clear hb
  go_wp2_with fail
  generalize toE x0 x1 = x at *
  refine wp_named1 (fun W hb g hz => ?_)
  replace HB := Lib.hid (HB.out.trans (hb.mono HB.out.size)); have Tx := Lib.hid (show Two W W18.heap.size 24 (.int .u64 (vF (x).A)) (.int .u64 (vF (x).B)) from g); have lex := Nat.le_of_lt hz; clear hb g hz
  generalize W18.heap.size = bx at *
  have ltx := Tx.out.lt
  have lx0 := Later.cell Tx.out.c0; have lx1 := Later.cell Tx.out.c1
  refine wp_decl (l2 := [_, _]) (l3 := [_, _]) (zs := [.cells #[.int .u64 0, .int .u64 0] 24, .cells #[.int .u64 0, .int .u64 0] 24]) 8 (by kernel_rfl) (lexOK_of (by kernel_rfl) (by kernel_rfl)) rfl (Nat.le_of_ble_eq_true rfl) (by simp) (by kernel_rfl) (by kernel_rfl) rfl
    (all_cons rfl (all_cons rfl all_nil)) (mk_same 24 _ run_allocE (all_cons rfl (all_cons rfl all_nil)) (all_cons rfl (all_cons rfl all_nil))) ?_
  simp only [List.take_succ_cons, List.take_zero]
  repeat (refine wpCalm_step (fun K hK => ?_); go_simp; first
    | (refine hK _ ?_; clear hK K)
    | (apply Exists.intro
       refine ⟨fun _ => ?_, hK _ ?_⟩
       · first
         | (go_at_call 29; with_reducible exact Calls.calm (extPow_int x m _ _ M0.out.1 (Int.lt_trans M0.out.2 (by decide)) rfl))
         | (go_at_call 29; with_reducible exact Calls.calm (extPow_int x n _ _ N0.out.1 (Int.lt_trans N0.out.2 (by decide)) rfl))
       clear hK K))
  refine wpCalm_nil ?_
  refine fun bp bq X hX => ?_
  have pp := hX.get 8 bp _ rfl rfl
  have pq := hX.get 9 bq _ rfl rfl
  have npq := hX.ne 8 9 bp bq (by omega) rfl rfl
  have nqp := hX.ne 9 8 bq bp (by omega) rfl rfl
  have hb := hX.below
  replace Tx := Lib.hid (Tx.out.keep hb)
  have nxp : bx ≠ bp := Nat.ne_of_lt (Nat.lt_of_lt_of_le ltx pp.2)
  have nxq : bx ≠ bq := Nat.ne_of_lt (Nat.lt_of_lt_of_le ltx pq.2)
  have HB0 := HB.out.size
  replace HB := Lib.hid (HB.out.trans (hb.mono HB.out.size))
  have zp0 := Two.c0 pp.1; have zp1 := Two.c1 pp.1; have fp0 := Two.f0 pp.1; have fp1 := Two.f1 pp.1
  have lep : w.heap.size ≤ bp := Nat.le_trans HB0 pp.2
  have Pp := Lib.hid (show Two X bp 24 (.int .u64 0) (.int .u64 0) from pp.1)
  have zq0 := Two.c0 pq.1; have zq1 := Two.c1 pq.1; have fq0 := Two.f0 pq.1; have fq1 := Two.f1 pq.1
  have leq : w.heap.size ≤ bq := Nat.le_trans HB0 pq.2
  have Pq := Lib.hid (show Two X bq 24 (.int .u64 0) (.int .u64 0) from pq.1)
  have ltx' : bx < X.heap.size := Tx.out.lt
  clear hb hX HB0 pp pq ltx 
  clear lx0 lx1
  simp only [ptr]
  go_wp2_with fail
  refine wp_named (fun Y => Two Y bx 24 (.int .u64 (vF (x).A)) (.int .u64 (vF (x).B)) ∧ Two Y bp 24 (.int .u64 (vF (E2.pow x m.toNat).A)) (.int .u64 (vF (E2.pow x m.toNat).B)) ∧ Two Y bq 24 (.int .u64 (vF (E2.pow x n.toNat).A)) (.int .u64 (vF (E2.pow x n.toNat).B)) ∧ Below w.heap.size w Y) ⟨((((Tx.out).far _ nxp).far _ nxp).far _ nxq).far _ nxq, ((((Pp.out).set0 _).set1 _).far _ npq).far _ npq, ((((Pq.out).far _ nqp).far _ nqp).set0 _).set1 _, ((((HB.out).setCell lep _).setCell lep _).setCell leq _).setCell leq _⟩ (fun W ⟨tx, tp, tq, hB⟩ => ?_)
  clear zp0 zp1 fp0 fp1 Pp zq0 zq1 fq0 fq1 Pq Tx HB ltx'
  have ltx := tx.lt; have Tx := Lib.hid tx; have ltp := tp.lt; have Tp := Lib.hid tp; have ltq := tq.lt; have Tq := Lib.hid tq; have HB := Lib.hid hB
  clear hB tx tp tq
  have lx0 := Later.cell Tx.out.c0; have lx1 := Later.cell Tx.out.c1; have lp0 := Later.cell Tp.out.c0; have lp1 := Later.cell Tp.out.c1; have lq0 := Later.cell Tq.out.c0; have lq1 := Later.cell Tq.out.c1

  refine wp_later_lex (by kernel_rfl) (lexOK_of (by kernel_rfl) (by kernel_rfl)) ?_
  repeat (go_big_quiet_step (first
    | (go_at_call 23; with_reducible exact Calls.later (extMul_as (E2.pow x m.toNat) (E2.pow x n.toNat) (E2.pow x (m + n).toNat) _ (by rw [Int.toNat_add M0.out.1 N0.out.1, E2.pow_add])))
    | (go_at_call 29; with_reducible exact Calls.later (extPow_int x (m + n) _ _ (Int.add_nonneg M0.out.1 N0.out.1) (by have := M0.out.2; have := N0.out.2; omega) rfl))
    | (go_at_call 29; with_reducible exact Calls.later (extPow_int (E2.pow x m.toNat) n (E2.pow x (m * n).toNat) _ N0.out.1 (Int.lt_trans N0.out.2 (by decide)) (by rw [Int.toNat_mul M0.out.1 N0.out.1, E2.pow_mul])))
    | (go_at_call 29; with_reducible exact Calls.later (extPow_int x (m * n) _ _ hp.out.1 hp.out.2 rfl))
    | (go_at_call 29; with_reducible exact Calls.later (extPow_at x 1 1 x _ rfl (by omega) (E2.pow_one x)))
    | (go_at_call 29; with_reducible exact Calls.later (extPow_unit x 0 0 _ rfl (by omega) (E2.pow_zero x)))
    | (go_at_call 37; with_reducible exact Calls.later (of_any _ _ _))))
  refine wpQuiet_nil ?_
  intro X
  have hb := X.below
  replace Tx := Lib.hid (Tx.out.keep hb); replace Tp := Lib.hid (Tp.out.keep hb); replace Tq := Lib.hid (Tq.out.keep hb); replace HB := Lib.hid (HB.out.trans (hb.mono HB.out.size))
  clear hb
  clear lx0 lx1 lp0 lp1 lq0 lq1
  have qx0 := Tx.out.c0; have qx1 := Tx.out.c1
  go_wp2_with fail
  clear qx0 qx1
  have fz : ezero x = false := ezero_not HX.out.1
  have fA : (vF x.A == 0) = true := by rw [HX.out.2]; rfl
  ((with_reducible refine (extIsZero_any x _).mono ?_)); rintro e W19 ⟨rfl, hb⟩
  replace Tx := Lib.hid (Tx.out.keep hb); replace Tp := Lib.hid (Tp.out.keep hb); replace Tq := Lib.hid (Tq.out.keep hb); replace HB := Lib.hid (HB.out.trans (hb.mono HB.out.size)); clear hb
  have qx0 := Tx.out.c0; have qx1 := Tx.out.c1
  go_wp2_with fail
  clear qx0 qx1
  have lx0 := Later.cell Tx.out.c0; have lx1 := Later.cell Tx.out.c1

  refine wp_later_lex (by kernel_rfl) (lexOK_of (by kernel_rfl) (by kernel_rfl)) ?_
  repeat (go_big_quiet_step (first
    | (go_at_call 38; with_reducible exact Calls.later_same (prime_any _))
    | (go_at_call 29; with_reducible exact Calls.later (extPow_at x 18446744069414584320 18446744069414584320 _ _ rfl (by omega) rfl))
    | (go_at_call 29; with_reducible exact Calls.later (extPow_unit (E2.pow x 18446744069414584320) 18446744069414584322 18446744069414584322 _ rfl (by omega) (E2.order x HX.out.1 rfl rfl)))
    | (go_at_call 37; with_reducible exact Calls.later (of_any _ _ _))))
  refine wpQuiet_nil ?_
  intro X
  have hb := X.below
  replace Tx := Lib.hid (Tx.out.keep hb); replace Tp := Lib.hid (Tp.out.keep hb); replace Tq := Lib.hid (Tq.out.keep hb); replace HB := Lib.hid (HB.out.trans (hb.mono HB.out.size))
  clear hb
  clear lx0 lx1
  go_wp2
  go_ret
  exact ⟨rfl, HB.out⟩

set_option maxHeartbeats 4000000 in
set_option maxRecDepth 100000 in
theorem powersn_any (x0 x1 : Int) (m n : Int) (w : World) (u0 : U64 x0) (u1 : U64 x1) (m0 : 0 ≤ m) (m1 : m < 4294967296) (n0 : 0 ≤ n) (n1 : n < 4294967296) (hx : toE x0 x1 ≠ E2.zero ∧ (toE x0 x1).A ≠ 0) :
    Calls Try.prog 7 #[.agg #[.int .u64 x0, .int .u64 x1], .int .u32 m, .int .u32 n] w fun e w' => e = .returned (.bool true) ∧ Below w.heap.size w w' := by
  go_enter Try.func7, Try.ntmps7
  go_wp2_with fail
  refine calls_named1 (fun W hB g0 hz => ?_)
  refine (sanity_any _).mono ?_
  rintro e W1 ⟨rfl, hb⟩
  have HB := Lib.hid (hB.trans (hb.mono hB.size))
  have Ti := Lib.hid (show Two W1 w.heap.size 24 (.int .u64 x0) (.int .u64 x1) from heap_keep g0 hb)
  clear hB hb g0 hz
  have qi0 := Ti.out.c0; have qi1 := Ti.out.c1
  go_wp2_with fail
  clear qi0 qi1 Ti
  have HX := Lib.hid hx
  have wm : IntKind.u64.wrap m = m := by rw [IntKind.wrap_u64]; omega
  have wn : IntKind.u64.wrap n = n := by rw [IntKind.wrap_u64]; omega
  have ws : IntKind.u64.wrap (m + n) = m + n := by rw [IntKind.wrap_u64]; omega
  have hp := Lib.hid (prod32 ⟨m0, m1⟩ ⟨n0, n1⟩)
  have wp : IntKind.u64.wrap (m * n) = m * n := by rw [IntKind.wrap_u64]; have := hp.out; omega
  have M0 := Lib.hid (And.intro m0 m1); have N0 := Lib.hid (And.intro n0 n1)
  clear hx
  ((with_reducible refine (rMade_any x0 x1 _ u0 u1).mono ?_)); rintro e W20 ⟨rfl, hb⟩
  replace HB := Lib.hid (HB.out.trans (hb.mono HB.out.size)); clear hb
  go_wp2_with fail
  generalize toE x0 x1 = x at *
  refine wp_named1 (fun W hb g hz => ?_)
  replace HB := Lib.hid (HB.out.trans (hb.mono HB.out.size)); have Tx := Lib.hid (show Two W W20.heap.size 24 (.int .u64 (vF (x).A)) (.int .u64 (vF (x).B)) from g); have lex := Nat.le_of_lt hz; clear hb g hz
  generalize W20.heap.size = bx at *
  have ltx := Tx.out.lt
  have lx0 := Later.cell Tx.out.c0; have lx1 := Later.cell Tx.out.c1
  refine wp_decl (l2 := [_, _]) (l3 := [_, _]) (zs := [.cells #[.int .u64 0, .int .u64 0] 24, .cells #[.int .u64 0, .int .u64 0] 24]) 8 (by kernel_rfl) (lexOK_of (by kernel_rfl) (by kernel_rfl)) rfl (Nat.le_of_ble_eq_true rfl) (by simp) (by kernel_rfl) (by kernel_rfl) rfl
    (all_cons rfl (all_cons rfl all_nil)) (mk_same 24 _ run_allocE (all_cons rfl (all_cons rfl all_nil)) (all_cons rfl (all_cons rfl all_nil))) ?_
  simp only [List.take_succ_cons, List.take_zero]
  repeat (refine wpCalm_step (fun K hK => ?_); go_simp; first
    | (refine hK _ ?_; clear hK K)
    | (apply Exists.intro
       refine ⟨fun _ => ?_, hK _ ?_⟩
       · first
         | (go_at_call 29; with_reducible exact Calls.calm (extPow_int x m _ _ M0.out.1 (Int.lt_trans M0.out.2 (by decide)) rfl))
         | (go_at_call 29; with_reducible exact Calls.calm (extPow_int x n _ _ N0.out.1 (Int.lt_trans N0.out.2 (by decide)) rfl))
       clear hK K))
  refine wpCalm_nil ?_
  refine fun bp bq X hX => ?_
  have pp := hX.get 8 bp _ rfl rfl
  have pq := hX.get 9 bq _ rfl rfl
  have npq := hX.ne 8 9 bp bq (by omega) rfl rfl
  have nqp := hX.ne 9 8 bq bp (by omega) rfl rfl
  have hb := hX.below
  replace Tx := Lib.hid (Tx.out.keep hb)
  have nxp : bx ≠ bp := Nat.ne_of_lt (Nat.lt_of_lt_of_le ltx pp.2)
  have nxq : bx ≠ bq := Nat.ne_of_lt (Nat.lt_of_lt_of_le ltx pq.2)
  have HB0 := HB.out.size
  replace HB := Lib.hid (HB.out.trans (hb.mono HB.out.size))
  have zp0 := Two.c0 pp.1; have zp1 := Two.c1 pp.1; have fp0 := Two.f0 pp.1; have fp1 := Two.f1 pp.1
  have lep : w.heap.size ≤ bp := Nat.le_trans HB0 pp.2
  have Pp := Lib.hid (show Two X bp 24 (.int .u64 0) (.int .u64 0) from pp.1)
  have zq0 := Two.c0 pq.1; have zq1 := Two.c1 pq.1; have fq0 := Two.f0 pq.1; have fq1 := Two.f1 pq.1
  have leq : w.heap.size ≤ bq := Nat.le_trans HB0 pq.2
  have Pq := Lib.hid (show Two X bq 24 (.int .u64 0) (.int .u64 0) from pq.1)
  have ltx' : bx < X.heap.size := Tx.out.lt
  clear hb hX HB0 pp pq ltx 
  clear lx0 lx1
  simp only [ptr]
  go_wp2_with fail
  refine wp_named (fun Y => Two Y bx 24 (.int .u64 (vF (x).A)) (.int .u64 (vF (x).B)) ∧ Two Y bp 24 (.int .u64 (vF (E2.pow x m.toNat).A)) (.int .u64 (vF (E2.pow x m.toNat).B)) ∧ Two Y bq 24 (.int .u64 (vF (E2.pow x n.toNat).A)) (.int .u64 (vF (E2.pow x n.toNat).B)) ∧ Below w.heap.size w Y) ⟨((((Tx.out).far _ nxp).far _ nxp).far _ nxq).far _ nxq, ((((Pp.out).set0 _).set1 _).far _ npq).far _ npq, ((((Pq.out).far _ nqp).far _ nqp).set0 _).set1 _, ((((HB.out).setCell lep _).setCell lep _).setCell leq _).setCell leq _⟩ (fun W ⟨tx, tp, tq, hB⟩ => ?_)
  clear zp0 zp1 fp0 fp1 Pp zq0 zq1 fq0 fq1 Pq Tx HB ltx'
  have ltx := tx.lt; have Tx := Lib.hid tx; have ltp := tp.lt; have Tp := Lib.hid tp; have ltq := tq.lt; have Tq := Lib.hid tq; have HB := Lib.hid hB
  clear hB tx tp tq
  have lx0 := Later.cell Tx.out.c0; have lx1 := Later.cell Tx.out.c1; have lp0 := Later.cell Tp.out.c0; have lp1 := Later.cell Tp.out.c1; have lq0 := Later.cell Tq.out.c0; have lq1 := Later.cell Tq.out.c1

  refine wp_later_lex (by kernel_rfl) (lexOK_of (by kernel_rfl) (by kernel_rfl)) ?_
  repeat (go_big_quiet_step (first
    | (go_at_call 23; with_reducible exact Calls.later (extMul_as (E2.pow x m.toNat) (E2.pow x n.toNat) (E2.pow x (m + n).toNat) _ (by rw [Int.toNat_add M0.out.1 N0.out.1, E2.pow_add])))
    | (go_at_call 29; with_reducible exact Calls.later (extPow_int x (m + n) _ _ (Int.add_nonneg M0.out.1 N0.out.1) (by have := M0.out.2; have := N0.out.2; omega) rfl))
    | (go_at_call 29; with_reducible exact Calls.later (extPow_int (E2.pow x m.toNat) n (E2.pow x (m * n).toNat) _ N0.out.1 (Int.lt_trans N0.out.2 (by decide)) (by rw [Int.toNat_mul M0.out.1 N0.out.1, E2.pow_mul])))
    | (go_at_call 29; with_reducible exact Calls.later (extPow_int x (m * n) _ _ hp.out.1 hp.out.2 rfl))
    | (go_at_call 29; with_reducible exact Calls.later (extPow_at x 1 1 x _ rfl (by omega) (E2.pow_one x)))
    | (go_at_call 29; with_reducible exact Calls.later (extPow_unit x 0 0 _ rfl (by omega) (E2.pow_zero x)))
    | (go_at_call 37; with_reducible exact Calls.later (of_any _ _ _))))
  refine wpQuiet_nil ?_
  intro X
  have hb := X.below
  replace Tx := Lib.hid (Tx.out.keep hb); replace Tp := Lib.hid (Tp.out.keep hb); replace Tq := Lib.hid (Tq.out.keep hb); replace HB := Lib.hid (HB.out.trans (hb.mono HB.out.size))
  clear hb
  clear lx0 lx1 lp0 lp1 lq0 lq1
  have qx0 := Tx.out.c0; have qx1 := Tx.out.c1
  go_wp2_with fail
  clear qx0 qx1
  have fz : ezero x = false := ezero_not HX.out.1
  have fA : (vF x.A == 0) = false := beq_not (vF_ne_zero HX.out.2)
  ((with_reducible refine (extIsZero_any x _).mono ?_)); rintro e W21 ⟨rfl, hb⟩
  replace Tx := Lib.hid (Tx.out.keep hb); replace Tp := Lib.hid (Tp.out.keep hb); replace Tq := Lib.hid (Tq.out.keep hb); replace HB := Lib.hid (HB.out.trans (hb.mono HB.out.size)); clear hb
  have qx0 := Tx.out.c0; have qx1 := Tx.out.c1
  go_wp2_with fail
  clear qx0 qx1
  ((with_reducible refine (of_any (vF x.A) 0 _).mono ?_)); rintro e W22 ⟨rfl, hb⟩
  replace Tx := Lib.hid (Tx.out.keep hb); replace Tp := Lib.hid (Tp.out.keep hb); replace Tq := Lib.hid (Tq.out.keep hb); replace HB := Lib.hid (HB.out.trans (hb.mono HB.out.size)); clear hb
  go_wp2_with fail
  ((with_reducible refine (Calls.calm_same (prime_any _)).mono ?_)); rintro e W23 ⟨rfl, hb⟩
  replace Tx := Lib.hid (Tx.out.keep hb); replace Tp := Lib.hid (Tp.out.keep hb); replace Tq := Lib.hid (Tq.out.keep hb); replace HB := Lib.hid (HB.out.trans (hb.mono HB.out.size)); clear hb
  go_wp2_with fail
  ((with_reducible refine (extPow_base x.A _ HX.out.2).mono ?_)); rintro e W24 ⟨rfl, hb⟩
  replace Tx := Lib.hid (Tx.out.keep hb); replace Tp := Lib.hid (Tp.out.keep hb); replace Tq := Lib.hid (Tq.out.keep hb); replace HB := Lib.hid (HB.out.trans (hb.mono HB.out.size)); clear hb
  go_wp2_with fail
  ((with_reducible refine (of_any 1 0 _).mono ?_)); rintro e W25 ⟨rfl, hb⟩
  replace Tx := Lib.hid (Tx.out.keep hb); replace Tp := Lib.hid (Tp.out.keep hb); replace Tq := Lib.hid (Tq.out.keep hb); replace HB := Lib.hid (HB.out.trans (hb.mono HB.out.size)); clear hb
  go_wp2_with fail
  have lx0 := Later.cell Tx.out.c0; have lx1 := Later.cell Tx.out.c1

  refine wp_later_lex (by kernel_rfl) (lexOK_of (by kernel_rfl) (by kernel_rfl)) ?_
  repeat (go_big_quiet_step (first
    | (go_at_call 38; with_reducible exact Calls.later_same (prime_any _))
    | (go_at_call 29; with_reducible exact Calls.later (extPow_at x 18446744069414584320 18446744069414584320 _ _ rfl (by omega) rfl))
    | (go_at_call 29; with_reducible exact Calls.later (extPow_unit (E2.pow x 18446744069414584320) 18446744069414584322 18446744069414584322 _ rfl (by omega) (E2.order x HX.out.1 rfl rfl)))
    | (go_at_call 37; with_reducible exact Calls.later (of_any _ _ _))))
  refine wpQuiet_nil ?_
  intro X
  have hb := X.below
  replace Tx := Lib.hid (Tx.out.keep hb); replace Tp := Lib.hid (Tp.out.keep hb); replace Tq := Lib.hid (Tq.out.keep hb); replace HB := Lib.hid (HB.out.trans (hb.mono HB.out.size))
  clear hb
  clear lx0 lx1
  go_wp2
  go_ret
  exact ⟨rfl, HB.out⟩


theorem powers_any (x0 x1 m n : Int) (w : World) (u0 : U64 x0) (u1 : U64 x1) (hm : 0 ≤ m ∧ m ≤ 4294967295) (hn : 0 ≤ n ∧ n ≤ 4294967295) :
    Calls Try.prog 7 #[.agg #[.int .u64 x0, .int .u64 x1], .int .u32 m, .int .u32 n] w fun e w' => e = .returned (.bool true) ∧ Below w.heap.size w w' := by
  by_cases h : toE x0 x1 = E2.zero
  · exact powersz_any x0 x1 m n w u0 u1 hm.1 (by omega) hn.1 (by omega) h
  · by_cases hA : (toE x0 x1).A = 0
    · exact powersa_any x0 x1 m n w u0 u1 hm.1 (by omega) hn.1 (by omega) ⟨h, hA⟩
    · exact powersn_any x0 x1 m n w u0 u1 hm.1 (by omega) hn.1 (by omega) ⟨h, hA⟩

end Go.Proofs.Ytbjeicbphkglfaa
