/- ExtComponents, the walk: every element is the sum of its components. -/
import Derived.Test.YtbjeicbphkglfaaExtU
namespace Go.Proofs.Ytbjeicbphkglfaa
open Go.RowKit Gold

set_option maxHeartbeats 4000000 in
set_option maxRecDepth 100000 in
theorem components_any (x0 x1 : Int) (w : World) (u0 : U64 x0) (u1 : U64 x1) :
    Calls Try.prog 10 #[.agg #[.int .u64 x0, .int .u64 x1]] w fun e w' => e = .returned (.bool true) ∧ Below w.heap.size w w' := by
  go_enter Try.func10, Try.ntmps10
  go_wp2_with fail
  refine calls_named1 (fun W hB g0 hz => ?_)
  refine (sanity_any _).mono ?_
  rintro e W1 ⟨rfl, hb⟩
  have HB := Lib.hid (hB.trans (hb.mono hB.size))
  have Ti := Lib.hid (show Two W1 w.heap.size 24 (.int .u64 x0) (.int .u64 x1) from heap_keep g0 hb)
  clear hB hb g0 hz
  have qi0 := Ti.out.c0; have qi1 := Ti.out.c1
  go_wp2_with fail
  clear qi0 qi1 Ti
  ((with_reducible refine (rMade_any x0 x1 _ u0 u1).mono ?_)); rintro e W1 ⟨rfl, hb⟩
  replace HB := Lib.hid (HB.out.trans (hb.mono HB.out.size)); clear hb
  go_wp2_with fail
  generalize toE x0 x1 = x at *
  refine calls_named1 (fun W hb g hz => ?_)
  replace HB := Lib.hid (HB.out.trans (hb.mono HB.out.size)); have Tx := Lib.hid (show Two W W1.heap.size 24 (.int .u64 (vF (x).A)) (.int .u64 (vF (x).B)) from g); have lex := Nat.le_of_lt hz; clear hb g hz
  generalize W1.heap.size = bx at *
  ((with_reducible refine (of_any 0 1 _).mono ?_)); rintro e W2 ⟨rfl, hb⟩
  replace Tx := Lib.hid (Tx.out.keep hb); replace HB := Lib.hid (HB.out.trans (hb.mono HB.out.size)); clear hb
  have ax0 := cell_alloc Tx.out.c0; have ax1 := cell_alloc Tx.out.c1
  go_wp2_with fail
  clear ax0 ax1
  refine calls_named1 (fun W hb g hz => ?_)
  replace Tx := Lib.hid (Tx.out.keep hb); replace HB := Lib.hid (HB.out.trans (hb.mono HB.out.size)); have Tr := Lib.hid (show Two W W2.heap.size 24 (.int .u64 0) (.int .u64 1) from g); have ler := Nat.le_of_lt hz; clear hb g hz
  generalize W2.heap.size = br at *
  ((with_reducible refine (extMul_X x _).mono ?_)); rintro e W3 ⟨rfl, hb⟩
  replace Tx := Lib.hid (Tx.out.keep hb); replace Tr := Lib.hid (Tr.out.keep hb); replace HB := Lib.hid (HB.out.trans (hb.mono HB.out.size)); clear hb
  go_wp2_with fail
  refine wp_named1 (fun W hb g hz => ?_)
  replace Tx := Lib.hid (Tx.out.keep hb); replace Tr := Lib.hid (Tr.out.keep hb); replace HB := Lib.hid (HB.out.trans (hb.mono HB.out.size)); have Ts := Lib.hid (show Two W W3.heap.size 24 (.int .u64 (vF (7 * x.B))) (.int .u64 (vF x.A)) from g); have les := Nat.le_of_lt hz; clear hb g hz
  generalize W3.heap.size = bs at *
  have lx0 := Later.cell Tx.out.c0; have lx1 := Later.cell Tx.out.c1; have lr0 := Later.cell Tr.out.c0; have lr1 := Later.cell Tr.out.c1; have ls0 := Later.cell Ts.out.c0; have ls1 := Later.cell Ts.out.c1

  refine wp_later_lex (by kernel_rfl) (lexOK_of (by kernel_rfl) (by kernel_rfl)) ?_
  repeat (go_big_quiet_step (first
    | (go_at_call 33; with_reducible exact Calls.later (extFromBase_any x.A _))
    | (go_at_call 25; with_reducible exact Calls.later (extMulBase_X x.B _))
    | (go_at_call 17; with_reducible exact Calls.later (extAdd_parts x _))
    | (go_at_call 42; with_reducible exact Calls.later_same (mul7F x.B _))
    | (go_at_call 37; with_reducible exact Calls.later (of_any _ _ _))
    | (go_at_call 23; with_reducible exact Calls.later (extMul_XX x _))
    | (go_at_call 25; with_reducible exact Calls.later (extMulBase_7 x _))))
  refine wpQuiet_nil ?_
  intro X
  have hb := X.below
  replace Tx := Lib.hid (Tx.out.keep hb); replace Tr := Lib.hid (Tr.out.keep hb); replace Ts := Lib.hid (Ts.out.keep hb); replace HB := Lib.hid (HB.out.trans (hb.mono HB.out.size))
  clear hb
  clear lx0 lx1 lr0 lr1 ls0 ls1
  go_wp2
  go_ret
  exact ⟨rfl, HB.out⟩

end Go.Proofs.Ytbjeicbphkglfaa
