/- ExtBaseField, the walk: the base field is embedded. -/
import Derived.Test.YtbjeicbphkglfaaExtU
namespace Go.Proofs.Ytbjeicbphkglfaa
open Go.RowKit Gold

set_option maxHeartbeats 4000000 in
set_option maxRecDepth 100000 in
theorem base_any (x0 y0 m n : Int) (w : World) (u0 : U64 x0) (u1 : U64 y0) (hm : -2147483648 ≤ m ∧ m < 2147483648) (hn : -2147483648 ≤ n ∧ n < 2147483648) :
    Calls Try.prog 8 #[.int .u64 x0, .int .u64 y0, .agg #[.int .i32 m, .int .i32 n]] w fun e w' => e = .returned (.bool true) ∧ Below w.heap.size w w' := by
  have HM := Lib.hid hm; have HN := Lib.hid hn; have HP := Lib.hid (prod31 hm hn)
  have wm : IntKind.i64.wrap m = m := IntWalk.i64_in _ (by omega)
  have wn : IntKind.i64.wrap n = n := IntWalk.i64_in _ (by omega)
  have ws : IntKind.i64.wrap (m + n) = m + n := IntWalk.i64_in _ (by omega)
  have wp : IntKind.i64.wrap (m * n) = m * n := IntWalk.i64_in _ (by have := HP.out; omega)
  clear hm hn
  go_enter Try.func8, Try.ntmps8
  go_wp2_with fail
  refine calls_named1 (fun W hB g0 hz => ?_)
  refine (sanity_any _).mono ?_
  rintro e W1 ⟨rfl, hb⟩
  have HB := Lib.hid (hB.trans (hb.mono hB.size))
  have Tl := Lib.hid (show Two W1 w.heap.size 44 (.int .i32 m) (.int .i32 n) from heap_keep g0 hb)
  clear hB hb g0 hz
  go_wp2_with fail
  ((with_reducible refine (Calls.calm_same (rreduceF x0 _ u0)).mono ?_)); rintro e W26 ⟨rfl, hb⟩
  replace Tl := Lib.hid (Tl.out.keep hb); replace HB := Lib.hid (HB.out.trans (hb.mono HB.out.size)); clear hb
  go_wp2_with fail
  ((with_reducible refine (Calls.calm_same (rreduceF y0 _ u1)).mono ?_)); rintro e W27 ⟨rfl, hb⟩
  replace Tl := Lib.hid (Tl.out.keep hb); replace HB := Lib.hid (HB.out.trans (hb.mono HB.out.size)); clear hb
  go_wp2_with fail
  generalize toF x0 = a at *
  generalize toF y0 = b at *
  obtain ⟨er, her⟩ : ∃ er, einvF a = er := ⟨_, rfl⟩
  obtain ⟨z, hz⟩ : ∃ z, invF a = z := ⟨_, rfl⟩
  have HE := Lib.hid her; have HZ := Lib.hid hz
  clear her hz
  ((with_reducible refine (invF_er a z er _ HZ.out HE.out).mono ?_)); rintro e W28 ⟨rfl, hb⟩
  replace Tl := Lib.hid (Tl.out.keep hb); replace HB := Lib.hid (HB.out.trans (hb.mono HB.out.size)); clear hb
  go_wp2_with fail
  ((with_reducible refine (extFromBase_any a _).mono ?_)); rintro e W29 ⟨rfl, hb⟩
  replace Tl := Lib.hid (Tl.out.keep hb); replace HB := Lib.hid (HB.out.trans (hb.mono HB.out.size)); clear hb
  go_wp2_with fail
  ((with_reducible refine (extInv_ofF_er a z er _ HZ.out HE.out).mono ?_)); rintro e W30 ⟨rfl, hb⟩
  replace Tl := Lib.hid (Tl.out.keep hb); replace HB := Lib.hid (HB.out.trans (hb.mono HB.out.size)); clear hb
  go_wp2_with fail
  refine wp_named1 (fun W hb g hz => ?_)
  replace Tl := Lib.hid (Tl.out.keep hb); replace HB := Lib.hid (HB.out.trans (hb.mono HB.out.size)); have Tj := Lib.hid (show Two W W30.heap.size 24 (.int .u64 (vF (E2.ofF z).A)) (.int .u64 (vF (E2.ofF z).B)) from g); have lej := Nat.le_of_lt hz; clear hb g hz
  generalize W30.heap.size = bj at *
  have ll0 := Later.cell Tl.out.c0; have ll1 := Later.cell Tl.out.c1
  refine wp_later_lex (by kernel_rfl) (lexOK_of (by kernel_rfl) (by kernel_rfl)) ?_
  repeat (go_big_quiet_step (first
    | (go_at_call 42; with_reducible exact Calls.later_same (mulF a b _))))
  refine wpQuiet_nil ?_
  intro X
  have hb := X.below
  replace Tl := Lib.hid (Tl.out.keep hb); replace Tj := Lib.hid (Tj.out.keep hb); replace HB := Lib.hid (HB.out.trans (hb.mono HB.out.size))
  clear hb
  clear ll0 ll1
  go_wp2_with fail
  have lj0 := Later.cell Tj.out.c0; have lj1 := Later.cell Tj.out.c1
  refine wp_later_lex (by kernel_rfl) (lexOK_of (by kernel_rfl) (by kernel_rfl)) ?_
  repeat (go_big_quiet_step (first
    | (go_at_call 33; with_reducible exact Calls.later (extFromBase_any (a) _))
    | (go_at_call 33; with_reducible exact Calls.later (extFromBase_any (b) _))
    | (go_at_call 17; with_reducible exact Calls.later (extAdd_as (E2.ofF a) (E2.ofF b) (E2.ofF (a + b)) _ (E2.ofF_add a b)))
    | (go_at_call 41; with_reducible exact Calls.later_same (addF a b _))
    | (go_at_call 33; with_reducible exact Calls.later (extFromBase_any (a + b) _))
    | (go_at_call 23; with_reducible exact Calls.later (extMul_as (E2.ofF a) (E2.ofF b) (E2.ofF (a * b)) _ (E2.ofF_mul a b)))
    | (go_at_call 42; with_reducible exact Calls.later_same (mulF a b _))
    | (go_at_call 33; with_reducible exact Calls.later (extFromBase_any (a * b) _))
    | (go_at_call 33; with_reducible exact Calls.later (extFromBase_any (z) _))))
  refine wpQuiet_nil ?_
  intro X
  have hb := X.below
  replace Tl := Lib.hid (Tl.out.keep hb); replace Tj := Lib.hid (Tj.out.keep hb); replace HB := Lib.hid (HB.out.trans (hb.mono HB.out.size))
  clear hb
  clear lj0 lj1
  go_wp2_with fail
  ((with_reducible refine (of_any (vF a) (vF b) _).mono ?_)); rintro e W31 ⟨rfl, hb⟩
  replace Tl := Lib.hid (Tl.out.keep hb); replace Tj := Lib.hid (Tj.out.keep hb); replace HB := Lib.hid (HB.out.trans (hb.mono HB.out.size)); clear hb
  go_wp2_with fail
  ((with_reducible refine (extMulBase_any ⟨a, b⟩ b _).mono ?_)); rintro e W32 ⟨rfl, hb⟩
  replace Tl := Lib.hid (Tl.out.keep hb); replace Tj := Lib.hid (Tj.out.keep hb); replace HB := Lib.hid (HB.out.trans (hb.mono HB.out.size)); clear hb
  go_wp2_with fail
  ((with_reducible refine (of_any (vF a) (vF b) _).mono ?_)); rintro e W33 ⟨rfl, hb⟩
  replace Tl := Lib.hid (Tl.out.keep hb); replace Tj := Lib.hid (Tj.out.keep hb); replace HB := Lib.hid (HB.out.trans (hb.mono HB.out.size)); clear hb
  go_wp2_with fail
  ((with_reducible refine (extFromBase_any b _).mono ?_)); rintro e W34 ⟨rfl, hb⟩
  replace Tl := Lib.hid (Tl.out.keep hb); replace Tj := Lib.hid (Tj.out.keep hb); replace HB := Lib.hid (HB.out.trans (hb.mono HB.out.size)); clear hb
  go_wp2_with fail
  ((with_reducible refine (extMul_any ⟨a, b⟩ (E2.ofF b) _).mono ?_)); rintro e W35 ⟨rfl, hb⟩
  replace Tl := Lib.hid (Tl.out.keep hb); replace Tj := Lib.hid (Tj.out.keep hb); replace HB := Lib.hid (HB.out.trans (hb.mono HB.out.size)); clear hb
  go_wp2_with fail
  ((with_reducible refine (extFromInt_any (m) _ (by have := HM.out; omega) (by have := HM.out; omega)).mono ?_)); rintro e W36 ⟨rfl, hb⟩
  replace Tl := Lib.hid (Tl.out.keep hb); replace Tj := Lib.hid (Tj.out.keep hb); replace HB := Lib.hid (HB.out.trans (hb.mono HB.out.size)); clear hb
  go_wp2_with fail
  ((with_reducible refine (extFromInt_any (n) _ (by have := HN.out; omega) (by have := HN.out; omega)).mono ?_)); rintro e W37 ⟨rfl, hb⟩
  replace Tl := Lib.hid (Tl.out.keep hb); replace Tj := Lib.hid (Tj.out.keep hb); replace HB := Lib.hid (HB.out.trans (hb.mono HB.out.size)); clear hb
  go_wp2_with fail
  ((with_reducible refine (extAdd_as (E2.ofF (toF m)) (E2.ofF (toF n)) (E2.ofF (toF (m + n))) _ (by rw [E2.ofF_add, toF_add])).mono ?_)); rintro e W38 ⟨rfl, hb⟩
  replace Tl := Lib.hid (Tl.out.keep hb); replace Tj := Lib.hid (Tj.out.keep hb); replace HB := Lib.hid (HB.out.trans (hb.mono HB.out.size)); clear hb
  go_wp2_with fail
  ((with_reducible refine (extFromInt_any (m + n) _ (by have := HM.out; have := HN.out; omega) (by have := HM.out; have := HN.out; omega)).mono ?_)); rintro e W39 ⟨rfl, hb⟩
  replace Tl := Lib.hid (Tl.out.keep hb); replace Tj := Lib.hid (Tj.out.keep hb); replace HB := Lib.hid (HB.out.trans (hb.mono HB.out.size)); clear hb
  go_wp2_with fail
  ((with_reducible refine (extFromInt_any (m) _ (by have := HM.out; omega) (by have := HM.out; omega)).mono ?_)); rintro e W40 ⟨rfl, hb⟩
  replace Tl := Lib.hid (Tl.out.keep hb); replace Tj := Lib.hid (Tj.out.keep hb); replace HB := Lib.hid (HB.out.trans (hb.mono HB.out.size)); clear hb
  go_wp2_with fail
  ((with_reducible refine (extFromInt_any (n) _ (by have := HN.out; omega) (by have := HN.out; omega)).mono ?_)); rintro e W41 ⟨rfl, hb⟩
  replace Tl := Lib.hid (Tl.out.keep hb); replace Tj := Lib.hid (Tj.out.keep hb); replace HB := Lib.hid (HB.out.trans (hb.mono HB.out.size)); clear hb
  go_wp2_with fail
  ((with_reducible refine (extMul_as (E2.ofF (toF m)) (E2.ofF (toF n)) (E2.ofF (toF (m * n))) _ (by rw [E2.ofF_mul, toF_mul])).mono ?_)); rintro e W42 ⟨rfl, hb⟩
  replace Tl := Lib.hid (Tl.out.keep hb); replace Tj := Lib.hid (Tj.out.keep hb); replace HB := Lib.hid (HB.out.trans (hb.mono HB.out.size)); clear hb
  go_wp2_with fail
  ((with_reducible refine (extFromInt_any (m * n) _ (by have := HP.out; omega) (by have := HP.out; omega)).mono ?_)); rintro e W43 ⟨rfl, hb⟩
  replace Tl := Lib.hid (Tl.out.keep hb); replace Tj := Lib.hid (Tj.out.keep hb); replace HB := Lib.hid (HB.out.trans (hb.mono HB.out.size)); clear hb
  go_wp2_with fail
  go_ret
  exact ⟨rfl, HB.out⟩

end Go.Proofs.Ytbjeicbphkglfaa
