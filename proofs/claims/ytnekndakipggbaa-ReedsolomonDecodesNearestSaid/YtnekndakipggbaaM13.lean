/- Several texts in one: Sx9c, Sy9, Sw9, Swe, Sy9r. -/
import Derived.Test.YtnekndakipggbaaM12
import Derived.Test.YtnekndakipggbaaRows
import Derived.ProofKit
import Derived.OpenShut
import Derived.ChangeOld
import Derived.ChangeSlices
import Derived.Below
import Derived.Lib.SmallJoins
import Derived.Deep.Slices
import Derived.Test.YtnekndakipggbaaM03
namespace Go.Proofs.Ytnekndakipggbaa
set_option linter.unusedVariables false
set_option linter.unusedSimpArgs false
set_option linter.unusedSectionVars false
set_option maxRecDepth 8000
open Go.RowKit Go.Proofs.Ytnekndakipggbaa.K
attribute [local irreducible] wpList wpQuiet
/-- an error in cells -/
def erC (p : Nat × Nat) : List Value := [.int .u8 (p.1 : Int), .int .u64 (p.2 : Int)]
instance : Enc erC 2 := ⟨fun _ => rfl, fun x u hu => by
  simp only [erC, List.mem_cons, List.not_mem_nil, or_false] at hu
  rcases hu with rfl | rfl <;> rfl, by decide⟩
theorem cntF_self (xs : List Gold.F) (n : Nat) : cntF xs xs n = 0 := by simp [cntF]
theorem filter_one {p q : Nat → Bool} {k : Nat} (h : ∀ j, j ≠ k → p j = q j) (hp : p k = false) (hq : q k = true) : ∀ n, ((List.range n).filter q).length = ((List.range n).filter p).length + if k < n then 1 else 0
  | 0 => rfl
  | n + 1 => by
    have ih := filter_one h hp hq n
    rw [List.range_succ, List.filter_append, List.filter_append, List.length_append, List.length_append]
    by_cases e : n = k
    · subst e
      rw [if_neg (by omega)] at ih
      rw [if_pos (by omega), ih]
      simp [List.filter_cons, hp, hq]
    · have hpq := h n e
      have hk : (k < n + 1) ↔ (k < n) := by omega
      simp only [List.filter_cons, List.filter_nil, hpq, hk, ih]
      omega
theorem cntF_set {xs ys : List Gold.F} {n k : Nat} {x y z : Gold.F} (hx : xs.length = n) (hy : ys.length = n) (hk : k < n) (hxk : xs[k]? = some x) (hyk : ys[k]? = some y) (hxy : y = x) (hz : z ≠ x) : cntF xs (ys.set k z) n = cntF xs ys n + 1 := by
  unfold cntF
  have h1 : ∀ j, j ≠ k → (fun j => !decide (Gold.cfF xs j = Gold.cfF ys j)) j = (fun j => !decide (Gold.cfF xs j = Gold.cfF (ys.set k z) j)) j := fun j hj => by
    have : Gold.cfF (ys.set k z) j = Gold.cfF ys j := by unfold Gold.cfF; rw [List.getElem?_set_ne (fun e => hj e.symm)]
    simp only [this]
  have h2 : (fun j => !decide (Gold.cfF xs j = Gold.cfF ys j)) k = false := by simp only [Gold.cfF_some hxk, Gold.cfF_some hyk, hxy, decide_true, Bool.not_true]
  have h3 : (fun j => !decide (Gold.cfF xs j = Gold.cfF (ys.set k z) j)) k = true := by
    have : Gold.cfF (ys.set k z) k = z := Gold.cfF_some (List.getElem?_set_self (by omega))
    have hne : ¬ x = z := fun e => hz e.symm
    simp only [this, Gold.cfF_some hxk, decide_eq_false hne, Bool.not_false]
  rw [filter_one h1 h2 h3 n, if_pos hk]
set_option maxRecDepth 100000 in
set_option maxHeartbeats 16000000 in
theorem corrupt_any (A : Option Addr) (n c : Nat) (xs : List Gold.F) (E : Option Addr) (le ce : Nat) (es : List (Nat × Nat)) (most : Nat) (hn : n ≤ 65536) (hmost : most ≤ 65536) (heb : ∀ e ∈ es, e.1 < 256 ∧ e.2 < 18446744073709551616) (w : World) (hX : Sg feC 1 w A n c xs) (hE : Sg erC 2 w E le ce es) :
    Calls Try.prog 27 #[.slice A n c, .slice E le ce, .int .i64 (most : Int)] w fun e w' => ∃ (A' : Option Addr) (c' : Nat) (ys : List Gold.F) (cnt : Nat), e = .returned (.tuple #[.slice A' n c', .int .i64 (cnt : Int)]) ∧ ys.length = n ∧ cntF xs ys n = cnt ∧ cnt ≤ most ∧ w'.ownsRow w.heap.size 29 1 (.slice A' n c') n (fl feC ys) ∧ Below w.heap.size w w' := by
  have HX := Lib.hid hX
  have HE := Lib.hid hE
  have HEB := Lib.hid heb
  have hxl := hX.len
  have hel := hE.len
  have hcp := hX.cap
  have htp := hX.top
  have hce := hE.cap
  have hte := hE.top
  clear hX hE heb
  go_enter Try.func27, Try.ntmps27
  go_upto_region 1 with fail
  refine wp_region_lit ?_
  refine wpList_mk (by kernel_rfl) #[] 29 0 0 (xo_empty (size := 1) Try.underlying22 (by kernel_rfl) rfl w) ?_
  intro g13 V1 hge h0 hb
  have hge2 := Nat.le_trans (Below.refl w.heap.size w).size hge
  have B0 := Lib.hid hb
  have Ow13 : Hid (V1.ownsRow w.heap.size 29 1 (.slice (some ⟨g13, 0, none⟩) 0 0) 0 (fl feC [])) := Lib.hid (own_new h0 hge2)
  clear hge hge2 h0 hb
  simp only [ptr, Act.put, List.setIfInBounds_toArray, List.set_cons_zero, List.set_cons_succ]
  refine wpList_run (by kernel_rfl) (.slice A n c) V1 rfl ?_
  simp only [Act.put, List.setIfInBounds_toArray, List.set_cons_zero, List.set_cons_succ]
  refine wpList_app2 (size := 1) (by kernel_rfl) (.tmp 13) (.tmp 14) 22 rfl (.int .u64 0) 8 Try.underlying22 (by kernel_rfl) rfl (by decide) rfl Ow13.out A n c (fl feC xs) rfl (HX.out.keep B0.out).src (by unfold maxLen; omega) (by omega) B0.out.size ?_
  intro v15 X1_0 ho hb1 hg hloc
  have hox : X1_0.ownsRow w.heap.size 29 1 v15 n (fl feC xs) := by first | exact ho | simpa using ho
  have hbr := B0.out.trans hb1
  clear B0
  have B0 := Lib.hid hbr
  clear hbr
  have Ow15_1 := Lib.hid hox
  clear ho hox hb1 hg hloc
  simp only [ptr, Act.put, List.setIfInBounds_toArray, List.set_cons_zero, List.set_cons_succ]
  refine wpList_run (by kernel_rfl) (v15) X1_0 rfl ?_
  simp only [Act.put, List.setIfInBounds_toArray, List.set_cons_zero, List.set_cons_succ]
  refine wpList_nil ?_
  go_upto_region 2 with fail
  refine wp_region_lit ?_
  refine wpList_run (by kernel_rfl) (.int .i64 0) X1_0 rfl ?_
  simp only [Act.put, List.setIfInBounds_toArray, List.set_cons_zero, List.set_cons_succ]
  refine wpList_nil ?_
  go_upto_region 3 with fail
  refine wp_region_lit ?_
  refine wpList_run (by kernel_rfl) (.int .i64 0) X1_0 rfl ?_
  simp only [Act.put, List.setIfInBounds_toArray, List.set_cons_zero, List.set_cons_succ]
  refine wpList_nil ?_
  have O2 := Ow15_1.out
  have O3 := B0.out
  go_wp2_with fail
  go_loopw [9, 10, 11, 12] (fun cv p kv bv wr => ∃ i : Nat, ∃ (ys : List Gold.F) (cnt : Nat), i ≤ le ∧ p = .int .i64 i ∧ ys.length = n ∧ wr.ownsRow w.heap.size 29 1 v15 n (fl feC ys) ∧ cv = .int .i64 (cnt : Int) ∧ cntF xs ys n = cnt ∧ cnt ≤ most ∧ Below w.heap.size w wr) (fun _ p _ _ _ => le - (intOf p).toNat)
  case atStart => exact ⟨0, xs, 0, Nat.zero_le _, rfl, hxl, O2, rfl, cntF_self xs n, Nat.zero_le _, O3⟩
  case round =>
    clear O3 O2
    obtain ⟨wo, rfl⟩ : ∃ wo : World, wo = wr := ⟨_, rfl⟩
    obtain ⟨i, ys, cnt, hi, rfl, hhyl, hOW, hhcv, hhcn, hhcm, hb0⟩ := hrel
    have hbr := hb0
    clear B0
    have B0 := Lib.hid hbr
    clear hbr
    have hyl := Lib.hid hhyl
    have OW := Lib.hid hOW
    have hcv := Lib.hid hhcv
    have hcn := Lib.hid hhcn
    have hcm := Lib.hid hhcm
    clear hb0 hhyl hOW hhcv hhcn hhcm
    have hcve := hcv.out
    subst hcve
    have hcnm := hcm.out
    have hcnl : cnt ≤ n := by rw [← hcn.out]; exact cntF_le xs ys n
    have hyln := hyl.out
    by_cases hil : i < le
    · have hci5 : ((i : Int) < (le : Int)) := by omega
      by_cases hn0 : n > 0
      · have hci6 : ((n : Int) > 0) := by omega
        go_upto_region 4 with fail
        refine wp_region_lit ?_
        refine wpList_run (by kernel_rfl) (.int .i64 (i : Int)) wo rfl ?_
        simp only [Act.put, List.setIfInBounds_toArray, List.set_cons_zero, List.set_cons_succ]
        refine wpList_run (by kernel_rfl) (.slice E le ce) wo rfl ?_
        simp only [Act.put, List.setIfInBounds_toArray, List.set_cons_zero, List.set_cons_succ]
        refine wpList_run (by kernel_rfl) (.int .i64 (le : Int)) wo (xo_len E le ce Try.underlying42 rfl rfl) ?_
        simp only [Act.put, List.setIfInBounds_toArray, List.set_cons_zero, List.set_cons_succ]
        refine wpList_run (by kernel_rfl) (.bool true) wo (xo_lssT .i64 (i : Int) (le : Int) (by omega) rfl rfl rfl) ?_
        simp only [Act.put, List.setIfInBounds_toArray, List.set_cons_zero, List.set_cons_succ]
        refine wpList_run (by kernel_rfl) (.bool true) wo rfl ?_
        simp only [Act.put, List.setIfInBounds_toArray, List.set_cons_zero, List.set_cons_succ]
        refine wpList_run (by kernel_rfl) (.slice A n c) wo rfl ?_
        simp only [Act.put, List.setIfInBounds_toArray, List.set_cons_zero, List.set_cons_succ]
        refine wpList_run (by kernel_rfl) (.int .i64 (n : Int)) wo (xo_len A n c Try.underlying22 rfl rfl) ?_
        simp only [Act.put, List.setIfInBounds_toArray, List.set_cons_zero, List.set_cons_succ]
        refine wpList_run (by kernel_rfl) (.bool true) wo (xo_gtrT .i64 (n : Int) 0 (by omega) rfl rfl rfl) ?_
        simp only [Act.put, List.setIfInBounds_toArray, List.set_cons_zero, List.set_cons_succ]
        refine wpList_run (by kernel_rfl) (.bool true) wo rfl ?_
        simp only [Act.put, List.setIfInBounds_toArray, List.set_cons_zero, List.set_cons_succ]
        refine wpList_nil ?_
        obtain ⟨er, her⟩ : ∃ er, es[i]? = some er := ⟨_, List.getElem?_eq_getElem (by omega)⟩
        have hea := (HEB.out er (List.mem_of_getElem? her)).1
        have heB := (HEB.out er (List.mem_of_getElem? her)).2
        have HER := Lib.hid her
        clear her
        obtain ⟨kk, hkk⟩ : ∃ kk, er.1 % n = kk := ⟨_, rfl⟩
        have hkn : kk < n := by rw [← hkk]; exact Nat.mod_lt _ (by omega)
        go_upto_region 6 with fail
        refine wp_region_lit ?_
        refine wpList_run (by kernel_rfl) (.slice E le ce) wo rfl ?_
        simp only [Act.put, List.setIfInBounds_toArray, List.set_cons_zero, List.set_cons_succ]
        refine wpList_run (by kernel_rfl) (.int .i64 (i : Int)) wo rfl ?_
        simp only [Act.put, List.setIfInBounds_toArray, List.set_cons_zero, List.set_cons_succ]
        refine wpList_run (by kernel_rfl) (.pointer (some (gad E (i * 2)))) wo (xg_idx .i64 (HE.out.keep B0.out) HER.out Try.underlying42 (by kernel_rfl) rfl rfl rfl) ?_
        simp only [Act.put, List.setIfInBounds_toArray, List.set_cons_zero, List.set_cons_succ]
        refine wpList_run (by kernel_rfl) (.pointer (some (gad E ((i * 2) + 0)))) wo (xg_fld 0 (HE.out.keep B0.out) HER.out (by kernel_rfl) rfl rfl) ?_
        simp only [Act.put, List.setIfInBounds_toArray, List.set_cons_zero, List.set_cons_succ]
        refine wpList_run (by kernel_rfl) (.int .u8 ((er.1 : Nat) : Int)) wo (xg_load1 (E := erC) (i := i) (j := 0) (HE.out.keep B0.out) HER.out rfl rfl Try.underlying5 rfl rfl rfl) ?_
        simp only [Act.put, List.setIfInBounds_toArray, List.set_cons_zero, List.set_cons_succ]
        refine wpList_run (by kernel_rfl) (.int .i64 ((er.1 : Nat) : Int)) wo (xo_cvt .u8 .i64 ((er.1 : Nat) : Int) ((er.1 : Nat) : Int) (by rw [IntKind.wrap_i64]; omega) Try.underlying3 Try.underlying5 rfl rfl) ?_
        simp only [Act.put, List.setIfInBounds_toArray, List.set_cons_zero, List.set_cons_succ]
        refine wpList_run (by kernel_rfl) (.slice A n c) wo rfl ?_
        simp only [Act.put, List.setIfInBounds_toArray, List.set_cons_zero, List.set_cons_succ]
        refine wpList_run (by kernel_rfl) (.int .i64 (n : Int)) wo (xo_len A n c Try.underlying22 rfl rfl) ?_
        simp only [Act.put, List.setIfInBounds_toArray, List.set_cons_zero, List.set_cons_succ]
        refine wpList_run (by kernel_rfl) (.int .i64 (kk : Int)) wo (xo_remN .i64 er.1 n kk (by omega) hkk rfl rfl rfl) ?_
        simp only [Act.put, List.setIfInBounds_toArray, List.set_cons_zero, List.set_cons_succ]
        refine wpList_run (by kernel_rfl) (.int .i64 (kk : Int)) wo rfl ?_
        simp only [Act.put, List.setIfInBounds_toArray, List.set_cons_zero, List.set_cons_succ]
        refine wpList_nil ?_
        go_upto_region 7 with fail
        refine wp_region_lit ?_
        refine wpList_run (by kernel_rfl) (.slice E le ce) wo rfl ?_
        simp only [Act.put, List.setIfInBounds_toArray, List.set_cons_zero, List.set_cons_succ]
        refine wpList_run (by kernel_rfl) (.int .i64 (i : Int)) wo rfl ?_
        simp only [Act.put, List.setIfInBounds_toArray, List.set_cons_zero, List.set_cons_succ]
        refine wpList_run (by kernel_rfl) (.pointer (some (gad E (i * 2)))) wo (xg_idx .i64 (HE.out.keep B0.out) HER.out Try.underlying42 (by kernel_rfl) rfl rfl rfl) ?_
        simp only [Act.put, List.setIfInBounds_toArray, List.set_cons_zero, List.set_cons_succ]
        refine wpList_run (by kernel_rfl) (.pointer (some (gad E ((i * 2) + 1)))) wo (xg_fld 1 (HE.out.keep B0.out) HER.out (by kernel_rfl) rfl rfl) ?_
        simp only [Act.put, List.setIfInBounds_toArray, List.set_cons_zero, List.set_cons_succ]
        refine wpList_run (by kernel_rfl) (.int .u64 ((er.2 : Nat) : Int)) wo (xg_load1 (E := erC) (i := i) (j := 1) (HE.out.keep B0.out) HER.out rfl rfl Try.underlying29 rfl rfl rfl) ?_
        simp only [Act.put, List.setIfInBounds_toArray, List.set_cons_zero, List.set_cons_succ]
        refine wpList_call (by kernel_rfl) 31 Try.func31 (by kernel_rfl) (by kernel_rfl) _ _ #[.int .u64 ((er.2 : Nat) : Int)] rfl (by kernel_rfl) ?_
        refine (J.rreduceF (er.2 : Int) wo ⟨by omega, by omega⟩).mono ?_
        rintro e W1 ⟨rfl, hw1⟩
        rw [hw1]
        clear hw1 W1
        refine ⟨_, rfl, ?_⟩
        simp only [Act.put, List.setIfInBounds_toArray, List.set_cons_zero, List.set_cons_succ]
        refine wpList_run (by kernel_rfl) (.int .u64 (Gold.vF (Gold.toF (er.2 : Int)))) wo rfl ?_
        simp only [Act.put, List.setIfInBounds_toArray, List.set_cons_zero, List.set_cons_succ]
        refine wpList_nil ?_
        obtain ⟨by_, hby⟩ : ∃ b, Gold.toF (er.2 : Int) = b := ⟨_, rfl⟩
        rw [hby]
        clear hby
        obtain ⟨x, hx⟩ : ∃ x, xs[kk]? = some x := ⟨_, List.getElem?_eq_getElem (by omega)⟩
        obtain ⟨y, hy⟩ : ∃ y, ys[kk]? = some y := ⟨_, List.getElem?_eq_getElem (by omega)⟩
        have HXE := Lib.hid hx
        have HYE := Lib.hid hy
        clear hx hy
        obtain ⟨g8, c8, hv8, hg8⟩ := own_at (i := kk) OW.out hkn
        subst hv8
        have HG8 := Lib.hid hg8
        clear hg8
        have HYs := Lib.hid (Sg.ownS OW.out)
        by_cases hb0 : by_ = 0
        · have hv0 : Gold.vF by_ = 0 := by rw [hb0]; rfl
          go_upto_region 8 with fail
          refine wp_later_lex (by kernel_rfl) (lexOK_of (by kernel_rfl) (by kernel_rfl)) ?_
          refine wpQuiet_val (by kernel_rfl) (.int .u64 (Gold.vF by_)) (fun v hv => rfl) ?_
          simp only [Act.put, List.setIfInBounds_toArray, List.set_cons_zero, List.set_cons_succ]
          refine wpQuiet_val (by kernel_rfl) (.bool false) (fun v hv => (xo_neqF .u64 (Gold.vF by_) 0 hv0 rfl rfl rfl)) ?_
          simp only [Act.put, List.setIfInBounds_toArray, List.set_cons_zero, List.set_cons_succ]
          refine wpQuiet_val (by kernel_rfl) (.bool false) (fun v hv => rfl) ?_
          simp only [Act.put, List.setIfInBounds_toArray, List.set_cons_zero, List.set_cons_succ]
          refine BigFrame.wpQuiet_skip (by kernel_rfl) ?_
          try simp only [Act.put, List.setIfInBounds_toArray, List.set_cons_zero, List.set_cons_succ]
          refine BigFrame.wpQuiet_skip (by kernel_rfl) ?_
          try simp only [Act.put, List.setIfInBounds_toArray, List.set_cons_zero, List.set_cons_succ]
          refine BigFrame.wpQuiet_skip (by kernel_rfl) ?_
          try simp only [Act.put, List.setIfInBounds_toArray, List.set_cons_zero, List.set_cons_succ]
          refine BigFrame.wpQuiet_skip (by kernel_rfl) ?_
          try simp only [Act.put, List.setIfInBounds_toArray, List.set_cons_zero, List.set_cons_succ]
          refine BigFrame.wpQuiet_skip (by kernel_rfl) ?_
          try simp only [Act.put, List.setIfInBounds_toArray, List.set_cons_zero, List.set_cons_succ]
          refine BigFrame.wpQuiet_skip (by kernel_rfl) ?_
          try simp only [Act.put, List.setIfInBounds_toArray, List.set_cons_zero, List.set_cons_succ]
          refine BigFrame.wpQuiet_skip (by kernel_rfl) ?_
          try simp only [Act.put, List.setIfInBounds_toArray, List.set_cons_zero, List.set_cons_succ]
          refine BigFrame.wpQuiet_skip (by kernel_rfl) ?_
          try simp only [Act.put, List.setIfInBounds_toArray, List.set_cons_zero, List.set_cons_succ]
          refine BigFrame.wpQuiet_skip (by kernel_rfl) ?_
          try simp only [Act.put, List.setIfInBounds_toArray, List.set_cons_zero, List.set_cons_succ]
          refine wpQuiet_val (by kernel_rfl) (.bool false) (fun v hv => rfl) ?_
          simp only [Act.put, List.setIfInBounds_toArray, List.set_cons_zero, List.set_cons_succ]
          refine wpQuiet_val (by kernel_rfl) (.bool false) (fun v hv => rfl) ?_
          simp only [Act.put, List.setIfInBounds_toArray, List.set_cons_zero, List.set_cons_succ]
          refine BigFrame.wpQuiet_skip (by kernel_rfl) ?_
          try simp only [Act.put, List.setIfInBounds_toArray, List.set_cons_zero, List.set_cons_succ]
          refine BigFrame.wpQuiet_skip (by kernel_rfl) ?_
          try simp only [Act.put, List.setIfInBounds_toArray, List.set_cons_zero, List.set_cons_succ]
          refine BigFrame.wpQuiet_skip (by kernel_rfl) ?_
          try simp only [Act.put, List.setIfInBounds_toArray, List.set_cons_zero, List.set_cons_succ]
          refine wpQuiet_val (by kernel_rfl) (.bool false) (fun v hv => rfl) ?_
          simp only [Act.put, List.setIfInBounds_toArray, List.set_cons_zero, List.set_cons_succ]
          refine wpQuiet_nil ?_
          intro X1_7
          have hb := X1_7.below
          generalize X1_7.at = V2 at *
          have B1 := Lib.hid hb
          clear hb
          go_upto_region 5 with fail
          refine wp_region_lit ?_
          refine wpList_run (by kernel_rfl) (.int .i64 (i : Int)) V2 rfl ?_
          simp only [Act.put, List.setIfInBounds_toArray, List.set_cons_zero, List.set_cons_succ]
          refine wpList_run (by kernel_rfl) (.int .i64 ((i + 1 : Nat) : Int)) V2 (xo_addI (i : Int) 1 ((i + 1 : Nat) : Int) (by omega) (by omega) (by omega) rfl rfl rfl) ?_
          simp only [Act.put, List.setIfInBounds_toArray, List.set_cons_zero, List.set_cons_succ]
          refine wpList_run (by kernel_rfl) (.int .i64 ((i + 1 : Nat) : Int)) V2 rfl ?_
          simp only [Act.put, List.setIfInBounds_toArray, List.set_cons_zero, List.set_cons_succ]
          refine wpList_nil ?_
          have hko := (own_keep OW.out B1.out)
          have C0_2 := Lib.hid (bel_step B0.out B1.out)
          have hq8 := C0_2.out
          go_wp2_with fail
          go_roundw
          case rel => exact ⟨i + 1, ys, cnt, by omega, by go_num, hyl.out, hko, rfl, hcn.out, hcnm, hq8⟩
          case measure => simp [intOf]; omega
        · have hv0 : Gold.vF by_ ≠ 0 := fun h => hb0 (Gold.vF_inj h)
          by_cases hxy : y = x
          · have hvxy : Gold.vF y = Gold.vF x := by rw [hxy]
            by_cases hcl : cnt < most
            · have hci7 : ((cnt : Int) < (most : Int)) := by omega
              go_upto_region 8 with fail
              refine wp_later_lex (by kernel_rfl) (lexOK_of (by kernel_rfl) (by kernel_rfl)) ?_
              refine wpQuiet_val (by kernel_rfl) (.int .u64 (Gold.vF by_)) (fun v hv => rfl) ?_
              simp only [Act.put, List.setIfInBounds_toArray, List.set_cons_zero, List.set_cons_succ]
              refine wpQuiet_val (by kernel_rfl) (.bool true) (fun v hv => (xo_neqT .u64 (Gold.vF by_) 0 hv0 rfl rfl rfl)) ?_
              simp only [Act.put, List.setIfInBounds_toArray, List.set_cons_zero, List.set_cons_succ]
              refine wpQuiet_val (by kernel_rfl) (.bool true) (fun v hv => rfl) ?_
              simp only [Act.put, List.setIfInBounds_toArray, List.set_cons_zero, List.set_cons_succ]
              refine wpQuiet_val (by kernel_rfl) (.slice (some ⟨g8, 0, none⟩) n c8) (fun v hv => rfl) ?_
              simp only [Act.put, List.setIfInBounds_toArray, List.set_cons_zero, List.set_cons_succ]
              refine wpQuiet_val (by kernel_rfl) (.int .i64 (kk : Int)) (fun v hv => rfl) ?_
              simp only [Act.put, List.setIfInBounds_toArray, List.set_cons_zero, List.set_cons_succ]
              refine wpQuiet_val (by kernel_rfl) (.pointer (some (gad (some ⟨g8, 0, none⟩) (kk * 1)))) (fun v hv => (xg_idx .i64 (HYs.out.keep (later_bel hv)) HYE.out Try.underlying22 (by kernel_rfl) rfl rfl rfl)) ?_
              simp only [Act.put, List.setIfInBounds_toArray, List.set_cons_zero, List.set_cons_succ]
              refine wpQuiet_val (by kernel_rfl) (.int .u64 (Gold.vF y)) (fun v hv => (xg_load1 (E := feC) (i := kk) (j := 0) (HYs.out.keep (later_bel hv)) HYE.out rfl rfl Try.underlying29 rfl rfl rfl)) ?_
              simp only [Act.put, List.setIfInBounds_toArray, List.set_cons_zero, List.set_cons_succ]
              refine wpQuiet_val (by kernel_rfl) (.slice A n c) (fun v hv => rfl) ?_
              simp only [Act.put, List.setIfInBounds_toArray, List.set_cons_zero, List.set_cons_succ]
              refine wpQuiet_val (by kernel_rfl) (.int .i64 (kk : Int)) (fun v hv => rfl) ?_
              simp only [Act.put, List.setIfInBounds_toArray, List.set_cons_zero, List.set_cons_succ]
              refine wpQuiet_val (by kernel_rfl) (.pointer (some (gad A (kk * 1)))) (fun v hv => (xg_idx .i64 ((HX.out.keep B0.out).keep (later_bel hv)) HXE.out Try.underlying22 (by kernel_rfl) rfl rfl rfl)) ?_
              simp only [Act.put, List.setIfInBounds_toArray, List.set_cons_zero, List.set_cons_succ]
              refine wpQuiet_val (by kernel_rfl) (.int .u64 (Gold.vF x)) (fun v hv => (xg_load1 (E := feC) (i := kk) (j := 0) ((HX.out.keep B0.out).keep (later_bel hv)) HXE.out rfl rfl Try.underlying29 rfl rfl rfl)) ?_
              simp only [Act.put, List.setIfInBounds_toArray, List.set_cons_zero, List.set_cons_succ]
              refine wpQuiet_val (by kernel_rfl) (.bool true) (fun v hv => (xo_eqlT .u64 (Gold.vF y) (Gold.vF x) hvxy rfl rfl rfl)) ?_
              simp only [Act.put, List.setIfInBounds_toArray, List.set_cons_zero, List.set_cons_succ]
              refine wpQuiet_val (by kernel_rfl) (.bool true) (fun v hv => rfl) ?_
              simp only [Act.put, List.setIfInBounds_toArray, List.set_cons_zero, List.set_cons_succ]
              refine wpQuiet_val (by kernel_rfl) (.bool true) (fun v hv => rfl) ?_
              simp only [Act.put, List.setIfInBounds_toArray, List.set_cons_zero, List.set_cons_succ]
              refine wpQuiet_val (by kernel_rfl) (.int .i64 (cnt : Int)) (fun v hv => rfl) ?_
              simp only [Act.put, List.setIfInBounds_toArray, List.set_cons_zero, List.set_cons_succ]
              refine wpQuiet_val (by kernel_rfl) (.int .i64 (most : Int)) (fun v hv => rfl) ?_
              simp only [Act.put, List.setIfInBounds_toArray, List.set_cons_zero, List.set_cons_succ]
              refine wpQuiet_val (by kernel_rfl) (.bool true) (fun v hv => (xo_lssT .i64 (cnt : Int) (most : Int) (by omega) rfl rfl rfl)) ?_
              simp only [Act.put, List.setIfInBounds_toArray, List.set_cons_zero, List.set_cons_succ]
              refine wpQuiet_val (by kernel_rfl) (.bool true) (fun v hv => rfl) ?_
              simp only [Act.put, List.setIfInBounds_toArray, List.set_cons_zero, List.set_cons_succ]
              refine wpQuiet_nil ?_
              intro X1_8
              have hb := X1_8.below
              generalize X1_8.at = V2 at *
              have B1 := Lib.hid hb
              clear hb
              go_upto_region 9 with fail
              refine wp_region_lit ?_
              refine wpList_run (by kernel_rfl) (.slice (some ⟨g8, 0, none⟩) n c8) V2 rfl ?_
              simp only [Act.put, List.setIfInBounds_toArray, List.set_cons_zero, List.set_cons_succ]
              refine wpList_run (by kernel_rfl) (.int .i64 (kk : Int)) V2 rfl ?_
              simp only [Act.put, List.setIfInBounds_toArray, List.set_cons_zero, List.set_cons_succ]
              refine wpList_run (by kernel_rfl) (.slice (some ⟨g8, 0, none⟩) n c8) V2 rfl ?_
              simp only [Act.put, List.setIfInBounds_toArray, List.set_cons_zero, List.set_cons_succ]
              refine wpList_run (by kernel_rfl) (.int .i64 (kk : Int)) V2 rfl ?_
              simp only [Act.put, List.setIfInBounds_toArray, List.set_cons_zero, List.set_cons_succ]
              refine wpList_run (by kernel_rfl) (.pointer (some (gad (some ⟨g8, 0, none⟩) (kk * 1)))) V2 (xg_idx .i64 (HYs.out.keep B1.out) HYE.out Try.underlying22 (by kernel_rfl) rfl rfl rfl) ?_
              simp only [Act.put, List.setIfInBounds_toArray, List.set_cons_zero, List.set_cons_succ]
              refine wpList_run (by kernel_rfl) (.int .u64 (Gold.vF y)) V2 (xg_load1 (E := feC) (i := kk) (j := 0) (HYs.out.keep B1.out) HYE.out rfl rfl Try.underlying29 rfl rfl rfl) ?_
              simp only [Act.put, List.setIfInBounds_toArray, List.set_cons_zero, List.set_cons_succ]
              refine wpList_run (by kernel_rfl) (.int .u64 (Gold.vF by_)) V2 rfl ?_
              simp only [Act.put, List.setIfInBounds_toArray, List.set_cons_zero, List.set_cons_succ]
              refine wpList_call (by kernel_rfl) 32 Try.func32 (by kernel_rfl) (by kernel_rfl) _ _ #[.int .u64 (Gold.vF y), .int .u64 (Gold.vF by_)] rfl (by kernel_rfl) ?_
              refine (J.raddF y by_ V2).mono ?_
              rintro e W1 ⟨rfl, hw1⟩
              rw [hw1]
              clear hw1 W1
              refine ⟨_, rfl, ?_⟩
              simp only [Act.put, List.setIfInBounds_toArray, List.set_cons_zero, List.set_cons_succ]
              refine wpList_run (by kernel_rfl) (.pointer (some ((⟨g8, 0, none⟩ : Addr).add kk))) V2 (xo_index1 .i64 ⟨g8, 0, none⟩ n c8 kk (by omega) Try.underlying22 (by kernel_rfl) rfl rfl rfl) ?_
              simp only [Act.put, List.setIfInBounds_toArray, List.set_cons_zero, List.set_cons_succ]
              refine wpList_ownStore (.int .u64 (Gold.vF (y + by_))) (by kernel_rfl) (own_keep OW.out B1.out) (i := kk) (by omega) (by kernel_rfl) rfl rfl rfl rfl ?_
              intro X2_9 ho hfar hbel hkin
              have hox : X2_9.ownsRow w.heap.size 29 1 (.slice (some ⟨g8, 0, none⟩) n c8) n (fl feC (ys.set kk (y + by_))) := by rw [fl_set1 _ (fun x => .int .u64 (Gold.vF x))]; exact ho
              have C0_2 := Lib.hid (bel_step B0.out B1.out)
              have hbr := hbel _ _ HG8.out C0_2.out
              clear B0
              have B0 := Lib.hid hbr
              clear hbr
              clear OW
              have OW := Lib.hid hox
              clear ho hfar hbel hox hkin
              simp only [ptr, Act.put, List.setIfInBounds_toArray, List.set_cons_zero, List.set_cons_succ]
              refine wpList_nil ?_
              go_upto_region 10 with fail
              refine wp_region_lit ?_
              refine wpList_run (by kernel_rfl) (.int .i64 (cnt : Int)) X2_9 rfl ?_
              simp only [Act.put, List.setIfInBounds_toArray, List.set_cons_zero, List.set_cons_succ]
              refine wpList_run (by kernel_rfl) (.int .i64 ((cnt + 1 : Nat) : Int)) X2_9 (xo_addI (cnt : Int) 1 ((cnt + 1 : Nat) : Int) (by omega) (by omega) (by omega) rfl rfl rfl) ?_
              simp only [Act.put, List.setIfInBounds_toArray, List.set_cons_zero, List.set_cons_succ]
              refine wpList_run (by kernel_rfl) (.int .i64 ((cnt + 1 : Nat) : Int)) X2_9 rfl ?_
              simp only [Act.put, List.setIfInBounds_toArray, List.set_cons_zero, List.set_cons_succ]
              refine wpList_nil ?_
              go_upto_region 5 with fail
              refine wp_region_lit ?_
              refine wpList_run (by kernel_rfl) (.int .i64 (i : Int)) X2_9 rfl ?_
              simp only [Act.put, List.setIfInBounds_toArray, List.set_cons_zero, List.set_cons_succ]
              refine wpList_run (by kernel_rfl) (.int .i64 ((i + 1 : Nat) : Int)) X2_9 (xo_addI (i : Int) 1 ((i + 1 : Nat) : Int) (by omega) (by omega) (by omega) rfl rfl rfl) ?_
              simp only [Act.put, List.setIfInBounds_toArray, List.set_cons_zero, List.set_cons_succ]
              refine wpList_run (by kernel_rfl) (.int .i64 ((i + 1 : Nat) : Int)) X2_9 rfl ?_
              simp only [Act.put, List.setIfInBounds_toArray, List.set_cons_zero, List.set_cons_succ]
              refine wpList_nil ?_
              have hko := OW.out
              have hq10 := B0.out
              go_wp2_with fail
              go_roundw
              case rel => exact ⟨i + 1, ys.set kk (y + by_), cnt + 1, by omega, by go_num, (by rw [List.length_set]; exact hyl.out), hko, rfl, (by rw [← hcn.out]; exact cntF_set hxl hyl.out hkn HXE.out HYE.out hxy (fun h => hb0 (by grind))), (by omega), hq10⟩
              case measure => simp [intOf]; omega
            · have hci7 : ¬ ((cnt : Int) < (most : Int)) := by omega
              go_upto_region 8 with fail
              refine wp_later_lex (by kernel_rfl) (lexOK_of (by kernel_rfl) (by kernel_rfl)) ?_
              refine wpQuiet_val (by kernel_rfl) (.int .u64 (Gold.vF by_)) (fun v hv => rfl) ?_
              simp only [Act.put, List.setIfInBounds_toArray, List.set_cons_zero, List.set_cons_succ]
              refine wpQuiet_val (by kernel_rfl) (.bool true) (fun v hv => (xo_neqT .u64 (Gold.vF by_) 0 hv0 rfl rfl rfl)) ?_
              simp only [Act.put, List.setIfInBounds_toArray, List.set_cons_zero, List.set_cons_succ]
              refine wpQuiet_val (by kernel_rfl) (.bool true) (fun v hv => rfl) ?_
              simp only [Act.put, List.setIfInBounds_toArray, List.set_cons_zero, List.set_cons_succ]
              refine wpQuiet_val (by kernel_rfl) (.slice (some ⟨g8, 0, none⟩) n c8) (fun v hv => rfl) ?_
              simp only [Act.put, List.setIfInBounds_toArray, List.set_cons_zero, List.set_cons_succ]
              refine wpQuiet_val (by kernel_rfl) (.int .i64 (kk : Int)) (fun v hv => rfl) ?_
              simp only [Act.put, List.setIfInBounds_toArray, List.set_cons_zero, List.set_cons_succ]
              refine wpQuiet_val (by kernel_rfl) (.pointer (some (gad (some ⟨g8, 0, none⟩) (kk * 1)))) (fun v hv => (xg_idx .i64 (HYs.out.keep (later_bel hv)) HYE.out Try.underlying22 (by kernel_rfl) rfl rfl rfl)) ?_
              simp only [Act.put, List.setIfInBounds_toArray, List.set_cons_zero, List.set_cons_succ]
              refine wpQuiet_val (by kernel_rfl) (.int .u64 (Gold.vF y)) (fun v hv => (xg_load1 (E := feC) (i := kk) (j := 0) (HYs.out.keep (later_bel hv)) HYE.out rfl rfl Try.underlying29 rfl rfl rfl)) ?_
              simp only [Act.put, List.setIfInBounds_toArray, List.set_cons_zero, List.set_cons_succ]
              refine wpQuiet_val (by kernel_rfl) (.slice A n c) (fun v hv => rfl) ?_
              simp only [Act.put, List.setIfInBounds_toArray, List.set_cons_zero, List.set_cons_succ]
              refine wpQuiet_val (by kernel_rfl) (.int .i64 (kk : Int)) (fun v hv => rfl) ?_
              simp only [Act.put, List.setIfInBounds_toArray, List.set_cons_zero, List.set_cons_succ]
              refine wpQuiet_val (by kernel_rfl) (.pointer (some (gad A (kk * 1)))) (fun v hv => (xg_idx .i64 ((HX.out.keep B0.out).keep (later_bel hv)) HXE.out Try.underlying22 (by kernel_rfl) rfl rfl rfl)) ?_
              simp only [Act.put, List.setIfInBounds_toArray, List.set_cons_zero, List.set_cons_succ]
              refine wpQuiet_val (by kernel_rfl) (.int .u64 (Gold.vF x)) (fun v hv => (xg_load1 (E := feC) (i := kk) (j := 0) ((HX.out.keep B0.out).keep (later_bel hv)) HXE.out rfl rfl Try.underlying29 rfl rfl rfl)) ?_
              simp only [Act.put, List.setIfInBounds_toArray, List.set_cons_zero, List.set_cons_succ]
              refine wpQuiet_val (by kernel_rfl) (.bool true) (fun v hv => (xo_eqlT .u64 (Gold.vF y) (Gold.vF x) hvxy rfl rfl rfl)) ?_
              simp only [Act.put, List.setIfInBounds_toArray, List.set_cons_zero, List.set_cons_succ]
              refine wpQuiet_val (by kernel_rfl) (.bool true) (fun v hv => rfl) ?_
              simp only [Act.put, List.setIfInBounds_toArray, List.set_cons_zero, List.set_cons_succ]
              refine wpQuiet_val (by kernel_rfl) (.bool true) (fun v hv => rfl) ?_
              simp only [Act.put, List.setIfInBounds_toArray, List.set_cons_zero, List.set_cons_succ]
              refine wpQuiet_val (by kernel_rfl) (.int .i64 (cnt : Int)) (fun v hv => rfl) ?_
              simp only [Act.put, List.setIfInBounds_toArray, List.set_cons_zero, List.set_cons_succ]
              refine wpQuiet_val (by kernel_rfl) (.int .i64 (most : Int)) (fun v hv => rfl) ?_
              simp only [Act.put, List.setIfInBounds_toArray, List.set_cons_zero, List.set_cons_succ]
              refine wpQuiet_val (by kernel_rfl) (.bool false) (fun v hv => (xo_lssF .i64 (cnt : Int) (most : Int) (by omega) rfl rfl rfl)) ?_
              simp only [Act.put, List.setIfInBounds_toArray, List.set_cons_zero, List.set_cons_succ]
              refine wpQuiet_val (by kernel_rfl) (.bool false) (fun v hv => rfl) ?_
              simp only [Act.put, List.setIfInBounds_toArray, List.set_cons_zero, List.set_cons_succ]
              refine wpQuiet_nil ?_
              intro X1_8
              have hb := X1_8.below
              generalize X1_8.at = V2 at *
              have B1 := Lib.hid hb
              clear hb
              go_upto_region 5 with fail
              refine wp_region_lit ?_
              refine wpList_run (by kernel_rfl) (.int .i64 (i : Int)) V2 rfl ?_
              simp only [Act.put, List.setIfInBounds_toArray, List.set_cons_zero, List.set_cons_succ]
              refine wpList_run (by kernel_rfl) (.int .i64 ((i + 1 : Nat) : Int)) V2 (xo_addI (i : Int) 1 ((i + 1 : Nat) : Int) (by omega) (by omega) (by omega) rfl rfl rfl) ?_
              simp only [Act.put, List.setIfInBounds_toArray, List.set_cons_zero, List.set_cons_succ]
              refine wpList_run (by kernel_rfl) (.int .i64 ((i + 1 : Nat) : Int)) V2 rfl ?_
              simp only [Act.put, List.setIfInBounds_toArray, List.set_cons_zero, List.set_cons_succ]
              refine wpList_nil ?_
              have hko := (own_keep OW.out B1.out)
              have C0_2 := Lib.hid (bel_step B0.out B1.out)
              have hq9 := C0_2.out
              go_wp2_with fail
              go_roundw
              case rel => exact ⟨i + 1, ys, cnt, by omega, by go_num, hyl.out, hko, rfl, hcn.out, hcnm, hq9⟩
              case measure => simp [intOf]; omega
          · have hvxy : ¬ Gold.vF y = Gold.vF x := fun h => hxy (Gold.vF_inj h)
            go_upto_region 8 with fail
            refine wp_later_lex (by kernel_rfl) (lexOK_of (by kernel_rfl) (by kernel_rfl)) ?_
            refine wpQuiet_val (by kernel_rfl) (.int .u64 (Gold.vF by_)) (fun v hv => rfl) ?_
            simp only [Act.put, List.setIfInBounds_toArray, List.set_cons_zero, List.set_cons_succ]
            refine wpQuiet_val (by kernel_rfl) (.bool true) (fun v hv => (xo_neqT .u64 (Gold.vF by_) 0 hv0 rfl rfl rfl)) ?_
            simp only [Act.put, List.setIfInBounds_toArray, List.set_cons_zero, List.set_cons_succ]
            refine wpQuiet_val (by kernel_rfl) (.bool true) (fun v hv => rfl) ?_
            simp only [Act.put, List.setIfInBounds_toArray, List.set_cons_zero, List.set_cons_succ]
            refine wpQuiet_val (by kernel_rfl) (.slice (some ⟨g8, 0, none⟩) n c8) (fun v hv => rfl) ?_
            simp only [Act.put, List.setIfInBounds_toArray, List.set_cons_zero, List.set_cons_succ]
            refine wpQuiet_val (by kernel_rfl) (.int .i64 (kk : Int)) (fun v hv => rfl) ?_
            simp only [Act.put, List.setIfInBounds_toArray, List.set_cons_zero, List.set_cons_succ]
            refine wpQuiet_val (by kernel_rfl) (.pointer (some (gad (some ⟨g8, 0, none⟩) (kk * 1)))) (fun v hv => (xg_idx .i64 (HYs.out.keep (later_bel hv)) HYE.out Try.underlying22 (by kernel_rfl) rfl rfl rfl)) ?_
            simp only [Act.put, List.setIfInBounds_toArray, List.set_cons_zero, List.set_cons_succ]
            refine wpQuiet_val (by kernel_rfl) (.int .u64 (Gold.vF y)) (fun v hv => (xg_load1 (E := feC) (i := kk) (j := 0) (HYs.out.keep (later_bel hv)) HYE.out rfl rfl Try.underlying29 rfl rfl rfl)) ?_
            simp only [Act.put, List.setIfInBounds_toArray, List.set_cons_zero, List.set_cons_succ]
            refine wpQuiet_val (by kernel_rfl) (.slice A n c) (fun v hv => rfl) ?_
            simp only [Act.put, List.setIfInBounds_toArray, List.set_cons_zero, List.set_cons_succ]
            refine wpQuiet_val (by kernel_rfl) (.int .i64 (kk : Int)) (fun v hv => rfl) ?_
            simp only [Act.put, List.setIfInBounds_toArray, List.set_cons_zero, List.set_cons_succ]
            refine wpQuiet_val (by kernel_rfl) (.pointer (some (gad A (kk * 1)))) (fun v hv => (xg_idx .i64 ((HX.out.keep B0.out).keep (later_bel hv)) HXE.out Try.underlying22 (by kernel_rfl) rfl rfl rfl)) ?_
            simp only [Act.put, List.setIfInBounds_toArray, List.set_cons_zero, List.set_cons_succ]
            refine wpQuiet_val (by kernel_rfl) (.int .u64 (Gold.vF x)) (fun v hv => (xg_load1 (E := feC) (i := kk) (j := 0) ((HX.out.keep B0.out).keep (later_bel hv)) HXE.out rfl rfl Try.underlying29 rfl rfl rfl)) ?_
            simp only [Act.put, List.setIfInBounds_toArray, List.set_cons_zero, List.set_cons_succ]
            refine wpQuiet_val (by kernel_rfl) (.bool false) (fun v hv => (xo_eqlF .u64 (Gold.vF y) (Gold.vF x) hvxy rfl rfl rfl)) ?_
            simp only [Act.put, List.setIfInBounds_toArray, List.set_cons_zero, List.set_cons_succ]
            refine wpQuiet_val (by kernel_rfl) (.bool false) (fun v hv => rfl) ?_
            simp only [Act.put, List.setIfInBounds_toArray, List.set_cons_zero, List.set_cons_succ]
            refine wpQuiet_val (by kernel_rfl) (.bool false) (fun v hv => rfl) ?_
            simp only [Act.put, List.setIfInBounds_toArray, List.set_cons_zero, List.set_cons_succ]
            refine BigFrame.wpQuiet_skip (by kernel_rfl) ?_
            try simp only [Act.put, List.setIfInBounds_toArray, List.set_cons_zero, List.set_cons_succ]
            refine BigFrame.wpQuiet_skip (by kernel_rfl) ?_
            try simp only [Act.put, List.setIfInBounds_toArray, List.set_cons_zero, List.set_cons_succ]
            refine BigFrame.wpQuiet_skip (by kernel_rfl) ?_
            try simp only [Act.put, List.setIfInBounds_toArray, List.set_cons_zero, List.set_cons_succ]
            refine wpQuiet_val (by kernel_rfl) (.bool false) (fun v hv => rfl) ?_
            simp only [Act.put, List.setIfInBounds_toArray, List.set_cons_zero, List.set_cons_succ]
            refine wpQuiet_nil ?_
            intro X1_7
            have hb := X1_7.below
            generalize X1_7.at = V2 at *
            have B1 := Lib.hid hb
            clear hb
            go_upto_region 5 with fail
            refine wp_region_lit ?_
            refine wpList_run (by kernel_rfl) (.int .i64 (i : Int)) V2 rfl ?_
            simp only [Act.put, List.setIfInBounds_toArray, List.set_cons_zero, List.set_cons_succ]
            refine wpList_run (by kernel_rfl) (.int .i64 ((i + 1 : Nat) : Int)) V2 (xo_addI (i : Int) 1 ((i + 1 : Nat) : Int) (by omega) (by omega) (by omega) rfl rfl rfl) ?_
            simp only [Act.put, List.setIfInBounds_toArray, List.set_cons_zero, List.set_cons_succ]
            refine wpList_run (by kernel_rfl) (.int .i64 ((i + 1 : Nat) : Int)) V2 rfl ?_
            simp only [Act.put, List.setIfInBounds_toArray, List.set_cons_zero, List.set_cons_succ]
            refine wpList_nil ?_
            have hko := (own_keep OW.out B1.out)
            have C0_2 := Lib.hid (bel_step B0.out B1.out)
            have hq8 := C0_2.out
            go_wp2_with fail
            go_roundw
            case rel => exact ⟨i + 1, ys, cnt, by omega, by go_num, hyl.out, hko, rfl, hcn.out, hcnm, hq8⟩
            case measure => simp [intOf]; omega
      · have hci6 : ¬ ((n : Int) > 0) := by omega
        go_upto_region 4 with fail
        refine wp_region_lit ?_
        refine wpList_run (by kernel_rfl) (.int .i64 (i : Int)) wo rfl ?_
        simp only [Act.put, List.setIfInBounds_toArray, List.set_cons_zero, List.set_cons_succ]
        refine wpList_run (by kernel_rfl) (.slice E le ce) wo rfl ?_
        simp only [Act.put, List.setIfInBounds_toArray, List.set_cons_zero, List.set_cons_succ]
        refine wpList_run (by kernel_rfl) (.int .i64 (le : Int)) wo (xo_len E le ce Try.underlying42 rfl rfl) ?_
        simp only [Act.put, List.setIfInBounds_toArray, List.set_cons_zero, List.set_cons_succ]
        refine wpList_run (by kernel_rfl) (.bool true) wo (xo_lssT .i64 (i : Int) (le : Int) (by omega) rfl rfl rfl) ?_
        simp only [Act.put, List.setIfInBounds_toArray, List.set_cons_zero, List.set_cons_succ]
        refine wpList_run (by kernel_rfl) (.bool true) wo rfl ?_
        simp only [Act.put, List.setIfInBounds_toArray, List.set_cons_zero, List.set_cons_succ]
        refine wpList_run (by kernel_rfl) (.slice A n c) wo rfl ?_
        simp only [Act.put, List.setIfInBounds_toArray, List.set_cons_zero, List.set_cons_succ]
        refine wpList_run (by kernel_rfl) (.int .i64 (n : Int)) wo (xo_len A n c Try.underlying22 rfl rfl) ?_
        simp only [Act.put, List.setIfInBounds_toArray, List.set_cons_zero, List.set_cons_succ]
        refine wpList_run (by kernel_rfl) (.bool false) wo (xo_gtrF .i64 (n : Int) 0 (by omega) rfl rfl rfl) ?_
        simp only [Act.put, List.setIfInBounds_toArray, List.set_cons_zero, List.set_cons_succ]
        refine wpList_run (by kernel_rfl) (.bool false) wo rfl ?_
        simp only [Act.put, List.setIfInBounds_toArray, List.set_cons_zero, List.set_cons_succ]
        refine wpList_nil ?_
        obtain ⟨Ar, cr, hvr⟩ := own_form OW.out
        subst hvr
        have hfin := OW.out
        go_upto_region 11 with fail
        refine wp_region_lit ?_
        refine wpList_run (by kernel_rfl) (.slice Ar n cr) wo rfl ?_
        simp only [Act.put, List.setIfInBounds_toArray, List.set_cons_zero, List.set_cons_succ]
        refine wpList_run (by kernel_rfl) (.int .i64 (cnt : Int)) wo rfl ?_
        simp only [Act.put, List.setIfInBounds_toArray, List.set_cons_zero, List.set_cons_succ]
        refine wpList_run (by kernel_rfl) (.slice Ar n cr) wo rfl ?_
        simp only [Act.put, List.setIfInBounds_toArray, List.set_cons_zero, List.set_cons_succ]
        refine wpList_run (by kernel_rfl) (.int .i64 (cnt : Int)) wo rfl ?_
        simp only [Act.put, List.setIfInBounds_toArray, List.set_cons_zero, List.set_cons_succ]
        refine wpList_nil ?_
        go_wp2_with fail
        go_ret2
        exact ⟨Ar, cr, ys, cnt, rfl, hyl.out, hcn.out, hcnm, hfin, B0.out⟩
    · have hci5 : ¬ ((i : Int) < (le : Int)) := by omega
      go_upto_region 4 with fail
      refine wp_region_lit ?_
      refine wpList_run (by kernel_rfl) (.int .i64 (i : Int)) wo rfl ?_
      simp only [Act.put, List.setIfInBounds_toArray, List.set_cons_zero, List.set_cons_succ]
      refine wpList_run (by kernel_rfl) (.slice E le ce) wo rfl ?_
      simp only [Act.put, List.setIfInBounds_toArray, List.set_cons_zero, List.set_cons_succ]
      refine wpList_run (by kernel_rfl) (.int .i64 (le : Int)) wo (xo_len E le ce Try.underlying42 rfl rfl) ?_
      simp only [Act.put, List.setIfInBounds_toArray, List.set_cons_zero, List.set_cons_succ]
      refine wpList_run (by kernel_rfl) (.bool false) wo (xo_lssF .i64 (i : Int) (le : Int) (by omega) rfl rfl rfl) ?_
      simp only [Act.put, List.setIfInBounds_toArray, List.set_cons_zero, List.set_cons_succ]
      refine wpList_run (by kernel_rfl) (.bool false) wo rfl ?_
      simp only [Act.put, List.setIfInBounds_toArray, List.set_cons_zero, List.set_cons_succ]
      refine wpList_skip (by kernel_rfl) ?_
      try simp only [Act.put, List.setIfInBounds_toArray, List.set_cons_zero, List.set_cons_succ]
      refine wpList_skip (by kernel_rfl) ?_
      try simp only [Act.put, List.setIfInBounds_toArray, List.set_cons_zero, List.set_cons_succ]
      refine wpList_skip (by kernel_rfl) ?_
      try simp only [Act.put, List.setIfInBounds_toArray, List.set_cons_zero, List.set_cons_succ]
      refine wpList_run (by kernel_rfl) (.bool false) wo rfl ?_
      simp only [Act.put, List.setIfInBounds_toArray, List.set_cons_zero, List.set_cons_succ]
      refine wpList_nil ?_
      obtain ⟨Ar, cr, hvr⟩ := own_form OW.out
      subst hvr
      have hfin := OW.out
      go_upto_region 11 with fail
      refine wp_region_lit ?_
      refine wpList_run (by kernel_rfl) (.slice Ar n cr) wo rfl ?_
      simp only [Act.put, List.setIfInBounds_toArray, List.set_cons_zero, List.set_cons_succ]
      refine wpList_run (by kernel_rfl) (.int .i64 (cnt : Int)) wo rfl ?_
      simp only [Act.put, List.setIfInBounds_toArray, List.set_cons_zero, List.set_cons_succ]
      refine wpList_run (by kernel_rfl) (.slice Ar n cr) wo rfl ?_
      simp only [Act.put, List.setIfInBounds_toArray, List.set_cons_zero, List.set_cons_succ]
      refine wpList_run (by kernel_rfl) (.int .i64 (cnt : Int)) wo rfl ?_
      simp only [Act.put, List.setIfInBounds_toArray, List.set_cons_zero, List.set_cons_succ]
      refine wpList_nil ?_
      go_wp2_with fail
      go_ret2
      exact ⟨Ar, cr, ys, cnt, rfl, hyl.out, hcn.out, hcnm, hfin, B0.out⟩
end Go.Proofs.Ytnekndakipggbaa

namespace Gold
set_option linter.unusedVariables false
set_option linter.unusedSimpArgs false
set_option linter.unusedSectionVars false
set_option maxRecDepth 8000
theorem filter_two (p q : Nat → Bool) : ∀ l : List Nat, l.length ≤ (l.filter fun i => p i && q i).length + (l.filter fun i => !p i).length + (l.filter fun i => !q i).length
  | [] => Nat.le_refl _
  | x :: l => by
    have ih := filter_two p q l
    cases hp : p x <;> cases hq : q x <;> simp [List.filter_cons, hp, hq] <;> omega
/-- two rows near one word are the same -/
theorem near_unique {n k K : Nat} {w : Nat → F} {f g : List F} (hn : n = 2 ^ K) (hK : K ≤ 16) (hk : k ≤ n) (hf : f.length ≤ k) (hg : g.length ≤ k) (h1 : (differF n K w f).length ≤ (n - k) / 2) (h2 : (differF n K w g).length ≤ (n - k) / 2) : ∀ i, cfF f i = cfF g i := by
  have h65 := pow2_le hK
  have hm := mnF_le f g 0 1
  have ht := filter_two (fun i => decide (evL f (ptF K i) = w i)) (fun i => decide (evL g (ptF K i) = w i)) (List.range n)
  rw [List.length_range] at ht
  have h3 : n ≤ ((List.range n).filter fun i => decide (evL f (ptF K i) = w i) && decide (evL g (ptF K i) = w i)).length + (differF n K w f).length + (differF n K w g).length := ht
  have hle := List.length_filter_le (fun i => decide (evL f (ptF K i) = w i) && decide (evL g (ptF K i) = w i)) (List.range n)
  rw [List.length_range] at hle
  have hz := zero_at (p := mnF f g 0 1) hK ((List.range n).filter fun i => decide (evL f (ptF K i) = w i) && decide (evL g (ptF K i) = w i)) (filter_nodup _ _) (fun i hi => by
    have := List.mem_range.1 (List.mem_filter.1 hi).1
    omega) (by omega) (by omega) (fun i hi => by
    have h4 := (List.mem_filter.1 hi).2
    simp only [Bool.and_eq_true, decide_eq_true_eq] at h4
    rw [evL_mnF, h4.1, h4.2, F_pow_zero]
    grind)
  intro i
  have h5 := hz i
  rw [cfF_mnF, if_pos (Nat.zero_le _), Nat.sub_zero] at h5
  grind
end Gold
namespace Go.Proofs.Ytnekndakipggbaa
set_option linter.unusedVariables false
set_option linter.unusedSimpArgs false
set_option linter.unusedSectionVars false
open Go.RowKit Go.Proofs.Ytnekndakipggbaa.K
theorem differ_cw {n M : Nat} (hn : n = 2 ^ M) (ys p : List Gold.F) : (Gold.differF n M (Gold.cfF ys) p).length = cntF (Gold.cwF p M) ys n := by
  unfold Gold.differF cntF
  congr 1
  refine List.filter_congr fun i hi => ?_
  have hi := List.mem_range.1 hi
  unfold Gold.cwF
  rw [Gold.cfF_tbF, if_pos (by omega)]
theorem decode_of (A : Option Addr) (n c : Nat) (ys : List Gold.F) (z K L k M : Nat) (hn : n = 2 ^ M) (hM : K + L = M) (hz : z = 2 ^ L) (hL1 : 1 ≤ L) (hL4 : L ≤ 4) (hM13 : M ≤ 13) (hk : 2 ^ K = k) (p : List Gold.F) (hp : p.length = k) (cnt : Nat) (hc : cntF (Gold.cwF p M) ys n = cnt) (hd : cnt ≤ (n - k) / 2) (w : World) (hX : Sg feC 1 w A n c ys) :
    Calls Try.prog 29 #[.slice A n c, .int .i64 (z : Int)] w fun e w' => ∃ g, e = .returned (.tuple #[.slice (some ⟨g, 0, none⟩) k k, .int .i64 (cnt : Int), .int .i64 0]) ∧ Sg feC 1 w' (some ⟨g, 0, none⟩) k k p ∧ Below w.heap.size w w' := by
  subst hM hk
  have hkn : 2 ^ K ≤ n := by rw [hn]; exact Nat.pow_le_pow_right (by omega) (by omega)
  have hdp := differ_cw hn ys p
  rw [hc] at hdp
  refine (decode_yes A n c ys z K L hn hz hL1 hL4 hM13 w hX).mono ?_
  rintro e w' ⟨v, dd, er, rfl, h, hb⟩
  rcases h with ⟨rfl, f, hf, hl, hfd, rfl, g, rfl, hs⟩ | ⟨_, _, _, hno⟩
  · have hu := Gold.near_unique hn (by omega) hkn hl (Nat.le_of_eq hp) hfd (by omega)
    have e1 : Gold.tbF (2 ^ K) (Gold.cfF f) = p := by rw [show Gold.cfF f = Gold.cfF p from funext hu, Gold.tbF_cfF hp]
    have e2 : (Gold.differF n (K + L) (Gold.cfF ys) f).length = cnt := by rw [Gold.differ_congr (g := p) (Gold.evL_congr hu), hdp]
    rw [e1] at hs
    exact ⟨g, by rw [e2]; rfl, hs, hb⟩
  · have := hno p (Nat.le_of_eq hp)
    omega
end Go.Proofs.Ytnekndakipggbaa

namespace Go.Proofs.Ytnekndakipggbaa.K
set_option linter.unusedVariables false
set_option linter.unusedSimpArgs false
set_option linter.unusedSectionVars false
set_option maxRecDepth 8000
open Go.ChangeShapes Go.WideShapes Go.ChangeAt Go.RowKit Go.Joins Go.Deep
theorem list_ofK {α : Type} (n : Nat) (P : Nat → α → Prop) (h : ∀ i, i < n → ∃ x, P i x) : ∃ l : List α, l.length = n ∧ ∀ i x, l[i]? = some x → P i x := by
  induction n with
  | zero => exact ⟨[], rfl, fun i x hx => by simp at hx⟩
  | succ n ih =>
    obtain ⟨l, hl, hp⟩ := ih fun i hi => h i (by omega)
    obtain ⟨x, hx⟩ := h n (Nat.lt_succ_self n)
    refine ⟨l ++ [x], by simp [hl], fun i y hy => ?_⟩
    by_cases hi : i < l.length
    · rw [List.getElem?_append_left hi] at hy
      exact hp i y hy
    · rw [List.getElem?_append_right (by omega)] at hy
      have e : i = n := by
        have := (List.getElem?_eq_some_iff.1 hy).1
        simp at this
        omega
      subst e
      rw [hl, Nat.sub_self] at hy
      simp at hy
      subst hy
      exact hx
section
variable {α : Type} {E : α → List Value} {k : Nat} [hE : Enc E k] {P : Program} {H : Type} {enc : TypeId × Value → H} {W : World} {b1 : Nat} {sp : Nat → Bool} {hd : Bool} {t e : TypeId}
/-- a slice that comes in, its elements opened -/
theorem open_seq (p : α → Prop) (hu : P.underlying t = some (.slice e)) (hc : P.cellsOf e = k) (hel : ∀ m cs y, cs.length = k → DataW.trod enc P W b1 sp hd m e cs = some y → ∃ x, cs = E x ∧ p x) {m : Nat} {cs : List Value} {y : DataW H × List MemPlace} (h : DataW.trod enc P W b1 sp hd m t cs = some y) :
    ∃ A n c xs, cs = [.slice A n c] ∧ Sg E k W A n c xs ∧ ∀ x ∈ xs, p x := by
  have hk := hE.pos
  rcases open_slice hu h with ⟨hcs, _⟩ | ⟨a, len, cap, m', n', D, Pl, hcs, _, hl, hm, hmm, _, hi⟩
  · exact ⟨none, 0, 0, [], hcs, Sg.nil_ _, fun x hx => by cases hx⟩
  · unfold maxLen at hm
    have hC : ∀ i, i < len → ∃ x, p x ∧ ∀ j v, (E x)[j]? = some v → W.cell? ((a.add (i * k)).add j) = some v := fun i hin => by
      obtain ⟨cs', hc2, ht⟩ := hi i (by rw [hmm]; split <;> omega)
      rw [hc] at hc2
      obtain ⟨_, hcl, hat⟩ := World.cells?_some hc2
      obtain ⟨x, hx, hpx⟩ := hel _ _ _ hcl ht
      subst hx
      exact ⟨x, hpx, fun j v hv => (hat j (by rw [← hE.len x]; exact (List.getElem?_eq_some_iff.1 hv).1)).trans hv⟩
    obtain ⟨xs, hxl, hxx⟩ := list_ofK len _ hC
    refine ⟨some a, len, cap, xs, hcs, ⟨hxl, hl, by omega, fun e => (by cases e), fun i x hx => ?_⟩, fun x hx => ?_⟩
    · have hil := (List.getElem?_eq_some_iff.1 hx).1
      obtain ⟨b, off, s⟩ := a
      obtain ⟨x0, hx0⟩ : ∃ x0, xs[0]? = some x0 := ⟨_, List.getElem?_eq_getElem (by omega)⟩
      obtain ⟨v0, hv0⟩ : ∃ v0, (E x0)[0]? = some v0 := ⟨_, List.getElem?_eq_getElem (by rw [hE.len]; exact hk)⟩
      have h0 := (hxx 0 x0 hx0).2 0 v0 hv0
      rw [Nat.zero_mul] at h0
      have hs : s = none := by
        cases s with
        | none => rfl
        | some q =>
          simp only [Addr.add, if_true, World.cell?] at h0
          split at h0 <;> simp at h0
      subst hs
      refine ⟨b, off, rfl, fun j v hv => ?_⟩
      have h1 := (hxx i x hx).2 j v hv
      rw [Addr.add_mid, Addr.add_mid] at h1
      exact h1
    · obtain ⟨i, hi'⟩ := List.getElem?_of_mem hx
      exact (hxx i x hi').1
end
end Go.Proofs.Ytnekndakipggbaa.K
namespace Go.Proofs.Ytnekndakipggbaa
set_option linter.unusedVariables false
set_option linter.unusedSimpArgs false
set_option linter.unusedSectionVars false
open Go.ChangeShapes Go.WideShapes Go.ChangeAt Go.RowKit Go.Joins Go.Deep Go.Proofs.Ytnekndakipggbaa.K
theorem own : ownKnob Try.prog.godebug = none := by kernel_rfl
theorem laidOut : laidOutB Try.prog = true := by kernel_rfl
section
variable {H : Type} {enc : TypeId × Value → H} {W : World} {base : Nat} {sp : Nat → Bool} {b1 : Nat} {hd : Bool} {v : Value} {d : DataW H} {p : List MemPlace}
theorem cells9U : Try.prog.cellsOf 29 = 1 := by kernel_rfl
theorem trod9_u64 {m : Nat} {cs : List Value} {y : DataW H × List MemPlace} (h : DataW.trod enc Try.prog W b1 sp hd m 29 cs = some y) : ∃ x : Nat, cs = wdC x ∧ x < 18446744073709551616 := by
  obtain ⟨a, e, _, w⟩ := DataW.trod_int Try.underlying29 h
  have hb := bounds_u64 w
  exact ⟨a.toNat, by rw [e]; simp only [wdC]; rw [Int.toNat_of_nonneg hb.1], by omega⟩
theorem open9_u64s (hv : Value.okWide Try.prog W .any base 22 v) (h : DataW.Trod enc Try.prog W b1 sp hd 22 v d p) : ∃ (A : Option Addr) (n c : Nat) (xs : List Nat), v = .slice A n c ∧ Sg wdC 1 W A n c xs ∧ ∀ x ∈ xs, x < 18446744073709551616 := by
  obtain ⟨A, n, c, rfl⟩ : ∃ A n c, v = .slice A n c := okWide_slice Try.underlying22 hv
  obtain ⟨fuel, hf⟩ := h
  obtain ⟨A2, n2, c2, xs, e, hs, hp⟩ := open_seq (E := wdC) (fun x => x < 18446744073709551616) Try.underlying22 cells9U (fun m cs y _ hy => trod9_u64 hy) (show DataW.trod enc Try.prog W b1 sp hd fuel 22 [.slice A n c] = some (d, p) by simpa [Value.cells] using hf)
  simp only [List.cons.injEq, Value.slice.injEq, and_true] at e
  obtain ⟨rfl, rfl, rfl⟩ := e
  exact ⟨A, n, c, xs, rfl, hs, hp⟩
end
end Go.Proofs.Ytnekndakipggbaa

namespace Go.Proofs.Ytnekndakipggbaa
set_option linter.unusedVariables false
set_option linter.unusedSimpArgs false
set_option linter.unusedSectionVars false
set_option maxRecDepth 8000
open Go.ChangeShapes Go.WideShapes Go.ChangeAt Go.RowKit Go.Joins Go.Deep Go.Proofs.Ytnekndakipggbaa.K
section
variable {H : Type} {enc : TypeId × Value → H} {W : World} {base : Nat} {sp : Nat → Bool} {b1 : Nat} {hd : Bool} {v : Value} {d : DataW H} {p : List MemPlace}
theorem cells9E : Try.prog.cellsOf 74 = 2 := by kernel_rfl
theorem cells9B : Try.prog.cellsOf 5 = 1 := by kernel_rfl
theorem trod9_err {m : Nat} {cs : List Value} {y : DataW H × List MemPlace} (hl : cs.length = 2) (h : DataW.trod enc Try.prog W b1 sp hd m 74 cs = some y) : ∃ o : Nat × Nat, cs = erC o ∧ (o.1 < 256 ∧ o.2 < 18446744073709551616) := by
  obtain ⟨ys, m2, _, _, _, hn, hel⟩ := DataW.trod_struct Try.underlying74 h
  match cs, hl, ys, hn with
  | [c0, c1], _, [y0, y1], _ =>
    have g0 : DataW.trod enc Try.prog W b1 sp hd m2 5 [c0] = some y0 := by simpa [cells9B] using hel 0 _ rfl
    have g1 : DataW.trod enc Try.prog W b1 sp hd m2 29 [c1] = some y1 := by simpa [cells9U] using hel 1 _ rfl
    obtain ⟨a, e0, _, w0⟩ := DataW.trod_int Try.underlying5 g0
    obtain ⟨b, e1, h1⟩ := trod9_u64 g1
    have h0 := bounds_u8 w0
    simp only [List.cons.injEq, and_true, wdC] at e0 e1
    subst e0 e1
    exact ⟨(a.toNat, b), by simp only [erC]; rw [Int.toNat_of_nonneg h0.1], by show a.toNat < 256; omega, h1⟩
theorem open9_errs (hv : Value.okWide Try.prog W .any base 42 v) (h : DataW.Trod enc Try.prog W b1 sp hd 42 v d p) : ∃ (A : Option Addr) (n c : Nat) (xs : List (Nat × Nat)), v = .slice A n c ∧ Sg erC 2 W A n c xs ∧ ∀ x ∈ xs, x.1 < 256 ∧ x.2 < 18446744073709551616 := by
  obtain ⟨A, n, c, rfl⟩ : ∃ A n c, v = .slice A n c := okWide_slice Try.underlying42 hv
  obtain ⟨fuel, hf⟩ := h
  obtain ⟨A2, n2, c2, xs, e, hs, hp⟩ := open_seq (E := erC) (fun x => x.1 < 256 ∧ x.2 < 18446744073709551616) Try.underlying42 cells9E (fun m cs y hl hy => trod9_err hl hy) (show DataW.trod enc Try.prog W b1 sp hd fuel 42 [.slice A n c] = some (d, p) by simpa [Value.cells] using hf)
  simp only [List.cons.injEq, Value.slice.injEq, and_true] at e
  obtain ⟨rfl, rfl, rfl⟩ := e
  exact ⟨A, n, c, xs, rfl, hs, hp⟩
end
end Go.Proofs.Ytnekndakipggbaa

namespace Gold
set_option linter.unusedVariables false
set_option linter.unusedSimpArgs false
set_option linter.unusedSectionVars false
set_option maxRecDepth 8000
theorem near_unique2 {n k K : Nat} {w : Nat → F} {f g : List F} (hn : n = 2 ^ K) (hK : K ≤ 16) (hk : k ≤ n) (hf : f.length ≤ k) (hg : g.length ≤ k) (h12 : (differF n K w f).length + (differF n K w g).length ≤ n - k) : ∀ i, cfF f i = cfF g i := by
  have h65 := pow2_le hK
  have hm := mnF_le f g 0 1
  have ht := filter_two (fun i => decide (evL f (ptF K i) = w i)) (fun i => decide (evL g (ptF K i) = w i)) (List.range n)
  rw [List.length_range] at ht
  have h3 : n ≤ ((List.range n).filter fun i => decide (evL f (ptF K i) = w i) && decide (evL g (ptF K i) = w i)).length + (differF n K w f).length + (differF n K w g).length := ht
  have hle := List.length_filter_le (fun i => decide (evL f (ptF K i) = w i) && decide (evL g (ptF K i) = w i)) (List.range n)
  rw [List.length_range] at hle
  have hz := zero_at (p := mnF f g 0 1) hK ((List.range n).filter fun i => decide (evL f (ptF K i) = w i) && decide (evL g (ptF K i) = w i)) (filter_nodup _ _) (fun i hi => by
    have := List.mem_range.1 (List.mem_filter.1 hi).1
    omega) (by omega) (by omega) (fun i hi => by
    have h4 := (List.mem_filter.1 hi).2
    simp only [Bool.and_eq_true, decide_eq_true_eq] at h4
    rw [evL_mnF, h4.1, h4.2, F_pow_zero]
    grind)
  intro i
  have h5 := hz i
  rw [cfF_mnF, if_pos (Nat.zero_le _), Nat.sub_zero] at h5
  grind
theorem inF_cw {ps : List F} {N M : Nat} (hp : ps.length = N) (hN : N ≤ 2 ^ M) (hM : M ≤ 15) : (inF (cwF ps M) M).length ≤ N := by
  have hle := trimF_le ps
  rw [inF_unique (f := trimF ps) hM (trimF_trm ps) (by omega) (fun i hi => by
    rw [evL_trimF]
    unfold cwF
    rw [cfF_tbF, if_pos hi])]
  omega
theorem inF_agrees {ys : List F} {n M : Nat} (hn : n = 2 ^ M) (hM : M ≤ 16) : (differF n M (cfF ys) (inF ys M)).length = 0 := by
  unfold differF
  rw [List.length_eq_zero_iff, List.filter_eq_nil_iff]
  intro i hi
  have hi := List.mem_range.1 hi
  rw [inF_at hM (by omega)]
  simp
end Gold
namespace Go.Proofs.Ytnekndakipggbaa
set_option linter.unusedVariables false
set_option linter.unusedSimpArgs false
set_option linter.unusedSectionVars false
open Go.RowKit Go.Proofs.Ytnekndakipggbaa.K
theorem cnt_zero {c ys : List Gold.F} {n : Nat} (hc : c.length = n) (hy : ys.length = n) (h : cntF c ys n = 0) : ys = c := by
  refine ((dst_zero (hc.trans hy.symm)).1 ?_).symm
  unfold dstF
  rw [hc, hy, Nat.max_self, Nat.min_self, Nat.sub_self, Nat.zero_add]
  exact h
/-- a row that agrees with a word everywhere, where another one has few errors: no errors -/
theorem far_rows {n k M cnt : Nat} {ys ps g : List Gold.F} (hn : n = 2 ^ M) (hM : M ≤ 16) (hk : k ≤ n) (hg : g.length ≤ k) (hp : ps.length ≤ k) (hd : (Gold.differF n M (Gold.cfF ys) g).length = 0) (hc : cntF (Gold.cwF ps M) ys n = cnt) (hcn : cnt ≤ n - k) : cnt = 0 := by
  have hdp := differ_cw hn ys ps
  rw [hc] at hdp
  have hu := Gold.near_unique2 (w := Gold.cfF ys) hn hM hk hg hp (by omega)
  rw [← Gold.differ_congr (f := g) (Gold.evL_congr hu), hd] at hdp
  exact hdp.symm
theorem is_not_cw {n k M cnt : Nat} {ys ps : List Gold.F} (hn : n = 2 ^ M) (hM : M ≤ 16) (hk : k ≤ n) (hp : ps.length ≤ k) (hc : cntF (Gold.cwF ps M) ys n = cnt) (hcn : cnt ≤ n - k) (h0 : cnt ≠ 0) : ¬ (Gold.inF ys M).length ≤ k := fun hl =>
  h0 (far_rows hn hM hk hl hp (Gold.inF_agrees hn hM) hc hcn)
theorem exec_eqBb {P : Program} {ev : Operand → Value} {o : Oper} {w : World} {x y : Operand} {ty t : TypeId} (b c : Bool) (hu : P.underlying ty = some .bool) (ho : o.op = .binOp .eql ty x y t) (hx : ev x = .bool b) (hy : ev y = .bool c) : (execOp ev o).run P w = .ok (.value (.bool (b == c))) w := by
  unfold execOp
  rw [ho]
  simp only [hx, hy]
  cases b <;> cases c <;> go_simp
end Go.Proofs.Ytnekndakipggbaa

