/- Several texts in one: Sx9c, Sy9, Sy9r, Sz9n, Ua9. -/
import Derived.Test.YtkefijogpiofbaaH13
namespace Go.Proofs.Ytkefijogpiofbaa
set_option linter.unusedVariables false
set_option linter.unusedSimpArgs false
set_option linter.unusedSectionVars false
set_option maxRecDepth 8000
open Go.RowKit Go.Proofs.Ytkefijogpiofbaa.K
attribute [local irreducible] wpList wpQuiet
/-- an error in cells -/
def erC (p : Nat × Nat) : List Value := [.int .u8 (p.1 : Int), .int .u64 (p.2 : Int)]
instance : Enc erC 2 := ⟨fun _ => rfl, fun x u hu => by
  simp only [erC, List.mem_cons, List.not_mem_nil, or_false] at hu
  rcases hu with rfl | rfl <;> rfl, by decide⟩
theorem cntF_self (xs : List Gold.F) (n : Nat) : cntF xs xs n = 0 := by simp [cntF]
theorem filter_one {p q : Nat → Bool} {k : Nat} (h : ∀ j, j ≠ k → p j = q j) (hp : p k = false) (hq : q k = true) : ∀ n, ((List.range n).filter q).length = ((List.range n).filter p).length + if k < n then 1 else 0
  | 0 => rfl
  | n + 1 => by
    have ih := filter_one h hp hq n
    rw [List.range_succ, List.filter_append, List.filter_append, List.length_append, List.length_append]
    by_cases e : n = k
    · subst e
      rw [if_neg (by omega)] at ih
      rw [if_pos (by omega), ih]
      simp [List.filter_cons, hp, hq]
    · have hpq := h n e
      have hk : (k < n + 1) ↔ (k < n) := by omega
      simp only [List.filter_cons, List.filter_nil, hpq, hk, ih]
      omega
theorem cntF_set {xs ys : List Gold.F} {n k : Nat} {x y z : Gold.F} (hx : xs.length = n) (hy : ys.length = n) (hk : k < n) (hxk : xs[k]? = some x) (hyk : ys[k]? = some y) (hxy : y = x) (hz : z ≠ x) : cntF xs (ys.set k z) n = cntF xs ys n + 1 := by
  unfold cntF
  have h1 : ∀ j, j ≠ k → (fun j => !decide (Gold.cfF xs j = Gold.cfF ys j)) j = (fun j => !decide (Gold.cfF xs j = Gold.cfF (ys.set k z) j)) j := fun j hj => by
    have : Gold.cfF (ys.set k z) j = Gold.cfF ys j := by unfold Gold.cfF; rw [List.getElem?_set_ne (fun e => hj e.symm)]
    simp only [this]
  have h2 : (fun j => !decide (Gold.cfF xs j = Gold.cfF ys j)) k = false := by simp only [Gold.cfF_some hxk, Gold.cfF_some hyk, hxy, decide_true, Bool.not_true]
  have h3 : (fun j => !decide (Gold.cfF xs j = Gold.cfF (ys.set k z) j)) k = true := by
    have : Gold.cfF (ys.set k z) k = z := Gold.cfF_some (List.getElem?_set_self (by omega))
    have hne : ¬ x = z := fun e => hz e.symm
    simp only [this, Gold.cfF_some hxk, decide_eq_false hne, Bool.not_false]
  rw [filter_one h1 h2 h3 n, if_pos hk]
set_option maxRecDepth 100000 in
set_option maxHeartbeats 16000000 in
theorem corrupt_any (A : Option Addr) (n c : Nat) (xs : List Gold.F) (E : Option Addr) (le ce : Nat) (es : List (Nat × Nat)) (most : Nat) (hn : n ≤ 65536) (hmost : most ≤ 65536) (heb : ∀ e ∈ es, e.1 < 256 ∧ e.2 < 18446744073709551616) (w : World) (hX : Sg feC 1 w A n c xs) (hE : Sg erC 2 w E le ce es) :
    Calls Try.prog 23 #[.slice A n c, .slice E le ce, .int .i64 (most : Int)] w fun e w' => ∃ (A' : Option Addr) (c' : Nat) (ys : List Gold.F) (cnt : Nat), e = .returned (.tuple #[.slice A' n c', .int .i64 (cnt : Int)]) ∧ ys.length = n ∧ cntF xs ys n = cnt ∧ cnt ≤ most ∧ w'.ownsRow w.heap.size 29 1 (.slice A' n c') n (fl feC ys) ∧ Below w.heap.size w w' := by
  have HX := Lib.hid hX
  have HE := Lib.hid hE
  have HEB := Lib.hid heb
  have hxl := hX.len
  have hel := hE.len
  have hcp := hX.cap
  have htp := hX.top
  have hce := hE.cap
  have hte := hE.top
  clear hX hE heb
  go_enter Try.func23, Try.ntmps23
  go_upto_region 1 with fail
  refine wp_region_lit ?_
  refine wpList_mk (by kernel_rfl) #[] 29 0 0 (xo_empty (size := 1) Try.underlying22 (by kernel_rfl) rfl w) ?_
  intro g13 V1 hge h0 hb
  have hge2 := Nat.le_trans (Below.refl w.heap.size w).size hge
  have B0 := Lib.hid hb
  have Ow13 : Hid (V1.ownsRow w.heap.size 29 1 (.slice (some ⟨g13, 0, none⟩) 0 0) 0 (fl feC [])) := Lib.hid (own_new h0 hge2)
  clear hge hge2 h0 hb
  simp only [ptr, Act.put, List.setIfInBounds_toArray, List.set_cons_zero, List.set_cons_succ]
  refine wpList_run (by kernel_rfl) (.slice A n c) V1 rfl ?_
  simp only [Act.put, List.setIfInBounds_toArray, List.set_cons_zero, List.set_cons_succ]
  refine wpList_app2 (size := 1) (by kernel_rfl) (.tmp 13) (.tmp 14) 22 rfl (.int .u64 0) 8 Try.underlying22 (by kernel_rfl) rfl (by decide) rfl Ow13.out A n c (fl feC xs) rfl (HX.out.keep B0.out).src (by unfold maxLen; omega) (by omega) B0.out.size ?_
  intro v15 X1_0 ho hb1 hg hloc
  have hox : X1_0.ownsRow w.heap.size 29 1 v15 n (fl feC xs) := by first | exact ho | simpa using ho
  have hbr := B0.out.trans hb1
  clear B0
  have B0 := Lib.hid hbr
  clear hbr
  have Ow15_1 := Lib.hid hox
  clear ho hox hb1 hg hloc
  simp only [ptr, Act.put, List.setIfInBounds_toArray, List.set_cons_zero, List.set_cons_succ]
  refine wpList_run (by kernel_rfl) (v15) X1_0 rfl ?_
  simp only [Act.put, List.setIfInBounds_toArray, List.set_cons_zero, List.set_cons_succ]
  refine wpList_nil ?_
  go_upto_region 2 with fail
  refine wp_region_lit ?_
  refine wpList_run (by kernel_rfl) (.int .i64 0) X1_0 rfl ?_
  simp only [Act.put, List.setIfInBounds_toArray, List.set_cons_zero, List.set_cons_succ]
  refine wpList_nil ?_
  go_upto_region 3 with fail
  refine wp_region_lit ?_
  refine wpList_run (by kernel_rfl) (.int .i64 0) X1_0 rfl ?_
  simp only [Act.put, List.setIfInBounds_toArray, List.set_cons_zero, List.set_cons_succ]
  refine wpList_nil ?_
  have O2 := Ow15_1.out
  have O3 := B0.out
  go_wp2_with fail
  go_loopw [9, 10, 11, 12] (fun cv p kv bv wr => ∃ i : Nat, ∃ (ys : List Gold.F) (cnt : Nat), i ≤ le ∧ p = .int .i64 i ∧ ys.length = n ∧ wr.ownsRow w.heap.size 29 1 v15 n (fl feC ys) ∧ cv = .int .i64 (cnt : Int) ∧ cntF xs ys n = cnt ∧ cnt ≤ most ∧ Below w.heap.size w wr) (fun _ p _ _ _ => le - (intOf p).toNat)
  case atStart => exact ⟨0, xs, 0, Nat.zero_le _, rfl, hxl, O2, rfl, cntF_self xs n, Nat.zero_le _, O3⟩
  case round =>
    clear O3 O2
    obtain ⟨wo, rfl⟩ : ∃ wo : World, wo = wr := ⟨_, rfl⟩
    obtain ⟨i, ys, cnt, hi, rfl, hhyl, hOW, hhcv, hhcn, hhcm, hb0⟩ := hrel
    have hbr := hb0
    clear B0
    have B0 := Lib.hid hbr
    clear hbr
    have hyl := Lib.hid hhyl
    have OW := Lib.hid hOW
    have hcv := Lib.hid hhcv
    have hcn := Lib.hid hhcn
    have hcm := Lib.hid hhcm
    clear hb0 hhyl hOW hhcv hhcn hhcm
    have hcve := hcv.out
    subst hcve
    have hcnm := hcm.out
    have hcnl : cnt ≤ n := by rw [← hcn.out]; exact cntF_le xs ys n
    have hyln := hyl.out
    by_cases hil : i < le
    · have hci5 : ((i : Int) < (le : Int)) := by omega
      by_cases hn0 : n > 0
      · have hci6 : ((n : Int) > 0) := by omega
        go_upto_region 4 with fail
        refine wp_region_lit ?_
        refine wpList_run (by kernel_rfl) (.int .i64 (i : Int)) wo rfl ?_
        simp only [Act.put, List.setIfInBounds_toArray, List.set_cons_zero, List.set_cons_succ]
        refine wpList_run (by kernel_rfl) (.slice E le ce) wo rfl ?_
        simp only [Act.put, List.setIfInBounds_toArray, List.set_cons_zero, List.set_cons_succ]
        refine wpList_run (by kernel_rfl) (.int .i64 (le : Int)) wo (xo_len E le ce Try.underlying42 rfl rfl) ?_
        simp only [Act.put, List.setIfInBounds_toArray, List.set_cons_zero, List.set_cons_succ]
        refine wpList_run (by kernel_rfl) (.bool true) wo (xo_lssT .i64 (i : Int) (le : Int) (by omega) rfl rfl rfl) ?_
        simp only [Act.put, List.setIfInBounds_toArray, List.set_cons_zero, List.set_cons_succ]
        refine wpList_run (by kernel_rfl) (.bool true) wo rfl ?_
        simp only [Act.put, List.setIfInBounds_toArray, List.set_cons_zero, List.set_cons_succ]
        refine wpList_run (by kernel_rfl) (.slice A n c) wo rfl ?_
        simp only [Act.put, List.setIfInBounds_toArray, List.set_cons_zero, List.set_cons_succ]
        refine wpList_run (by kernel_rfl) (.int .i64 (n : Int)) wo (xo_len A n c Try.underlying22 rfl rfl) ?_
        simp only [Act.put, List.setIfInBounds_toArray, List.set_cons_zero, List.set_cons_succ]
        refine wpList_run (by kernel_rfl) (.bool true) wo (xo_gtrT .i64 (n : Int) 0 (by omega) rfl rfl rfl) ?_
        simp only [Act.put, List.setIfInBounds_toArray, List.set_cons_zero, List.set_cons_succ]
        refine wpList_run (by kernel_rfl) (.bool true) wo rfl ?_
        simp only [Act.put, List.setIfInBounds_toArray, List.set_cons_zero, List.set_cons_succ]
        refine wpList_nil ?_
        obtain ⟨er, her⟩ : ∃ er, es[i]? = some er := ⟨_, List.getElem?_eq_getElem (by omega)⟩
        have hea := (HEB.out er (List.mem_of_getElem? her)).1
        have heB := (HEB.out er (List.mem_of_getElem? her)).2
        have HER := Lib.hid her
        clear her
        obtain ⟨kk, hkk⟩ : ∃ kk, er.1 % n = kk := ⟨_, rfl⟩
        have hkn : kk < n := by rw [← hkk]; exact Nat.mod_lt _ (by omega)
        go_upto_region 6 with fail
        refine wp_region_lit ?_
        refine wpList_run (by kernel_rfl) (.slice E le ce) wo rfl ?_
        simp only [Act.put, List.setIfInBounds_toArray, List.set_cons_zero, List.set_cons_succ]
        refine wpList_run (by kernel_rfl) (.int .i64 (i : Int)) wo rfl ?_
        simp only [Act.put, List.setIfInBounds_toArray, List.set_cons_zero, List.set_cons_succ]
        refine wpList_run (by kernel_rfl) (.pointer (some (gad E (i * 2)))) wo (xg_idx .i64 (HE.out.keep B0.out) HER.out Try.underlying42 (by kernel_rfl) rfl rfl rfl) ?_
        simp only [Act.put, List.setIfInBounds_toArray, List.set_cons_zero, List.set_cons_succ]
        refine wpList_run (by kernel_rfl) (.pointer (some (gad E ((i * 2) + 0)))) wo (xg_fld 0 (HE.out.keep B0.out) HER.out (by kernel_rfl) rfl rfl) ?_
        simp only [Act.put, List.setIfInBounds_toArray, List.set_cons_zero, List.set_cons_succ]
        refine wpList_run (by kernel_rfl) (.int .u8 ((er.1 : Nat) : Int)) wo (xg_load1 (E := erC) (i := i) (j := 0) (HE.out.keep B0.out) HER.out rfl rfl Try.underlying5 rfl rfl rfl) ?_
        simp only [Act.put, List.setIfInBounds_toArray, List.set_cons_zero, List.set_cons_succ]
        refine wpList_run (by kernel_rfl) (.int .i64 ((er.1 : Nat) : Int)) wo (xo_cvt .u8 .i64 ((er.1 : Nat) : Int) ((er.1 : Nat) : Int) (by rw [IntKind.wrap_i64]; omega) Try.underlying3 Try.underlying5 rfl rfl) ?_
        simp only [Act.put, List.setIfInBounds_toArray, List.set_cons_zero, List.set_cons_succ]
        refine wpList_run (by kernel_rfl) (.slice A n c) wo rfl ?_
        simp only [Act.put, List.setIfInBounds_toArray, List.set_cons_zero, List.set_cons_succ]
        refine wpList_run (by kernel_rfl) (.int .i64 (n : Int)) wo (xo_len A n c Try.underlying22 rfl rfl) ?_
        simp only [Act.put, List.setIfInBounds_toArray, List.set_cons_zero, List.set_cons_succ]
        refine wpList_run (by kernel_rfl) (.int .i64 (kk : Int)) wo (xo_remN .i64 er.1 n kk (by omega) hkk rfl rfl rfl) ?_
        simp only [Act.put, List.setIfInBounds_toArray, List.set_cons_zero, List.set_cons_succ]
        refine wpList_run (by kernel_rfl) (.int .i64 (kk : Int)) wo rfl ?_
        simp only [Act.put, List.setIfInBounds_toArray, List.set_cons_zero, List.set_cons_succ]
        refine wpList_nil ?_
        go_upto_region 7 with fail
        refine wp_region_lit ?_
        refine wpList_run (by kernel_rfl) (.slice E le ce) wo rfl ?_
        simp only [Act.put, List.setIfInBounds_toArray, List.set_cons_zero, List.set_cons_succ]
        refine wpList_run (by kernel_rfl) (.int .i64 (i : Int)) wo rfl ?_
        simp only [Act.put, List.setIfInBounds_toArray, List.set_cons_zero, List.set_cons_succ]
        refine wpList_run (by kernel_rfl) (.pointer (some (gad E (i * 2)))) wo (xg_idx .i64 (HE.out.keep B0.out) HER.out Try.underlying42 (by kernel_rfl) rfl rfl rfl) ?_
        simp only [Act.put, List.setIfInBounds_toArray, List.set_cons_zero, List.set_cons_succ]
        refine wpList_run (by kernel_rfl) (.pointer (some (gad E ((i * 2) + 1)))) wo (xg_fld 1 (HE.out.keep B0.out) HER.out (by kernel_rfl) rfl rfl) ?_
        simp only [Act.put, List.setIfInBounds_toArray, List.set_cons_zero, List.set_cons_succ]
        refine wpList_run (by kernel_rfl) (.int .u64 ((er.2 : Nat) : Int)) wo (xg_load1 (E := erC) (i := i) (j := 1) (HE.out.keep B0.out) HER.out rfl rfl Try.underlying29 rfl rfl rfl) ?_
        simp only [Act.put, List.setIfInBounds_toArray, List.set_cons_zero, List.set_cons_succ]
        refine wpList_call (by kernel_rfl) 37 Try.func37 (by kernel_rfl) (by kernel_rfl) _ _ #[.int .u64 ((er.2 : Nat) : Int)] rfl (by kernel_rfl) ?_
        refine (J.rreduceF (er.2 : Int) wo ⟨by omega, by omega⟩).mono ?_
        rintro e W1 ⟨rfl, hw1⟩
        rw [hw1]
        clear hw1 W1
        refine ⟨_, rfl, ?_⟩
        simp only [Act.put, List.setIfInBounds_toArray, List.set_cons_zero, List.set_cons_succ]
        refine wpList_run (by kernel_rfl) (.int .u64 (Gold.vF (Gold.toF (er.2 : Int)))) wo rfl ?_
        simp only [Act.put, List.setIfInBounds_toArray, List.set_cons_zero, List.set_cons_succ]
        refine wpList_nil ?_
        obtain ⟨by_, hby⟩ : ∃ b, Gold.toF (er.2 : Int) = b := ⟨_, rfl⟩
        rw [hby]
        clear hby
        obtain ⟨x, hx⟩ : ∃ x, xs[kk]? = some x := ⟨_, List.getElem?_eq_getElem (by omega)⟩
        obtain ⟨y, hy⟩ : ∃ y, ys[kk]? = some y := ⟨_, List.getElem?_eq_getElem (by omega)⟩
        have HXE := Lib.hid hx
        have HYE := Lib.hid hy
        clear hx hy
        obtain ⟨g8, c8, hv8, hg8⟩ := own_at (i := kk) OW.out hkn
        subst hv8
        have HG8 := Lib.hid hg8
        clear hg8
        have HYs := Lib.hid (Sg.ownS OW.out)
        by_cases hb0 : by_ = 0
        · have hv0 : Gold.vF by_ = 0 := by rw [hb0]; rfl
          go_upto_region 8 with fail
          refine wp_later_lex (by kernel_rfl) (lexOK_of (by kernel_rfl) (by kernel_rfl)) ?_
          refine wpQuiet_val (by kernel_rfl) (.int .u64 (Gold.vF by_)) (fun v hv => rfl) ?_
          simp only [Act.put, List.setIfInBounds_toArray, List.set_cons_zero, List.set_cons_succ]
          refine wpQuiet_val (by kernel_rfl) (.bool false) (fun v hv => (xo_neqF .u64 (Gold.vF by_) 0 hv0 rfl rfl rfl)) ?_
          simp only [Act.put, List.setIfInBounds_toArray, List.set_cons_zero, List.set_cons_succ]
          refine wpQuiet_val (by kernel_rfl) (.bool false) (fun v hv => rfl) ?_
          simp only [Act.put, List.setIfInBounds_toArray, List.set_cons_zero, List.set_cons_succ]
          refine BigFrame.wpQuiet_skip (by kernel_rfl) ?_
          try simp only [Act.put, List.setIfInBounds_toArray, List.set_cons_zero, List.set_cons_succ]
          refine BigFrame.wpQuiet_skip (by kernel_rfl) ?_
          try simp only [Act.put, List.setIfInBounds_toArray, List.set_cons_zero, List.set_cons_succ]
          refine BigFrame.wpQuiet_skip (by kernel_rfl) ?_
          try simp only [Act.put, List.setIfInBounds_toArray, List.set_cons_zero, List.set_cons_succ]
          refine BigFrame.wpQuiet_skip (by kernel_rfl) ?_
          try simp only [Act.put, List.setIfInBounds_toArray, List.set_cons_zero, List.set_cons_succ]
          refine BigFrame.wpQuiet_skip (by kernel_rfl) ?_
          try simp only [Act.put, List.setIfInBounds_toArray, List.set_cons_zero, List.set_cons_succ]
          refine BigFrame.wpQuiet_skip (by kernel_rfl) ?_
          try simp only [Act.put, List.setIfInBounds_toArray, List.set_cons_zero, List.set_cons_succ]
          refine BigFrame.wpQuiet_skip (by kernel_rfl) ?_
          try simp only [Act.put, List.setIfInBounds_toArray, List.set_cons_zero, List.set_cons_succ]
          refine BigFrame.wpQuiet_skip (by kernel_rfl) ?_
          try simp only [Act.put, List.setIfInBounds_toArray, List.set_cons_zero, List.set_cons_succ]
          refine BigFrame.wpQuiet_skip (by kernel_rfl) ?_
          try simp only [Act.put, List.setIfInBounds_toArray, List.set_cons_zero, List.set_cons_succ]
          refine wpQuiet_val (by kernel_rfl) (.bool false) (fun v hv => rfl) ?_
          simp only [Act.put, List.setIfInBounds_toArray, List.set_cons_zero, List.set_cons_succ]
          refine wpQuiet_val (by kernel_rfl) (.bool false) (fun v hv => rfl) ?_
          simp only [Act.put, List.setIfInBounds_toArray, List.set_cons_zero, List.set_cons_succ]
          refine BigFrame.wpQuiet_skip (by kernel_rfl) ?_
          try simp only [Act.put, List.setIfInBounds_toArray, List.set_cons_zero, List.set_cons_succ]
          refine BigFrame.wpQuiet_skip (by kernel_rfl) ?_
          try simp only [Act.put, List.setIfInBounds_toArray, List.set_cons_zero, List.set_cons_succ]
          refine BigFrame.wpQuiet_skip (by kernel_rfl) ?_
          try simp only [Act.put, List.setIfInBounds_toArray, List.set_cons_zero, List.set_cons_succ]
          refine wpQuiet_val (by kernel_rfl) (.bool false) (fun v hv => rfl) ?_
          simp only [Act.put, List.setIfInBounds_toArray, List.set_cons_zero, List.set_cons_succ]
          refine wpQuiet_nil ?_
          intro X1_7
          have hb := X1_7.below
          generalize X1_7.at = V2 at *
          have B1 := Lib.hid hb
          clear hb
          go_upto_region 5 with fail
          refine wp_region_lit ?_
          refine wpList_run (by kernel_rfl) (.int .i64 (i : Int)) V2 rfl ?_
          simp only [Act.put, List.setIfInBounds_toArray, List.set_cons_zero, List.set_cons_succ]
          refine wpList_run (by kernel_rfl) (.int .i64 ((i + 1 : Nat) : Int)) V2 (xo_addI (i : Int) 1 ((i + 1 : Nat) : Int) (by omega) (by omega) (by omega) rfl rfl rfl) ?_
          simp only [Act.put, List.setIfInBounds_toArray, List.set_cons_zero, List.set_cons_succ]
          refine wpList_run (by kernel_rfl) (.int .i64 ((i + 1 : Nat) : Int)) V2 rfl ?_
          simp only [Act.put, List.setIfInBounds_toArray, List.set_cons_zero, List.set_cons_succ]
          refine wpList_nil ?_
          have hko := (own_keep OW.out B1.out)
          have C0_2 := Lib.hid (bel_step B0.out B1.out)
          have hq8 := C0_2.out
          go_wp2_with fail
          go_roundw
          case rel => exact ⟨i + 1, ys, cnt, by omega, by go_num, hyl.out, hko, rfl, hcn.out, hcnm, hq8⟩
          case measure => simp [intOf]; omega
        · have hv0 : Gold.vF by_ ≠ 0 := fun h => hb0 (Gold.vF_inj h)
          by_cases hxy : y = x
          · have hvxy : Gold.vF y = Gold.vF x := by rw [hxy]
            by_cases hcl : cnt < most
            · have hci7 : ((cnt : Int) < (most : Int)) := by omega
              go_upto_region 8 with fail
              refine wp_later_lex (by kernel_rfl) (lexOK_of (by kernel_rfl) (by kernel_rfl)) ?_
              refine wpQuiet_val (by kernel_rfl) (.int .u64 (Gold.vF by_)) (fun v hv => rfl) ?_
              simp only [Act.put, List.setIfInBounds_toArray, List.set_cons_zero, List.set_cons_succ]
              refine wpQuiet_val (by kernel_rfl) (.bool true) (fun v hv => (xo_neqT .u64 (Gold.vF by_) 0 hv0 rfl rfl rfl)) ?_
              simp only [Act.put, List.setIfInBounds_toArray, List.set_cons_zero, List.set_cons_succ]
              refine wpQuiet_val (by kernel_rfl) (.bool true) (fun v hv => rfl) ?_
              simp only [Act.put, List.setIfInBounds_toArray, List.set_cons_zero, List.set_cons_succ]
              refine wpQuiet_val (by kernel_rfl) (.slice (some ⟨g8, 0, none⟩) n c8) (fun v hv => rfl) ?_
              simp only [Act.put, List.setIfInBounds_toArray, List.set_cons_zero, List.set_cons_succ]
              refine wpQuiet_val (by kernel_rfl) (.int .i64 (kk : Int)) (fun v hv => rfl) ?_
              simp only [Act.put, List.setIfInBounds_toArray, List.set_cons_zero, List.set_cons_succ]
              refine wpQuiet_val (by kernel_rfl) (.pointer (some (gad (some ⟨g8, 0, none⟩) (kk * 1)))) (fun v hv => (xg_idx .i64 (HYs.out.keep (later_bel hv)) HYE.out Try.underlying22 (by kernel_rfl) rfl rfl rfl)) ?_
              simp only [Act.put, List.setIfInBounds_toArray, List.set_cons_zero, List.set_cons_succ]
              refine wpQuiet_val (by kernel_rfl) (.int .u64 (Gold.vF y)) (fun v hv => (xg_load1 (E := feC) (i := kk) (j := 0) (HYs.out.keep (later_bel hv)) HYE.out rfl rfl Try.underlying29 rfl rfl rfl)) ?_
              simp only [Act.put, List.setIfInBounds_toArray, List.set_cons_zero, List.set_cons_succ]
              refine wpQuiet_val (by kernel_rfl) (.slice A n c) (fun v hv => rfl) ?_
              simp only [Act.put, List.setIfInBounds_toArray, List.set_cons_zero, List.set_cons_succ]
              refine wpQuiet_val (by kernel_rfl) (.int .i64 (kk : Int)) (fun v hv => rfl) ?_
              simp only [Act.put, List.setIfInBounds_toArray, List.set_cons_zero, List.set_cons_succ]
              refine wpQuiet_val (by kernel_rfl) (.pointer (some (gad A (kk * 1)))) (fun v hv => (xg_idx .i64 ((HX.out.keep B0.out).keep (later_bel hv)) HXE.out Try.underlying22 (by kernel_rfl) rfl rfl rfl)) ?_
              simp only [Act.put, List.setIfInBounds_toArray, List.set_cons_zero, List.set_cons_succ]
              refine wpQuiet_val (by kernel_rfl) (.int .u64 (Gold.vF x)) (fun v hv => (xg_load1 (E := feC) (i := kk) (j := 0) ((HX.out.keep B0.out).keep (later_bel hv)) HXE.out rfl rfl Try.underlying29 rfl rfl rfl)) ?_
              simp only [Act.put, List.setIfInBounds_toArray, List.set_cons_zero, List.set_cons_succ]
              refine wpQuiet_val (by kernel_rfl) (.bool true) (fun v hv => (xo_eqlT .u64 (Gold.vF y) (Gold.vF x) hvxy rfl rfl rfl)) ?_
              simp only [Act.put, List.setIfInBounds_toArray, List.set_cons_zero, List.set_cons_succ]
              refine wpQuiet_val (by kernel_rfl) (.bool true) (fun v hv => rfl) ?_
              simp only [Act.put, List.setIfInBounds_toArray, List.set_cons_zero, List.set_cons_succ]
              refine wpQuiet_val (by kernel_rfl) (.bool true) (fun v hv => rfl) ?_
              simp only [Act.put, List.setIfInBounds_toArray, List.set_cons_zero, List.set_cons_succ]
              refine wpQuiet_val (by kernel_rfl) (.int .i64 (cnt : Int)) (fun v hv => rfl) ?_
              simp only [Act.put, List.setIfInBounds_toArray, List.set_cons_zero, List.set_cons_succ]
              refine wpQuiet_val (by kernel_rfl) (.int .i64 (most : Int)) (fun v hv => rfl) ?_
              simp only [Act.put, List.setIfInBounds_toArray, List.set_cons_zero, List.set_cons_succ]
              refine wpQuiet_val (by kernel_rfl) (.bool true) (fun v hv => (xo_lssT .i64 (cnt : Int) (most : Int) (by omega) rfl rfl rfl)) ?_
              simp only [Act.put, List.setIfInBounds_toArray, List.set_cons_zero, List.set_cons_succ]
              refine wpQuiet_val (by kernel_rfl) (.bool true) (fun v hv => rfl) ?_
              simp only [Act.put, List.setIfInBounds_toArray, List.set_cons_zero, List.set_cons_succ]
              refine wpQuiet_nil ?_
              intro X1_8
              have hb := X1_8.below
              generalize X1_8.at = V2 at *
              have B1 := Lib.hid hb
              clear hb
              go_upto_region 9 with fail
              refine wp_region_lit ?_
              refine wpList_run (by kernel_rfl) (.slice (some ⟨g8, 0, none⟩) n c8) V2 rfl ?_
              simp only [Act.put, List.setIfInBounds_toArray, List.set_cons_zero, List.set_cons_succ]
              refine wpList_run (by kernel_rfl) (.int .i64 (kk : Int)) V2 rfl ?_
              simp only [Act.put, List.setIfInBounds_toArray, List.set_cons_zero, List.set_cons_succ]
              refine wpList_run (by kernel_rfl) (.slice (some ⟨g8, 0, none⟩) n c8) V2 rfl ?_
              simp only [Act.put, List.setIfInBounds_toArray, List.set_cons_zero, List.set_cons_succ]
              refine wpList_run (by kernel_rfl) (.int .i64 (kk : Int)) V2 rfl ?_
              simp only [Act.put, List.setIfInBounds_toArray, List.set_cons_zero, List.set_cons_succ]
              refine wpList_run (by kernel_rfl) (.pointer (some (gad (some ⟨g8, 0, none⟩) (kk * 1)))) V2 (xg_idx .i64 (HYs.out.keep B1.out) HYE.out Try.underlying22 (by kernel_rfl) rfl rfl rfl) ?_
              simp only [Act.put, List.setIfInBounds_toArray, List.set_cons_zero, List.set_cons_succ]
              refine wpList_run (by kernel_rfl) (.int .u64 (Gold.vF y)) V2 (xg_load1 (E := feC) (i := kk) (j := 0) (HYs.out.keep B1.out) HYE.out rfl rfl Try.underlying29 rfl rfl rfl) ?_
              simp only [Act.put, List.setIfInBounds_toArray, List.set_cons_zero, List.set_cons_succ]
              refine wpList_run (by kernel_rfl) (.int .u64 (Gold.vF by_)) V2 rfl ?_
              simp only [Act.put, List.setIfInBounds_toArray, List.set_cons_zero, List.set_cons_succ]
              refine wpList_call (by kernel_rfl) 32 Try.func32 (by kernel_rfl) (by kernel_rfl) _ _ #[.int .u64 (Gold.vF y), .int .u64 (Gold.vF by_)] rfl (by kernel_rfl) ?_
              refine (J.raddF y by_ V2).mono ?_
              rintro e W1 ⟨rfl, hw1⟩
              rw [hw1]
              clear hw1 W1
              refine ⟨_, rfl, ?_⟩
              simp only [Act.put, List.setIfInBounds_toArray, List.set_cons_zero, List.set_cons_succ]
              refine wpList_run (by kernel_rfl) (.pointer (some ((⟨g8, 0, none⟩ : Addr).add kk))) V2 (xo_index1 .i64 ⟨g8, 0, none⟩ n c8 kk (by omega) Try.underlying22 (by kernel_rfl) rfl rfl rfl) ?_
              simp only [Act.put, List.setIfInBounds_toArray, List.set_cons_zero, List.set_cons_succ]
              refine wpList_ownStore (.int .u64 (Gold.vF (y + by_))) (by kernel_rfl) (own_keep OW.out B1.out) (i := kk) (by omega) (by kernel_rfl) rfl rfl rfl rfl ?_
              intro X2_9 ho hfar hbel hkin
              have hox : X2_9.ownsRow w.heap.size 29 1 (.slice (some ⟨g8, 0, none⟩) n c8) n (fl feC (ys.set kk (y + by_))) := by rw [fl_set1 _ (fun x => .int .u64 (Gold.vF x))]; exact ho
              have C0_2 := Lib.hid (bel_step B0.out B1.out)
              have hbr := hbel _ _ HG8.out C0_2.out
              clear B0
              have B0 := Lib.hid hbr
              clear hbr
              clear OW
              have OW := Lib.hid hox
              clear ho hfar hbel hox hkin
              simp only [ptr, Act.put, List.setIfInBounds_toArray, List.set_cons_zero, List.set_cons_succ]
              refine wpList_nil ?_
              go_upto_region 10 with fail
              refine wp_region_lit ?_
              refine wpList_run (by kernel_rfl) (.int .i64 (cnt : Int)) X2_9 rfl ?_
              simp only [Act.put, List.setIfInBounds_toArray, List.set_cons_zero, List.set_cons_succ]
              refine wpList_run (by kernel_rfl) (.int .i64 ((cnt + 1 : Nat) : Int)) X2_9 (xo_addI (cnt : Int) 1 ((cnt + 1 : Nat) : Int) (by omega) (by omega) (by omega) rfl rfl rfl) ?_
              simp only [Act.put, List.setIfInBounds_toArray, List.set_cons_zero, List.set_cons_succ]
              refine wpList_run (by kernel_rfl) (.int .i64 ((cnt + 1 : Nat) : Int)) X2_9 rfl ?_
              simp only [Act.put, List.setIfInBounds_toArray, List.set_cons_zero, List.set_cons_succ]
              refine wpList_nil ?_
              go_upto_region 5 with fail
              refine wp_region_lit ?_
              refine wpList_run (by kernel_rfl) (.int .i64 (i : Int)) X2_9 rfl ?_
              simp only [Act.put, List.setIfInBounds_toArray, List.set_cons_zero, List.set_cons_succ]
              refine wpList_run (by kernel_rfl) (.int .i64 ((i + 1 : Nat) : Int)) X2_9 (xo_addI (i : Int) 1 ((i + 1 : Nat) : Int) (by omega) (by omega) (by omega) rfl rfl rfl) ?_
              simp only [Act.put, List.setIfInBounds_toArray, List.set_cons_zero, List.set_cons_succ]
              refine wpList_run (by kernel_rfl) (.int .i64 ((i + 1 : Nat) : Int)) X2_9 rfl ?_
              simp only [Act.put, List.setIfInBounds_toArray, List.set_cons_zero, List.set_cons_succ]
              refine wpList_nil ?_
              have hko := OW.out
              have hq10 := B0.out
              go_wp2_with fail
              go_roundw
              case rel => exact ⟨i + 1, ys.set kk (y + by_), cnt + 1, by omega, by go_num, (by rw [List.length_set]; exact hyl.out), hko, rfl, (by rw [← hcn.out]; exact cntF_set hxl hyl.out hkn HXE.out HYE.out hxy (fun h => hb0 (by grind))), (by omega), hq10⟩
              case measure => simp [intOf]; omega
            · have hci7 : ¬ ((cnt : Int) < (most : Int)) := by omega
              go_upto_region 8 with fail
              refine wp_later_lex (by kernel_rfl) (lexOK_of (by kernel_rfl) (by kernel_rfl)) ?_
              refine wpQuiet_val (by kernel_rfl) (.int .u64 (Gold.vF by_)) (fun v hv => rfl) ?_
              simp only [Act.put, List.setIfInBounds_toArray, List.set_cons_zero, List.set_cons_succ]
              refine wpQuiet_val (by kernel_rfl) (.bool true) (fun v hv => (xo_neqT .u64 (Gold.vF by_) 0 hv0 rfl rfl rfl)) ?_
              simp only [Act.put, List.setIfInBounds_toArray, List.set_cons_zero, List.set_cons_succ]
              refine wpQuiet_val (by kernel_rfl) (.bool true) (fun v hv => rfl) ?_
              simp only [Act.put, List.setIfInBounds_toArray, List.set_cons_zero, List.set_cons_succ]
              refine wpQuiet_val (by kernel_rfl) (.slice (some ⟨g8, 0, none⟩) n c8) (fun v hv => rfl) ?_
              simp only [Act.put, List.setIfInBounds_toArray, List.set_cons_zero, List.set_cons_succ]
              refine wpQuiet_val (by kernel_rfl) (.int .i64 (kk : Int)) (fun v hv => rfl) ?_
              simp only [Act.put, List.setIfInBounds_toArray, List.set_cons_zero, List.set_cons_succ]
              refine wpQuiet_val (by kernel_rfl) (.pointer (some (gad (some ⟨g8, 0, none⟩) (kk * 1)))) (fun v hv => (xg_idx .i64 (HYs.out.keep (later_bel hv)) HYE.out Try.underlying22 (by kernel_rfl) rfl rfl rfl)) ?_
              simp only [Act.put, List.setIfInBounds_toArray, List.set_cons_zero, List.set_cons_succ]
              refine wpQuiet_val (by kernel_rfl) (.int .u64 (Gold.vF y)) (fun v hv => (xg_load1 (E := feC) (i := kk) (j := 0) (HYs.out.keep (later_bel hv)) HYE.out rfl rfl Try.underlying29 rfl rfl rfl)) ?_
              simp only [Act.put, List.setIfInBounds_toArray, List.set_cons_zero, List.set_cons_succ]
              refine wpQuiet_val (by kernel_rfl) (.slice A n c) (fun v hv => rfl) ?_
              simp only [Act.put, List.setIfInBounds_toArray, List.set_cons_zero, List.set_cons_succ]
              refine wpQuiet_val (by kernel_rfl) (.int .i64 (kk : Int)) (fun v hv => rfl) ?_
              simp only [Act.put, List.setIfInBounds_toArray, List.set_cons_zero, List.set_cons_succ]
              refine wpQuiet_val (by kernel_rfl) (.pointer (some (gad A (kk * 1)))) (fun v hv => (xg_idx .i64 ((HX.out.keep B0.out).keep (later_bel hv)) HXE.out Try.underlying22 (by kernel_rfl) rfl rfl rfl)) ?_
              simp only [Act.put, List.setIfInBounds_toArray, List.set_cons_zero, List.set_cons_succ]
              refine wpQuiet_val (by kernel_rfl) (.int .u64 (Gold.vF x)) (fun v hv => (xg_load1 (E := feC) (i := kk) (j := 0) ((HX.out.keep B0.out).keep (later_bel hv)) HXE.out rfl rfl Try.underlying29 rfl rfl rfl)) ?_
              simp only [Act.put, List.setIfInBounds_toArray, List.set_cons_zero, List.set_cons_succ]
              refine wpQuiet_val (by kernel_rfl) (.bool true) (fun v hv => (xo_eqlT .u64 (Gold.vF y) (Gold.vF x) hvxy rfl rfl rfl)) ?_
              simp only [Act.put, List.setIfInBounds_toArray, List.set_cons_zero, List.set_cons_succ]
              refine wpQuiet_val (by kernel_rfl) (.bool true) (fun v hv => rfl) ?_
              simp only [Act.put, List.setIfInBounds_toArray, List.set_cons_zero, List.set_cons_succ]
              refine wpQuiet_val (by kernel_rfl) (.bool true) (fun v hv => rfl) ?_
              simp only [Act.put, List.setIfInBounds_toArray, List.set_cons_zero, List.set_cons_succ]
              refine wpQuiet_val (by kernel_rfl) (.int .i64 (cnt : Int)) (fun v hv => rfl) ?_
              simp only [Act.put, List.setIfInBounds_toArray, List.set_cons_zero, List.set_cons_succ]
              refine wpQuiet_val (by kernel_rfl) (.int .i64 (most : Int)) (fun v hv => rfl) ?_
              simp only [Act.put, List.setIfInBounds_toArray, List.set_cons_zero, List.set_cons_succ]
              refine wpQuiet_val (by kernel_rfl) (.bool false) (fun v hv => (xo_lssF .i64 (cnt : Int) (most : Int) (by omega) rfl rfl rfl)) ?_
              simp only [Act.put, List.setIfInBounds_toArray, List.set_cons_zero, List.set_cons_succ]
              refine wpQuiet_val (by kernel_rfl) (.bool false) (fun v hv => rfl) ?_
              simp only [Act.put, List.setIfInBounds_toArray, List.set_cons_zero, List.set_cons_succ]
              refine wpQuiet_nil ?_
              intro X1_8
              have hb := X1_8.below
              generalize X1_8.at = V2 at *
              have B1 := Lib.hid hb
              clear hb
              go_upto_region 5 with fail
              refine wp_region_lit ?_
              refine wpList_run (by kernel_rfl) (.int .i64 (i : Int)) V2 rfl ?_
              simp only [Act.put, List.setIfInBounds_toArray, List.set_cons_zero, List.set_cons_succ]
              refine wpList_run (by kernel_rfl) (.int .i64 ((i + 1 : Nat) : Int)) V2 (xo_addI (i : Int) 1 ((i + 1 : Nat) : Int) (by omega) (by omega) (by omega) rfl rfl rfl) ?_
              simp only [Act.put, List.setIfInBounds_toArray, List.set_cons_zero, List.set_cons_succ]
              refine wpList_run (by kernel_rfl) (.int .i64 ((i + 1 : Nat) : Int)) V2 rfl ?_
              simp only [Act.put, List.setIfInBounds_toArray, List.set_cons_zero, List.set_cons_succ]
              refine wpList_nil ?_
              have hko := (own_keep OW.out B1.out)
              have C0_2 := Lib.hid (bel_step B0.out B1.out)
              have hq9 := C0_2.out
              go_wp2_with fail
              go_roundw
              case rel => exact ⟨i + 1, ys, cnt, by omega, by go_num, hyl.out, hko, rfl, hcn.out, hcnm, hq9⟩
              case measure => simp [intOf]; omega
          · have hvxy : ¬ Gold.vF y = Gold.vF x := fun h => hxy (Gold.vF_inj h)
            go_upto_region 8 with fail
            refine wp_later_lex (by kernel_rfl) (lexOK_of (by kernel_rfl) (by kernel_rfl)) ?_
            refine wpQuiet_val (by kernel_rfl) (.int .u64 (Gold.vF by_)) (fun v hv => rfl) ?_
            simp only [Act.put, List.setIfInBounds_toArray, List.set_cons_zero, List.set_cons_succ]
            refine wpQuiet_val (by kernel_rfl) (.bool true) (fun v hv => (xo_neqT .u64 (Gold.vF by_) 0 hv0 rfl rfl rfl)) ?_
            simp only [Act.put, List.setIfInBounds_toArray, List.set_cons_zero, List.set_cons_succ]
            refine wpQuiet_val (by kernel_rfl) (.bool true) (fun v hv => rfl) ?_
            simp only [Act.put, List.setIfInBounds_toArray, List.set_cons_zero, List.set_cons_succ]
            refine wpQuiet_val (by kernel_rfl) (.slice (some ⟨g8, 0, none⟩) n c8) (fun v hv => rfl) ?_
            simp only [Act.put, List.setIfInBounds_toArray, List.set_cons_zero, List.set_cons_succ]
            refine wpQuiet_val (by kernel_rfl) (.int .i64 (kk : Int)) (fun v hv => rfl) ?_
            simp only [Act.put, List.setIfInBounds_toArray, List.set_cons_zero, List.set_cons_succ]
            refine wpQuiet_val (by kernel_rfl) (.pointer (some (gad (some ⟨g8, 0, none⟩) (kk * 1)))) (fun v hv => (xg_idx .i64 (HYs.out.keep (later_bel hv)) HYE.out Try.underlying22 (by kernel_rfl) rfl rfl rfl)) ?_
            simp only [Act.put, List.setIfInBounds_toArray, List.set_cons_zero, List.set_cons_succ]
            refine wpQuiet_val (by kernel_rfl) (.int .u64 (Gold.vF y)) (fun v hv => (xg_load1 (E := feC) (i := kk) (j := 0) (HYs.out.keep (later_bel hv)) HYE.out rfl rfl Try.underlying29 rfl rfl rfl)) ?_
            simp only [Act.put, List.setIfInBounds_toArray, List.set_cons_zero, List.set_cons_succ]
            refine wpQuiet_val (by kernel_rfl) (.slice A n c) (fun v hv => rfl) ?_
            simp only [Act.put, List.setIfInBounds_toArray, List.set_cons_zero, List.set_cons_succ]
            refine wpQuiet_val (by kernel_rfl) (.int .i64 (kk : Int)) (fun v hv => rfl) ?_
            simp only [Act.put, List.setIfInBounds_toArray, List.set_cons_zero, List.set_cons_succ]
            refine wpQuiet_val (by kernel_rfl) (.pointer (some (gad A (kk * 1)))) (fun v hv => (xg_idx .i64 ((HX.out.keep B0.out).keep (later_bel hv)) HXE.out Try.underlying22 (by kernel_rfl) rfl rfl rfl)) ?_
            simp only [Act.put, List.setIfInBounds_toArray, List.set_cons_zero, List.set_cons_succ]
            refine wpQuiet_val (by kernel_rfl) (.int .u64 (Gold.vF x)) (fun v hv => (xg_load1 (E := feC) (i := kk) (j := 0) ((HX.out.keep B0.out).keep (later_bel hv)) HXE.out rfl rfl Try.underlying29 rfl rfl rfl)) ?_
            simp only [Act.put, List.setIfInBounds_toArray, List.set_cons_zero, List.set_cons_succ]
            refine wpQuiet_val (by kernel_rfl) (.bool false) (fun v hv => (xo_eqlF .u64 (Gold.vF y) (Gold.vF x) hvxy rfl rfl rfl)) ?_
            simp only [Act.put, List.setIfInBounds_toArray, List.set_cons_zero, List.set_cons_succ]
            refine wpQuiet_val (by kernel_rfl) (.bool false) (fun v hv => rfl) ?_
            simp only [Act.put, List.setIfInBounds_toArray, List.set_cons_zero, List.set_cons_succ]
            refine wpQuiet_val (by kernel_rfl) (.bool false) (fun v hv => rfl) ?_
            simp only [Act.put, List.setIfInBounds_toArray, List.set_cons_zero, List.set_cons_succ]
            refine BigFrame.wpQuiet_skip (by kernel_rfl) ?_
            try simp only [Act.put, List.setIfInBounds_toArray, List.set_cons_zero, List.set_cons_succ]
            refine BigFrame.wpQuiet_skip (by kernel_rfl) ?_
            try simp only [Act.put, List.setIfInBounds_toArray, List.set_cons_zero, List.set_cons_succ]
            refine BigFrame.wpQuiet_skip (by kernel_rfl) ?_
            try simp only [Act.put, List.setIfInBounds_toArray, List.set_cons_zero, List.set_cons_succ]
            refine wpQuiet_val (by kernel_rfl) (.bool false) (fun v hv => rfl) ?_
            simp only [Act.put, List.setIfInBounds_toArray, List.set_cons_zero, List.set_cons_succ]
            refine wpQuiet_nil ?_
            intro X1_7
            have hb := X1_7.below
            generalize X1_7.at = V2 at *
            have B1 := Lib.hid hb
            clear hb
            go_upto_region 5 with fail
            refine wp_region_lit ?_
            refine wpList_run (by kernel_rfl) (.int .i64 (i : Int)) V2 rfl ?_
            simp only [Act.put, List.setIfInBounds_toArray, List.set_cons_zero, List.set_cons_succ]
            refine wpList_run (by kernel_rfl) (.int .i64 ((i + 1 : Nat) : Int)) V2 (xo_addI (i : Int) 1 ((i + 1 : Nat) : Int) (by omega) (by omega) (by omega) rfl rfl rfl) ?_
            simp only [Act.put, List.setIfInBounds_toArray, List.set_cons_zero, List.set_cons_succ]
            refine wpList_run (by kernel_rfl) (.int .i64 ((i + 1 : Nat) : Int)) V2 rfl ?_
            simp only [Act.put, List.setIfInBounds_toArray, List.set_cons_zero, List.set_cons_succ]
            refine wpList_nil ?_
            have hko := (own_keep OW.out B1.out)
            have C0_2 := Lib.hid (bel_step B0.out B1.out)
            have hq8 := C0_2.out
            go_wp2_with fail
            go_roundw
            case rel => exact ⟨i + 1, ys, cnt, by omega, by go_num, hyl.out, hko, rfl, hcn.out, hcnm, hq8⟩
            case measure => simp [intOf]; omega
      · have hci6 : ¬ ((n : Int) > 0) := by omega
        go_upto_region 4 with fail
        refine wp_region_lit ?_
        refine wpList_run (by kernel_rfl) (.int .i64 (i : Int)) wo rfl ?_
        simp only [Act.put, List.setIfInBounds_toArray, List.set_cons_zero, List.set_cons_succ]
        refine wpList_run (by kernel_rfl) (.slice E le ce) wo rfl ?_
        simp only [Act.put, List.setIfInBounds_toArray, List.set_cons_zero, List.set_cons_succ]
        refine wpList_run (by kernel_rfl) (.int .i64 (le : Int)) wo (xo_len E le ce Try.underlying42 rfl rfl) ?_
        simp only [Act.put, List.setIfInBounds_toArray, List.set_cons_zero, List.set_cons_succ]
        refine wpList_run (by kernel_rfl) (.bool true) wo (xo_lssT .i64 (i : Int) (le : Int) (by omega) rfl rfl rfl) ?_
        simp only [Act.put, List.setIfInBounds_toArray, List.set_cons_zero, List.set_cons_succ]
        refine wpList_run (by kernel_rfl) (.bool true) wo rfl ?_
        simp only [Act.put, List.setIfInBounds_toArray, List.set_cons_zero, List.set_cons_succ]
        refine wpList_run (by kernel_rfl) (.slice A n c) wo rfl ?_
        simp only [Act.put, List.setIfInBounds_toArray, List.set_cons_zero, List.set_cons_succ]
        refine wpList_run (by kernel_rfl) (.int .i64 (n : Int)) wo (xo_len A n c Try.underlying22 rfl rfl) ?_
        simp only [Act.put, List.setIfInBounds_toArray, List.set_cons_zero, List.set_cons_succ]
        refine wpList_run (by kernel_rfl) (.bool false) wo (xo_gtrF .i64 (n : Int) 0 (by omega) rfl rfl rfl) ?_
        simp only [Act.put, List.setIfInBounds_toArray, List.set_cons_zero, List.set_cons_succ]
        refine wpList_run (by kernel_rfl) (.bool false) wo rfl ?_
        simp only [Act.put, List.setIfInBounds_toArray, List.set_cons_zero, List.set_cons_succ]
        refine wpList_nil ?_
        obtain ⟨Ar, cr, hvr⟩ := own_form OW.out
        subst hvr
        have hfin := OW.out
        go_upto_region 11 with fail
        refine wp_region_lit ?_
        refine wpList_run (by kernel_rfl) (.slice Ar n cr) wo rfl ?_
        simp only [Act.put, List.setIfInBounds_toArray, List.set_cons_zero, List.set_cons_succ]
        refine wpList_run (by kernel_rfl) (.int .i64 (cnt : Int)) wo rfl ?_
        simp only [Act.put, List.setIfInBounds_toArray, List.set_cons_zero, List.set_cons_succ]
        refine wpList_run (by kernel_rfl) (.slice Ar n cr) wo rfl ?_
        simp only [Act.put, List.setIfInBounds_toArray, List.set_cons_zero, List.set_cons_succ]
        refine wpList_run (by kernel_rfl) (.int .i64 (cnt : Int)) wo rfl ?_
        simp only [Act.put, List.setIfInBounds_toArray, List.set_cons_zero, List.set_cons_succ]
        refine wpList_nil ?_
        go_wp2_with fail
        go_ret2
        exact ⟨Ar, cr, ys, cnt, rfl, hyl.out, hcn.out, hcnm, hfin, B0.out⟩
    · have hci5 : ¬ ((i : Int) < (le : Int)) := by omega
      go_upto_region 4 with fail
      refine wp_region_lit ?_
      refine wpList_run (by kernel_rfl) (.int .i64 (i : Int)) wo rfl ?_
      simp only [Act.put, List.setIfInBounds_toArray, List.set_cons_zero, List.set_cons_succ]
      refine wpList_run (by kernel_rfl) (.slice E le ce) wo rfl ?_
      simp only [Act.put, List.setIfInBounds_toArray, List.set_cons_zero, List.set_cons_succ]
      refine wpList_run (by kernel_rfl) (.int .i64 (le : Int)) wo (xo_len E le ce Try.underlying42 rfl rfl) ?_
      simp only [Act.put, List.setIfInBounds_toArray, List.set_cons_zero, List.set_cons_succ]
      refine wpList_run (by kernel_rfl) (.bool false) wo (xo_lssF .i64 (i : Int) (le : Int) (by omega) rfl rfl rfl) ?_
      simp only [Act.put, List.setIfInBounds_toArray, List.set_cons_zero, List.set_cons_succ]
      refine wpList_run (by kernel_rfl) (.bool false) wo rfl ?_
      simp only [Act.put, List.setIfInBounds_toArray, List.set_cons_zero, List.set_cons_succ]
      refine wpList_skip (by kernel_rfl) ?_
      try simp only [Act.put, List.setIfInBounds_toArray, List.set_cons_zero, List.set_cons_succ]
      refine wpList_skip (by kernel_rfl) ?_
      try simp only [Act.put, List.setIfInBounds_toArray, List.set_cons_zero, List.set_cons_succ]
      refine wpList_skip (by kernel_rfl) ?_
      try simp only [Act.put, List.setIfInBounds_toArray, List.set_cons_zero, List.set_cons_succ]
      refine wpList_run (by kernel_rfl) (.bool false) wo rfl ?_
      simp only [Act.put, List.setIfInBounds_toArray, List.set_cons_zero, List.set_cons_succ]
      refine wpList_nil ?_
      obtain ⟨Ar, cr, hvr⟩ := own_form OW.out
      subst hvr
      have hfin := OW.out
      go_upto_region 11 with fail
      refine wp_region_lit ?_
      refine wpList_run (by kernel_rfl) (.slice Ar n cr) wo rfl ?_
      simp only [Act.put, List.setIfInBounds_toArray, List.set_cons_zero, List.set_cons_succ]
      refine wpList_run (by kernel_rfl) (.int .i64 (cnt : Int)) wo rfl ?_
      simp only [Act.put, List.setIfInBounds_toArray, List.set_cons_zero, List.set_cons_succ]
      refine wpList_run (by kernel_rfl) (.slice Ar n cr) wo rfl ?_
      simp only [Act.put, List.setIfInBounds_toArray, List.set_cons_zero, List.set_cons_succ]
      refine wpList_run (by kernel_rfl) (.int .i64 (cnt : Int)) wo rfl ?_
      simp only [Act.put, List.setIfInBounds_toArray, List.set_cons_zero, List.set_cons_succ]
      refine wpList_nil ?_
      go_wp2_with fail
      go_ret2
      exact ⟨Ar, cr, ys, cnt, rfl, hyl.out, hcn.out, hcnm, hfin, B0.out⟩
end Go.Proofs.Ytkefijogpiofbaa

namespace Gold
set_option linter.unusedVariables false
set_option linter.unusedSimpArgs false
set_option linter.unusedSectionVars false
set_option maxRecDepth 8000
theorem filter_two (p q : Nat → Bool) : ∀ l : List Nat, l.length ≤ (l.filter fun i => p i && q i).length + (l.filter fun i => !p i).length + (l.filter fun i => !q i).length
  | [] => Nat.le_refl _
  | x :: l => by
    have ih := filter_two p q l
    cases hp : p x <;> cases hq : q x <;> simp [List.filter_cons, hp, hq] <;> omega
/-- two rows near one word are the same -/
theorem near_unique {n k K : Nat} {w : Nat → F} {f g : List F} (hn : n = 2 ^ K) (hK : K ≤ 16) (hk : k ≤ n) (hf : f.length ≤ k) (hg : g.length ≤ k) (h1 : (differF n K w f).length ≤ (n - k) / 2) (h2 : (differF n K w g).length ≤ (n - k) / 2) : ∀ i, cfF f i = cfF g i := by
  have h65 := pow2_le hK
  have hm := mnF_le f g 0 1
  have ht := filter_two (fun i => decide (evL f (ptF K i) = w i)) (fun i => decide (evL g (ptF K i) = w i)) (List.range n)
  rw [List.length_range] at ht
  have h3 : n ≤ ((List.range n).filter fun i => decide (evL f (ptF K i) = w i) && decide (evL g (ptF K i) = w i)).length + (differF n K w f).length + (differF n K w g).length := ht
  have hle := List.length_filter_le (fun i => decide (evL f (ptF K i) = w i) && decide (evL g (ptF K i) = w i)) (List.range n)
  rw [List.length_range] at hle
  have hz := zero_at (p := mnF f g 0 1) hK ((List.range n).filter fun i => decide (evL f (ptF K i) = w i) && decide (evL g (ptF K i) = w i)) (filter_nodup _ _) (fun i hi => by
    have := List.mem_range.1 (List.mem_filter.1 hi).1
    omega) (by omega) (by omega) (fun i hi => by
    have h4 := (List.mem_filter.1 hi).2
    simp only [Bool.and_eq_true, decide_eq_true_eq] at h4
    rw [evL_mnF, h4.1, h4.2, F_pow_zero]
    grind)
  intro i
  have h5 := hz i
  rw [cfF_mnF, if_pos (Nat.zero_le _), Nat.sub_zero] at h5
  grind
end Gold
namespace Go.Proofs.Ytkefijogpiofbaa
set_option linter.unusedVariables false
set_option linter.unusedSimpArgs false
set_option linter.unusedSectionVars false
open Go.RowKit Go.Proofs.Ytkefijogpiofbaa.K
theorem differ_cw {n M : Nat} (hn : n = 2 ^ M) (ys p : List Gold.F) : (Gold.differF n M (Gold.cfF ys) p).length = cntF (Gold.cwF p M) ys n := by
  unfold Gold.differF cntF
  congr 1
  refine List.filter_congr fun i hi => ?_
  have hi := List.mem_range.1 hi
  unfold Gold.cwF
  rw [Gold.cfF_tbF, if_pos (by omega)]
end Go.Proofs.Ytkefijogpiofbaa

namespace Gold
set_option linter.unusedVariables false
set_option linter.unusedSimpArgs false
set_option linter.unusedSectionVars false
set_option maxRecDepth 8000
theorem inF_cw {ps : List F} {N M : Nat} (hp : ps.length = N) (hN : N ≤ 2 ^ M) (hM : M ≤ 15) : (inF (cwF ps M) M).length ≤ N := by
  have hle := trimF_le ps
  rw [inF_unique (f := trimF ps) hM (trimF_trm ps) (by omega) (fun i hi => by
    rw [evL_trimF]
    unfold cwF
    rw [cfF_tbF, if_pos hi])]
  omega
end Gold
namespace Go.Proofs.Ytkefijogpiofbaa
set_option linter.unusedVariables false
set_option linter.unusedSimpArgs false
set_option linter.unusedSectionVars false
open Go.RowKit Go.Proofs.Ytkefijogpiofbaa.K
theorem exec_eqBb {P : Program} {ev : Operand → Value} {o : Oper} {w : World} {x y : Operand} {ty t : TypeId} (b c : Bool) (hu : P.underlying ty = some .bool) (ho : o.op = .binOp .eql ty x y t) (hx : ev x = .bool b) (hy : ev y = .bool c) : (execOp ev o).run P w = .ok (.value (.bool (b == c))) w := by
  unfold execOp
  rw [ho]
  simp only [hx, hy]
  cases b <;> cases c <;> go_simp
end Go.Proofs.Ytkefijogpiofbaa

namespace Go.Proofs.Ytkefijogpiofbaa
set_option linter.unusedVariables false
set_option linter.unusedSimpArgs false
set_option linter.unusedSectionVars false
set_option maxRecDepth 8000
open Go.RowKit Go.Proofs.Ytkefijogpiofbaa.K
attribute [local irreducible] wpList wpQuiet
theorem dst_cw {n M : Nat} {ys p : List Gold.F} (hn : n = 2 ^ M) (hy : ys.length = n) : dstF (Gold.cwF p M) ys = cntF (Gold.cwF p M) ys n := by
  have hl : (Gold.cwF p M).length = n := by unfold Gold.cwF; rw [Gold.tbF_length, hn]
  unfold dstF
  rw [hl, hy, Nat.max_self, Nat.min_self, Nat.sub_self, Nat.zero_add]
set_option maxRecDepth 100000 in
set_option maxHeartbeats 8000000 in
theorem shift_any (z L : Nat) (hz : z = 2 ^ L) (hL1 : 1 ≤ L) (hL3 : L ≤ 3) (w : World) : Calls Try.prog 24 #[.int .i64 (z : Int)] w fun e w' => e = .returned (.int .i64 (L : Int)) ∧ Below w.heap.size w w' := by
  have HZ := Lib.hid hz
  have hz8 : z ≤ 8 := by rw [hz]; exact (show 2 ^ L ≤ 2 ^ 3 from Nat.pow_le_pow_right (by omega) hL3)
  clear hz
  go_enter Try.func24, Try.ntmps24
  go_upto_region 1 with fail
  refine wp_region_lit ?_
  refine wpList_run (by kernel_rfl) (.int .i64 1) w rfl ?_
  simp only [Act.put, List.setIfInBounds_toArray, List.set_cons_zero, List.set_cons_succ]
  refine wpList_nil ?_
  have B0 := Lib.hid (Below.refl w.heap.size w)
  go_wp2_with fail
  go_loopw [3] (fun p wr => ∃ j : Nat, 1 ≤ j ∧ j ≤ L ∧ p = .int .i64 (j : Int) ∧ Below w.heap.size w wr) (fun p _ => L - (intOf p).toNat)
  case atStart => exact ⟨1, Nat.le_refl _, hL1, rfl, Below.refl _ _⟩
  case round =>
    obtain ⟨wo, rfl⟩ : ∃ wo : World, wo = wr := ⟨_, rfl⟩
    obtain ⟨j, hj1, hjL, rfl, hb0⟩ := hrel
    have hbr := hb0
    clear B0
    have B0 := Lib.hid hbr
    clear hbr
    clear hb0
    obtain ⟨pj, hpj⟩ : ∃ pj, 2 ^ j = pj := ⟨_, rfl⟩
    have hpjn : pj ≤ z := by rw [← hpj, HZ.out]; exact Nat.pow_le_pow_right (by omega) hjL
    by_cases hlt : pj < z
    · have hci1 : ((pj : Int) < (z : Int)) := by omega
      have hjM : j < L := by rcases Nat.lt_or_ge j L with h | h; exact h; exact absurd hlt (by have h2 : 2 ^ L ≤ 2 ^ j := Nat.pow_le_pow_right (by omega) h; rw [hpj, ← HZ.out] at h2; omega)
      go_upto_region 2 with fail
      refine wp_region_lit ?_
      refine wpList_run (by kernel_rfl) (.int .i64 (j : Int)) wo rfl ?_
      simp only [Act.put, List.setIfInBounds_toArray, List.set_cons_zero, List.set_cons_succ]
      refine wpList_run (by kernel_rfl) (.int .i64 (pj : Int)) wo (xo_shlI .i64 1 j pj (by rw [Nat.one_mul]; exact hpj) (by omega) rfl rfl rfl) ?_
      simp only [Act.put, List.setIfInBounds_toArray, List.set_cons_zero, List.set_cons_succ]
      refine wpList_run (by kernel_rfl) (.int .i64 (z : Int)) wo rfl ?_
      simp only [Act.put, List.setIfInBounds_toArray, List.set_cons_zero, List.set_cons_succ]
      refine wpList_run (by kernel_rfl) (.bool true) wo (xo_lssT .i64 (pj : Int) (z : Int) (by omega) rfl rfl rfl) ?_
      simp only [Act.put, List.setIfInBounds_toArray, List.set_cons_zero, List.set_cons_succ]
      refine wpList_nil ?_
      go_upto_region 3 with fail
      refine wp_region_lit ?_
      refine wpList_run (by kernel_rfl) (.int .i64 (j : Int)) wo rfl ?_
      simp only [Act.put, List.setIfInBounds_toArray, List.set_cons_zero, List.set_cons_succ]
      refine wpList_run (by kernel_rfl) (.int .i64 ((j + 1 : Nat) : Int)) wo (xo_addI (j : Int) 1 ((j + 1 : Nat) : Int) (by omega) (by omega) (by omega) rfl rfl rfl) ?_
      simp only [Act.put, List.setIfInBounds_toArray, List.set_cons_zero, List.set_cons_succ]
      refine wpList_run (by kernel_rfl) (.int .i64 ((j + 1 : Nat) : Int)) wo rfl ?_
      simp only [Act.put, List.setIfInBounds_toArray, List.set_cons_zero, List.set_cons_succ]
      refine wpList_nil ?_
      have hqb := B0.out
      go_wp2_with fail
      go_roundw
      case rel => exact ⟨j + 1, by omega, by omega, by go_num, hqb⟩
      case measure => simp [intOf]; omega
    · have hci1 : ¬ ((pj : Int) < (z : Int)) := by omega
      have hjM : L = j := by rcases Nat.lt_or_ge j L with h | h; exact absurd (show pj < z by rw [← hpj, HZ.out]; exact Nat.pow_lt_pow_right (by omega) h) hlt; omega
      subst hjM
      go_upto_region 2 with fail
      refine wp_region_lit ?_
      refine wpList_run (by kernel_rfl) (.int .i64 (L : Int)) wo rfl ?_
      simp only [Act.put, List.setIfInBounds_toArray, List.set_cons_zero, List.set_cons_succ]
      refine wpList_run (by kernel_rfl) (.int .i64 (pj : Int)) wo (xo_shlI .i64 1 L pj (by rw [Nat.one_mul]; exact hpj) (by omega) rfl rfl rfl) ?_
      simp only [Act.put, List.setIfInBounds_toArray, List.set_cons_zero, List.set_cons_succ]
      refine wpList_run (by kernel_rfl) (.int .i64 (z : Int)) wo rfl ?_
      simp only [Act.put, List.setIfInBounds_toArray, List.set_cons_zero, List.set_cons_succ]
      refine wpList_run (by kernel_rfl) (.bool false) wo (xo_lssF .i64 (pj : Int) (z : Int) (by omega) rfl rfl rfl) ?_
      simp only [Act.put, List.setIfInBounds_toArray, List.set_cons_zero, List.set_cons_succ]
      refine wpList_nil ?_
      go_upto_region 4 with fail
      refine wp_region_lit ?_
      refine wpList_run (by kernel_rfl) (.int .i64 (L : Int)) wo rfl ?_
      simp only [Act.put, List.setIfInBounds_toArray, List.set_cons_zero, List.set_cons_succ]
      refine wpList_run (by kernel_rfl) (.int .i64 (L : Int)) wo rfl ?_
      simp only [Act.put, List.setIfInBounds_toArray, List.set_cons_zero, List.set_cons_succ]
      refine wpList_nil ?_
      go_wp2_with fail
      go_ret
      exact ⟨rfl, B0.out⟩
end Go.Proofs.Ytkefijogpiofbaa

namespace Gold
set_option linter.unusedVariables false
set_option linter.unusedSimpArgs false
set_option linter.unusedSectionVars false
set_option maxRecDepth 8000
theorem filter_compl (p : Nat → Bool) : ∀ l : List Nat, (l.filter p).length + (l.filter fun i => !p i).length = l.length
  | [] => rfl
  | x :: l => by
    have ih := filter_compl p l
    cases h : p x <;> simp [h] <;> omega
theorem cw_len (xs : List F) (M : Nat) : (cwF xs M).length = 2 ^ M := tbF_length _ _
/-- a codeword over the extension field -/
def cwX (xs : List E2) (M : Nat) : List E2 := (List.range (2 ^ M)).map fun i => evE xs (E2.ofF (ptF M i))
theorem cwX_length (xs : List E2) (M : Nat) : (cwX xs M).length = 2 ^ M := by simp [cwX]
theorem cwX_get {xs : List E2} {M i : Nat} (h : i < 2 ^ M) : (cwX xs M)[i]? = some (evE xs (E2.ofF (ptF M i))) := by simp [cwX, h]
theorem evE_parts : ∀ (xs : List E2) (x : F), evE xs (E2.ofF x) = ⟨evL (xs.map E2.A) x, evL (xs.map E2.B) x⟩
  | [], _ => rfl
  | a :: l, x => by
    rw [evE_cons, evE_parts l x, List.map_cons, List.map_cons, evL_cons, evL_cons]
    exact E2.ext' (by simp only [E2.add_A, E2.mul_A, E2.ofF_A, E2.ofF_B]; grind) (by simp only [E2.add_B, E2.mul_B, E2.ofF_A, E2.ofF_B]; grind)
theorem cwX_parts (xs : List E2) (M i : Nat) (h : i < 2 ^ M) : (cwX xs M)[i]? = some ⟨cfF (cwF (xs.map E2.A) M) i, cfF (cwF (xs.map E2.B) M) i⟩ := by
  rw [cwX_get h, evE_parts]
  unfold cwF
  rw [cfF_tbF, cfF_tbF, if_pos h, if_pos h]
end Gold
namespace Go.Proofs.Ytkefijogpiofbaa
set_option linter.unusedVariables false
set_option linter.unusedSimpArgs false
set_option linter.unusedSectionVars false
open Go.RowKit Go.Proofs.Ytkefijogpiofbaa.K
theorem cw_far {p q : List Gold.F} {N NN M : Nat} (hNN : NN = 2 ^ M) (hM : M ≤ 16) (hN : N ≤ NN) (hp : p.length = N) (hq : q.length = N) (hne : p ≠ q) : NN - N + 1 ≤ dstF (Gold.cwF p M) (Gold.cwF q M) := by
  have hlp : (Gold.cwF p M).length = NN := (Gold.cw_len _ _).trans hNN.symm
  have hlq : (Gold.cwF q M).length = NN := (Gold.cw_len _ _).trans hNN.symm
  have h65 := Gold.pow2_le hM
  unfold dstF
  rw [hlp, hlq, Nat.max_self, Nat.min_self, Nat.sub_self, Nat.zero_add]
  rcases Nat.lt_or_ge (cntF (Gold.cwF p M) (Gold.cwF q M) NN) (NN - N + 1) with h | h
  · exfalso
    have hs := Gold.filter_compl (fun j => decide (Gold.cfF (Gold.cwF p M) j = Gold.cfF (Gold.cwF q M) j)) (List.range NN)
    rw [List.length_range] at hs
    have hc : ((List.range NN).filter fun i => !decide (Gold.cfF (Gold.cwF p M) i = Gold.cfF (Gold.cwF q M) i)).length = cntF (Gold.cwF p M) (Gold.cwF q M) NN := rfl
    have hm := Gold.mnF_le p q 0 1
    have hz := Gold.zero_at (p := Gold.mnF p q 0 1) hM ((List.range NN).filter fun j => decide (Gold.cfF (Gold.cwF p M) j = Gold.cfF (Gold.cwF q M) j)) (Gold.filter_nodup _ _) (fun i hi => by
      have := List.mem_range.1 (List.mem_filter.1 hi).1
      omega) (by omega) (by omega) (fun i hi => by
      have hr := List.mem_range.1 (List.mem_filter.1 hi).1
      have he := of_decide_eq_true (List.mem_filter.1 hi).2
      unfold Gold.cwF at he
      rw [Gold.cfF_tbF, Gold.cfF_tbF, if_pos (by omega), if_pos (by omega)] at he
      rw [Gold.evL_mnF, he, Gold.F_pow_zero]
      grind)
    refine hne (Gold.F_ext (hp.trans hq.symm) fun i _ => ?_)
    have h1 := hz i
    rw [Gold.cfF_mnF, if_pos (Nat.zero_le _), Nat.sub_zero] at h1
    grind
  · exact h
/-- an old slice of elements as a slice of today -/
theorem sgE {w : World} {A : Option Addr} {n c : Nat} {xs : List Gold.E2} (h : J.Sl w A n c xs) : Sg exC 2 w A n c xs :=
  ⟨(J.Sl.len h).symm, J.Sl.cap h, J.Sl.top h, J.SlR.nil h, fun i x hx => by
    obtain ⟨ad, rfl, h0, h1⟩ := J.Sl.at_ h hx
    obtain ⟨b, off, s⟩ := ad
    obtain ⟨x0, hx0⟩ : ∃ x0, xs[0]? = some x0 := ⟨_, List.getElem?_eq_getElem (by have := (List.getElem?_eq_some_iff.1 hx).1; omega)⟩
    obtain ⟨ad0, he0, h00, _⟩ := J.Sl.at_ h hx0
    injection he0 with he0
    subst he0
    have hs : s = none := by
      cases s with
      | none => rfl
      | some q =>
        simp only [Nat.zero_mul, Addr.add, if_true, World.cell?] at h00
        split at h00 <;> simp at h00
    subst hs
    refine ⟨b, off, rfl, fun j v hv => ?_⟩
    rw [Addr.add_mid] at h0 h1
    rcases j with _ | _ | j
    · simp only [exC, List.getElem?_cons_zero, Option.some.injEq] at hv
      subst hv
      exact h0
    · simp only [exC, Nat.zero_add, List.getElem?_cons_succ, List.getElem?_cons_zero, Option.some.injEq] at hv
      subst hv
      exact h1
    · simp [exC] at hv⟩
end Go.Proofs.Ytkefijogpiofbaa

