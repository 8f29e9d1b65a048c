/- Several texts in one: Ql, Qm. -/
import Derived.Test.YtopicjdmajlndaaDoorH08
namespace Go.Proofs.YtopicjdmajlndaaDoor
set_option linter.unusedVariables false
set_option linter.unusedSimpArgs false
set_option linter.unusedSectionVars false
set_option maxRecDepth 8000
open Go.RowKit Go.Proofs.YtopicjdmajlndaaDoor.K
attribute [local irreducible] wpList wpQuiet
theorem liveL_le (rs : List Rd) : ∀ gs : List Bool, (liveL rs gs).length ≤ rs.length := by
  induction rs with
  | nil => intro gs; cases gs <;> simp [liveL]
  | cons r rs ih =>
    intro gs
    cases gs with
    | nil => simp [liveL]
    | cons g gs =>
      have := ih gs
      simp only [liveL]
      split <;> simp <;> omega
set_option maxRecDepth 100000 in
set_option maxHeartbeats 8000000 in
theorem same_yes (A : Option Addr) (n c : Nat) (rs : List Rd) (B : Option Addr) (m d : Nat) (gs : List Bool) (A2 : Option Addr) (c2 : Nat) (B2 : Option Addr) (d2 : Nat) (w : World) (hL : Sg rdC 4 w A n c rs) (hG : Sg boC 1 w B m d gs) (hL2 : Sg rdC 4 w A2 n c2 rs) (hG2 : Sg boC 1 w B2 m d2 gs) :
    Calls Tryd.prog 16 #[.agg #[.slice A n c, .slice B m d], .agg #[.slice A2 n c2, .slice B2 m d2]] w fun e w' => e = .returned (.bool true) ∧ Below w.heap.size w w' := by
  have HL := Lib.hid hL
  have HG := Lib.hid hG
  have HL2 := Lib.hid hL2
  have HG2 := Lib.hid hG2
  have hln := hL.len
  have hgn := hG.len
  have hlc := hL.cap
  have hlt := hL.top
  have hgc := hG.cap
  have hgt := hG.top
  clear hL hG hL2 hG2
  go_enter Tryd.func16, Tryd.ntmps16
  go_upto_region 1 with fail
  refine wp_named2 (fun V1 hb g0 g1 hlt => ?_)
  have B0 := Lib.hid hb
  have Fv0_2 : Hid (V1.heap[w.heap.size]? = some (.cells #[.slice A n c, .slice B m d] 30 (0, 0))) := Lib.hid (g0)
  have Fv1_3 : Hid (V1.heap[(w.heap.size + 1)]? = some (.cells #[.slice A2 n c2, .slice B2 m d2] 30 (0, 0))) := Lib.hid (g1)
  have Nb0_1 : Hid (w.heap.size ≠ (w.heap.size + 1)) := Lib.hid (by omega)
  have Gb0 : Hid (w.heap.size ≤ w.heap.size) := Lib.hid (by omega)
  have Gb1 : Hid (w.heap.size ≤ (w.heap.size + 1)) := Lib.hid (by omega)
  clear hb g0 g1 hlt
  have Lt0 : Hid (w.heap.size < V1.heap.size) := Lib.hid (xp_lt Fv0_2.out)
  have Lt1 : Hid ((w.heap.size + 1) < V1.heap.size) := Lib.hid (xp_lt Fv1_3.out)
  refine wp_region_lit ?_
  refine wpList_run (by kernel_rfl) (.pointer (some ⟨w.heap.size, 0, none⟩)) V1 (xo_fld0 0 w.heap.size 0 (by kernel_rfl) rfl rfl) ?_
  simp only [Act.put, List.setIfInBounds_toArray, List.set_cons_zero, List.set_cons_succ]
  refine wpList_run (by kernel_rfl) (.slice A n c) V1 (xo_load1 ⟨w.heap.size, 0, none⟩ _ (cells_at Fv0_2.out 0 rfl) Tryd.underlying27 rfl rfl rfl) ?_
  simp only [Act.put, List.setIfInBounds_toArray, List.set_cons_zero, List.set_cons_succ]
  refine wpList_run (by kernel_rfl) (.int .i64 (n : Int)) V1 (xo_len A n c Tryd.underlying27 rfl rfl) ?_
  simp only [Act.put, List.setIfInBounds_toArray, List.set_cons_zero, List.set_cons_succ]
  refine wpList_run (by kernel_rfl) (.pointer (some ⟨(w.heap.size + 1), 0, none⟩)) V1 (xo_fld0 0 (w.heap.size + 1) 0 (by kernel_rfl) rfl rfl) ?_
  simp only [Act.put, List.setIfInBounds_toArray, List.set_cons_zero, List.set_cons_succ]
  refine wpList_run (by kernel_rfl) (.slice A2 n c2) V1 (xo_load1 ⟨(w.heap.size + 1), 0, none⟩ _ (cells_at Fv1_3.out 0 rfl) Tryd.underlying27 rfl rfl rfl) ?_
  simp only [Act.put, List.setIfInBounds_toArray, List.set_cons_zero, List.set_cons_succ]
  refine wpList_run (by kernel_rfl) (.int .i64 (n : Int)) V1 (xo_len A2 n c2 Tryd.underlying27 rfl rfl) ?_
  simp only [Act.put, List.setIfInBounds_toArray, List.set_cons_zero, List.set_cons_succ]
  refine wpList_run (by kernel_rfl) (.bool false) V1 (xo_neqF .i64 (n : Int) (n : Int) (by omega) rfl rfl rfl) ?_
  simp only [Act.put, List.setIfInBounds_toArray, List.set_cons_zero, List.set_cons_succ]
  refine wpList_run (by kernel_rfl) (.bool false) V1 rfl ?_
  simp only [Act.put, List.setIfInBounds_toArray, List.set_cons_zero, List.set_cons_succ]
  refine wpList_run (by kernel_rfl) (.pointer (some ⟨w.heap.size, 1, none⟩)) V1 (xo_fld0 1 w.heap.size 1 (by kernel_rfl) rfl rfl) ?_
  simp only [Act.put, List.setIfInBounds_toArray, List.set_cons_zero, List.set_cons_succ]
  refine wpList_run (by kernel_rfl) (.slice B m d) V1 (xo_load1 ⟨w.heap.size, 1, none⟩ _ (cells_at Fv0_2.out 1 rfl) Tryd.underlying28 rfl rfl rfl) ?_
  simp only [Act.put, List.setIfInBounds_toArray, List.set_cons_zero, List.set_cons_succ]
  refine wpList_run (by kernel_rfl) (.int .i64 (m : Int)) V1 (xo_len B m d Tryd.underlying28 rfl rfl) ?_
  simp only [Act.put, List.setIfInBounds_toArray, List.set_cons_zero, List.set_cons_succ]
  refine wpList_run (by kernel_rfl) (.pointer (some ⟨(w.heap.size + 1), 1, none⟩)) V1 (xo_fld0 1 (w.heap.size + 1) 1 (by kernel_rfl) rfl rfl) ?_
  simp only [Act.put, List.setIfInBounds_toArray, List.set_cons_zero, List.set_cons_succ]
  refine wpList_run (by kernel_rfl) (.slice B2 m d2) V1 (xo_load1 ⟨(w.heap.size + 1), 1, none⟩ _ (cells_at Fv1_3.out 1 rfl) Tryd.underlying28 rfl rfl rfl) ?_
  simp only [Act.put, List.setIfInBounds_toArray, List.set_cons_zero, List.set_cons_succ]
  refine wpList_run (by kernel_rfl) (.int .i64 (m : Int)) V1 (xo_len B2 m d2 Tryd.underlying28 rfl rfl) ?_
  simp only [Act.put, List.setIfInBounds_toArray, List.set_cons_zero, List.set_cons_succ]
  refine wpList_run (by kernel_rfl) (.bool false) V1 (xo_neqF .i64 (m : Int) (m : Int) (by omega) rfl rfl rfl) ?_
  simp only [Act.put, List.setIfInBounds_toArray, List.set_cons_zero, List.set_cons_succ]
  refine wpList_run (by kernel_rfl) (.bool false) V1 rfl ?_
  simp only [Act.put, List.setIfInBounds_toArray, List.set_cons_zero, List.set_cons_succ]
  refine wpList_nil ?_
  go_upto_region 3 with fail
  refine wp_region_lit ?_
  refine wpList_run (by kernel_rfl) (.int .i64 0) V1 rfl ?_
  simp only [Act.put, List.setIfInBounds_toArray, List.set_cons_zero, List.set_cons_succ]
  refine wpList_nil ?_
  have O2 := Fv0_2.out
  have O3 := Fv1_3.out
  have O4 := B0.out
  go_wp2_with fail
  go_loopw [5] (fun p wr => ∃ i : Nat, i ≤ n ∧ p = .int .i64 i ∧ wr.heap[w.heap.size]? = some (.cells #[.slice A n c, .slice B m d] 30 (0, 0)) ∧ wr.heap[(w.heap.size + 1)]? = some (.cells #[.slice A2 n c2, .slice B2 m d2] 30 (0, 0)) ∧ Below w.heap.size w wr) (fun p _ => n - (intOf p).toNat)
  case atStart => exact ⟨0, Nat.zero_le _, rfl, O2, O3, O4⟩
  case round =>
    clear O2 O3 O4
    obtain ⟨wo, rfl⟩ : ∃ wo : World, wo = wr := ⟨_, rfl⟩
    obtain ⟨i, hi, rfl, hr0, hr1, hb0⟩ := hrel
    have hbr := hb0
    clear B0
    have B0 := Lib.hid hbr
    clear hbr
    clear Fv0_2
    have Fv0_2 : Hid (wo.heap[w.heap.size]? = some (.cells #[.slice A n c, .slice B m d] 30 (0, 0))) := Lib.hid (hr0)
    clear Fv1_3
    have Fv1_3 : Hid (wo.heap[(w.heap.size + 1)]? = some (.cells #[.slice A2 n c2, .slice B2 m d2] 30 (0, 0))) := Lib.hid (hr1)
    clear hb0 hr0 hr1
    by_cases hlt2 : i < n
    · have hci6 : ((i : Int) < (n : Int)) := by omega
      obtain ⟨r, hx⟩ : ∃ r, rs[i]? = some r := ⟨_, List.getElem?_eq_getElem (by omega)⟩
      have HE := Lib.hid hx
      clear hx
      go_upto_region 4 with fail
      refine wp_region_lit ?_
      refine wpList_run (by kernel_rfl) (.int .i64 (i : Int)) wo rfl ?_
      simp only [Act.put, List.setIfInBounds_toArray, List.set_cons_zero, List.set_cons_succ]
      refine wpList_run (by kernel_rfl) (.pointer (some ⟨w.heap.size, 0, none⟩)) wo (xo_fld0 0 w.heap.size 0 (by kernel_rfl) rfl rfl) ?_
      simp only [Act.put, List.setIfInBounds_toArray, List.set_cons_zero, List.set_cons_succ]
      refine wpList_run (by kernel_rfl) (.slice A n c) wo (xo_load1 ⟨w.heap.size, 0, none⟩ _ (cells_at Fv0_2.out 0 rfl) Tryd.underlying27 rfl rfl rfl) ?_
      simp only [Act.put, List.setIfInBounds_toArray, List.set_cons_zero, List.set_cons_succ]
      refine wpList_run (by kernel_rfl) (.int .i64 (n : Int)) wo (xo_len A n c Tryd.underlying27 rfl rfl) ?_
      simp only [Act.put, List.setIfInBounds_toArray, List.set_cons_zero, List.set_cons_succ]
      refine wpList_run (by kernel_rfl) (.bool true) wo (xo_lssT .i64 (i : Int) (n : Int) (by omega) rfl rfl rfl) ?_
      simp only [Act.put, List.setIfInBounds_toArray, List.set_cons_zero, List.set_cons_succ]
      refine wpList_nil ?_
      go_upto_region 6 with fail
      refine wp_later_lex (by kernel_rfl) (lexOK_of (by kernel_rfl) (by kernel_rfl)) ?_
      refine wpQuiet_val (by kernel_rfl) (.pointer (some ⟨w.heap.size, 0, none⟩)) (fun v hv => (xo_fld0 0 w.heap.size 0 (by kernel_rfl) rfl rfl)) ?_
      simp only [Act.put, List.setIfInBounds_toArray, List.set_cons_zero, List.set_cons_succ]
      refine wpQuiet_val (by kernel_rfl) (.slice A n c) (fun v hv => (xo_load1 ⟨w.heap.size, 0, none⟩ _ (cells_at (heap_keep Fv0_2.out (later_bel hv)) 0 rfl) Tryd.underlying27 rfl rfl rfl)) ?_
      simp only [Act.put, List.setIfInBounds_toArray, List.set_cons_zero, List.set_cons_succ]
      refine wpQuiet_val (by kernel_rfl) (.int .i64 (i : Int)) (fun v hv => rfl) ?_
      simp only [Act.put, List.setIfInBounds_toArray, List.set_cons_zero, List.set_cons_succ]
      refine wpQuiet_val (by kernel_rfl) (.pointer (some (gad A (i * 4)))) (fun v hv => (xg_idx .i64 ((HL.out.keep B0.out).keep (later_bel hv)) HE.out Tryd.underlying27 (by kernel_rfl) rfl rfl rfl)) ?_
      simp only [Act.put, List.setIfInBounds_toArray, List.set_cons_zero, List.set_cons_succ]
      refine wpQuiet_val (by kernel_rfl) (.agg #[.int .i64 r.who, .int .i64 r.when_, .int .i64 r.kind, .int .i64 r.value]) (fun v hv => (xg_loadE (E := rdC) ((HL.out.keep B0.out).keep (later_bel hv)) HE.out Tryd.underlying24 rfl (by kernel_rfl) rfl rfl)) ?_
      simp only [Act.put, List.setIfInBounds_toArray, List.set_cons_zero, List.set_cons_succ]
      refine wpQuiet_val (by kernel_rfl) (.pointer (some ⟨(w.heap.size + 1), 0, none⟩)) (fun v hv => (xo_fld0 0 (w.heap.size + 1) 0 (by kernel_rfl) rfl rfl)) ?_
      simp only [Act.put, List.setIfInBounds_toArray, List.set_cons_zero, List.set_cons_succ]
      refine wpQuiet_val (by kernel_rfl) (.slice A2 n c2) (fun v hv => (xo_load1 ⟨(w.heap.size + 1), 0, none⟩ _ (cells_at (heap_keep Fv1_3.out (later_bel hv)) 0 rfl) Tryd.underlying27 rfl rfl rfl)) ?_
      simp only [Act.put, List.setIfInBounds_toArray, List.set_cons_zero, List.set_cons_succ]
      refine wpQuiet_val (by kernel_rfl) (.int .i64 (i : Int)) (fun v hv => rfl) ?_
      simp only [Act.put, List.setIfInBounds_toArray, List.set_cons_zero, List.set_cons_succ]
      refine wpQuiet_val (by kernel_rfl) (.pointer (some (gad A2 (i * 4)))) (fun v hv => (xg_idx .i64 ((HL2.out.keep B0.out).keep (later_bel hv)) HE.out Tryd.underlying27 (by kernel_rfl) rfl rfl rfl)) ?_
      simp only [Act.put, List.setIfInBounds_toArray, List.set_cons_zero, List.set_cons_succ]
      refine wpQuiet_val (by kernel_rfl) (.agg #[.int .i64 r.who, .int .i64 r.when_, .int .i64 r.kind, .int .i64 r.value]) (fun v hv => (xg_loadE (E := rdC) ((HL2.out.keep B0.out).keep (later_bel hv)) HE.out Tryd.underlying24 rfl (by kernel_rfl) rfl rfl)) ?_
      simp only [Act.put, List.setIfInBounds_toArray, List.set_cons_zero, List.set_cons_succ]
      refine wpQuiet_val (by kernel_rfl) (.bool false) (fun v hv => (exec_neRd r rfl rfl rfl)) ?_
      simp only [Act.put, List.setIfInBounds_toArray, List.set_cons_zero, List.set_cons_succ]
      refine wpQuiet_nil ?_
      intro X1_7
      have hb := X1_7.below
      generalize X1_7.at = V2 at *
      have B1 := Lib.hid hb
      clear hb
      go_upto_region 5 with fail
      refine wp_region_lit ?_
      refine wpList_run (by kernel_rfl) (.int .i64 (i : Int)) V2 rfl ?_
      simp only [Act.put, List.setIfInBounds_toArray, List.set_cons_zero, List.set_cons_succ]
      refine wpList_run (by kernel_rfl) (.int .i64 ((i + 1 : Nat) : Int)) V2 (xo_addI (i : Int) 1 ((i + 1 : Nat) : Int) (by omega) (by omega) (by omega) rfl rfl rfl) ?_
      simp only [Act.put, List.setIfInBounds_toArray, List.set_cons_zero, List.set_cons_succ]
      refine wpList_run (by kernel_rfl) (.int .i64 ((i + 1 : Nat) : Int)) V2 rfl ?_
      simp only [Act.put, List.setIfInBounds_toArray, List.set_cons_zero, List.set_cons_succ]
      refine wpList_nil ?_
      have hq8 := (heap_keep Fv0_2.out B1.out)
      have hq9 := (heap_keep Fv1_3.out B1.out)
      have C0_2 := Lib.hid (bel_step B0.out B1.out)
      have hq10 := C0_2.out
      go_wp2_with fail
      go_roundw
      case rel => exact ⟨i + 1, by omega, by go_num, hq8, hq9, hq10⟩
      case measure => simp [intOf]; omega
    · have hci6 : ¬ ((i : Int) < (n : Int)) := by omega
      go_upto_region 4 with fail
      refine wp_region_lit ?_
      refine wpList_run (by kernel_rfl) (.int .i64 (i : Int)) wo rfl ?_
      simp only [Act.put, List.setIfInBounds_toArray, List.set_cons_zero, List.set_cons_succ]
      refine wpList_run (by kernel_rfl) (.pointer (some ⟨w.heap.size, 0, none⟩)) wo (xo_fld0 0 w.heap.size 0 (by kernel_rfl) rfl rfl) ?_
      simp only [Act.put, List.setIfInBounds_toArray, List.set_cons_zero, List.set_cons_succ]
      refine wpList_run (by kernel_rfl) (.slice A n c) wo (xo_load1 ⟨w.heap.size, 0, none⟩ _ (cells_at Fv0_2.out 0 rfl) Tryd.underlying27 rfl rfl rfl) ?_
      simp only [Act.put, List.setIfInBounds_toArray, List.set_cons_zero, List.set_cons_succ]
      refine wpList_run (by kernel_rfl) (.int .i64 (n : Int)) wo (xo_len A n c Tryd.underlying27 rfl rfl) ?_
      simp only [Act.put, List.setIfInBounds_toArray, List.set_cons_zero, List.set_cons_succ]
      refine wpList_run (by kernel_rfl) (.bool false) wo (xo_lssF .i64 (i : Int) (n : Int) (by omega) rfl rfl rfl) ?_
      simp only [Act.put, List.setIfInBounds_toArray, List.set_cons_zero, List.set_cons_succ]
      refine wpList_nil ?_
      go_upto_region 8 with fail
      refine wp_region_lit ?_
      refine wpList_run (by kernel_rfl) (.int .i64 0) wo rfl ?_
      simp only [Act.put, List.setIfInBounds_toArray, List.set_cons_zero, List.set_cons_succ]
      refine wpList_nil ?_
      have O7 := Fv0_2.out
      have O8 := Fv1_3.out
      have O9 := B0.out
      go_wp2_with fail
      go_loopw [6] (fun p wr => ∃ j : Nat, j ≤ m ∧ p = .int .i64 j ∧ wr.heap[w.heap.size]? = some (.cells #[.slice A n c, .slice B m d] 30 (0, 0)) ∧ wr.heap[(w.heap.size + 1)]? = some (.cells #[.slice A2 n c2, .slice B2 m d2] 30 (0, 0)) ∧ Below w.heap.size w wr) (fun p _ => m - (intOf p).toNat)
      case atStart => exact ⟨0, Nat.zero_le _, rfl, O7, O8, O9⟩
      case round =>
        clear O7 O8 O9
        obtain ⟨wq, rfl⟩ : ∃ wq : World, wq = wr := ⟨_, rfl⟩
        obtain ⟨j, hi, rfl, hr0, hr1, hb0⟩ := hrel
        have hbr := hb0
        clear B0
        have B0 := Lib.hid hbr
        clear hbr
        clear Fv0_2
        have Fv0_2 : Hid (wq.heap[w.heap.size]? = some (.cells #[.slice A n c, .slice B m d] 30 (0, 0))) := Lib.hid (hr0)
        clear Fv1_3
        have Fv1_3 : Hid (wq.heap[(w.heap.size + 1)]? = some (.cells #[.slice A2 n c2, .slice B2 m d2] 30 (0, 0))) := Lib.hid (hr1)
        clear hb0 hr0 hr1
        by_cases hlt3 : j < m
        · have hci11 : ((j : Int) < (m : Int)) := by omega
          obtain ⟨g, hx⟩ : ∃ g, gs[j]? = some g := ⟨_, List.getElem?_eq_getElem (by omega)⟩
          have HE := Lib.hid hx
          clear hx
          go_upto_region 9 with fail
          refine wp_region_lit ?_
          refine wpList_run (by kernel_rfl) (.int .i64 (j : Int)) wq rfl ?_
          simp only [Act.put, List.setIfInBounds_toArray, List.set_cons_zero, List.set_cons_succ]
          refine wpList_run (by kernel_rfl) (.pointer (some ⟨w.heap.size, 1, none⟩)) wq (xo_fld0 1 w.heap.size 1 (by kernel_rfl) rfl rfl) ?_
          simp only [Act.put, List.setIfInBounds_toArray, List.set_cons_zero, List.set_cons_succ]
          refine wpList_run (by kernel_rfl) (.slice B m d) wq (xo_load1 ⟨w.heap.size, 1, none⟩ _ (cells_at Fv0_2.out 1 rfl) Tryd.underlying28 rfl rfl rfl) ?_
          simp only [Act.put, List.setIfInBounds_toArray, List.set_cons_zero, List.set_cons_succ]
          refine wpList_run (by kernel_rfl) (.int .i64 (m : Int)) wq (xo_len B m d Tryd.underlying28 rfl rfl) ?_
          simp only [Act.put, List.setIfInBounds_toArray, List.set_cons_zero, List.set_cons_succ]
          refine wpList_run (by kernel_rfl) (.bool true) wq (xo_lssT .i64 (j : Int) (m : Int) (by omega) rfl rfl rfl) ?_
          simp only [Act.put, List.setIfInBounds_toArray, List.set_cons_zero, List.set_cons_succ]
          refine wpList_nil ?_
          go_upto_region 11 with fail
          refine wp_later_lex (by kernel_rfl) (lexOK_of (by kernel_rfl) (by kernel_rfl)) ?_
          refine wpQuiet_val (by kernel_rfl) (.pointer (some ⟨w.heap.size, 1, none⟩)) (fun v hv => (xo_fld0 1 w.heap.size 1 (by kernel_rfl) rfl rfl)) ?_
          simp only [Act.put, List.setIfInBounds_toArray, List.set_cons_zero, List.set_cons_succ]
          refine wpQuiet_val (by kernel_rfl) (.slice B m d) (fun v hv => (xo_load1 ⟨w.heap.size, 1, none⟩ _ (cells_at (heap_keep Fv0_2.out (later_bel hv)) 1 rfl) Tryd.underlying28 rfl rfl rfl)) ?_
          simp only [Act.put, List.setIfInBounds_toArray, List.set_cons_zero, List.set_cons_succ]
          refine wpQuiet_val (by kernel_rfl) (.int .i64 (j : Int)) (fun v hv => rfl) ?_
          simp only [Act.put, List.setIfInBounds_toArray, List.set_cons_zero, List.set_cons_succ]
          refine wpQuiet_val (by kernel_rfl) (.pointer (some (gad B (j * 1)))) (fun v hv => (xg_idx .i64 ((HG.out.keep B0.out).keep (later_bel hv)) HE.out Tryd.underlying28 (by kernel_rfl) rfl rfl rfl)) ?_
          simp only [Act.put, List.setIfInBounds_toArray, List.set_cons_zero, List.set_cons_succ]
          refine wpQuiet_val (by kernel_rfl) (.bool g) (fun v hv => (xg_load1 (E := boC) (i := j) (j := 0) ((HG.out.keep B0.out).keep (later_bel hv)) HE.out rfl rfl Tryd.underlying4 rfl rfl rfl)) ?_
          simp only [Act.put, List.setIfInBounds_toArray, List.set_cons_zero, List.set_cons_succ]
          refine wpQuiet_val (by kernel_rfl) (.pointer (some ⟨(w.heap.size + 1), 1, none⟩)) (fun v hv => (xo_fld0 1 (w.heap.size + 1) 1 (by kernel_rfl) rfl rfl)) ?_
          simp only [Act.put, List.setIfInBounds_toArray, List.set_cons_zero, List.set_cons_succ]
          refine wpQuiet_val (by kernel_rfl) (.slice B2 m d2) (fun v hv => (xo_load1 ⟨(w.heap.size + 1), 1, none⟩ _ (cells_at (heap_keep Fv1_3.out (later_bel hv)) 1 rfl) Tryd.underlying28 rfl rfl rfl)) ?_
          simp only [Act.put, List.setIfInBounds_toArray, List.set_cons_zero, List.set_cons_succ]
          refine wpQuiet_val (by kernel_rfl) (.int .i64 (j : Int)) (fun v hv => rfl) ?_
          simp only [Act.put, List.setIfInBounds_toArray, List.set_cons_zero, List.set_cons_succ]
          refine wpQuiet_val (by kernel_rfl) (.pointer (some (gad B2 (j * 1)))) (fun v hv => (xg_idx .i64 ((HG2.out.keep B0.out).keep (later_bel hv)) HE.out Tryd.underlying28 (by kernel_rfl) rfl rfl rfl)) ?_
          simp only [Act.put, List.setIfInBounds_toArray, List.set_cons_zero, List.set_cons_succ]
          refine wpQuiet_val (by kernel_rfl) (.bool g) (fun v hv => (xg_load1 (E := boC) (i := j) (j := 0) ((HG2.out.keep B0.out).keep (later_bel hv)) HE.out rfl rfl Tryd.underlying4 rfl rfl rfl)) ?_
          simp only [Act.put, List.setIfInBounds_toArray, List.set_cons_zero, List.set_cons_succ]
          refine wpQuiet_val (by kernel_rfl) (.bool false) (fun v hv => (exec_neBo g rfl rfl rfl)) ?_
          simp only [Act.put, List.setIfInBounds_toArray, List.set_cons_zero, List.set_cons_succ]
          refine wpQuiet_nil ?_
          intro X1_12
          have hb := X1_12.below
          generalize X1_12.at = V2 at *
          have B1 := Lib.hid hb
          clear hb
          go_upto_region 10 with fail
          refine wp_region_lit ?_
          refine wpList_run (by kernel_rfl) (.int .i64 (j : Int)) V2 rfl ?_
          simp only [Act.put, List.setIfInBounds_toArray, List.set_cons_zero, List.set_cons_succ]
          refine wpList_run (by kernel_rfl) (.int .i64 ((j + 1 : Nat) : Int)) V2 (xo_addI (j : Int) 1 ((j + 1 : Nat) : Int) (by omega) (by omega) (by omega) rfl rfl rfl) ?_
          simp only [Act.put, List.setIfInBounds_toArray, List.set_cons_zero, List.set_cons_succ]
          refine wpList_run (by kernel_rfl) (.int .i64 ((j + 1 : Nat) : Int)) V2 rfl ?_
          simp only [Act.put, List.setIfInBounds_toArray, List.set_cons_zero, List.set_cons_succ]
          refine wpList_nil ?_
          have hq13 := (heap_keep Fv0_2.out B1.out)
          have hq14 := (heap_keep Fv1_3.out B1.out)
          have C0_2 := Lib.hid (bel_step B0.out B1.out)
          have hq15 := C0_2.out
          go_wp2_with fail
          go_roundw
          case rel => exact ⟨j + 1, by omega, by go_num, hq13, hq14, hq15⟩
          case measure => simp [intOf]; omega
        · have hci11 : ¬ ((j : Int) < (m : Int)) := by omega
          go_upto_region 9 with fail
          refine wp_region_lit ?_
          refine wpList_run (by kernel_rfl) (.int .i64 (j : Int)) wq rfl ?_
          simp only [Act.put, List.setIfInBounds_toArray, List.set_cons_zero, List.set_cons_succ]
          refine wpList_run (by kernel_rfl) (.pointer (some ⟨w.heap.size, 1, none⟩)) wq (xo_fld0 1 w.heap.size 1 (by kernel_rfl) rfl rfl) ?_
          simp only [Act.put, List.setIfInBounds_toArray, List.set_cons_zero, List.set_cons_succ]
          refine wpList_run (by kernel_rfl) (.slice B m d) wq (xo_load1 ⟨w.heap.size, 1, none⟩ _ (cells_at Fv0_2.out 1 rfl) Tryd.underlying28 rfl rfl rfl) ?_
          simp only [Act.put, List.setIfInBounds_toArray, List.set_cons_zero, List.set_cons_succ]
          refine wpList_run (by kernel_rfl) (.int .i64 (m : Int)) wq (xo_len B m d Tryd.underlying28 rfl rfl) ?_
          simp only [Act.put, List.setIfInBounds_toArray, List.set_cons_zero, List.set_cons_succ]
          refine wpList_run (by kernel_rfl) (.bool false) wq (xo_lssF .i64 (j : Int) (m : Int) (by omega) rfl rfl rfl) ?_
          simp only [Act.put, List.setIfInBounds_toArray, List.set_cons_zero, List.set_cons_succ]
          refine wpList_nil ?_
          go_upto_region 13 with fail
          refine wp_region_lit ?_
          refine wpList_run (by kernel_rfl) (.bool true) wq rfl ?_
          simp only [Act.put, List.setIfInBounds_toArray, List.set_cons_zero, List.set_cons_succ]
          refine wpList_nil ?_
          go_wp2_with fail
          go_ret
          exact ⟨rfl, B0.out⟩
set_option maxRecDepth 100000 in
set_option maxHeartbeats 8000000 in
theorem validStream_yes (A : Option Addr) (n c : Nat) (rs : List Rd) (B : Option Addr) (d : Nat) (gs : List Bool) (hn : n ≤ 65536) (hv : ∀ r ∈ rs, vR r = true) (w : World) (hL : Sg rdC 4 w A n c rs) (hG : Sg boC 1 w B n d gs) :
    Calls Tryd.prog 32 #[.agg #[.slice A n c, .slice B n d]] w fun e w' => e = .returned (.bool true) ∧ Below w.heap.size w w' := by
  have HL := Lib.hid hL
  have HG := Lib.hid hG
  have hln := hL.len
  clear hL hG
  have HV := Lib.hid hv
  clear hv
  go_enter Tryd.func32, Tryd.ntmps32
  go_upto_region 1 with fail
  refine wp_named1 (fun V1 hb g0 hlt => ?_)
  have B0 := Lib.hid hb
  have Fv0_1 : Hid (V1.heap[w.heap.size]? = some (.cells #[.slice A n c, .slice B n d] 30 (0, 0))) := Lib.hid (g0)
  have Gb0 : Hid (w.heap.size ≤ w.heap.size) := Lib.hid (by omega)
  clear hb g0 hlt
  have Lt0 : Hid (w.heap.size < V1.heap.size) := Lib.hid (xp_lt Fv0_1.out)
  refine wp_region_lit ?_
  refine wpList_run (by kernel_rfl) (.int .i64 0) V1 rfl ?_
  simp only [Act.put, List.setIfInBounds_toArray, List.set_cons_zero, List.set_cons_succ]
  refine wpList_nil ?_
  have O1 := Fv0_1.out
  have O2 := B0.out
  go_wp2_with fail
  go_loopw [3] (fun p wr => ∃ i : Nat, i ≤ n ∧ p = .int .i64 i ∧ wr.heap[w.heap.size]? = some (.cells #[.slice A n c, .slice B n d] 30 (0, 0)) ∧ Below w.heap.size w wr) (fun p _ => n - (intOf p).toNat)
  case atStart => exact ⟨0, Nat.zero_le _, rfl, O1, O2⟩
  case round =>
    clear O1 O2
    obtain ⟨wo, rfl⟩ : ∃ wo : World, wo = wr := ⟨_, rfl⟩
    obtain ⟨i, hi, rfl, hr0, hb0⟩ := hrel
    have hbr := hb0
    clear B0
    have B0 := Lib.hid hbr
    clear hbr
    clear Fv0_1
    have Fv0_1 : Hid (wo.heap[w.heap.size]? = some (.cells #[.slice A n c, .slice B n d] 30 (0, 0))) := Lib.hid (hr0)
    clear hb0 hr0
    by_cases hlt2 : i < n
    · have hci4 : ((i : Int) < (n : Int)) := by omega
      obtain ⟨r, hx⟩ : ∃ r, rs[i]? = some r := ⟨_, List.getElem?_eq_getElem (by omega)⟩
      have hvr := HV.out r (List.mem_of_getElem? hx)
      have HE := Lib.hid hx
      clear hx
      go_upto_region 2 with fail
      refine wp_region_lit ?_
      refine wpList_run (by kernel_rfl) (.int .i64 (i : Int)) wo rfl ?_
      simp only [Act.put, List.setIfInBounds_toArray, List.set_cons_zero, List.set_cons_succ]
      refine wpList_run (by kernel_rfl) (.pointer (some ⟨w.heap.size, 0, none⟩)) wo (xo_fld0 0 w.heap.size 0 (by kernel_rfl) rfl rfl) ?_
      simp only [Act.put, List.setIfInBounds_toArray, List.set_cons_zero, List.set_cons_succ]
      refine wpList_run (by kernel_rfl) (.slice A n c) wo (xo_load1 ⟨w.heap.size, 0, none⟩ _ (cells_at Fv0_1.out 0 rfl) Tryd.underlying27 rfl rfl rfl) ?_
      simp only [Act.put, List.setIfInBounds_toArray, List.set_cons_zero, List.set_cons_succ]
      refine wpList_run (by kernel_rfl) (.int .i64 (n : Int)) wo (xo_len A n c Tryd.underlying27 rfl rfl) ?_
      simp only [Act.put, List.setIfInBounds_toArray, List.set_cons_zero, List.set_cons_succ]
      refine wpList_run (by kernel_rfl) (.bool true) wo (xo_lssT .i64 (i : Int) (n : Int) (by omega) rfl rfl rfl) ?_
      simp only [Act.put, List.setIfInBounds_toArray, List.set_cons_zero, List.set_cons_succ]
      refine wpList_nil ?_
      go_upto_region 4 with fail
      refine wp_region_lit ?_
      refine wpList_run (by kernel_rfl) (.pointer (some ⟨w.heap.size, 0, none⟩)) wo (xo_fld0 0 w.heap.size 0 (by kernel_rfl) rfl rfl) ?_
      simp only [Act.put, List.setIfInBounds_toArray, List.set_cons_zero, List.set_cons_succ]
      refine wpList_run (by kernel_rfl) (.slice A n c) wo (xo_load1 ⟨w.heap.size, 0, none⟩ _ (cells_at Fv0_1.out 0 rfl) Tryd.underlying27 rfl rfl rfl) ?_
      simp only [Act.put, List.setIfInBounds_toArray, List.set_cons_zero, List.set_cons_succ]
      refine wpList_run (by kernel_rfl) (.int .i64 (i : Int)) wo rfl ?_
      simp only [Act.put, List.setIfInBounds_toArray, List.set_cons_zero, List.set_cons_succ]
      refine wpList_run (by kernel_rfl) (.pointer (some (gad A (i * 4)))) wo (xg_idx .i64 (HL.out.keep B0.out) HE.out Tryd.underlying27 (by kernel_rfl) rfl rfl rfl) ?_
      simp only [Act.put, List.setIfInBounds_toArray, List.set_cons_zero, List.set_cons_succ]
      refine wpList_run (by kernel_rfl) (.agg #[.int .i64 r.who, .int .i64 r.when_, .int .i64 r.kind, .int .i64 r.value]) wo (xg_loadE (E := rdC) (HL.out.keep B0.out) HE.out Tryd.underlying24 rfl (by kernel_rfl) rfl rfl) ?_
      simp only [Act.put, List.setIfInBounds_toArray, List.set_cons_zero, List.set_cons_succ]
      refine wpList_call (by kernel_rfl) 18 Tryd.func18 (by kernel_rfl) (by kernel_rfl) _ _ #[.agg #[.int .i64 r.who, .int .i64 r.when_, .int .i64 r.kind, .int .i64 r.value]] rfl (by kernel_rfl) ?_
      refine (rvalid_as r true hvr wo).mono ?_
      rintro e V2 ⟨rfl, hb⟩
      have B1 := Lib.hid hb
      clear hb 
      refine ⟨_, rfl, ?_⟩
      simp only [Act.put, List.setIfInBounds_toArray, List.set_cons_zero, List.set_cons_succ]
      refine wpList_run (by kernel_rfl) (.bool false) V2 rfl ?_
      simp only [Act.put, List.setIfInBounds_toArray, List.set_cons_zero, List.set_cons_succ]
      refine wpList_nil ?_
      go_upto_region 3 with fail
      refine wp_region_lit ?_
      refine wpList_run (by kernel_rfl) (.int .i64 (i : Int)) V2 rfl ?_
      simp only [Act.put, List.setIfInBounds_toArray, List.set_cons_zero, List.set_cons_succ]
      refine wpList_run (by kernel_rfl) (.int .i64 ((i + 1 : Nat) : Int)) V2 (xo_addI (i : Int) 1 ((i + 1 : Nat) : Int) (by omega) (by omega) (by omega) rfl rfl rfl) ?_
      simp only [Act.put, List.setIfInBounds_toArray, List.set_cons_zero, List.set_cons_succ]
      refine wpList_run (by kernel_rfl) (.int .i64 ((i + 1 : Nat) : Int)) V2 rfl ?_
      simp only [Act.put, List.setIfInBounds_toArray, List.set_cons_zero, List.set_cons_succ]
      refine wpList_nil ?_
      have hq5 := (heap_keep Fv0_1.out B1.out)
      have C0_2 := Lib.hid (bel_step B0.out B1.out)
      have hq6 := C0_2.out
      go_wp2_with fail
      go_roundw
      case rel => exact ⟨i + 1, by omega, by go_num, hq5, hq6⟩
      case measure => simp [intOf]; omega
    · have hci4 : ¬ ((i : Int) < (n : Int)) := by omega
      have hci5 : ((n : Int) ≤ 65536) := by omega
      go_upto_region 2 with fail
      refine wp_region_lit ?_
      refine wpList_run (by kernel_rfl) (.int .i64 (i : Int)) wo rfl ?_
      simp only [Act.put, List.setIfInBounds_toArray, List.set_cons_zero, List.set_cons_succ]
      refine wpList_run (by kernel_rfl) (.pointer (some ⟨w.heap.size, 0, none⟩)) wo (xo_fld0 0 w.heap.size 0 (by kernel_rfl) rfl rfl) ?_
      simp only [Act.put, List.setIfInBounds_toArray, List.set_cons_zero, List.set_cons_succ]
      refine wpList_run (by kernel_rfl) (.slice A n c) wo (xo_load1 ⟨w.heap.size, 0, none⟩ _ (cells_at Fv0_1.out 0 rfl) Tryd.underlying27 rfl rfl rfl) ?_
      simp only [Act.put, List.setIfInBounds_toArray, List.set_cons_zero, List.set_cons_succ]
      refine wpList_run (by kernel_rfl) (.int .i64 (n : Int)) wo (xo_len A n c Tryd.underlying27 rfl rfl) ?_
      simp only [Act.put, List.setIfInBounds_toArray, List.set_cons_zero, List.set_cons_succ]
      refine wpList_run (by kernel_rfl) (.bool false) wo (xo_lssF .i64 (i : Int) (n : Int) (by omega) rfl rfl rfl) ?_
      simp only [Act.put, List.setIfInBounds_toArray, List.set_cons_zero, List.set_cons_succ]
      refine wpList_nil ?_
      go_upto_region 6 with fail
      refine wp_region_lit ?_
      refine wpList_run (by kernel_rfl) (.pointer (some ⟨w.heap.size, 0, none⟩)) wo (xo_fld0 0 w.heap.size 0 (by kernel_rfl) rfl rfl) ?_
      simp only [Act.put, List.setIfInBounds_toArray, List.set_cons_zero, List.set_cons_succ]
      refine wpList_run (by kernel_rfl) (.slice A n c) wo (xo_load1 ⟨w.heap.size, 0, none⟩ _ (cells_at Fv0_1.out 0 rfl) Tryd.underlying27 rfl rfl rfl) ?_
      simp only [Act.put, List.setIfInBounds_toArray, List.set_cons_zero, List.set_cons_succ]
      refine wpList_run (by kernel_rfl) (.int .i64 (n : Int)) wo (xo_len A n c Tryd.underlying27 rfl rfl) ?_
      simp only [Act.put, List.setIfInBounds_toArray, List.set_cons_zero, List.set_cons_succ]
      refine wpList_run (by kernel_rfl) (.bool true) wo (xo_leqT .i64 (n : Int) 65536 (by omega) rfl rfl rfl) ?_
      simp only [Act.put, List.setIfInBounds_toArray, List.set_cons_zero, List.set_cons_succ]
      refine wpList_run (by kernel_rfl) (.bool true) wo rfl ?_
      simp only [Act.put, List.setIfInBounds_toArray, List.set_cons_zero, List.set_cons_succ]
      refine wpList_run (by kernel_rfl) (.pointer (some ⟨w.heap.size, 1, none⟩)) wo (xo_fld0 1 w.heap.size 1 (by kernel_rfl) rfl rfl) ?_
      simp only [Act.put, List.setIfInBounds_toArray, List.set_cons_zero, List.set_cons_succ]
      refine wpList_run (by kernel_rfl) (.slice B n d) wo (xo_load1 ⟨w.heap.size, 1, none⟩ _ (cells_at Fv0_1.out 1 rfl) Tryd.underlying28 rfl rfl rfl) ?_
      simp only [Act.put, List.setIfInBounds_toArray, List.set_cons_zero, List.set_cons_succ]
      refine wpList_run (by kernel_rfl) (.int .i64 (n : Int)) wo (xo_len B n d Tryd.underlying28 rfl rfl) ?_
      simp only [Act.put, List.setIfInBounds_toArray, List.set_cons_zero, List.set_cons_succ]
      refine wpList_run (by kernel_rfl) (.pointer (some ⟨w.heap.size, 0, none⟩)) wo (xo_fld0 0 w.heap.size 0 (by kernel_rfl) rfl rfl) ?_
      simp only [Act.put, List.setIfInBounds_toArray, List.set_cons_zero, List.set_cons_succ]
      refine wpList_run (by kernel_rfl) (.slice A n c) wo (xo_load1 ⟨w.heap.size, 0, none⟩ _ (cells_at Fv0_1.out 0 rfl) Tryd.underlying27 rfl rfl rfl) ?_
      simp only [Act.put, List.setIfInBounds_toArray, List.set_cons_zero, List.set_cons_succ]
      refine wpList_run (by kernel_rfl) (.int .i64 (n : Int)) wo (xo_len A n c Tryd.underlying27 rfl rfl) ?_
      simp only [Act.put, List.setIfInBounds_toArray, List.set_cons_zero, List.set_cons_succ]
      refine wpList_run (by kernel_rfl) (.bool true) wo (xo_eqlT .i64 (n : Int) (n : Int) (by omega) rfl rfl rfl) ?_
      simp only [Act.put, List.setIfInBounds_toArray, List.set_cons_zero, List.set_cons_succ]
      refine wpList_run (by kernel_rfl) (.bool true) wo rfl ?_
      simp only [Act.put, List.setIfInBounds_toArray, List.set_cons_zero, List.set_cons_succ]
      refine wpList_run (by kernel_rfl) (.bool true) wo rfl ?_
      simp only [Act.put, List.setIfInBounds_toArray, List.set_cons_zero, List.set_cons_succ]
      refine wpList_nil ?_
      go_wp2_with fail
      go_ret
      exact ⟨rfl, B0.out⟩
set_option maxRecDepth 100000 in
set_option maxHeartbeats 8000000 in
theorem rlive_any (A : Option Addr) (n c : Nat) (rs : List Rd) (B : Option Addr) (d : Nat) (gs : List Bool) (hn : n ≤ 65536) (w : World) (hL : Sg rdC 4 w A n c rs) (hG : Sg boC 1 w B n d gs) :
    Calls Tryd.prog 33 #[.agg #[.slice A n c, .slice B n d]] w fun e w' => ∃ A2 c2, e = .returned (.slice A2 (liveL rs gs).length c2) ∧ Sg rdC 4 w' A2 (liveL rs gs).length c2 (liveL rs gs) ∧ Below w.heap.size w w' := by
  have HL := Lib.hid hL
  have HG := Lib.hid hG
  have hln := hL.len
  have hgn := hG.len
  clear hL hG
  go_enter Tryd.func33, Tryd.ntmps33
  go_upto_region 1 with fail
  refine wp_named1 (fun V1 hb g0 hlt => ?_)
  have B0 := Lib.hid hb
  have Fv0_1 : Hid (V1.heap[w.heap.size]? = some (.cells #[.slice A n c, .slice B n d] 30 (0, 0))) := Lib.hid (g0)
  have Gb0 : Hid (w.heap.size ≤ w.heap.size) := Lib.hid (by omega)
  clear hb g0 hlt
  have Lt0 : Hid (w.heap.size < V1.heap.size) := Lib.hid (xp_lt Fv0_1.out)
  refine wp_region_lit ?_
  refine wpList_mk (by kernel_rfl) #[] 24 0 0 (xo_empty (size := 4) Tryd.underlying27 (by kernel_rfl) rfl V1) ?_
  intro g5 V2 hge h0 hb
  have hge2 := Nat.le_trans B0.out.size hge
  have B1 := Lib.hid hb
  have Ow5 : Hid (V2.ownsRow w.heap.size 24 4 (.slice (some ⟨g5, 0, none⟩) 0 0) 0 (fl rdC [])) := Lib.hid (own_new h0 hge2)
  clear hge hge2 h0 hb
  simp only [ptr, Act.put, List.setIfInBounds_toArray, List.set_cons_zero, List.set_cons_succ]
  refine wpList_run (by kernel_rfl) (.slice (some ⟨g5, 0, none⟩) 0 0) V2 rfl ?_
  simp only [Act.put, List.setIfInBounds_toArray, List.set_cons_zero, List.set_cons_succ]
  refine wpList_nil ?_
  go_upto_region 2 with fail
  refine wp_region_lit ?_
  refine wpList_run (by kernel_rfl) (.int .i64 0) V2 rfl ?_
  simp only [Act.put, List.setIfInBounds_toArray, List.set_cons_zero, List.set_cons_succ]
  refine wpList_nil ?_
  have O1 := (heap_keep Fv0_1.out B1.out)
  have O2 := Ow5.out
  have C0_2 := Lib.hid (bel_step B0.out B1.out)
  have O3 := C0_2.out
  go_wp2_with fail
  go_loopw [3, 4] (fun v p wr => ∃ i : Nat, i ≤ n ∧ p = .int .i64 i ∧ wr.ownsRow w.heap.size 24 4 v (liveL (rs.take i) (gs.take i)).length (fl rdC (liveL (rs.take i) (gs.take i))) ∧ wr.heap[w.heap.size]? = some (.cells #[.slice A n c, .slice B n d] 30 (0, 0)) ∧ Below w.heap.size w wr) (fun _ p _ => n - (intOf p).toNat)
  case atStart => exact ⟨0, Nat.zero_le _, rfl, O2, O1, O3⟩
  case round =>
    clear O1 O3 O2
    obtain ⟨wo, rfl⟩ : ∃ wo : World, wo = wr := ⟨_, rfl⟩
    obtain ⟨i, hi, rfl, hOW, hr0, hb0⟩ := hrel
    have hbr := hb0
    clear B0
    have B0 := Lib.hid hbr
    clear hbr
    clear Fv0_1
    have Fv0_1 : Hid (wo.heap[w.heap.size]? = some (.cells #[.slice A n c, .slice B n d] 30 (0, 0))) := Lib.hid (hr0)
    have OW := Lib.hid hOW
    clear hb0 hr0 hOW
    by_cases hlt2 : i < n
    · have hci5 : ((i : Int) < (n : Int)) := by omega
      obtain ⟨r, hx⟩ : ∃ r, rs[i]? = some r := ⟨_, List.getElem?_eq_getElem (by omega)⟩
      obtain ⟨g, hy⟩ : ∃ g, gs[i]? = some g := ⟨_, List.getElem?_eq_getElem (by omega)⟩
      have HT := Lib.hid (liveL_take hx hy)
      have HE := Lib.hid hx
      have HE2 := Lib.hid hy
      have hlv := liveL_le (rs.take i) (gs.take i)
      have htl : (rs.take i).length ≤ n := by rw [List.length_take]; omega
      clear hx hy
      cases g with
      | true =>
        go_upto_region 3 with fail
        refine wp_region_lit ?_
        refine wpList_run (by kernel_rfl) (.int .i64 (i : Int)) wo rfl ?_
        simp only [Act.put, List.setIfInBounds_toArray, List.set_cons_zero, List.set_cons_succ]
        refine wpList_run (by kernel_rfl) (.pointer (some ⟨w.heap.size, 0, none⟩)) wo (xo_fld0 0 w.heap.size 0 (by kernel_rfl) rfl rfl) ?_
        simp only [Act.put, List.setIfInBounds_toArray, List.set_cons_zero, List.set_cons_succ]
        refine wpList_run (by kernel_rfl) (.slice A n c) wo (xo_load1 ⟨w.heap.size, 0, none⟩ _ (cells_at Fv0_1.out 0 rfl) Tryd.underlying27 rfl rfl rfl) ?_
        simp only [Act.put, List.setIfInBounds_toArray, List.set_cons_zero, List.set_cons_succ]
        refine wpList_run (by kernel_rfl) (.int .i64 (n : Int)) wo (xo_len A n c Tryd.underlying27 rfl rfl) ?_
        simp only [Act.put, List.setIfInBounds_toArray, List.set_cons_zero, List.set_cons_succ]
        refine wpList_run (by kernel_rfl) (.bool true) wo (xo_lssT .i64 (i : Int) (n : Int) (by omega) rfl rfl rfl) ?_
        simp only [Act.put, List.setIfInBounds_toArray, List.set_cons_zero, List.set_cons_succ]
        refine wpList_nil ?_
        go_upto_region 5 with fail
        refine wp_region_lit ?_
        refine wpList_run (by kernel_rfl) (.pointer (some ⟨w.heap.size, 1, none⟩)) wo (xo_fld0 1 w.heap.size 1 (by kernel_rfl) rfl rfl) ?_
        simp only [Act.put, List.setIfInBounds_toArray, List.set_cons_zero, List.set_cons_succ]
        refine wpList_run (by kernel_rfl) (.slice B n d) wo (xo_load1 ⟨w.heap.size, 1, none⟩ _ (cells_at Fv0_1.out 1 rfl) Tryd.underlying28 rfl rfl rfl) ?_
        simp only [Act.put, List.setIfInBounds_toArray, List.set_cons_zero, List.set_cons_succ]
        refine wpList_run (by kernel_rfl) (.int .i64 (i : Int)) wo rfl ?_
        simp only [Act.put, List.setIfInBounds_toArray, List.set_cons_zero, List.set_cons_succ]
        refine wpList_run (by kernel_rfl) (.pointer (some (gad B (i * 1)))) wo (xg_idx .i64 (HG.out.keep B0.out) HE2.out Tryd.underlying28 (by kernel_rfl) rfl rfl rfl) ?_
        simp only [Act.put, List.setIfInBounds_toArray, List.set_cons_zero, List.set_cons_succ]
        refine wpList_run (by kernel_rfl) (.bool true) wo (xg_load1 (E := boC) (i := i) (j := 0) (HG.out.keep B0.out) HE2.out rfl rfl Tryd.underlying4 rfl rfl rfl) ?_
        simp only [Act.put, List.setIfInBounds_toArray, List.set_cons_zero, List.set_cons_succ]
        refine wpList_run (by kernel_rfl) (.bool false) wo rfl ?_
        simp only [Act.put, List.setIfInBounds_toArray, List.set_cons_zero, List.set_cons_succ]
        refine wpList_nil ?_
        have hown : wo.ownsRow w.heap.size 24 4 u3 (liveL (rs.take (i + 1)) (gs.take (i + 1))).length (fl rdC (liveL (rs.take (i + 1)) (gs.take (i + 1)))) := by
          have h0 := OW.out
          rw [HT.out]
          simpa using h0
        go_upto_region 4 with fail
        refine wp_region_lit ?_
        refine wpList_run (by kernel_rfl) (.int .i64 (i : Int)) wo rfl ?_
        simp only [Act.put, List.setIfInBounds_toArray, List.set_cons_zero, List.set_cons_succ]
        refine wpList_run (by kernel_rfl) (.int .i64 ((i + 1 : Nat) : Int)) wo (xo_addI (i : Int) 1 ((i + 1 : Nat) : Int) (by omega) (by omega) (by omega) rfl rfl rfl) ?_
        simp only [Act.put, List.setIfInBounds_toArray, List.set_cons_zero, List.set_cons_succ]
        refine wpList_run (by kernel_rfl) (.int .i64 ((i + 1 : Nat) : Int)) wo rfl ?_
        simp only [Act.put, List.setIfInBounds_toArray, List.set_cons_zero, List.set_cons_succ]
        refine wpList_nil ?_
        have hq6 := Fv0_1.out
        have hq7 := B0.out
        go_wp2_with fail
        go_roundw
        case rel => exact ⟨i + 1, by omega, by go_num, hown, hq6, hq7⟩
        case measure => simp [intOf]; omega
      | false =>
        go_upto_region 3 with fail
        refine wp_region_lit ?_
        refine wpList_run (by kernel_rfl) (.int .i64 (i : Int)) wo rfl ?_
        simp only [Act.put, List.setIfInBounds_toArray, List.set_cons_zero, List.set_cons_succ]
        refine wpList_run (by kernel_rfl) (.pointer (some ⟨w.heap.size, 0, none⟩)) wo (xo_fld0 0 w.heap.size 0 (by kernel_rfl) rfl rfl) ?_
        simp only [Act.put, List.setIfInBounds_toArray, List.set_cons_zero, List.set_cons_succ]
        refine wpList_run (by kernel_rfl) (.slice A n c) wo (xo_load1 ⟨w.heap.size, 0, none⟩ _ (cells_at Fv0_1.out 0 rfl) Tryd.underlying27 rfl rfl rfl) ?_
        simp only [Act.put, List.setIfInBounds_toArray, List.set_cons_zero, List.set_cons_succ]
        refine wpList_run (by kernel_rfl) (.int .i64 (n : Int)) wo (xo_len A n c Tryd.underlying27 rfl rfl) ?_
        simp only [Act.put, List.setIfInBounds_toArray, List.set_cons_zero, List.set_cons_succ]
        refine wpList_run (by kernel_rfl) (.bool true) wo (xo_lssT .i64 (i : Int) (n : Int) (by omega) rfl rfl rfl) ?_
        simp only [Act.put, List.setIfInBounds_toArray, List.set_cons_zero, List.set_cons_succ]
        refine wpList_nil ?_
        go_upto_region 5 with fail
        refine wp_region_lit ?_
        refine wpList_run (by kernel_rfl) (.pointer (some ⟨w.heap.size, 1, none⟩)) wo (xo_fld0 1 w.heap.size 1 (by kernel_rfl) rfl rfl) ?_
        simp only [Act.put, List.setIfInBounds_toArray, List.set_cons_zero, List.set_cons_succ]
        refine wpList_run (by kernel_rfl) (.slice B n d) wo (xo_load1 ⟨w.heap.size, 1, none⟩ _ (cells_at Fv0_1.out 1 rfl) Tryd.underlying28 rfl rfl rfl) ?_
        simp only [Act.put, List.setIfInBounds_toArray, List.set_cons_zero, List.set_cons_succ]
        refine wpList_run (by kernel_rfl) (.int .i64 (i : Int)) wo rfl ?_
        simp only [Act.put, List.setIfInBounds_toArray, List.set_cons_zero, List.set_cons_succ]
        refine wpList_run (by kernel_rfl) (.pointer (some (gad B (i * 1)))) wo (xg_idx .i64 (HG.out.keep B0.out) HE2.out Tryd.underlying28 (by kernel_rfl) rfl rfl rfl) ?_
        simp only [Act.put, List.setIfInBounds_toArray, List.set_cons_zero, List.set_cons_succ]
        refine wpList_run (by kernel_rfl) (.bool false) wo (xg_load1 (E := boC) (i := i) (j := 0) (HG.out.keep B0.out) HE2.out rfl rfl Tryd.underlying4 rfl rfl rfl) ?_
        simp only [Act.put, List.setIfInBounds_toArray, List.set_cons_zero, List.set_cons_succ]
        refine wpList_run (by kernel_rfl) (.bool true) wo rfl ?_
        simp only [Act.put, List.setIfInBounds_toArray, List.set_cons_zero, List.set_cons_succ]
        refine wpList_nil ?_
        go_upto_region 6 with fail
        refine wp_region_lit ?_
        refine wpList_run (by kernel_rfl) (u3) wo rfl ?_
        simp only [Act.put, List.setIfInBounds_toArray, List.set_cons_zero, List.set_cons_succ]
        refine wpList_run (by kernel_rfl) (.pointer (some ⟨w.heap.size, 0, none⟩)) wo (xo_fld0 0 w.heap.size 0 (by kernel_rfl) rfl rfl) ?_
        simp only [Act.put, List.setIfInBounds_toArray, List.set_cons_zero, List.set_cons_succ]
        refine wpList_run (by kernel_rfl) (.slice A n c) wo (xo_load1 ⟨w.heap.size, 0, none⟩ _ (cells_at Fv0_1.out 0 rfl) Tryd.underlying27 rfl rfl rfl) ?_
        simp only [Act.put, List.setIfInBounds_toArray, List.set_cons_zero, List.set_cons_succ]
        refine wpList_run (by kernel_rfl) (.int .i64 (i : Int)) wo rfl ?_
        simp only [Act.put, List.setIfInBounds_toArray, List.set_cons_zero, List.set_cons_succ]
        refine wpList_run (by kernel_rfl) (.pointer (some (gad A (i * 4)))) wo (xg_idx .i64 (HL.out.keep B0.out) HE.out Tryd.underlying27 (by kernel_rfl) rfl rfl rfl) ?_
        simp only [Act.put, List.setIfInBounds_toArray, List.set_cons_zero, List.set_cons_succ]
        refine wpList_run (by kernel_rfl) (.agg #[.int .i64 r.who, .int .i64 r.when_, .int .i64 r.kind, .int .i64 r.value]) wo (xg_loadE (E := rdC) (HL.out.keep B0.out) HE.out Tryd.underlying24 rfl (by kernel_rfl) rfl rfl) ?_
        simp only [Act.put, List.setIfInBounds_toArray, List.set_cons_zero, List.set_cons_succ]
        refine wpList_mk (by kernel_rfl) ([r].flatMap rdC).toArray 24 1 1 (xg_lit (E := rdC) (bytes := 32) (.agg #[.int .i64 0, .int .i64 0, .int .i64 0, .int .i64 0]) [.tmp 24] [r] 1 Tryd.underlying27 (by kernel_rfl) rfl (by decide) (by decide) rfl rfl) ?_
        intro g25 V2 hge h0 hb
        have N6_0 : Hid (w.heap.size ≠ g25) := Lib.hid (xp_lt0 Fv0_1.out hge)
        have Ge7 : Hid (wo.heap.size ≤ g25) := Lib.hid hge
        have B1 := Lib.hid hb
        have Fv8_25 : Hid (RowG rdC V2 g25 24 ([r])) := Lib.hid (h0)
        have Lt9 : Hid (g25 < V2.heap.size) := Lib.hid (xp_lt Fv8_25.out)
        clear hge h0 hb
        simp only [ptr, Act.put, List.setIfInBounds_toArray, List.set_cons_zero, List.set_cons_succ]
        have C0_2 := Lib.hid (bel_step B0.out B1.out)
        refine wpList_app2 (size := 4) (by kernel_rfl) (.tmp 19) (.tmp 25) 27 rfl (.agg #[.int .i64 0, .int .i64 0, .int .i64 0, .int .i64 0]) 32 Tryd.underlying27 (by kernel_rfl) rfl (by decide) rfl (own_keep OW.out B1.out) (some ⟨g25, 0, none⟩) 1 1 (fl rdC ([r])) rfl (RowG.sg Fv8_25.out (show ([r]).length = 1 from rfl) (Nat.le_refl _) (by omega)).src (by unfold maxLen; omega) (by omega) C0_2.out.size ?_
        intro v26 X2_10 ho hb1 hg hloc
        have hox : X2_10.ownsRow w.heap.size 24 4 v26 (((liveL (rs.take i) (gs.take i)).length) + 1) (fl rdC ((liveL (rs.take i) (gs.take i)) ++ ([r]))) := by rw [fl_append]; exact ho
        have YFv0_1 : X2_10.heap[w.heap.size]? = some (.cells #[.slice A n c, .slice B n d] 30 (0, 0)) := own_rowkeep (own_keep OW.out B1.out) hg (heap_keep Fv0_1.out B1.out) (by decide)
        have hbr := C0_2.out.trans hb1
        clear B0
        have B0 := Lib.hid hbr
        clear hbr
        have Ow26_11 := Lib.hid hox
        clear Fv0_1
        have Fv0_1 : Hid (X2_10.heap[w.heap.size]? = some (.cells #[.slice A n c, .slice B n d] 30 (0, 0))) := Lib.hid YFv0_1
        clear YFv0_1
        have Lt12 : Hid (w.heap.size < X2_10.heap.size) := Lib.hid (xp_lt Fv0_1.out)
        clear ho hox hb1 hg hloc
        simp only [ptr, Act.put, List.setIfInBounds_toArray, List.set_cons_zero, List.set_cons_succ]
        refine wpList_run (by kernel_rfl) (v26) X2_10 rfl ?_
        simp only [Act.put, List.setIfInBounds_toArray, List.set_cons_zero, List.set_cons_succ]
        refine wpList_nil ?_
        have hown : X2_10.ownsRow w.heap.size 24 4 v26 (liveL (rs.take (i + 1)) (gs.take (i + 1))).length (fl rdC (liveL (rs.take (i + 1)) (gs.take (i + 1)))) := by
          have h0 := Ow26_11.out
          rw [HT.out]
          simpa using h0
        go_upto_region 4 with fail
        refine wp_region_lit ?_
        refine wpList_run (by kernel_rfl) (.int .i64 (i : Int)) X2_10 rfl ?_
        simp only [Act.put, List.setIfInBounds_toArray, List.set_cons_zero, List.set_cons_succ]
        refine wpList_run (by kernel_rfl) (.int .i64 ((i + 1 : Nat) : Int)) X2_10 (xo_addI (i : Int) 1 ((i + 1 : Nat) : Int) (by omega) (by omega) (by omega) rfl rfl rfl) ?_
        simp only [Act.put, List.setIfInBounds_toArray, List.set_cons_zero, List.set_cons_succ]
        refine wpList_run (by kernel_rfl) (.int .i64 ((i + 1 : Nat) : Int)) X2_10 rfl ?_
        simp only [Act.put, List.setIfInBounds_toArray, List.set_cons_zero, List.set_cons_succ]
        refine wpList_nil ?_
        have hq13 := Fv0_1.out
        have hq14 := B0.out
        go_wp2_with fail
        go_roundw
        case rel => exact ⟨i + 1, by omega, by go_num, hown, hq13, hq14⟩
        case measure => simp [intOf]; omega
    · have hci : ¬ ((i : Int) < (n : Int)) := by omega
      go_upto_region 3 with fail
      refine wp_region_lit ?_
      refine wpList_run (by kernel_rfl) (.int .i64 (i : Int)) wo rfl ?_
      simp only [Act.put, List.setIfInBounds_toArray, List.set_cons_zero, List.set_cons_succ]
      refine wpList_run (by kernel_rfl) (.pointer (some ⟨w.heap.size, 0, none⟩)) wo (xo_fld0 0 w.heap.size 0 (by kernel_rfl) rfl rfl) ?_
      simp only [Act.put, List.setIfInBounds_toArray, List.set_cons_zero, List.set_cons_succ]
      refine wpList_run (by kernel_rfl) (.slice A n c) wo (xo_load1 ⟨w.heap.size, 0, none⟩ _ (cells_at Fv0_1.out 0 rfl) Tryd.underlying27 rfl rfl rfl) ?_
      simp only [Act.put, List.setIfInBounds_toArray, List.set_cons_zero, List.set_cons_succ]
      refine wpList_run (by kernel_rfl) (.int .i64 (n : Int)) wo (xo_len A n c Tryd.underlying27 rfl rfl) ?_
      simp only [Act.put, List.setIfInBounds_toArray, List.set_cons_zero, List.set_cons_succ]
      refine wpList_run (by kernel_rfl) (.bool false) wo (xo_lssF .i64 (i : Int) (n : Int) (by omega) rfl rfl rfl) ?_
      simp only [Act.put, List.setIfInBounds_toArray, List.set_cons_zero, List.set_cons_succ]
      refine wpList_nil ?_
      go_upto_region 7 with fail
      refine wp_region_lit ?_
      refine wpList_run (by kernel_rfl) (u3) wo rfl ?_
      simp only [Act.put, List.setIfInBounds_toArray, List.set_cons_zero, List.set_cons_succ]
      refine wpList_run (by kernel_rfl) (u3) wo rfl ?_
      simp only [Act.put, List.setIfInBounds_toArray, List.set_cons_zero, List.set_cons_succ]
      refine wpList_nil ?_
      have hin : i = n := by omega
      have ho := OW.out
      rw [hin, List.take_of_length_le (by omega), List.take_of_length_le (by omega)] at ho
      obtain ⟨A2, c2, rfl, hs⟩ := Sg.own ho
      go_wp2_with fail
      go_ret
      exact ⟨A2, c2, rfl, hs, B0.out⟩
end Go.Proofs.YtopicjdmajlndaaDoor

namespace Go.Proofs.YtopicjdmajlndaaDoor
set_option linter.unusedVariables false
set_option linter.unusedSimpArgs false
set_option linter.unusedSectionVars false
set_option maxRecDepth 8000
open Go.RowKit Go.Proofs.YtopicjdmajlndaaDoor.K
attribute [local irreducible] wpList wpQuiet
/-- N elements, all of the field -/
def elB (xs : List Nat) (N : Nat) : Bool := xs.all (fun x => decide (x < 18446744069414584321)) && (xs.length == N)
theorem elB_eq (xs : List Nat) (N : Nat) : elB xs N = (xs.all (fun x => decide (x < 18446744069414584321)) && (xs.length == N)) := rfl
set_option maxRecDepth 100000 in
set_option maxHeartbeats 8000000 in
theorem sameCols_yes (A : Option Addr) (n c : Nat) (hs : List Hd) (A2 : Option Addr) (c2 : Nat) (hs2 : List Hd) (xss : List (List Nat)) (w : World) (h1 : Cols w A n c hs xss) (h2 : Cols w A2 n c2 hs2 xss) :
    Calls Tryd.prog 26 #[.slice A n c, .slice A2 n c2] w fun e w' => e = .returned (.bool true) ∧ Below w.heap.size w w' := by
  have HC := Lib.hid h1
  have HD := Lib.hid h2
  have hln := h1.n_eq
  have hcap := h1.head.cap
  have htop := h1.head.top
  clear h1 h2
  go_enter Tryd.func26, Tryd.ntmps26
  go_upto_region 1 with fail
  refine wp_region_lit ?_
  refine wpList_run (by kernel_rfl) (.slice A n c) w rfl ?_
  simp only [Act.put, List.setIfInBounds_toArray, List.set_cons_zero, List.set_cons_succ]
  refine wpList_run (by kernel_rfl) (.int .i64 (n : Int)) w (xo_len A n c Tryd.underlying38 rfl rfl) ?_
  simp only [Act.put, List.setIfInBounds_toArray, List.set_cons_zero, List.set_cons_succ]
  refine wpList_run (by kernel_rfl) (.slice A2 n c2) w rfl ?_
  simp only [Act.put, List.setIfInBounds_toArray, List.set_cons_zero, List.set_cons_succ]
  refine wpList_run (by kernel_rfl) (.int .i64 (n : Int)) w (xo_len A2 n c2 Tryd.underlying38 rfl rfl) ?_
  simp only [Act.put, List.setIfInBounds_toArray, List.set_cons_zero, List.set_cons_succ]
  refine wpList_run (by kernel_rfl) (.bool false) w (xo_neqF .i64 (n : Int) (n : Int) (by omega) rfl rfl rfl) ?_
  simp only [Act.put, List.setIfInBounds_toArray, List.set_cons_zero, List.set_cons_succ]
  refine wpList_nil ?_
  go_upto_region 3 with fail
  refine wp_region_lit ?_
  refine wpList_run (by kernel_rfl) (.int .i64 0) w rfl ?_
  simp only [Act.put, List.setIfInBounds_toArray, List.set_cons_zero, List.set_cons_succ]
  refine wpList_nil ?_
  have O0 := (Below.refl w.heap.size w)
  have B0 := Lib.hid (Below.refl w.heap.size w)
  go_wp2_with fail
  go_loopw [5] (fun p wr => ∃ i : Nat, i ≤ n ∧ p = .int .i64 i ∧ Below w.heap.size w wr) (fun p _ => n - (intOf p).toNat)
  case atStart => exact ⟨0, Nat.zero_le _, rfl, O0⟩
  case round =>
    clear O0
    obtain ⟨wo, rfl⟩ : ∃ wo : World, wo = wr := ⟨_, rfl⟩
    obtain ⟨i, hi, rfl, hb0⟩ := hrel
    have hbr := hb0
    clear B0
    have B0 := Lib.hid hbr
    clear hbr
    clear hb0 
    by_cases hlt2 : i < n
    · have hci2 : ((i : Int) < (n : Int)) := by omega
      obtain ⟨xs, hx⟩ : ∃ xs, xss[i]? = some xs := ⟨_, List.getElem?_eq_getElem (by omega)⟩
      have hl1 := HC.out.len
      have hl2 := HD.out.len
      obtain ⟨⟨A3, m3, c3⟩, hh3⟩ : ∃ h, hs[i]? = some h := ⟨_, List.getElem?_eq_getElem (by have := (HC.out.keep B0.out).len; omega)⟩
      have hrw3 := (HC.out.keep B0.out).row i _ _ hh3 hx
      have hml3 : xs.length = m3 := hrw3.len
      have HE3 := Lib.hid hh3
      have HR3 := Lib.hid hrw3
      simp only at HR3
      clear hh3 hrw3
      obtain ⟨⟨A4, m4, c4⟩, hh4⟩ : ∃ h, hs2[i]? = some h := ⟨_, List.getElem?_eq_getElem (by have := (HD.out.keep B0.out).len; omega)⟩
      have hrw4 := (HD.out.keep B0.out).row i _ _ hh4 hx
      have hml4 : xs.length = m4 := hrw4.len
      have HE4 := Lib.hid hh4
      have HR4 := Lib.hid hrw4
      simp only at HR4
      clear hh4 hrw4
      obtain rfl : m3 = m4 := by omega
      clear hx
      go_upto_region 4 with fail
      refine wp_region_lit ?_
      refine wpList_run (by kernel_rfl) (.int .i64 (i : Int)) wo rfl ?_
      simp only [Act.put, List.setIfInBounds_toArray, List.set_cons_zero, List.set_cons_succ]
      refine wpList_run (by kernel_rfl) (.slice A n c) wo rfl ?_
      simp only [Act.put, List.setIfInBounds_toArray, List.set_cons_zero, List.set_cons_succ]
      refine wpList_run (by kernel_rfl) (.int .i64 (n : Int)) wo (xo_len A n c Tryd.underlying38 rfl rfl) ?_
      simp only [Act.put, List.setIfInBounds_toArray, List.set_cons_zero, List.set_cons_succ]
      refine wpList_run (by kernel_rfl) (.bool true) wo (xo_lssT .i64 (i : Int) (n : Int) (by omega) rfl rfl rfl) ?_
      simp only [Act.put, List.setIfInBounds_toArray, List.set_cons_zero, List.set_cons_succ]
      refine wpList_nil ?_
      go_upto_region 6 with fail
      refine wp_later_lex (by kernel_rfl) (lexOK_of (by kernel_rfl) (by kernel_rfl)) ?_
      refine wpQuiet_val (by kernel_rfl) (.slice A n c) (fun v hv => rfl) ?_
      simp only [Act.put, List.setIfInBounds_toArray, List.set_cons_zero, List.set_cons_succ]
      refine wpQuiet_val (by kernel_rfl) (.int .i64 (i : Int)) (fun v hv => rfl) ?_
      simp only [Act.put, List.setIfInBounds_toArray, List.set_cons_zero, List.set_cons_succ]
      refine wpQuiet_val (by kernel_rfl) (.pointer (some (gad A (i * 1)))) (fun v hv => (xg_idx .i64 (Cols.head ((HC.out.keep B0.out).keep (later_bel hv))) HE3.out Tryd.underlying38 (by kernel_rfl) rfl rfl rfl)) ?_
      simp only [Act.put, List.setIfInBounds_toArray, List.set_cons_zero, List.set_cons_succ]
      refine wpQuiet_val (by kernel_rfl) (.slice A3 m3 c3) (fun v hv => (xg_load1 (E := hdC) (i := i) (j := 0) (Cols.head ((HC.out.keep B0.out).keep (later_bel hv))) HE3.out rfl rfl Tryd.underlying48 rfl rfl rfl)) ?_
      simp only [Act.put, List.setIfInBounds_toArray, List.set_cons_zero, List.set_cons_succ]
      refine wpQuiet_val (by kernel_rfl) (.int .i64 (m3 : Int)) (fun v hv => (xo_len A3 m3 c3 Tryd.underlying48 rfl rfl)) ?_
      simp only [Act.put, List.setIfInBounds_toArray, List.set_cons_zero, List.set_cons_succ]
      refine wpQuiet_val (by kernel_rfl) (.slice A2 n c2) (fun v hv => rfl) ?_
      simp only [Act.put, List.setIfInBounds_toArray, List.set_cons_zero, List.set_cons_succ]
      refine wpQuiet_val (by kernel_rfl) (.int .i64 (i : Int)) (fun v hv => rfl) ?_
      simp only [Act.put, List.setIfInBounds_toArray, List.set_cons_zero, List.set_cons_succ]
      refine wpQuiet_val (by kernel_rfl) (.pointer (some (gad A2 (i * 1)))) (fun v hv => (xg_idx .i64 (Cols.head ((HD.out.keep B0.out).keep (later_bel hv))) HE4.out Tryd.underlying38 (by kernel_rfl) rfl rfl rfl)) ?_
      simp only [Act.put, List.setIfInBounds_toArray, List.set_cons_zero, List.set_cons_succ]
      refine wpQuiet_val (by kernel_rfl) (.slice A4 m3 c4) (fun v hv => (xg_load1 (E := hdC) (i := i) (j := 0) (Cols.head ((HD.out.keep B0.out).keep (later_bel hv))) HE4.out rfl rfl Tryd.underlying48 rfl rfl rfl)) ?_
      simp only [Act.put, List.setIfInBounds_toArray, List.set_cons_zero, List.set_cons_succ]
      refine wpQuiet_val (by kernel_rfl) (.int .i64 (m3 : Int)) (fun v hv => (xo_len A4 m3 c4 Tryd.underlying48 rfl rfl)) ?_
      simp only [Act.put, List.setIfInBounds_toArray, List.set_cons_zero, List.set_cons_succ]
      refine wpQuiet_val (by kernel_rfl) (.bool false) (fun v hv => (xo_neqF .i64 (m3 : Int) (m3 : Int) (by omega) rfl rfl rfl)) ?_
      simp only [Act.put, List.setIfInBounds_toArray, List.set_cons_zero, List.set_cons_succ]
      refine wpQuiet_nil ?_
      intro X1_3
      have hb := X1_3.below
      generalize X1_3.at = V2 at *
      have B1 := Lib.hid hb
      clear hb
      go_upto_region 8 with fail
      refine wp_region_lit ?_
      refine wpList_run (by kernel_rfl) (.int .i64 0) V2 rfl ?_
      simp only [Act.put, List.setIfInBounds_toArray, List.set_cons_zero, List.set_cons_succ]
      refine wpList_nil ?_
      have htop3 := HR3.out.top
      have hcap3 := HR3.out.cap
      have O4 := (HR3.out.keep B1.out)
      have O5 := (HR4.out.keep B1.out)
      have C0_2 := Lib.hid (bel_step B0.out B1.out)
      have O6 := C0_2.out
      go_wp2_with fail
      go_loopw [6] (fun p wr => ∃ j : Nat, j ≤ m3 ∧ p = .int .i64 j ∧ Sg wdC 1 wr A3 m3 c3 xs ∧ Sg wdC 1 wr A4 m3 c4 xs ∧ Below w.heap.size w wr) (fun p _ => m3 - (intOf p).toNat)
      case atStart => exact ⟨0, Nat.zero_le _, rfl, O4, O5, O6⟩
      case round =>
        clear O6 O4 O5
        obtain ⟨wq, rfl⟩ : ∃ wq : World, wq = wr := ⟨_, rfl⟩
        obtain ⟨j, hi, rfl, hHR3, hHR4, hb0⟩ := hrel
        have hbr := hb0
        clear B0
        have B0 := Lib.hid hbr
        clear hbr
        have HR3 := Lib.hid hHR3
        have HR4 := Lib.hid hHR4
        clear hb0 hHR3 hHR4
        by_cases hlt3 : j < m3
        · have hci8 : ((j : Int) < (m3 : Int)) := by omega
          obtain ⟨x, hx⟩ : ∃ x, xs[j]? = some x := ⟨_, List.getElem?_eq_getElem (by omega)⟩
          have HX := Lib.hid hx
          clear hx
          go_upto_region 9 with fail
          refine wp_region_lit ?_
          refine wpList_run (by kernel_rfl) (.int .i64 (j : Int)) wq rfl ?_
          simp only [Act.put, List.setIfInBounds_toArray, List.set_cons_zero, List.set_cons_succ]
          refine wpList_run (by kernel_rfl) (.slice A n c) wq rfl ?_
          simp only [Act.put, List.setIfInBounds_toArray, List.set_cons_zero, List.set_cons_succ]
          refine wpList_run (by kernel_rfl) (.int .i64 (i : Int)) wq rfl ?_
          simp only [Act.put, List.setIfInBounds_toArray, List.set_cons_zero, List.set_cons_succ]
          refine wpList_run (by kernel_rfl) (.pointer (some (gad A (i * 1)))) wq (xg_idx .i64 (Cols.head (HC.out.keep B0.out)) HE3.out Tryd.underlying38 (by kernel_rfl) rfl rfl rfl) ?_
          simp only [Act.put, List.setIfInBounds_toArray, List.set_cons_zero, List.set_cons_succ]
          refine wpList_run (by kernel_rfl) (.slice A3 m3 c3) wq (xg_load1 (E := hdC) (i := i) (j := 0) (Cols.head (HC.out.keep B0.out)) HE3.out rfl rfl Tryd.underlying48 rfl rfl rfl) ?_
          simp only [Act.put, List.setIfInBounds_toArray, List.set_cons_zero, List.set_cons_succ]
          refine wpList_run (by kernel_rfl) (.int .i64 (m3 : Int)) wq (xo_len A3 m3 c3 Tryd.underlying48 rfl rfl) ?_
          simp only [Act.put, List.setIfInBounds_toArray, List.set_cons_zero, List.set_cons_succ]
          refine wpList_run (by kernel_rfl) (.bool true) wq (xo_lssT .i64 (j : Int) (m3 : Int) (by omega) rfl rfl rfl) ?_
          simp only [Act.put, List.setIfInBounds_toArray, List.set_cons_zero, List.set_cons_succ]
          refine wpList_nil ?_
          go_upto_region 11 with fail
          refine wp_later_lex (by kernel_rfl) (lexOK_of (by kernel_rfl) (by kernel_rfl)) ?_
          refine wpQuiet_val (by kernel_rfl) (.slice A n c) (fun v hv => rfl) ?_
          simp only [Act.put, List.setIfInBounds_toArray, List.set_cons_zero, List.set_cons_succ]
          refine wpQuiet_val (by kernel_rfl) (.int .i64 (i : Int)) (fun v hv => rfl) ?_
          simp only [Act.put, List.setIfInBounds_toArray, List.set_cons_zero, List.set_cons_succ]
          refine wpQuiet_val (by kernel_rfl) (.pointer (some (gad A (i * 1)))) (fun v hv => (xg_idx .i64 (Cols.head ((HC.out.keep B0.out).keep (later_bel hv))) HE3.out Tryd.underlying38 (by kernel_rfl) rfl rfl rfl)) ?_
          simp only [Act.put, List.setIfInBounds_toArray, List.set_cons_zero, List.set_cons_succ]
          refine wpQuiet_val (by kernel_rfl) (.slice A3 m3 c3) (fun v hv => (xg_load1 (E := hdC) (i := i) (j := 0) (Cols.head ((HC.out.keep B0.out).keep (later_bel hv))) HE3.out rfl rfl Tryd.underlying48 rfl rfl rfl)) ?_
          simp only [Act.put, List.setIfInBounds_toArray, List.set_cons_zero, List.set_cons_succ]
          refine wpQuiet_val (by kernel_rfl) (.int .i64 (j : Int)) (fun v hv => rfl) ?_
          simp only [Act.put, List.setIfInBounds_toArray, List.set_cons_zero, List.set_cons_succ]
          refine wpQuiet_val (by kernel_rfl) (.pointer (some (gad A3 (j * 1)))) (fun v hv => (xg_idx .i64 (HR3.out.keep (later_bel hv)) HX.out Tryd.underlying48 (by kernel_rfl) rfl rfl rfl)) ?_
          simp only [Act.put, List.setIfInBounds_toArray, List.set_cons_zero, List.set_cons_succ]
          refine wpQuiet_val (by kernel_rfl) (.int .u64 (x : Int)) (fun v hv => (xg_load1 (E := wdC) (i := j) (j := 0) (HR3.out.keep (later_bel hv)) HX.out rfl rfl Tryd.underlying50 rfl rfl rfl)) ?_
          simp only [Act.put, List.setIfInBounds_toArray, List.set_cons_zero, List.set_cons_succ]
          refine wpQuiet_val (by kernel_rfl) (.slice A2 n c2) (fun v hv => rfl) ?_
          simp only [Act.put, List.setIfInBounds_toArray, List.set_cons_zero, List.set_cons_succ]
          refine wpQuiet_val (by kernel_rfl) (.int .i64 (i : Int)) (fun v hv => rfl) ?_
          simp only [Act.put, List.setIfInBounds_toArray, List.set_cons_zero, List.set_cons_succ]
          refine wpQuiet_val (by kernel_rfl) (.pointer (some (gad A2 (i * 1)))) (fun v hv => (xg_idx .i64 (Cols.head ((HD.out.keep B0.out).keep (later_bel hv))) HE4.out Tryd.underlying38 (by kernel_rfl) rfl rfl rfl)) ?_
          simp only [Act.put, List.setIfInBounds_toArray, List.set_cons_zero, List.set_cons_succ]
          refine wpQuiet_val (by kernel_rfl) (.slice A4 m3 c4) (fun v hv => (xg_load1 (E := hdC) (i := i) (j := 0) (Cols.head ((HD.out.keep B0.out).keep (later_bel hv))) HE4.out rfl rfl Tryd.underlying48 rfl rfl rfl)) ?_
          simp only [Act.put, List.setIfInBounds_toArray, List.set_cons_zero, List.set_cons_succ]
          refine wpQuiet_val (by kernel_rfl) (.int .i64 (j : Int)) (fun v hv => rfl) ?_
          simp only [Act.put, List.setIfInBounds_toArray, List.set_cons_zero, List.set_cons_succ]
          refine wpQuiet_val (by kernel_rfl) (.pointer (some (gad A4 (j * 1)))) (fun v hv => (xg_idx .i64 (HR4.out.keep (later_bel hv)) HX.out Tryd.underlying48 (by kernel_rfl) rfl rfl rfl)) ?_
          simp only [Act.put, List.setIfInBounds_toArray, List.set_cons_zero, List.set_cons_succ]
          refine wpQuiet_val (by kernel_rfl) (.int .u64 (x : Int)) (fun v hv => (xg_load1 (E := wdC) (i := j) (j := 0) (HR4.out.keep (later_bel hv)) HX.out rfl rfl Tryd.underlying50 rfl rfl rfl)) ?_
          simp only [Act.put, List.setIfInBounds_toArray, List.set_cons_zero, List.set_cons_succ]
          refine wpQuiet_val (by kernel_rfl) (.bool false) (fun v hv => (xo_neqF .u64 (x : Int) (x : Int) (by omega) rfl rfl rfl)) ?_
          simp only [Act.put, List.setIfInBounds_toArray, List.set_cons_zero, List.set_cons_succ]
          refine wpQuiet_nil ?_
          intro X1_9
          have hb := X1_9.below
          generalize X1_9.at = V2 at *
          have B1 := Lib.hid hb
          clear hb
          have hk3 := (HR3.out.keep B1.out)
          have hk4 := (HR4.out.keep B1.out)
          go_upto_region 10 with fail
          refine wp_region_lit ?_
          refine wpList_run (by kernel_rfl) (.int .i64 (j : Int)) V2 rfl ?_
          simp only [Act.put, List.setIfInBounds_toArray, List.set_cons_zero, List.set_cons_succ]
          refine wpList_run (by kernel_rfl) (.int .i64 ((j + 1 : Nat) : Int)) V2 (xo_addI (j : Int) 1 ((j + 1 : Nat) : Int) (by omega) (by omega) (by omega) rfl rfl rfl) ?_
          simp only [Act.put, List.setIfInBounds_toArray, List.set_cons_zero, List.set_cons_succ]
          refine wpList_run (by kernel_rfl) (.int .i64 ((j + 1 : Nat) : Int)) V2 rfl ?_
          simp only [Act.put, List.setIfInBounds_toArray, List.set_cons_zero, List.set_cons_succ]
          refine wpList_nil ?_
          have C0_2 := Lib.hid (bel_step B0.out B1.out)
          have hq10 := C0_2.out
          go_wp2_with fail
          go_roundw
          case rel => exact ⟨j + 1, by omega, by go_num, hk3, hk4, hq10⟩
          case measure => simp [intOf]; omega
        · have hci8 : ¬ ((j : Int) < (m3 : Int)) := by omega
          go_upto_region 9 with fail
          refine wp_region_lit ?_
          refine wpList_run (by kernel_rfl) (.int .i64 (j : Int)) wq rfl ?_
          simp only [Act.put, List.setIfInBounds_toArray, List.set_cons_zero, List.set_cons_succ]
          refine wpList_run (by kernel_rfl) (.slice A n c) wq rfl ?_
          simp only [Act.put, List.setIfInBounds_toArray, List.set_cons_zero, List.set_cons_succ]
          refine wpList_run (by kernel_rfl) (.int .i64 (i : Int)) wq rfl ?_
          simp only [Act.put, List.setIfInBounds_toArray, List.set_cons_zero, List.set_cons_succ]
          refine wpList_run (by kernel_rfl) (.pointer (some (gad A (i * 1)))) wq (xg_idx .i64 (Cols.head (HC.out.keep B0.out)) HE3.out Tryd.underlying38 (by kernel_rfl) rfl rfl rfl) ?_
          simp only [Act.put, List.setIfInBounds_toArray, List.set_cons_zero, List.set_cons_succ]
          refine wpList_run (by kernel_rfl) (.slice A3 m3 c3) wq (xg_load1 (E := hdC) (i := i) (j := 0) (Cols.head (HC.out.keep B0.out)) HE3.out rfl rfl Tryd.underlying48 rfl rfl rfl) ?_
          simp only [Act.put, List.setIfInBounds_toArray, List.set_cons_zero, List.set_cons_succ]
          refine wpList_run (by kernel_rfl) (.int .i64 (m3 : Int)) wq (xo_len A3 m3 c3 Tryd.underlying48 rfl rfl) ?_
          simp only [Act.put, List.setIfInBounds_toArray, List.set_cons_zero, List.set_cons_succ]
          refine wpList_run (by kernel_rfl) (.bool false) wq (xo_lssF .i64 (j : Int) (m3 : Int) (by omega) rfl rfl rfl) ?_
          simp only [Act.put, List.setIfInBounds_toArray, List.set_cons_zero, List.set_cons_succ]
          refine wpList_nil ?_
          go_upto_region 5 with fail
          refine wp_region_lit ?_
          refine wpList_run (by kernel_rfl) (.int .i64 (i : Int)) wq rfl ?_
          simp only [Act.put, List.setIfInBounds_toArray, List.set_cons_zero, List.set_cons_succ]
          refine wpList_run (by kernel_rfl) (.int .i64 ((i + 1 : Nat) : Int)) wq (xo_addI (i : Int) 1 ((i + 1 : Nat) : Int) (by omega) (by omega) (by omega) rfl rfl rfl) ?_
          simp only [Act.put, List.setIfInBounds_toArray, List.set_cons_zero, List.set_cons_succ]
          refine wpList_run (by kernel_rfl) (.int .i64 ((i + 1 : Nat) : Int)) wq rfl ?_
          simp only [Act.put, List.setIfInBounds_toArray, List.set_cons_zero, List.set_cons_succ]
          refine wpList_nil ?_
          have hq9 := B0.out
          go_wp2_with fail
          go_roundw
          case rel => exact ⟨i + 1, by omega, by go_num, hq9⟩
          case measure => simp [intOf]; omega
    · have hci2 : ¬ ((i : Int) < (n : Int)) := by omega
      go_upto_region 4 with fail
      refine wp_region_lit ?_
      refine wpList_run (by kernel_rfl) (.int .i64 (i : Int)) wo rfl ?_
      simp only [Act.put, List.setIfInBounds_toArray, List.set_cons_zero, List.set_cons_succ]
      refine wpList_run (by kernel_rfl) (.slice A n c) wo rfl ?_
      simp only [Act.put, List.setIfInBounds_toArray, List.set_cons_zero, List.set_cons_succ]
      refine wpList_run (by kernel_rfl) (.int .i64 (n : Int)) wo (xo_len A n c Tryd.underlying38 rfl rfl) ?_
      simp only [Act.put, List.setIfInBounds_toArray, List.set_cons_zero, List.set_cons_succ]
      refine wpList_run (by kernel_rfl) (.bool false) wo (xo_lssF .i64 (i : Int) (n : Int) (by omega) rfl rfl rfl) ?_
      simp only [Act.put, List.setIfInBounds_toArray, List.set_cons_zero, List.set_cons_succ]
      refine wpList_nil ?_
      go_upto_region 13 with fail
      refine wp_region_lit ?_
      refine wpList_run (by kernel_rfl) (.bool true) wo rfl ?_
      simp only [Act.put, List.setIfInBounds_toArray, List.set_cons_zero, List.set_cons_succ]
      refine wpList_nil ?_
      go_wp2_with fail
      go_ret
      exact ⟨rfl, B0.out⟩
set_option maxRecDepth 100000 in
set_option maxHeartbeats 8000000 in
theorem elements_as (A : Option Addr) (n c : Nat) (xs : List Nat) (N : Nat) (b : Bool) (hb : elB xs N = b) (w : World) (h : Sg wdC 1 w A n c xs) :
    Calls Tryd.prog 64 #[.slice A n c, .int .i64 (N : Int)] w fun e w' => e = .returned (.bool b) ∧ Below w.heap.size w w' := by
  have HX := Lib.hid h
  have hln := h.len
  have hcap := h.cap
  have htop := h.top
  clear h
  go_enter Tryd.func64, Tryd.ntmps64
  go_upto_region 1 with fail
  refine wp_region_lit ?_
  refine wpList_run (by kernel_rfl) (.slice A n c) w rfl ?_
  simp only [Act.put, List.setIfInBounds_toArray, List.set_cons_zero, List.set_cons_succ]
  refine wpList_run (by kernel_rfl) (.int .i64 (n : Int)) w (xo_len A n c Tryd.underlying48 rfl rfl) ?_
  simp only [Act.put, List.setIfInBounds_toArray, List.set_cons_zero, List.set_cons_succ]
  refine wpList_run (by kernel_rfl) (.int .i64 0) w rfl ?_
  simp only [Act.put, List.setIfInBounds_toArray, List.set_cons_zero, List.set_cons_succ]
  refine wpList_nil ?_
  have O0 := (Below.refl w.heap.size w)
  have B0 := Lib.hid (Below.refl w.heap.size w)
  go_wp2_with fail
  go_loopw [9] (fun p wr => ∃ i : Nat, i ≤ n ∧ p = .int .i64 i ∧ (∀ x ∈ xs.take i, x < 18446744069414584321) ∧ Below w.heap.size w wr) (fun p _ => n - (intOf p).toNat)
  case atStart => exact ⟨0, Nat.zero_le _, rfl, (fun x hx => by simp at hx), O0⟩
  case round =>
    clear O0
    obtain ⟨wo, rfl⟩ : ∃ wo : World, wo = wr := ⟨_, rfl⟩
    obtain ⟨i, hi, rfl, hHA, hb0⟩ := hrel
    have hbr := hb0
    clear B0
    have B0 := Lib.hid hbr
    clear hbr
    have HA := Lib.hid hHA
    clear hb0 hHA
    by_cases hlt2 : i < n
    · have hci2 : ((i : Int) < (n : Int)) := by omega
      obtain ⟨x, hx⟩ : ∃ x, xs[i]? = some x := ⟨_, List.getElem?_eq_getElem (by omega)⟩
      have HE := Lib.hid hx
      go_upto_region 2 with fail
      refine wp_region_lit ?_
      refine wpList_run (by kernel_rfl) (.bool true) wo (xo_lssT .i64 (i : Int) (n : Int) (by omega) rfl rfl rfl) ?_
      simp only [Act.put, List.setIfInBounds_toArray, List.set_cons_zero, List.set_cons_succ]
      refine wpList_nil ?_
      go_upto_region 3 with fail
      refine wp_region_lit ?_
      refine wpList_run (by kernel_rfl) (.pointer (some (gad A (i * 1)))) wo (xg_idx .i64 (HX.out.keep B0.out) HE.out Tryd.underlying48 (by kernel_rfl) rfl rfl rfl) ?_
      simp only [Act.put, List.setIfInBounds_toArray, List.set_cons_zero, List.set_cons_succ]
      refine wpList_run (by kernel_rfl) (.int .u64 (x : Int)) wo (xg_load1 (E := wdC) (i := i) (j := 0) (HX.out.keep B0.out) HE.out rfl rfl Tryd.underlying50 rfl rfl rfl) ?_
      simp only [Act.put, List.setIfInBounds_toArray, List.set_cons_zero, List.set_cons_succ]
      refine wpList_run (by kernel_rfl) (.int .u64 (x : Int)) wo rfl ?_
      simp only [Act.put, List.setIfInBounds_toArray, List.set_cons_zero, List.set_cons_succ]
      refine wpList_nil ?_
      cases hv : decide (x < 18446744069414584321) with
      | false =>
        obtain rfl : b = false := by rw [← hb, elB_eq]; simp only [Bool.and_eq_false_iff, List.all_eq_false]; exact .inl ⟨x, List.mem_of_getElem? HE.out, by rw [hv]; exact Bool.false_ne_true⟩
        go_upto_region 4 with fail
        refine wp_region_lit ?_
        refine wpList_run (by kernel_rfl) (.int .u64 (x : Int)) wo rfl ?_
        simp only [Act.put, List.setIfInBounds_toArray, List.set_cons_zero, List.set_cons_succ]
        refine wpList_call (by kernel_rfl) 71 Tryd.func71 (by kernel_rfl) (by kernel_rfl) _ _ #[.int .u64 (x : Int)] rfl (by kernel_rfl) ?_
        refine (fvalid_as x false hv wo).mono ?_
        rintro e V2 ⟨rfl, hb⟩
        have B1 := Lib.hid hb
        clear hb 
        refine ⟨_, rfl, ?_⟩
        simp only [Act.put, List.setIfInBounds_toArray, List.set_cons_zero, List.set_cons_succ]
        refine wpList_run (by kernel_rfl) (.bool true) V2 rfl ?_
        simp only [Act.put, List.setIfInBounds_toArray, List.set_cons_zero, List.set_cons_succ]
        refine wpList_nil ?_
        go_upto_region 5 with fail
        refine wp_region_lit ?_
        refine wpList_run (by kernel_rfl) (.bool false) V2 rfl ?_
        simp only [Act.put, List.setIfInBounds_toArray, List.set_cons_zero, List.set_cons_succ]
        refine wpList_nil ?_
        go_wp2_with fail
        go_ret
        have C0_2 := Lib.hid (bel_step B0.out B1.out)
        exact ⟨rfl, C0_2.out⟩
      | true =>
        go_upto_region 4 with fail
        refine wp_region_lit ?_
        refine wpList_run (by kernel_rfl) (.int .u64 (x : Int)) wo rfl ?_
        simp only [Act.put, List.setIfInBounds_toArray, List.set_cons_zero, List.set_cons_succ]
        refine wpList_call (by kernel_rfl) 71 Tryd.func71 (by kernel_rfl) (by kernel_rfl) _ _ #[.int .u64 (x : Int)] rfl (by kernel_rfl) ?_
        refine (fvalid_as x true hv wo).mono ?_
        rintro e V2 ⟨rfl, hb⟩
        have B1 := Lib.hid hb
        clear hb 
        refine ⟨_, rfl, ?_⟩
        simp only [Act.put, List.setIfInBounds_toArray, List.set_cons_zero, List.set_cons_succ]
        refine wpList_run (by kernel_rfl) (.bool false) V2 rfl ?_
        simp only [Act.put, List.setIfInBounds_toArray, List.set_cons_zero, List.set_cons_succ]
        refine wpList_nil ?_
        go_upto_region 6 with fail
        refine wp_region_lit ?_
        refine wpList_run (by kernel_rfl) (.int .i64 ((i + 1 : Nat) : Int)) V2 (xo_addI (i : Int) 1 ((i + 1 : Nat) : Int) (by omega) (by omega) (by omega) rfl rfl rfl) ?_
        simp only [Act.put, List.setIfInBounds_toArray, List.set_cons_zero, List.set_cons_succ]
        refine wpList_run (by kernel_rfl) (.int .i64 ((i + 1 : Nat) : Int)) V2 rfl ?_
        simp only [Act.put, List.setIfInBounds_toArray, List.set_cons_zero, List.set_cons_succ]
        refine wpList_nil ?_
        have hta : ∀ y ∈ xs.take (i + 1), y < 18446744069414584321 := by
          intro y hy
          obtain ⟨hi1, rfl⟩ := List.getElem?_eq_some_iff.1 HE.out
          rw [List.take_succ_eq_append_getElem hi1] at hy
          rcases List.mem_append.1 hy with hy | hy
          · exact HA.out y hy
          · rw [List.mem_singleton] at hy; subst hy; exact of_decide_eq_true hv
        have C0_2 := Lib.hid (bel_step B0.out B1.out)
        have hq3 := C0_2.out
        go_wp2_with fail
        go_roundw
        case rel => exact ⟨i + 1, by omega, by go_num, hta, hq3⟩
        case measure => simp [intOf]; omega
    · have hci2 : ¬ ((i : Int) < (n : Int)) := by omega
      have hall : xs.all (fun x => decide (x < 18446744069414584321)) = true := by rw [List.all_eq_true]; intro x hx; exact decide_eq_true (HA.out x (by rw [List.take_of_length_le (by omega)]; exact hx))
      go_upto_region 2 with fail
      refine wp_region_lit ?_
      refine wpList_run (by kernel_rfl) (.bool false) wo (xo_lssF .i64 (i : Int) (n : Int) (by omega) rfl rfl rfl) ?_
      simp only [Act.put, List.setIfInBounds_toArray, List.set_cons_zero, List.set_cons_succ]
      refine wpList_nil ?_
      go_upto_region 7 with fail
      refine wp_region_lit ?_
      refine wpList_run (by kernel_rfl) (.slice A n c) wo rfl ?_
      simp only [Act.put, List.setIfInBounds_toArray, List.set_cons_zero, List.set_cons_succ]
      refine wpList_run (by kernel_rfl) (.int .i64 (n : Int)) wo (xo_len A n c Tryd.underlying48 rfl rfl) ?_
      simp only [Act.put, List.setIfInBounds_toArray, List.set_cons_zero, List.set_cons_succ]
      refine wpList_run (by kernel_rfl) (.int .i64 (N : Int)) wo rfl ?_
      simp only [Act.put, List.setIfInBounds_toArray, List.set_cons_zero, List.set_cons_succ]
      refine wpList_run (by kernel_rfl) (.bool b) wo (xo_cmp .eql .i64 (n : Int) (N : Int) b (.inl ⟨rfl, (by rw [← hb, elB_eq, hall, Bool.true_and, hln, Bool.eq_iff_iff]; simp only [beq_iff_eq]; omega)⟩) rfl rfl rfl) ?_
      simp only [Act.put, List.setIfInBounds_toArray, List.set_cons_zero, List.set_cons_succ]
      refine wpList_run (by kernel_rfl) (.bool b) wo rfl ?_
      simp only [Act.put, List.setIfInBounds_toArray, List.set_cons_zero, List.set_cons_succ]
      refine wpList_nil ?_
      go_wp2_with fail
      go_ret
      exact ⟨rfl, B0.out⟩
set_option maxRecDepth 100000 in
set_option maxHeartbeats 8000000 in
theorem zeros_any (q N : Nat) (hq : q ≤ 1000) (hN : N ≤ 1000000) (w : World) :
    Calls Tryd.prog 45 #[.int .i64 (q : Int), .int .i64 (N : Int)] w fun e w' => ∃ g, e = .returned (.slice (some ⟨g, 0, none⟩) q q) ∧ ∃ bs, RowG hdC w' g 48 (bs.map (mkH N)) ∧ RowsU w' 50 w.heap.size bs (List.replicate q (List.replicate N 0)) ∧ w.heap.size ≤ g ∧ g ∉ bs ∧ Below w.heap.size w w' := by
  go_enter Tryd.func45, Tryd.ntmps45
  go_upto_region 1 with fail
  refine wp_region_lit ?_
  refine wpList_run (by kernel_rfl) (.int .i64 (q : Int)) w rfl ?_
  simp only [Act.put, List.setIfInBounds_toArray, List.set_cons_zero, List.set_cons_succ]
  refine wpList_mk (by kernel_rfl) ((List.replicate q (Hd.mk none 0 0)).flatMap hdC).toArray 48 q q (xg_make (E := hdC) (bytes := 24) (.slice none 0 0) (Hd.mk none 0 0) q .i64 Tryd.underlying38 (by kernel_rfl) rfl (by omega) (by omega) rfl rfl rfl) ?_
  intro g8 V1 hge h0 hb
  have Ge0 : Hid (w.heap.size ≤ g8) := Lib.hid hge
  have B0 := Lib.hid hb
  have Fv1_8 : Hid (RowG hdC V1 g8 48 (List.replicate q (Hd.mk none 0 0))) := Lib.hid (h0)
  have Lt2 : Hid (g8 < V1.heap.size) := Lib.hid (xp_lt Fv1_8.out)
  clear hge h0 hb
  simp only [ptr, Act.put, List.setIfInBounds_toArray, List.set_cons_zero, List.set_cons_succ]
  refine wpList_run (by kernel_rfl) (.slice (some ⟨g8, 0, none⟩) q q) V1 rfl ?_
  simp only [Act.put, List.setIfInBounds_toArray, List.set_cons_zero, List.set_cons_succ]
  refine wpList_nil ?_
  go_upto_region 2 with fail
  refine wp_region_lit ?_
  refine wpList_run (by kernel_rfl) (.slice (some ⟨g8, 0, none⟩) q q) V1 rfl ?_
  simp only [Act.put, List.setIfInBounds_toArray, List.set_cons_zero, List.set_cons_succ]
  refine wpList_run (by kernel_rfl) (.int .i64 (q : Int)) V1 (xo_len (some ⟨g8, 0, none⟩) q q Tryd.underlying38 rfl rfl) ?_
  simp only [Act.put, List.setIfInBounds_toArray, List.set_cons_zero, List.set_cons_succ]
  refine wpList_run (by kernel_rfl) (.int .i64 0) V1 rfl ?_
  simp only [Act.put, List.setIfInBounds_toArray, List.set_cons_zero, List.set_cons_succ]
  refine wpList_nil ?_
  have GE8 : Hid (w.heap.size ≤ g8) := Lib.hid Ge0.out
  have O3 := Fv1_8.out
  have O4 := B0.out
  go_wp2_with fail
  go_loopw [11] (fun p wr => ∃ i : Nat, ∃ bs : List Nat, i ≤ q ∧ p = .int .i64 i ∧ bs.length = i ∧ RowsU wr 50 w.heap.size bs (List.replicate i (List.replicate N 0)) ∧ g8 ∉ bs ∧ RowG hdC wr g8 48 (bs.map (mkH N) ++ List.replicate (q - i) (Hd.mk none 0 0)) ∧ Below w.heap.size w wr) (fun p _ => q - (intOf p).toNat)
  case atStart => exact ⟨0, [], Nat.zero_le _, rfl, rfl, RowsU.nil, List.not_mem_nil, O3, O4⟩
  case round =>
    clear O3 O4
    obtain ⟨wo, rfl⟩ : ∃ wo : World, wo = wr := ⟨_, rfl⟩
    obtain ⟨i, bs, hi, rfl, hhbl, hHB, hHNB, hr0, hb0⟩ := hrel
    have hbr := hb0
    clear B0
    have B0 := Lib.hid hbr
    clear hbr
    clear Fv1_8
    have Fv1_8 : Hid (RowG hdC wo g8 48 (bs.map (mkH N) ++ List.replicate (q - i) (Hd.mk none 0 0))) := Lib.hid (hr0)
    have hbl := Lib.hid hhbl
    have HB := Lib.hid hHB
    have HNB := Lib.hid hHNB
    clear hb0 hr0 hhbl hHB hHNB
    by_cases hlt2 : i < q
    · have hci6 : ((i : Int) < (q : Int)) := by omega
      have HR := Lib.hid (get_fill (bs.map (mkH N)) (Hd.mk none 0 0) (q - i) i (by rw [List.length_map, hbl.out]) (by omega))
      go_upto_region 3 with fail
      refine wp_region_lit ?_
      refine wpList_run (by kernel_rfl) (.bool true) wo (xo_lssT .i64 (i : Int) (q : Int) (by omega) rfl rfl rfl) ?_
      simp only [Act.put, List.setIfInBounds_toArray, List.set_cons_zero, List.set_cons_succ]
      refine wpList_nil ?_
      go_upto_region 4 with fail
      refine wp_region_lit ?_
      refine wpList_run (by kernel_rfl) (.int .i64 (i : Int)) wo rfl ?_
      simp only [Act.put, List.setIfInBounds_toArray, List.set_cons_zero, List.set_cons_succ]
      refine wpList_run (by kernel_rfl) (.int .i64 (i : Int)) wo rfl ?_
      simp only [Act.put, List.setIfInBounds_toArray, List.set_cons_zero, List.set_cons_succ]
      refine wpList_nil ?_
      go_upto_region 5 with fail
      refine wp_region_lit ?_
      refine wpList_run (by kernel_rfl) (.slice (some ⟨g8, 0, none⟩) q q) wo rfl ?_
      simp only [Act.put, List.setIfInBounds_toArray, List.set_cons_zero, List.set_cons_succ]
      refine wpList_run (by kernel_rfl) (.int .i64 (i : Int)) wo rfl ?_
      simp only [Act.put, List.setIfInBounds_toArray, List.set_cons_zero, List.set_cons_succ]
      refine wpList_run (by kernel_rfl) (.int .i64 (N : Int)) wo rfl ?_
      simp only [Act.put, List.setIfInBounds_toArray, List.set_cons_zero, List.set_cons_succ]
      refine wpList_mk (by kernel_rfl) ((List.replicate N 0).flatMap wdC).toArray 50 N N (xg_make (E := wdC) (bytes := 8) (.int .u64 0) 0 N .i64 Tryd.underlying48 (by kernel_rfl) rfl (by omega) (by omega) rfl rfl rfl) ?_
      intro g17 V2 hge h0 hb
      have N7_0 : Hid (g8 ≠ g17) := Lib.hid (xp_lt0 Fv1_8.out hge)
      have Ge8 : Hid (wo.heap.size ≤ g17) := Lib.hid hge
      have B1 := Lib.hid hb
      have Fv9_17 : Hid (RowG wdC V2 g17 50 (List.replicate N 0)) := Lib.hid (h0)
      have Lt10 : Hid (g17 < V2.heap.size) := Lib.hid (xp_lt Fv9_17.out)
      clear hge h0 hb
      simp only [ptr, Act.put, List.setIfInBounds_toArray, List.set_cons_zero, List.set_cons_succ]
      have hnb : g17 ∉ bs := fun hm => by have h1 := HB.out.lt g17 hm; have h2 := Ge8.out; omega
      have HPU := Lib.hid (RowsU.push (HB.out.keep B1.out) Fv9_17.out (Nat.le_trans B0.out.size Ge8.out) hnb)
      have hng : g8 ∉ bs ++ [g17] := fun hm => by rcases List.mem_append.1 hm with hm | hm; exact HNB.out hm; rw [List.mem_singleton] at hm; exact N7_0.out hm
      refine wpList_run (by kernel_rfl) (.pointer (some (gad (some ⟨g8, 0, none⟩) (i * 1)))) V2 (xg_idx .i64 (RowG.sg (Fv1_8.out.keep B1.out) (by rw [List.length_append, List.length_map, List.length_replicate, hbl.out]; omega) (Nat.le_refl _) (by omega)) HR.out Tryd.underlying38 (by kernel_rfl) rfl rfl rfl) ?_
      simp only [Act.put, List.setIfInBounds_toArray, List.set_cons_zero, List.set_cons_succ]
      refine wpList_storeW g8 _ _ 48 (by kernel_rfl) (RowG.h (Fv1_8.out.keep B1.out)) (xg_store (Fv1_8.out.keep B1.out) (List.getElem?_eq_some_iff.1 HR.out).1 (Hd.mk (some ⟨g17, 0, none⟩) N N) (by kernel_rfl) rfl rfl rfl) ?_
      intro X2_11 h1 hfar hbel hsz
      have YHPU : RowsU X2_11 50 w.heap.size (bs ++ [g17]) (List.replicate i (List.replicate N 0) ++ [List.replicate N 0]) := RowsU.far HPU.out hng hfar
      have YFv9_17 : RowG wdC X2_11 g17 50 (List.replicate N 0) := hfar _ _ (Ne.symm N7_0.out) Fv9_17.out
      -- drops HB
      have Gs12 : Hid (w.heap.size ≤ g17) := Lib.hid (Nat.le_trans B0.out.size Ge8.out)
      have C0_2 := Lib.hid (bel_step B0.out B1.out)
      have hbr := hbel _ _ GE8.out C0_2.out
      clear B0
      have B0 := Lib.hid hbr
      clear hbr
      clear Fv9_17
      have Fv9_17 : Hid (RowG wdC X2_11 g17 50 (List.replicate N 0)) := Lib.hid YFv9_17
      clear YFv9_17
      clear HPU
      have HPU := Lib.hid YHPU
      clear YHPU
      clear Fv1_8
      have Fv1_8 : Hid (RowG hdC X2_11 g8 48 ((bs.map (mkH N) ++ List.replicate (q - i) (Hd.mk none 0 0)).set i (Hd.mk (some ⟨g17, 0, none⟩) N N))) := Lib.hid (h1)
      have HszX2_11 := Lib.hid hsz
      clear h1 hfar hbel hsz
      simp only [ptr, Act.put, List.setIfInBounds_toArray, List.set_cons_zero, List.set_cons_succ]
      refine wpList_nil ?_
      have hrow : RowG hdC X2_11 g8 48 ((bs ++ [g17]).map (mkH N) ++ List.replicate (q - (i + 1)) (Hd.mk none 0 0)) := by
        have h0 := Fv1_8.out
        have e : q - i = (q - (i + 1)) + 1 := by omega
        have h2 := set_fill (bs.map (mkH N)) (mkH N g17) (Hd.mk none 0 0) (q - (i + 1))
        rw [List.length_map, hbl.out] at h2
        rw [e] at h0
        rw [List.map_append]
        exact h2 ▸ h0
      have hru : RowsU X2_11 50 w.heap.size (bs ++ [g17]) (List.replicate (i + 1) (List.replicate N 0)) := by rw [List.replicate_succ']; exact HPU.out
      go_upto_region 6 with fail
      refine wp_region_lit ?_
      refine wpList_run (by kernel_rfl) (.int .i64 ((i + 1 : Nat) : Int)) X2_11 (xo_addI (i : Int) 1 ((i + 1 : Nat) : Int) (by omega) (by omega) (by omega) rfl rfl rfl) ?_
      simp only [Act.put, List.setIfInBounds_toArray, List.set_cons_zero, List.set_cons_succ]
      refine wpList_run (by kernel_rfl) (.int .i64 ((i + 1 : Nat) : Int)) X2_11 rfl ?_
      simp only [Act.put, List.setIfInBounds_toArray, List.set_cons_zero, List.set_cons_succ]
      refine wpList_nil ?_
      have hq13 := B0.out
      go_wp2_with fail
      go_roundw
      case rel => exact ⟨i + 1, bs ++ [g17], by omega, by go_num, (by rw [List.length_append, hbl.out]; rfl), hru, hng, hrow, hq13⟩
      case measure => simp [intOf]; omega
    · have hci6 : ¬ ((i : Int) < (q : Int)) := by omega
      have hiq : i = q := by omega
      go_upto_region 3 with fail
      refine wp_region_lit ?_
      refine wpList_run (by kernel_rfl) (.bool false) wo (xo_lssF .i64 (i : Int) (q : Int) (by omega) rfl rfl rfl) ?_
      simp only [Act.put, List.setIfInBounds_toArray, List.set_cons_zero, List.set_cons_succ]
      refine wpList_nil ?_
      go_upto_region 7 with fail
      refine wp_region_lit ?_
      refine wpList_run (by kernel_rfl) (.slice (some ⟨g8, 0, none⟩) q q) wo rfl ?_
      simp only [Act.put, List.setIfInBounds_toArray, List.set_cons_zero, List.set_cons_succ]
      refine wpList_run (by kernel_rfl) (.slice (some ⟨g8, 0, none⟩) q q) wo rfl ?_
      simp only [Act.put, List.setIfInBounds_toArray, List.set_cons_zero, List.set_cons_succ]
      refine wpList_nil ?_
      have hrow : RowG hdC wo g8 48 (bs.map (mkH N)) := by
        have h0 := Fv1_8.out
        rw [hiq, Nat.sub_self, List.replicate_zero, List.append_nil] at h0
        exact h0
      have hru := HB.out
      rw [hiq] at hru
      go_wp2_with fail
      go_ret
      exact ⟨g8, rfl, bs, hrow, hru, GE8.out, HNB.out, B0.out⟩
end Go.Proofs.YtopicjdmajlndaaDoor

