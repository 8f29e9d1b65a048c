/- Several texts in one: Qj, Qk, Ql. -/
import Derived.Test.YtopicjdmajlndaaDoorL06
namespace Go.Proofs.YtopicjdmajlndaaDoor
set_option linter.unusedVariables false
set_option linter.unusedSimpArgs false
set_option linter.unusedSectionVars false
set_option maxRecDepth 8000
open Go.RowKit Go.Proofs.YtopicjdmajlndaaDoor.K
attribute [local irreducible] wpList wpQuiet
set_option maxRecDepth 100000 in
set_option maxHeartbeats 8000000 in
theorem retract_out (A : Option Addr) (n c : Nat) (rs : List Rd) (B : Option Addr) (d : Nat) (gs : List Bool) (z : Int) (hz : z < 0 ∨ (n : Int) ≤ z) (w : World) (hL : Sg rdC 4 w A n c rs) (hG : Sg boC 1 w B n d gs) : Calls Tryd.prog 14 #[.agg #[.slice A n c, .slice B n d], .int .i64 z] w fun e w' => e = .returned (.tuple #[.agg #[.slice none 0 0, .slice none 0 0], .int .i64 4]) ∧ Below w.heap.size w w' := by
  have HL := Lib.hid hL
  have HG := Lib.hid hG
  have hln := hL.len
  have hgn := hG.len
  clear hL hG
  go_enter Tryd.func14, Tryd.ntmps14
  go_upto_region 1 with fail
  refine wp_named2 (fun V1 hb g0 g1 hlt => ?_)
  have B0 := Lib.hid hb
  have Fv0_2 : Hid (V1.heap[w.heap.size]? = some (.cells #[.slice A n c, .slice B n d] 30 (0, 0))) := Lib.hid (g0)
  have Fv1_4 : Hid (V1.heap[(w.heap.size + 1)]? = some (.cells #[.slice none 0 0, .slice none 0 0] 30 (0, 0))) := Lib.hid (g1)
  have Nb0_1 : Hid (w.heap.size ≠ (w.heap.size + 1)) := Lib.hid (by omega)
  have Gb0 : Hid (w.heap.size ≤ w.heap.size) := Lib.hid (by omega)
  have Gb1 : Hid (w.heap.size ≤ (w.heap.size + 1)) := Lib.hid (by omega)
  clear hb g0 g1 hlt
  have Lt0 : Hid (w.heap.size < V1.heap.size) := Lib.hid (xp_lt Fv0_2.out)
  have Lt1 : Hid ((w.heap.size + 1) < V1.heap.size) := Lib.hid (xp_lt Fv1_4.out)
  by_cases hneg : z < 0
  · refine wp_region_lit ?_
    refine wpList_run (by kernel_rfl) (.int .i64 z) V1 rfl ?_
    simp only [Act.put, List.setIfInBounds_toArray, List.set_cons_zero, List.set_cons_succ]
    refine wpList_run (by kernel_rfl) (.bool true) V1 (xo_lssT .i64 z 0 (by omega) rfl rfl rfl) ?_
    simp only [Act.put, List.setIfInBounds_toArray, List.set_cons_zero, List.set_cons_succ]
    refine wpList_run (by kernel_rfl) (.bool true) V1 rfl ?_
    simp only [Act.put, List.setIfInBounds_toArray, List.set_cons_zero, List.set_cons_succ]
    refine wpList_skip (by kernel_rfl) ?_
    try simp only [Act.put, List.setIfInBounds_toArray, List.set_cons_zero, List.set_cons_succ]
    refine wpList_skip (by kernel_rfl) ?_
    try simp only [Act.put, List.setIfInBounds_toArray, List.set_cons_zero, List.set_cons_succ]
    refine wpList_skip (by kernel_rfl) ?_
    try simp only [Act.put, List.setIfInBounds_toArray, List.set_cons_zero, List.set_cons_succ]
    refine wpList_skip (by kernel_rfl) ?_
    try simp only [Act.put, List.setIfInBounds_toArray, List.set_cons_zero, List.set_cons_succ]
    refine wpList_skip (by kernel_rfl) ?_
    try simp only [Act.put, List.setIfInBounds_toArray, List.set_cons_zero, List.set_cons_succ]
    refine wpList_run (by kernel_rfl) (.bool true) V1 rfl ?_
    simp only [Act.put, List.setIfInBounds_toArray, List.set_cons_zero, List.set_cons_succ]
    refine wpList_nil ?_
    go_upto_region 2 with fail
    refine wp_region_lit ?_
    refine wpList_run (by kernel_rfl) (.agg #[.slice none 0 0, .slice none 0 0]) V1 (by unfold execOp; go_simp) ?_
    simp only [Act.put, List.setIfInBounds_toArray, List.set_cons_zero, List.set_cons_succ]
    refine wpList_storeW (w.heap.size + 1) #[.slice none 0 0, .slice none 0 0] #[.slice none 0 0, .slice none 0 0] 30 (by kernel_rfl) Fv1_4.out (xo_storeW (w.heap.size + 1) #[.slice none 0 0, .slice none 0 0] #[.slice none 0 0, .slice none 0 0] Fv1_4.out (by kernel_rfl) rfl (by simp [Value.oneCell']) rfl rfl rfl) ?_
    intro X1_2 h1 hfar hbel hsz
    have YFv0_2 : X1_2.heap[w.heap.size]? = some (.cells #[.slice A n c, .slice B n d] 30 (0, 0)) := hfar _ _ Nb0_1.out Fv0_2.out
    have hbr := hbel _ _ Gb1.out B0.out
    clear B0
    have B0 := Lib.hid hbr
    clear hbr
    clear Fv0_2
    have Fv0_2 : Hid (X1_2.heap[w.heap.size]? = some (.cells #[.slice A n c, .slice B n d] 30 (0, 0))) := Lib.hid YFv0_2
    clear YFv0_2
    clear Fv1_4
    have Fv1_4 : Hid (X1_2.heap[(w.heap.size + 1)]? = some (.cells #[.slice none 0 0, .slice none 0 0] 30 (0, 0))) := Lib.hid (h1)
    have HszX1_2 := Lib.hid hsz
    clear h1 hfar hbel hsz
    simp only [ptr, Act.put, List.setIfInBounds_toArray, List.set_cons_zero, List.set_cons_succ]
    refine wpList_run (by kernel_rfl) (.int .i64 4) X1_2 rfl ?_
    simp only [Act.put, List.setIfInBounds_toArray, List.set_cons_zero, List.set_cons_succ]
    refine wpList_nil ?_
    go_wp2_with fail
    refine bodyPost_ret (v := .tuple #[.agg #[.slice none 0 0, .slice none 0 0], .int .i64 4]) ?_ rfl ⟨rfl, B0.out⟩
    exact results_row_tmp rfl _ _ (w.heap.size + 1) 30 _ (0, 0) _ _ rfl rfl Fv1_4.out Tryd.underlying30 rfl (by kernel_rfl)
  · have hge : z ≥ (n : Int) := by omega
    refine wp_region_lit ?_
    refine wpList_run (by kernel_rfl) (.int .i64 z) V1 rfl ?_
    simp only [Act.put, List.setIfInBounds_toArray, List.set_cons_zero, List.set_cons_succ]
    refine wpList_run (by kernel_rfl) (.bool false) V1 (xo_lssF .i64 z 0 (by omega) rfl rfl rfl) ?_
    simp only [Act.put, List.setIfInBounds_toArray, List.set_cons_zero, List.set_cons_succ]
    refine wpList_run (by kernel_rfl) (.bool false) V1 rfl ?_
    simp only [Act.put, List.setIfInBounds_toArray, List.set_cons_zero, List.set_cons_succ]
    refine wpList_run (by kernel_rfl) (.int .i64 z) V1 rfl ?_
    simp only [Act.put, List.setIfInBounds_toArray, List.set_cons_zero, List.set_cons_succ]
    refine wpList_run (by kernel_rfl) (.pointer (some ⟨w.heap.size, 0, none⟩)) V1 (xo_fld0 0 w.heap.size 0 (by kernel_rfl) rfl rfl) ?_
    simp only [Act.put, List.setIfInBounds_toArray, List.set_cons_zero, List.set_cons_succ]
    refine wpList_run (by kernel_rfl) (.slice A n c) V1 (xo_load1 ⟨w.heap.size, 0, none⟩ _ (cells_at Fv0_2.out 0 rfl) Tryd.underlying27 rfl rfl rfl) ?_
    simp only [Act.put, List.setIfInBounds_toArray, List.set_cons_zero, List.set_cons_succ]
    refine wpList_run (by kernel_rfl) (.int .i64 (n : Int)) V1 (xo_len A n c Tryd.underlying27 rfl rfl) ?_
    simp only [Act.put, List.setIfInBounds_toArray, List.set_cons_zero, List.set_cons_succ]
    refine wpList_run (by kernel_rfl) (.bool true) V1 (xo_geqT .i64 z (n : Int) (by omega) rfl rfl rfl) ?_
    simp only [Act.put, List.setIfInBounds_toArray, List.set_cons_zero, List.set_cons_succ]
    refine wpList_run (by kernel_rfl) (.bool true) V1 rfl ?_
    simp only [Act.put, List.setIfInBounds_toArray, List.set_cons_zero, List.set_cons_succ]
    refine wpList_nil ?_
    go_upto_region 2 with fail
    refine wp_region_lit ?_
    refine wpList_run (by kernel_rfl) (.agg #[.slice none 0 0, .slice none 0 0]) V1 (by unfold execOp; go_simp) ?_
    simp only [Act.put, List.setIfInBounds_toArray, List.set_cons_zero, List.set_cons_succ]
    refine wpList_storeW (w.heap.size + 1) #[.slice none 0 0, .slice none 0 0] #[.slice none 0 0, .slice none 0 0] 30 (by kernel_rfl) Fv1_4.out (xo_storeW (w.heap.size + 1) #[.slice none 0 0, .slice none 0 0] #[.slice none 0 0, .slice none 0 0] Fv1_4.out (by kernel_rfl) rfl (by simp [Value.oneCell']) rfl rfl rfl) ?_
    intro X1_2 h1 hfar hbel hsz
    have YFv0_2 : X1_2.heap[w.heap.size]? = some (.cells #[.slice A n c, .slice B n d] 30 (0, 0)) := hfar _ _ Nb0_1.out Fv0_2.out
    have hbr := hbel _ _ Gb1.out B0.out
    clear B0
    have B0 := Lib.hid hbr
    clear hbr
    clear Fv0_2
    have Fv0_2 : Hid (X1_2.heap[w.heap.size]? = some (.cells #[.slice A n c, .slice B n d] 30 (0, 0))) := Lib.hid YFv0_2
    clear YFv0_2
    clear Fv1_4
    have Fv1_4 : Hid (X1_2.heap[(w.heap.size + 1)]? = some (.cells #[.slice none 0 0, .slice none 0 0] 30 (0, 0))) := Lib.hid (h1)
    have HszX1_2 := Lib.hid hsz
    clear h1 hfar hbel hsz
    simp only [ptr, Act.put, List.setIfInBounds_toArray, List.set_cons_zero, List.set_cons_succ]
    refine wpList_run (by kernel_rfl) (.int .i64 4) X1_2 rfl ?_
    simp only [Act.put, List.setIfInBounds_toArray, List.set_cons_zero, List.set_cons_succ]
    refine wpList_nil ?_
    go_wp2_with fail
    refine bodyPost_ret (v := .tuple #[.agg #[.slice none 0 0, .slice none 0 0], .int .i64 4]) ?_ rfl ⟨rfl, B0.out⟩
    exact results_row_tmp rfl _ _ (w.heap.size + 1) 30 _ (0, 0) _ _ rfl rfl Fv1_4.out Tryd.underlying30 rfl (by kernel_rfl)
set_option maxRecDepth 100000 in
set_option maxHeartbeats 8000000 in
theorem retract_spent (A : Option Addr) (n c : Nat) (rs : List Rd) (B : Option Addr) (d : Nat) (gs : List Bool) (i : Nat) (hg : gs[i]? = some true) (hn : n ≤ 1000000) (w : World) (hL : Sg rdC 4 w A n c rs) (hG : Sg boC 1 w B n d gs) : Calls Tryd.prog 14 #[.agg #[.slice A n c, .slice B n d], .int .i64 (i : Int)] w fun e w' => e = .returned (.tuple #[.agg #[.slice none 0 0, .slice none 0 0], .int .i64 120]) ∧ Below w.heap.size w w' := by
  have HL := Lib.hid hL
  have HG := Lib.hid hG
  have hln := hL.len
  have hgn := hG.len
  clear hL hG
  have hin := (List.getElem?_eq_some_iff.1 hg).1
  rw [hgn] at hin
  have hi0 : ¬ (i : Int) < 0 := by omega
  have hi1 : ¬ (i : Int) ≥ (n : Int) := by omega
  have HE := Lib.hid hg
  clear hg
  go_enter Tryd.func14, Tryd.ntmps14
  go_upto_region 1 with fail
  refine wp_named2 (fun V1 hb g0 g1 hlt => ?_)
  have B0 := Lib.hid hb
  have Fv0_2 : Hid (V1.heap[w.heap.size]? = some (.cells #[.slice A n c, .slice B n d] 30 (0, 0))) := Lib.hid (g0)
  have Fv1_4 : Hid (V1.heap[(w.heap.size + 1)]? = some (.cells #[.slice none 0 0, .slice none 0 0] 30 (0, 0))) := Lib.hid (g1)
  have Nb0_1 : Hid (w.heap.size ≠ (w.heap.size + 1)) := Lib.hid (by omega)
  have Gb0 : Hid (w.heap.size ≤ w.heap.size) := Lib.hid (by omega)
  have Gb1 : Hid (w.heap.size ≤ (w.heap.size + 1)) := Lib.hid (by omega)
  clear hb g0 g1 hlt
  have Lt0 : Hid (w.heap.size < V1.heap.size) := Lib.hid (xp_lt Fv0_2.out)
  have Lt1 : Hid ((w.heap.size + 1) < V1.heap.size) := Lib.hid (xp_lt Fv1_4.out)
  refine wp_region_lit ?_
  refine wpList_run (by kernel_rfl) (.int .i64 (i : Int)) V1 rfl ?_
  simp only [Act.put, List.setIfInBounds_toArray, List.set_cons_zero, List.set_cons_succ]
  refine wpList_run (by kernel_rfl) (.bool false) V1 (xo_lssF .i64 (i : Int) 0 (by omega) rfl rfl rfl) ?_
  simp only [Act.put, List.setIfInBounds_toArray, List.set_cons_zero, List.set_cons_succ]
  refine wpList_run (by kernel_rfl) (.bool false) V1 rfl ?_
  simp only [Act.put, List.setIfInBounds_toArray, List.set_cons_zero, List.set_cons_succ]
  refine wpList_run (by kernel_rfl) (.int .i64 (i : Int)) V1 rfl ?_
  simp only [Act.put, List.setIfInBounds_toArray, List.set_cons_zero, List.set_cons_succ]
  refine wpList_run (by kernel_rfl) (.pointer (some ⟨w.heap.size, 0, none⟩)) V1 (xo_fld0 0 w.heap.size 0 (by kernel_rfl) rfl rfl) ?_
  simp only [Act.put, List.setIfInBounds_toArray, List.set_cons_zero, List.set_cons_succ]
  refine wpList_run (by kernel_rfl) (.slice A n c) V1 (xo_load1 ⟨w.heap.size, 0, none⟩ _ (cells_at Fv0_2.out 0 rfl) Tryd.underlying27 rfl rfl rfl) ?_
  simp only [Act.put, List.setIfInBounds_toArray, List.set_cons_zero, List.set_cons_succ]
  refine wpList_run (by kernel_rfl) (.int .i64 (n : Int)) V1 (xo_len A n c Tryd.underlying27 rfl rfl) ?_
  simp only [Act.put, List.setIfInBounds_toArray, List.set_cons_zero, List.set_cons_succ]
  refine wpList_run (by kernel_rfl) (.bool false) V1 (xo_geqF .i64 (i : Int) (n : Int) (by omega) rfl rfl rfl) ?_
  simp only [Act.put, List.setIfInBounds_toArray, List.set_cons_zero, List.set_cons_succ]
  refine wpList_run (by kernel_rfl) (.bool false) V1 rfl ?_
  simp only [Act.put, List.setIfInBounds_toArray, List.set_cons_zero, List.set_cons_succ]
  refine wpList_nil ?_
  go_upto_region 3 with fail
  refine wp_region_lit ?_
  refine wpList_run (by kernel_rfl) (.agg #[.slice A n c, .slice B n d]) V1 (xo_loadW w.heap.size _ Fv0_2.out Tryd.underlying30 rfl (by kernel_rfl) rfl rfl) ?_
  simp only [Act.put, List.setIfInBounds_toArray, List.set_cons_zero, List.set_cons_succ]
  refine wpList_run (by kernel_rfl) (.int .i64 (i : Int)) V1 rfl ?_
  simp only [Act.put, List.setIfInBounds_toArray, List.set_cons_zero, List.set_cons_succ]
  refine wpList_call (by kernel_rfl) 43 Tryd.func43 (by kernel_rfl) (by kernel_rfl) _ _ #[.agg #[.slice A n c, .slice B n d], .int .i64 (i : Int)] rfl (by kernel_rfl) ?_
  refine (gone_any A n c B n d gs i true HE.out V1 (HG.out.keep B0.out)).mono ?_
  rintro e V2 ⟨rfl, hb⟩
  have B1 := Lib.hid hb
  clear hb 
  refine ⟨_, rfl, ?_⟩
  simp only [Act.put, List.setIfInBounds_toArray, List.set_cons_zero, List.set_cons_succ]
  refine wpList_nil ?_
  go_upto_region 4 with fail
  refine wp_region_lit ?_
  refine wpList_run (by kernel_rfl) (.agg #[.slice none 0 0, .slice none 0 0]) V2 (by unfold execOp; go_simp) ?_
  simp only [Act.put, List.setIfInBounds_toArray, List.set_cons_zero, List.set_cons_succ]
  refine wpList_storeW (w.heap.size + 1) #[.slice none 0 0, .slice none 0 0] #[.slice none 0 0, .slice none 0 0] 30 (by kernel_rfl) (heap_keep Fv1_4.out B1.out) (xo_storeW (w.heap.size + 1) #[.slice none 0 0, .slice none 0 0] #[.slice none 0 0, .slice none 0 0] (heap_keep Fv1_4.out B1.out) (by kernel_rfl) rfl (by simp [Value.oneCell']) rfl rfl rfl) ?_
  intro X2_2 h1 hfar hbel hsz
  have YFv0_2 : X2_2.heap[w.heap.size]? = some (.cells #[.slice A n c, .slice B n d] 30 (0, 0)) := hfar _ _ Nb0_1.out (heap_keep Fv0_2.out B1.out)
  have C0_2 := Lib.hid (bel_step B0.out B1.out)
  have hbr := hbel _ _ Gb1.out C0_2.out
  clear B0
  have B0 := Lib.hid hbr
  clear hbr
  clear Fv0_2
  have Fv0_2 : Hid (X2_2.heap[w.heap.size]? = some (.cells #[.slice A n c, .slice B n d] 30 (0, 0))) := Lib.hid YFv0_2
  clear YFv0_2
  clear Fv1_4
  have Fv1_4 : Hid (X2_2.heap[(w.heap.size + 1)]? = some (.cells #[.slice none 0 0, .slice none 0 0] 30 (0, 0))) := Lib.hid (h1)
  have HszX2_2 := Lib.hid hsz
  clear h1 hfar hbel hsz
  simp only [ptr, Act.put, List.setIfInBounds_toArray, List.set_cons_zero, List.set_cons_succ]
  refine wpList_run (by kernel_rfl) (.int .i64 120) X2_2 rfl ?_
  simp only [Act.put, List.setIfInBounds_toArray, List.set_cons_zero, List.set_cons_succ]
  refine wpList_nil ?_
  go_wp2_with fail
  refine bodyPost_ret (v := .tuple #[.agg #[.slice none 0 0, .slice none 0 0], .int .i64 120]) ?_ rfl ⟨rfl, B0.out⟩
  exact results_row_tmp rfl _ _ (w.heap.size + 1) 30 _ (0, 0) _ _ rfl rfl Fv1_4.out Tryd.underlying30 rfl (by kernel_rfl)
set_option maxRecDepth 100000 in
set_option maxHeartbeats 8000000 in
theorem retract_ok (A : Option Addr) (n c : Nat) (rs : List Rd) (B : Option Addr) (d : Nat) (gs : List Bool) (i : Nat) (hg : gs[i]? = some false) (hn : n ≤ 1000000) (w : World) (hL : Sg rdC 4 w A n c rs) (hG : Sg boC 1 w B n d gs) : Calls Tryd.prog 14 #[.agg #[.slice A n c, .slice B n d], .int .i64 (i : Int)] w fun e w' => ∃ A2 c2 B2 d2, e = .returned (.tuple #[.agg #[.slice A2 n c2, .slice B2 n d2], .int .i64 0]) ∧ Sg rdC 4 w' A2 n c2 rs ∧ Sg boC 1 w' B2 n d2 (gs.set i true) ∧ Below w.heap.size w w' := by
  have HL := Lib.hid hL
  have HG := Lib.hid hG
  have hln := hL.len
  have hgn := hG.len
  clear hL hG
  have hin := (List.getElem?_eq_some_iff.1 hg).1
  rw [hgn] at hin
  have hi0 : ¬ (i : Int) < 0 := by omega
  have hi1 : ¬ (i : Int) ≥ (n : Int) := by omega
  have HE := Lib.hid hg
  clear hg
  go_enter Tryd.func14, Tryd.ntmps14
  go_upto_region 1 with fail
  refine wp_named2 (fun V1 hb g0 g1 hlt => ?_)
  have B0 := Lib.hid hb
  have Fv0_2 : Hid (V1.heap[w.heap.size]? = some (.cells #[.slice A n c, .slice B n d] 30 (0, 0))) := Lib.hid (g0)
  have Fv1_4 : Hid (V1.heap[(w.heap.size + 1)]? = some (.cells #[.slice none 0 0, .slice none 0 0] 30 (0, 0))) := Lib.hid (g1)
  have Nb0_1 : Hid (w.heap.size ≠ (w.heap.size + 1)) := Lib.hid (by omega)
  have Gb0 : Hid (w.heap.size ≤ w.heap.size) := Lib.hid (by omega)
  have Gb1 : Hid (w.heap.size ≤ (w.heap.size + 1)) := Lib.hid (by omega)
  clear hb g0 g1 hlt
  have Lt0 : Hid (w.heap.size < V1.heap.size) := Lib.hid (xp_lt Fv0_2.out)
  have Lt1 : Hid ((w.heap.size + 1) < V1.heap.size) := Lib.hid (xp_lt Fv1_4.out)
  refine wp_region_lit ?_
  refine wpList_run (by kernel_rfl) (.int .i64 (i : Int)) V1 rfl ?_
  simp only [Act.put, List.setIfInBounds_toArray, List.set_cons_zero, List.set_cons_succ]
  refine wpList_run (by kernel_rfl) (.bool false) V1 (xo_lssF .i64 (i : Int) 0 (by omega) rfl rfl rfl) ?_
  simp only [Act.put, List.setIfInBounds_toArray, List.set_cons_zero, List.set_cons_succ]
  refine wpList_run (by kernel_rfl) (.bool false) V1 rfl ?_
  simp only [Act.put, List.setIfInBounds_toArray, List.set_cons_zero, List.set_cons_succ]
  refine wpList_run (by kernel_rfl) (.int .i64 (i : Int)) V1 rfl ?_
  simp only [Act.put, List.setIfInBounds_toArray, List.set_cons_zero, List.set_cons_succ]
  refine wpList_run (by kernel_rfl) (.pointer (some ⟨w.heap.size, 0, none⟩)) V1 (xo_fld0 0 w.heap.size 0 (by kernel_rfl) rfl rfl) ?_
  simp only [Act.put, List.setIfInBounds_toArray, List.set_cons_zero, List.set_cons_succ]
  refine wpList_run (by kernel_rfl) (.slice A n c) V1 (xo_load1 ⟨w.heap.size, 0, none⟩ _ (cells_at Fv0_2.out 0 rfl) Tryd.underlying27 rfl rfl rfl) ?_
  simp only [Act.put, List.setIfInBounds_toArray, List.set_cons_zero, List.set_cons_succ]
  refine wpList_run (by kernel_rfl) (.int .i64 (n : Int)) V1 (xo_len A n c Tryd.underlying27 rfl rfl) ?_
  simp only [Act.put, List.setIfInBounds_toArray, List.set_cons_zero, List.set_cons_succ]
  refine wpList_run (by kernel_rfl) (.bool false) V1 (xo_geqF .i64 (i : Int) (n : Int) (by omega) rfl rfl rfl) ?_
  simp only [Act.put, List.setIfInBounds_toArray, List.set_cons_zero, List.set_cons_succ]
  refine wpList_run (by kernel_rfl) (.bool false) V1 rfl ?_
  simp only [Act.put, List.setIfInBounds_toArray, List.set_cons_zero, List.set_cons_succ]
  refine wpList_nil ?_
  go_upto_region 3 with fail
  refine wp_region_lit ?_
  refine wpList_run (by kernel_rfl) (.agg #[.slice A n c, .slice B n d]) V1 (xo_loadW w.heap.size _ Fv0_2.out Tryd.underlying30 rfl (by kernel_rfl) rfl rfl) ?_
  simp only [Act.put, List.setIfInBounds_toArray, List.set_cons_zero, List.set_cons_succ]
  refine wpList_run (by kernel_rfl) (.int .i64 (i : Int)) V1 rfl ?_
  simp only [Act.put, List.setIfInBounds_toArray, List.set_cons_zero, List.set_cons_succ]
  refine wpList_call (by kernel_rfl) 43 Tryd.func43 (by kernel_rfl) (by kernel_rfl) _ _ #[.agg #[.slice A n c, .slice B n d], .int .i64 (i : Int)] rfl (by kernel_rfl) ?_
  refine (gone_any A n c B n d gs i false HE.out V1 (HG.out.keep B0.out)).mono ?_
  rintro e V2 ⟨rfl, hb⟩
  have B1 := Lib.hid hb
  clear hb 
  refine ⟨_, rfl, ?_⟩
  simp only [Act.put, List.setIfInBounds_toArray, List.set_cons_zero, List.set_cons_succ]
  refine wpList_nil ?_
  go_upto_region 5 with fail
  refine wp_region_lit ?_
  refine wpList_run (by kernel_rfl) (.agg #[.slice A n c, .slice B n d]) V2 (xo_loadW w.heap.size _ (heap_keep Fv0_2.out B1.out) Tryd.underlying30 rfl (by kernel_rfl) rfl rfl) ?_
  simp only [Act.put, List.setIfInBounds_toArray, List.set_cons_zero, List.set_cons_succ]
  refine wpList_run (by kernel_rfl) (.pointer (some ⟨w.heap.size, 0, none⟩)) V2 (xo_fld0 0 w.heap.size 0 (by kernel_rfl) rfl rfl) ?_
  simp only [Act.put, List.setIfInBounds_toArray, List.set_cons_zero, List.set_cons_succ]
  refine wpList_run (by kernel_rfl) (.slice A n c) V2 (xo_load1 ⟨w.heap.size, 0, none⟩ _ (cells_at (heap_keep Fv0_2.out B1.out) 0 rfl) Tryd.underlying27 rfl rfl rfl) ?_
  simp only [Act.put, List.setIfInBounds_toArray, List.set_cons_zero, List.set_cons_succ]
  refine wpList_run (by kernel_rfl) (.int .i64 (n : Int)) V2 (xo_len A n c Tryd.underlying27 rfl rfl) ?_
  simp only [Act.put, List.setIfInBounds_toArray, List.set_cons_zero, List.set_cons_succ]
  have C0_2 := Lib.hid (bel_step B0.out B1.out)
  refine wpList_call (by kernel_rfl) 42 Tryd.func42 (by kernel_rfl) (by kernel_rfl) _ _ #[.agg #[.slice A n c, .slice B n d], .int .i64 (n : Int)] rfl (by kernel_rfl) ?_
  refine (copied_any A n c rs B n d gs (n) (by omega) (by omega) (by omega) V2 (HL.out.keep C0_2.out) (HG.out.keep C0_2.out)).mono ?_
  rintro e V3 ⟨p2, q2, rfl, hr1, hr2, hg1, hg2, hb⟩
  have N3 : Hid (w.heap.size ≠ p2) := Lib.hid (Nat.ne_of_lt (Nat.lt_of_lt_of_le (xp_lt (heap_keep Fv0_2.out B1.out)) hg1))
  have N4 : Hid ((w.heap.size + 1) ≠ p2) := Lib.hid (Nat.ne_of_lt (Nat.lt_of_lt_of_le (xp_lt (heap_keep Fv1_4.out B1.out)) hg1))
  have Ge5 : Hid (V2.heap.size ≤ p2) := Lib.hid hg1
  have N6 : Hid (w.heap.size ≠ q2) := Lib.hid (Nat.ne_of_lt (Nat.lt_of_lt_of_le (xp_lt (heap_keep Fv0_2.out B1.out)) hg2))
  have N7 : Hid ((w.heap.size + 1) ≠ q2) := Lib.hid (Nat.ne_of_lt (Nat.lt_of_lt_of_le (xp_lt (heap_keep Fv1_4.out B1.out)) hg2))
  have Ge8 : Hid (V2.heap.size ≤ q2) := Lib.hid hg2
  have B2 := Lib.hid hb
  have Fv9_c : Hid (RowG rdC V3 p2 24 (rs ++ List.replicate (n - n) (Rd.mk 0 0 0 0))) := Lib.hid hr1
  have Lt10 : Hid (p2 < V3.heap.size) := Lib.hid (xp_lt Fv9_c.out)
  have Fv11_c : Hid (RowG boC V3 q2 4 (gs ++ List.replicate (n - n) false)) := Lib.hid hr2
  have Lt12 : Hid (q2 < V3.heap.size) := Lib.hid (xp_lt Fv11_c.out)
  have N13 : Hid (p2 ≠ q2) := Lib.hid (ne_types Fv9_c.out Fv11_c.out (by decide))
  clear hb hr1 hg1 hr2 hg2 
  refine ⟨_, rfl, ?_⟩
  simp only [Act.put, List.setIfInBounds_toArray, List.set_cons_zero, List.set_cons_succ]
  refine wpList_new #[.slice none 0 0, .slice none 0 0] 30 (by kernel_rfl) (xo_alloc #[.slice none 0 0, .slice none 0 0] (by kernel_rfl) rfl) ?_
  intro b6 V4 hge h0 hb
  have C1_3 := Lib.hid (bel_step B1.out B2.out)
  have N14_0 : Hid (w.heap.size ≠ b6) := Lib.hid (xp_lt0 (heap_keep Fv0_2.out C1_3.out) hge)
  have N15_1 : Hid ((w.heap.size + 1) ≠ b6) := Lib.hid (xp_lt0 (heap_keep Fv1_4.out C1_3.out) hge)
  have N16_2 : Hid (p2 ≠ b6) := Lib.hid (xp_lt0 Fv9_c.out hge)
  have N17_3 : Hid (q2 ≠ b6) := Lib.hid (xp_lt0 Fv11_c.out hge)
  have Ge18 : Hid (V3.heap.size ≤ b6) := Lib.hid hge
  have B3 := Lib.hid hb
  have Fv19_6 : Hid (V4.heap[b6]? = some (.cells #[.slice none 0 0, .slice none 0 0] 30 (0, 0))) := Lib.hid (h0)
  have Lt20 : Hid (b6 < V4.heap.size) := Lib.hid (xp_lt Fv19_6.out)
  clear hge h0 hb
  simp only [ptr, Act.put, List.setIfInBounds_toArray, List.set_cons_zero, List.set_cons_succ]
  refine wpList_storeW b6 #[.slice none 0 0, .slice none 0 0] #[.slice (some ⟨p2, 0, none⟩) n n, .slice (some ⟨q2, 0, none⟩) n n] 30 (by kernel_rfl) Fv19_6.out (xo_storeW b6 #[.slice none 0 0, .slice none 0 0] #[.slice (some ⟨p2, 0, none⟩) n n, .slice (some ⟨q2, 0, none⟩) n n] Fv19_6.out (by kernel_rfl) rfl (by simp [Value.oneCell']) rfl rfl rfl) ?_
  intro X4_21 h1 hfar hbel hsz
  have hbr := hbel _ _ Ge18.out B3.out
  clear B3
  have B3 := Lib.hid hbr
  clear hbr
  clear Fv19_6
  have Fv19_6 : Hid (X4_21.heap[b6]? = some (.cells #[.slice (some ⟨p2, 0, none⟩) n n, .slice (some ⟨q2, 0, none⟩) n n] 30 (0, 0))) := Lib.hid (h1)
  have HszX4_21 := Lib.hid hsz
  clear h1 hfar hbel hsz
  simp only [ptr, Act.put, List.setIfInBounds_toArray, List.set_cons_zero, List.set_cons_succ]
  refine wpList_nil ?_
  have HE2 := Lib.hid (show (gs ++ List.replicate (n - n) false)[i]? = some false by rw [List.getElem?_append_left (by omega)]; exact HE.out)
  go_upto_region 6 with fail
  refine wp_region_lit ?_
  refine wpList_run (by kernel_rfl) (.pointer (some ⟨b6, 1, none⟩)) X4_21 (xo_fld0 1 b6 1 (by kernel_rfl) rfl rfl) ?_
  simp only [Act.put, List.setIfInBounds_toArray, List.set_cons_zero, List.set_cons_succ]
  refine wpList_run (by kernel_rfl) (.slice (some ⟨q2, 0, none⟩) n n) X4_21 (xo_load1 ⟨b6, 1, none⟩ _ (cells_at Fv19_6.out 1 rfl) Tryd.underlying28 rfl rfl rfl) ?_
  simp only [Act.put, List.setIfInBounds_toArray, List.set_cons_zero, List.set_cons_succ]
  refine wpList_run (by kernel_rfl) (.int .i64 (i : Int)) X4_21 rfl ?_
  simp only [Act.put, List.setIfInBounds_toArray, List.set_cons_zero, List.set_cons_succ]
  refine wpList_run (by kernel_rfl) (.pointer (some (gad (some ⟨q2, 0, none⟩) (i * 1)))) X4_21 (xg_idx .i64 (RowG.sg (Fv11_c.out.keep B3.out) (by rw [List.length_append, List.length_replicate, hgn]; omega) (Nat.le_refl _) (by omega)) HE2.out Tryd.underlying28 (by kernel_rfl) rfl rfl rfl) ?_
  simp only [Act.put, List.setIfInBounds_toArray, List.set_cons_zero, List.set_cons_succ]
  refine wpList_storeW q2 _ _ 4 (by kernel_rfl) (RowG.h (Fv11_c.out.keep B3.out)) (xg_store (Fv11_c.out.keep B3.out) (List.getElem?_eq_some_iff.1 HE2.out).1 true (by kernel_rfl) rfl rfl rfl) ?_
  intro X4_22 h1 hfar hbel hsz
  have YFv9_c : RowG rdC X4_22 p2 24 (rs ++ List.replicate (n - n) (Rd.mk 0 0 0 0)) := hfar _ _ N13.out (Fv9_c.out.keep B3.out)
  have YFv19_6 : X4_22.heap[b6]? = some (.cells #[.slice (some ⟨p2, 0, none⟩) n n, .slice (some ⟨q2, 0, none⟩) n n] 30 (0, 0)) := hfar _ _ (Ne.symm N17_3.out) Fv19_6.out
  have Gs23 : Hid (V2.heap.size ≤ b6) := Lib.hid (Nat.le_trans B2.out.size Ge18.out)
  have C2_4 := Lib.hid (bel_step B2.out B3.out)
  have hbr := hbel _ _ Ge8.out C2_4.out
  clear B2
  have B2 := Lib.hid hbr
  clear hbr
  clear Fv9_c
  have Fv9_c : Hid (RowG rdC X4_22 p2 24 (rs ++ List.replicate (n - n) (Rd.mk 0 0 0 0))) := Lib.hid YFv9_c
  clear YFv9_c
  clear Fv19_6
  have Fv19_6 : Hid (X4_22.heap[b6]? = some (.cells #[.slice (some ⟨p2, 0, none⟩) n n, .slice (some ⟨q2, 0, none⟩) n n] 30 (0, 0))) := Lib.hid YFv19_6
  clear YFv19_6
  clear Fv11_c
  have Fv11_c : Hid (RowG boC X4_22 q2 4 ((gs ++ List.replicate (n - n) false).set i true)) := Lib.hid (h1)
  have HszX4_22 := Lib.hid hsz
  clear h1 hfar hbel hsz
  simp only [ptr, Act.put, List.setIfInBounds_toArray, List.set_cons_zero, List.set_cons_succ]
  refine wpList_nil ?_
  go_upto_region 7 with fail
  refine wp_region_lit ?_
  refine wpList_run (by kernel_rfl) (.agg #[.slice (some ⟨p2, 0, none⟩) n n, .slice (some ⟨q2, 0, none⟩) n n]) X4_22 (xo_loadW b6 _ Fv19_6.out Tryd.underlying30 rfl (by kernel_rfl) rfl rfl) ?_
  simp only [Act.put, List.setIfInBounds_toArray, List.set_cons_zero, List.set_cons_succ]
  have C1_3 := Lib.hid (bel_step B1.out B2.out)
  refine wpList_storeW (w.heap.size + 1) #[.slice none 0 0, .slice none 0 0] #[.slice (some ⟨p2, 0, none⟩) n n, .slice (some ⟨q2, 0, none⟩) n n] 30 (by kernel_rfl) (heap_keep Fv1_4.out C1_3.out) (xo_storeW (w.heap.size + 1) #[.slice none 0 0, .slice none 0 0] #[.slice (some ⟨p2, 0, none⟩) n n, .slice (some ⟨q2, 0, none⟩) n n] (heap_keep Fv1_4.out C1_3.out) (by kernel_rfl) rfl (by simp [Value.oneCell']) rfl rfl rfl) ?_
  intro X3_24 h1 hfar hbel hsz
  have YFv0_2 : X3_24.heap[w.heap.size]? = some (.cells #[.slice A n c, .slice B n d] 30 (0, 0)) := hfar _ _ Nb0_1.out (heap_keep Fv0_2.out C1_3.out)
  have YFv9_c : RowG rdC X3_24 p2 24 (rs ++ List.replicate (n - n) (Rd.mk 0 0 0 0)) := hfar _ _ (Ne.symm N4.out) Fv9_c.out
  have YFv11_c : RowG boC X3_24 q2 4 ((gs ++ List.replicate (n - n) false).set i true) := hfar _ _ (Ne.symm N7.out) Fv11_c.out
  have YFv19_6 : X3_24.heap[b6]? = some (.cells #[.slice (some ⟨p2, 0, none⟩) n n, .slice (some ⟨q2, 0, none⟩) n n] 30 (0, 0)) := hfar _ _ (Ne.symm N15_1.out) Fv19_6.out
  have Gs25 : Hid (w.heap.size ≤ p2) := Lib.hid (Nat.le_trans C0_2.out.size Ge5.out)
  have Gs26 : Hid (w.heap.size ≤ q2) := Lib.hid (Nat.le_trans C0_2.out.size Ge8.out)
  have Gs27 : Hid (w.heap.size ≤ b6) := Lib.hid (Nat.le_trans C0_2.out.size Gs23.out)
  have C0_3 := Lib.hid (bel_step C0_2.out B2.out)
  have hbr := hbel _ _ Gb1.out C0_3.out
  clear B0
  have B0 := Lib.hid hbr
  clear hbr
  clear Fv0_2
  have Fv0_2 : Hid (X3_24.heap[w.heap.size]? = some (.cells #[.slice A n c, .slice B n d] 30 (0, 0))) := Lib.hid YFv0_2
  clear YFv0_2
  clear Fv9_c
  have Fv9_c : Hid (RowG rdC X3_24 p2 24 (rs ++ List.replicate (n - n) (Rd.mk 0 0 0 0))) := Lib.hid YFv9_c
  clear YFv9_c
  clear Fv11_c
  have Fv11_c : Hid (RowG boC X3_24 q2 4 ((gs ++ List.replicate (n - n) false).set i true)) := Lib.hid YFv11_c
  clear YFv11_c
  clear Fv19_6
  have Fv19_6 : Hid (X3_24.heap[b6]? = some (.cells #[.slice (some ⟨p2, 0, none⟩) n n, .slice (some ⟨q2, 0, none⟩) n n] 30 (0, 0))) := Lib.hid YFv19_6
  clear YFv19_6
  clear Fv1_4
  have Fv1_4 : Hid (X3_24.heap[(w.heap.size + 1)]? = some (.cells #[.slice (some ⟨p2, 0, none⟩) n n, .slice (some ⟨q2, 0, none⟩) n n] 30 (0, 0))) := Lib.hid (h1)
  have HszX3_24 := Lib.hid hsz
  clear h1 hfar hbel hsz
  simp only [ptr, Act.put, List.setIfInBounds_toArray, List.set_cons_zero, List.set_cons_succ]
  refine wpList_run (by kernel_rfl) (.int .i64 0) X3_24 rfl ?_
  simp only [Act.put, List.setIfInBounds_toArray, List.set_cons_zero, List.set_cons_succ]
  refine wpList_nil ?_
  have hp : RowG rdC X3_24 p2 24 rs := by
    have h0 := Fv9_c.out
    rw [Nat.sub_self, List.replicate_zero, List.append_nil] at h0
    exact h0
  have hq : RowG boC X3_24 q2 4 (gs.set i true) := by
    have h0 := Fv11_c.out
    rw [Nat.sub_self, List.replicate_zero, List.append_nil] at h0
    exact h0
  go_wp2_with fail
  refine bodyPost_ret (v := .tuple #[.agg #[.slice (some ⟨p2, 0, none⟩) n n, .slice (some ⟨q2, 0, none⟩) n n], .int .i64 0]) ?_ rfl ⟨_, _, _, _, rfl, RowG.sg hp hln (Nat.le_refl _) (by omega), RowG.sg hq (by rw [List.length_set, hgn]) (Nat.le_refl _) (by omega), B0.out⟩
  exact results_row_tmp rfl _ _ (w.heap.size + 1) 30 _ (0, 0) _ _ rfl rfl Fv1_4.out Tryd.underlying30 rfl (by kernel_rfl)
set_option maxRecDepth 100000 in
set_option maxHeartbeats 8000000 in
theorem rretract_spent (A : Option Addr) (n c : Nat) (rs : List Rd) (B : Option Addr) (d : Nat) (gs : List Bool) (i : Nat) (hg : gs[i]? = some true) (hn : n ≤ 1000000) (w : World) (hL : Sg rdC 4 w A n c rs) (hG : Sg boC 1 w B n d gs) : Calls Tryd.prog 15 #[.agg #[.slice A n c, .slice B n d], .int .i64 (i : Int)] w fun e w' => e = .returned (.tuple #[.agg #[.slice none 0 0, .slice none 0 0], .int .i64 120]) ∧ Below w.heap.size w w' := by
  have HL := Lib.hid hL
  have HG := Lib.hid hG
  have hln := hL.len
  have hgn := hG.len
  clear hL hG
  have hin := (List.getElem?_eq_some_iff.1 hg).1
  rw [hgn] at hin
  have hi0 : ¬ (i : Int) < 0 := by omega
  have hi1 : ¬ (i : Int) ≥ (n : Int) := by omega
  have HE := Lib.hid hg
  clear hg
  go_enter Tryd.func15, Tryd.ntmps15
  go_upto_region 1 with fail
  refine wp_named2 (fun V1 hb g0 g1 hlt => ?_)
  have B0 := Lib.hid hb
  have Fv0_2 : Hid (V1.heap[w.heap.size]? = some (.cells #[.slice A n c, .slice B n d] 30 (0, 0))) := Lib.hid (g0)
  have Fv1_4 : Hid (V1.heap[(w.heap.size + 1)]? = some (.cells #[.slice none 0 0, .slice none 0 0] 30 (0, 0))) := Lib.hid (g1)
  have Nb0_1 : Hid (w.heap.size ≠ (w.heap.size + 1)) := Lib.hid (by omega)
  have Gb0 : Hid (w.heap.size ≤ w.heap.size) := Lib.hid (by omega)
  have Gb1 : Hid (w.heap.size ≤ (w.heap.size + 1)) := Lib.hid (by omega)
  clear hb g0 g1 hlt
  have Lt0 : Hid (w.heap.size < V1.heap.size) := Lib.hid (xp_lt Fv0_2.out)
  have Lt1 : Hid ((w.heap.size + 1) < V1.heap.size) := Lib.hid (xp_lt Fv1_4.out)
  refine wp_region_lit ?_
  refine wpList_run (by kernel_rfl) (.int .i64 (i : Int)) V1 rfl ?_
  simp only [Act.put, List.setIfInBounds_toArray, List.set_cons_zero, List.set_cons_succ]
  refine wpList_run (by kernel_rfl) (.bool false) V1 (xo_lssF .i64 (i : Int) 0 (by omega) rfl rfl rfl) ?_
  simp only [Act.put, List.setIfInBounds_toArray, List.set_cons_zero, List.set_cons_succ]
  refine wpList_run (by kernel_rfl) (.bool false) V1 rfl ?_
  simp only [Act.put, List.setIfInBounds_toArray, List.set_cons_zero, List.set_cons_succ]
  refine wpList_run (by kernel_rfl) (.int .i64 (i : Int)) V1 rfl ?_
  simp only [Act.put, List.setIfInBounds_toArray, List.set_cons_zero, List.set_cons_succ]
  refine wpList_run (by kernel_rfl) (.pointer (some ⟨w.heap.size, 0, none⟩)) V1 (xo_fld0 0 w.heap.size 0 (by kernel_rfl) rfl rfl) ?_
  simp only [Act.put, List.setIfInBounds_toArray, List.set_cons_zero, List.set_cons_succ]
  refine wpList_run (by kernel_rfl) (.slice A n c) V1 (xo_load1 ⟨w.heap.size, 0, none⟩ _ (cells_at Fv0_2.out 0 rfl) Tryd.underlying27 rfl rfl rfl) ?_
  simp only [Act.put, List.setIfInBounds_toArray, List.set_cons_zero, List.set_cons_succ]
  refine wpList_run (by kernel_rfl) (.int .i64 (n : Int)) V1 (xo_len A n c Tryd.underlying27 rfl rfl) ?_
  simp only [Act.put, List.setIfInBounds_toArray, List.set_cons_zero, List.set_cons_succ]
  refine wpList_run (by kernel_rfl) (.bool false) V1 (xo_geqF .i64 (i : Int) (n : Int) (by omega) rfl rfl rfl) ?_
  simp only [Act.put, List.setIfInBounds_toArray, List.set_cons_zero, List.set_cons_succ]
  refine wpList_run (by kernel_rfl) (.bool false) V1 rfl ?_
  simp only [Act.put, List.setIfInBounds_toArray, List.set_cons_zero, List.set_cons_succ]
  refine wpList_nil ?_
  go_upto_region 3 with fail
  refine wp_region_lit ?_
  refine wpList_run (by kernel_rfl) (.pointer (some ⟨w.heap.size, 1, none⟩)) V1 (xo_fld0 1 w.heap.size 1 (by kernel_rfl) rfl rfl) ?_
  simp only [Act.put, List.setIfInBounds_toArray, List.set_cons_zero, List.set_cons_succ]
  refine wpList_run (by kernel_rfl) (.slice B n d) V1 (xo_load1 ⟨w.heap.size, 1, none⟩ _ (cells_at Fv0_2.out 1 rfl) Tryd.underlying28 rfl rfl rfl) ?_
  simp only [Act.put, List.setIfInBounds_toArray, List.set_cons_zero, List.set_cons_succ]
  refine wpList_run (by kernel_rfl) (.int .i64 (i : Int)) V1 rfl ?_
  simp only [Act.put, List.setIfInBounds_toArray, List.set_cons_zero, List.set_cons_succ]
  refine wpList_run (by kernel_rfl) (.pointer (some (gad B (i * 1)))) V1 (xg_idx .i64 (HG.out.keep B0.out) HE.out Tryd.underlying28 (by kernel_rfl) rfl rfl rfl) ?_
  simp only [Act.put, List.setIfInBounds_toArray, List.set_cons_zero, List.set_cons_succ]
  refine wpList_run (by kernel_rfl) (.bool true) V1 (xg_load1 (E := boC) (i := i) (j := 0) (HG.out.keep B0.out) HE.out rfl rfl Tryd.underlying4 rfl rfl rfl) ?_
  simp only [Act.put, List.setIfInBounds_toArray, List.set_cons_zero, List.set_cons_succ]
  refine wpList_nil ?_
  go_upto_region 4 with fail
  refine wp_region_lit ?_
  refine wpList_run (by kernel_rfl) (.agg #[.slice none 0 0, .slice none 0 0]) V1 (by unfold execOp; go_simp) ?_
  simp only [Act.put, List.setIfInBounds_toArray, List.set_cons_zero, List.set_cons_succ]
  refine wpList_storeW (w.heap.size + 1) #[.slice none 0 0, .slice none 0 0] #[.slice none 0 0, .slice none 0 0] 30 (by kernel_rfl) Fv1_4.out (xo_storeW (w.heap.size + 1) #[.slice none 0 0, .slice none 0 0] #[.slice none 0 0, .slice none 0 0] Fv1_4.out (by kernel_rfl) rfl (by simp [Value.oneCell']) rfl rfl rfl) ?_
  intro X1_2 h1 hfar hbel hsz
  have YFv0_2 : X1_2.heap[w.heap.size]? = some (.cells #[.slice A n c, .slice B n d] 30 (0, 0)) := hfar _ _ Nb0_1.out Fv0_2.out
  have hbr := hbel _ _ Gb1.out B0.out
  clear B0
  have B0 := Lib.hid hbr
  clear hbr
  clear Fv0_2
  have Fv0_2 : Hid (X1_2.heap[w.heap.size]? = some (.cells #[.slice A n c, .slice B n d] 30 (0, 0))) := Lib.hid YFv0_2
  clear YFv0_2
  clear Fv1_4
  have Fv1_4 : Hid (X1_2.heap[(w.heap.size + 1)]? = some (.cells #[.slice none 0 0, .slice none 0 0] 30 (0, 0))) := Lib.hid (h1)
  have HszX1_2 := Lib.hid hsz
  clear h1 hfar hbel hsz
  simp only [ptr, Act.put, List.setIfInBounds_toArray, List.set_cons_zero, List.set_cons_succ]
  refine wpList_run (by kernel_rfl) (.int .i64 120) X1_2 rfl ?_
  simp only [Act.put, List.setIfInBounds_toArray, List.set_cons_zero, List.set_cons_succ]
  refine wpList_nil ?_
  go_wp2_with fail
  refine bodyPost_ret (v := .tuple #[.agg #[.slice none 0 0, .slice none 0 0], .int .i64 120]) ?_ rfl ⟨rfl, B0.out⟩
  exact results_row_tmp rfl _ _ (w.heap.size + 1) 30 _ (0, 0) _ _ rfl rfl Fv1_4.out Tryd.underlying30 rfl (by kernel_rfl)
set_option maxRecDepth 100000 in
set_option maxHeartbeats 8000000 in
theorem rretract_ok (A : Option Addr) (n c : Nat) (rs : List Rd) (B : Option Addr) (d : Nat) (gs : List Bool) (i : Nat) (hg : gs[i]? = some false) (hn : n ≤ 1000000) (w : World) (hL : Sg rdC 4 w A n c rs) (hG : Sg boC 1 w B n d gs) : Calls Tryd.prog 15 #[.agg #[.slice A n c, .slice B n d], .int .i64 (i : Int)] w fun e w' => ∃ A2 c2 B2 d2, e = .returned (.tuple #[.agg #[.slice A2 n c2, .slice B2 n d2], .int .i64 0]) ∧ Sg rdC 4 w' A2 n c2 rs ∧ Sg boC 1 w' B2 n d2 (gs.set i true) ∧ Below w.heap.size w w' := by
  have HL := Lib.hid hL
  have HG := Lib.hid hG
  have hln := hL.len
  have hgn := hG.len
  clear hL hG
  have hin := (List.getElem?_eq_some_iff.1 hg).1
  rw [hgn] at hin
  have hi0 : ¬ (i : Int) < 0 := by omega
  have hi1 : ¬ (i : Int) ≥ (n : Int) := by omega
  have HE := Lib.hid hg
  clear hg
  go_enter Tryd.func15, Tryd.ntmps15
  go_upto_region 1 with fail
  refine wp_named2 (fun V1 hb g0 g1 hlt => ?_)
  have B0 := Lib.hid hb
  have Fv0_2 : Hid (V1.heap[w.heap.size]? = some (.cells #[.slice A n c, .slice B n d] 30 (0, 0))) := Lib.hid (g0)
  have Fv1_4 : Hid (V1.heap[(w.heap.size + 1)]? = some (.cells #[.slice none 0 0, .slice none 0 0] 30 (0, 0))) := Lib.hid (g1)
  have Nb0_1 : Hid (w.heap.size ≠ (w.heap.size + 1)) := Lib.hid (by omega)
  have Gb0 : Hid (w.heap.size ≤ w.heap.size) := Lib.hid (by omega)
  have Gb1 : Hid (w.heap.size ≤ (w.heap.size + 1)) := Lib.hid (by omega)
  clear hb g0 g1 hlt
  have Lt0 : Hid (w.heap.size < V1.heap.size) := Lib.hid (xp_lt Fv0_2.out)
  have Lt1 : Hid ((w.heap.size + 1) < V1.heap.size) := Lib.hid (xp_lt Fv1_4.out)
  refine wp_region_lit ?_
  refine wpList_run (by kernel_rfl) (.int .i64 (i : Int)) V1 rfl ?_
  simp only [Act.put, List.setIfInBounds_toArray, List.set_cons_zero, List.set_cons_succ]
  refine wpList_run (by kernel_rfl) (.bool false) V1 (xo_lssF .i64 (i : Int) 0 (by omega) rfl rfl rfl) ?_
  simp only [Act.put, List.setIfInBounds_toArray, List.set_cons_zero, List.set_cons_succ]
  refine wpList_run (by kernel_rfl) (.bool false) V1 rfl ?_
  simp only [Act.put, List.setIfInBounds_toArray, List.set_cons_zero, List.set_cons_succ]
  refine wpList_run (by kernel_rfl) (.int .i64 (i : Int)) V1 rfl ?_
  simp only [Act.put, List.setIfInBounds_toArray, List.set_cons_zero, List.set_cons_succ]
  refine wpList_run (by kernel_rfl) (.pointer (some ⟨w.heap.size, 0, none⟩)) V1 (xo_fld0 0 w.heap.size 0 (by kernel_rfl) rfl rfl) ?_
  simp only [Act.put, List.setIfInBounds_toArray, List.set_cons_zero, List.set_cons_succ]
  refine wpList_run (by kernel_rfl) (.slice A n c) V1 (xo_load1 ⟨w.heap.size, 0, none⟩ _ (cells_at Fv0_2.out 0 rfl) Tryd.underlying27 rfl rfl rfl) ?_
  simp only [Act.put, List.setIfInBounds_toArray, List.set_cons_zero, List.set_cons_succ]
  refine wpList_run (by kernel_rfl) (.int .i64 (n : Int)) V1 (xo_len A n c Tryd.underlying27 rfl rfl) ?_
  simp only [Act.put, List.setIfInBounds_toArray, List.set_cons_zero, List.set_cons_succ]
  refine wpList_run (by kernel_rfl) (.bool false) V1 (xo_geqF .i64 (i : Int) (n : Int) (by omega) rfl rfl rfl) ?_
  simp only [Act.put, List.setIfInBounds_toArray, List.set_cons_zero, List.set_cons_succ]
  refine wpList_run (by kernel_rfl) (.bool false) V1 rfl ?_
  simp only [Act.put, List.setIfInBounds_toArray, List.set_cons_zero, List.set_cons_succ]
  refine wpList_nil ?_
  go_upto_region 3 with fail
  refine wp_region_lit ?_
  refine wpList_run (by kernel_rfl) (.pointer (some ⟨w.heap.size, 1, none⟩)) V1 (xo_fld0 1 w.heap.size 1 (by kernel_rfl) rfl rfl) ?_
  simp only [Act.put, List.setIfInBounds_toArray, List.set_cons_zero, List.set_cons_succ]
  refine wpList_run (by kernel_rfl) (.slice B n d) V1 (xo_load1 ⟨w.heap.size, 1, none⟩ _ (cells_at Fv0_2.out 1 rfl) Tryd.underlying28 rfl rfl rfl) ?_
  simp only [Act.put, List.setIfInBounds_toArray, List.set_cons_zero, List.set_cons_succ]
  refine wpList_run (by kernel_rfl) (.int .i64 (i : Int)) V1 rfl ?_
  simp only [Act.put, List.setIfInBounds_toArray, List.set_cons_zero, List.set_cons_succ]
  refine wpList_run (by kernel_rfl) (.pointer (some (gad B (i * 1)))) V1 (xg_idx .i64 (HG.out.keep B0.out) HE.out Tryd.underlying28 (by kernel_rfl) rfl rfl rfl) ?_
  simp only [Act.put, List.setIfInBounds_toArray, List.set_cons_zero, List.set_cons_succ]
  refine wpList_run (by kernel_rfl) (.bool false) V1 (xg_load1 (E := boC) (i := i) (j := 0) (HG.out.keep B0.out) HE.out rfl rfl Tryd.underlying4 rfl rfl rfl) ?_
  simp only [Act.put, List.setIfInBounds_toArray, List.set_cons_zero, List.set_cons_succ]
  refine wpList_nil ?_
  go_upto_region 5 with fail
  refine wp_region_lit ?_
  refine wpList_mk (by kernel_rfl) #[] 4 0 0 (xo_empty (size := 1) Tryd.underlying28 (by kernel_rfl) rfl V1) ?_
  intro g23 V2 hge h0 hb
  have hge2 := Nat.le_trans (Below.refl V1.heap.size V1).size hge
  have B1 := Lib.hid hb
  have Ow23 : Hid (V2.ownsRow V1.heap.size 4 1 (.slice (some ⟨g23, 0, none⟩) 0 0) 0 (fl boC [])) := Lib.hid (own_new h0 hge2)
  clear hge hge2 h0 hb
  simp only [ptr, Act.put, List.setIfInBounds_toArray, List.set_cons_zero, List.set_cons_succ]
  refine wpList_run (by kernel_rfl) (.pointer (some ⟨w.heap.size, 1, none⟩)) V2 (xo_fld0 1 w.heap.size 1 (by kernel_rfl) rfl rfl) ?_
  simp only [Act.put, List.setIfInBounds_toArray, List.set_cons_zero, List.set_cons_succ]
  refine wpList_run (by kernel_rfl) (.slice B n d) V2 (xo_load1 ⟨w.heap.size, 1, none⟩ _ (cells_at (heap_keep Fv0_2.out B1.out) 1 rfl) Tryd.underlying28 rfl rfl rfl) ?_
  simp only [Act.put, List.setIfInBounds_toArray, List.set_cons_zero, List.set_cons_succ]
  have C0_2 := Lib.hid (bel_step B0.out B1.out)
  refine wpList_app2 (size := 1) (by kernel_rfl) (.tmp 23) (.tmp 25) 28 rfl (.bool false) 1 Tryd.underlying28 (by kernel_rfl) rfl (by decide) rfl Ow23.out B n d (fl boC gs) rfl (HG.out.keep C0_2.out).src (by unfold maxLen; omega) (by omega) B1.out.size ?_
  intro v26 X2_2 ho hb1 hg hloc
  have hox : X2_2.ownsRow V1.heap.size 4 1 v26 n (fl boC gs) := by first | exact ho | simpa using ho
  have hbr := B1.out.trans hb1
  clear B1
  have B1 := Lib.hid hbr
  clear hbr
  have Ow26_3 := Lib.hid hox
  clear ho hox hb1 hg hloc
  simp only [ptr, Act.put, List.setIfInBounds_toArray, List.set_cons_zero, List.set_cons_succ]
  refine wpList_run (by kernel_rfl) (v26) X2_2 rfl ?_
  simp only [Act.put, List.setIfInBounds_toArray, List.set_cons_zero, List.set_cons_succ]
  refine wpList_nil ?_
  obtain ⟨og4, oc4, rfl, hog⟩ := own_at (i := i) Ow26_3.out (by omega)
  have Hg4 := Lib.hid hog
  clear hog
  go_upto_region 6 with fail
  refine wp_region_lit ?_
  refine wpList_run (by kernel_rfl) (.slice (some ⟨og4, 0, none⟩) n oc4) X2_2 rfl ?_
  simp only [Act.put, List.setIfInBounds_toArray, List.set_cons_zero, List.set_cons_succ]
  refine wpList_run (by kernel_rfl) (.int .i64 (i : Int)) X2_2 rfl ?_
  simp only [Act.put, List.setIfInBounds_toArray, List.set_cons_zero, List.set_cons_succ]
  refine wpList_run (by kernel_rfl) (.pointer (some ((⟨og4, 0, none⟩ : Addr).add i))) X2_2 (xo_index1 .i64 ⟨og4, 0, none⟩ n oc4 i (by omega) Tryd.underlying28 (by kernel_rfl) rfl rfl rfl) ?_
  simp only [Act.put, List.setIfInBounds_toArray, List.set_cons_zero, List.set_cons_succ]
  refine wpList_ownStore (.bool true) (by kernel_rfl) Ow26_3.out (i := i) (by omega) (by kernel_rfl) rfl rfl rfl rfl ?_
  intro X2_5 ho hfar hbel hkin
  have hox : X2_5.ownsRow V1.heap.size 4 1 (.slice (some ⟨og4, 0, none⟩) n oc4) n (fl boC (gs.set i true)) := by rw [fl_set1 _ (fun b => .bool b)]; exact ho
  have hbr := hbel _ _ Hg4.out B1.out
  clear B1
  have B1 := Lib.hid hbr
  clear hbr
  clear Ow26_3
  have Ow26_3 := Lib.hid hox
  clear ho hfar hbel hox hkin
  simp only [ptr, Act.put, List.setIfInBounds_toArray, List.set_cons_zero, List.set_cons_succ]
  refine wpList_nil ?_
  go_upto_region 7 with fail
  refine wp_region_lit ?_
  refine wpList_mk (by kernel_rfl) #[] 24 0 0 (xo_empty (size := 4) Tryd.underlying27 (by kernel_rfl) rfl X2_5) ?_
  intro g30 V3 hge h0 hb
  have Ap6 : Hid (ApartV (.slice (some ⟨og4, 0, none⟩) n oc4) (.slice (some ⟨g30, 0, none⟩) 0 0)) := Lib.hid (ApartV.new Ow26_3.out hge)
  have hge2 := Nat.le_trans B1.out.size hge
  have B2 := Lib.hid hb
  have Ow30 : Hid (V3.ownsRow V1.heap.size 24 4 (.slice (some ⟨g30, 0, none⟩) 0 0) 0 (fl rdC [])) := Lib.hid (own_new h0 hge2)
  clear hge hge2 h0 hb
  simp only [ptr, Act.put, List.setIfInBounds_toArray, List.set_cons_zero, List.set_cons_succ]
  refine wpList_run (by kernel_rfl) (.pointer (some ⟨w.heap.size, 0, none⟩)) V3 (xo_fld0 0 w.heap.size 0 (by kernel_rfl) rfl rfl) ?_
  simp only [Act.put, List.setIfInBounds_toArray, List.set_cons_zero, List.set_cons_succ]
  have C1_3 := Lib.hid (bel_step B1.out B2.out)
  refine wpList_run (by kernel_rfl) (.slice A n c) V3 (xo_load1 ⟨w.heap.size, 0, none⟩ _ (cells_at (heap_keep Fv0_2.out C1_3.out) 0 rfl) Tryd.underlying27 rfl rfl rfl) ?_
  simp only [Act.put, List.setIfInBounds_toArray, List.set_cons_zero, List.set_cons_succ]
  have C0_2 := Lib.hid (bel_step B0.out B1.out)
  have C0_3 := Lib.hid (bel_step C0_2.out B2.out)
  refine wpList_app2 (size := 4) (by kernel_rfl) (.tmp 30) (.tmp 32) 27 rfl (.agg #[.int .i64 0, .int .i64 0, .int .i64 0, .int .i64 0]) 32 Tryd.underlying27 (by kernel_rfl) rfl (by decide) rfl Ow30.out A n c (fl rdC rs) rfl (HL.out.keep C0_3.out).src (by unfold maxLen; omega) (by omega) C1_3.out.size ?_
  intro v33 X3_7 ho hb1 hg hloc
  have hox : X3_7.ownsRow V1.heap.size 24 4 v33 n (fl rdC rs) := by first | exact ho | simpa using ho
  have hzOw26_3 := own_other (own_keep Ow26_3.out B2.out) hg Ap6.out.symm
  have hpOw26_3 := ApartV.grow Ap6.out.symm hloc (own_keep Ow26_3.out B2.out)
  have hbr := C1_3.out.trans hb1
  clear B1
  have B1 := Lib.hid hbr
  clear hbr
  have Ow33_8 := Lib.hid hox
  clear Ow26_3
  have Ow26_3 := Lib.hid hzOw26_3
  have Ap9 := Lib.hid hpOw26_3
  clear hzOw26_3 hpOw26_3
  clear ho hox hb1 hg hloc
  simp only [ptr, Act.put, List.setIfInBounds_toArray, List.set_cons_zero, List.set_cons_succ]
  obtain ⟨A10, c10, rfl⟩ := own_form Ow33_8.out
  refine wpList_run (by kernel_rfl) (.slice (some ⟨og4, 0, none⟩) n oc4) X3_7 rfl ?_
  simp only [Act.put, List.setIfInBounds_toArray, List.set_cons_zero, List.set_cons_succ]
  refine wpList_run (by kernel_rfl) (.agg #[.slice A10 n c10, .slice (some ⟨og4, 0, none⟩) n oc4]) X3_7 (by unfold execOp; go_simp) ?_
  simp only [Act.put, List.setIfInBounds_toArray, List.set_cons_zero, List.set_cons_succ]
  refine wpList_storeW (w.heap.size + 1) #[.slice none 0 0, .slice none 0 0] #[.slice A10 n c10, .slice (some ⟨og4, 0, none⟩) n oc4] 30 (by kernel_rfl) (heap_keep Fv1_4.out B1.out) (xo_storeW (w.heap.size + 1) #[.slice none 0 0, .slice none 0 0] #[.slice A10 n c10, .slice (some ⟨og4, 0, none⟩) n oc4] (heap_keep Fv1_4.out B1.out) (by kernel_rfl) rfl (by simp [Value.oneCell']) rfl rfl rfl) ?_
  intro X2_11 h1 hfar hbel hsz
  have YOw26_3 : X2_11.ownsRow V1.heap.size 4 1 (.slice (some ⟨og4, 0, none⟩) n oc4) n (fl boC (gs.set i true)) := own_farB Ow26_3.out Lt1.out hfar
  have YOw33_8 : X2_11.ownsRow V1.heap.size 24 4 (.slice A10 n c10) n (fl rdC rs) := own_farB Ow33_8.out Lt1.out hfar
  have YFv0_2 : X2_11.heap[w.heap.size]? = some (.cells #[.slice A n c, .slice B n d] 30 (0, 0)) := hfar _ _ Nb0_1.out (heap_keep Fv0_2.out B1.out)
  have C0_2 := Lib.hid (bel_step B0.out B1.out)
  have hbr := hbel _ _ Gb1.out C0_2.out
  clear B0
  have B0 := Lib.hid hbr
  clear hbr
  clear Fv0_2
  have Fv0_2 : Hid (X2_11.heap[w.heap.size]? = some (.cells #[.slice A n c, .slice B n d] 30 (0, 0))) := Lib.hid YFv0_2
  clear YFv0_2
  clear Ow26_3
  have Ow26_3 := Lib.hid YOw26_3
  clear YOw26_3
  clear Ow33_8
  have Ow33_8 := Lib.hid YOw33_8
  clear YOw33_8
  clear Fv1_4
  have Fv1_4 : Hid (X2_11.heap[(w.heap.size + 1)]? = some (.cells #[.slice A10 n c10, .slice (some ⟨og4, 0, none⟩) n oc4] 30 (0, 0))) := Lib.hid (h1)
  have HszX2_11 := Lib.hid hsz
  clear h1 hfar hbel hsz
  simp only [ptr, Act.put, List.setIfInBounds_toArray, List.set_cons_zero, List.set_cons_succ]
  refine wpList_run (by kernel_rfl) (.int .i64 0) X2_11 rfl ?_
  simp only [Act.put, List.setIfInBounds_toArray, List.set_cons_zero, List.set_cons_succ]
  refine wpList_nil ?_
  have hs1 := Sg.ownS Ow33_8.out
  have hs2 := Sg.ownS Ow26_3.out
  go_wp2_with fail
  refine bodyPost_ret (v := .tuple #[.agg #[.slice A10 n c10, .slice (some ⟨og4, 0, none⟩) n oc4], .int .i64 0]) ?_ rfl ⟨_, _, _, _, rfl, hs1, hs2, B0.out⟩
  exact results_row_tmp rfl _ _ (w.heap.size + 1) 30 _ (0, 0) _ _ rfl rfl Fv1_4.out Tryd.underlying30 rfl (by kernel_rfl)
end Go.Proofs.YtopicjdmajlndaaDoor

namespace Go.Proofs.YtopicjdmajlndaaDoor.K
set_option linter.unusedVariables false
set_option linter.unusedSimpArgs false
set_option linter.unusedSectionVars false
set_option maxRecDepth 8000
open Go.RowKit
/-- orders: taken first (it only looks), alone, or one of two -/
inductive OT where
  | nil : OT
  | q (i : Nat) (t : OT) : OT
  | one (i : Nat) (t : OT) : OT
  | fork (i : Nat) (t : OT) (j : Nat) (u : OT) : OT
def OT.len : OT → Nat
  | .nil => 0
  | .q _ t => t.len + 1
  | .one _ t => t.len + 1
  | .fork _ t _ _ => t.len + 1
def OT.qs : List Nat → OT → OT
  | [], t => t
  | i :: is, t => .q i (OT.qs is t)
section
variable {P : Program} {ops : Array Oper} {S : World → Prop} {Q : Exit → Act → World → Prop}
def wpOT (P : Program) (ops : Array Oper) (S : World → Prop) (Q : Exit → Act → World → Prop) : OT → Act → World → Prop
  | .nil, a, w => Q .normal a w
  | .q i t, a, w => ∃ o, ops[i]? = some o ∧ ∃ v, YieldsIf P ops S o v a ∧ wpOT P ops S Q t (a.put o.dst v) w
  | .one i t, a, w => ∃ o, ops[i]? = some o ∧ Region.wanted o (yielded ops a.tmps) = true ∧ hOp P o (fun v w' => S w' ∧ wpOT P ops S Q t (a.put o.dst v) w') a w
  | .fork i t j u, a, w => (∃ o, ops[i]? = some o ∧ Region.wanted o (yielded ops a.tmps) = true ∧ hOp P o (fun v w' => S w' ∧ wpOT P ops S Q t (a.put o.dst v) w') a w) ∧
      (∃ o, ops[j]? = some o ∧ Region.wanted o (yielded ops a.tmps) = true ∧ hOp P o (fun v w' => S w' ∧ wpOT P ops S Q u (a.put o.dst v) w') a w)
def okT (ops : Array Oper) : OT → Array Bool → Bool
  | .nil, m => (Region.ready .any ops m).isEmpty
  | .q i t, m => Region.free .any ops m i && (Region.ready .any ops m).contains i && okT ops t (m.setIfInBounds i true)
  | .one i t, m => (Region.ready .any ops m == [i]) && okT ops t (m.setIfInBounds i true)
  | .fork i t j u, m => (Region.ready .any ops m == [i, j]) && (t.len == u.len) && okT ops t (m.setIfInBounds i true) && okT ops u (m.setIfInBounds j true)
theorem wpAnyH_of_wpOT (hs : Region.noSelect ops = true) (hQ : ∀ c a (dt : Option Tmp) v w, Q (.panic c) (Act.put a dt v) w → Q (.panic c) a w) : ∀ (t : OT) (m : Array Bool) (a : Act) (w : World), okT ops t m = true → S w → wpOT P ops S Q t a w → wpAnyH P .any ops Q S t.len m a w
  | .nil, m, a, w, ho, hS, h => wpAnyH_done (by unfold okT at ho; simpa using ho) h _
  | .q i t, m, a, w, ho, hS, h => by
    unfold okT at ho
    rw [Bool.and_eq_true, Bool.and_eq_true] at ho
    obtain ⟨o, hi, v, hy, hk⟩ := h
    exact wpAnyH_take hi hs ho.1.1 ho.1.2 (fun c a w h => hQ c a _ _ w h) hy hS (wpAnyH_of_wpOT hs hQ t _ _ w ho.2 hS hk)
  | .one i t, m, a, w, ho, hS, h => by
    unfold okT at ho
    rw [Bool.and_eq_true] at ho
    obtain ⟨o, hi, hw, hk⟩ := h
    refine wpAnyH_all (rs := [i]) (by simpa using ho.1) (by simp) ?_
    intro j hj
    obtain rfl : j = i := by simpa using hj
    exact wpOp_of_hOp hi hw (hOp_mono (fun v w' hk => ⟨hk.1, wpAnyH_of_wpOT hs hQ t _ _ w' ho.2 hk.1 hk.2⟩) hk)
  | .fork i t j u, m, a, w, ho, hS, h => by
    unfold okT at ho
    rw [Bool.and_eq_true, Bool.and_eq_true, Bool.and_eq_true] at ho
    obtain ⟨⟨⟨h1, h2⟩, h3⟩, h4⟩ := ho
    have h2 : t.len = u.len := by simpa using h2
    obtain ⟨⟨o, hi, hw, hk⟩, ⟨o2, hi2, hw2, hk2⟩⟩ := h
    refine wpAnyH_all (rs := [i, j]) (by simpa using h1) (by simp) ?_
    intro q hq
    rcases List.mem_cons.1 hq with rfl | hq
    · exact wpOp_of_hOp hi hw (hOp_mono (fun v w' hk => ⟨hk.1, wpAnyH_of_wpOT hs hQ t _ _ w' h3 hk.1 hk.2⟩) hk)
    · obtain rfl : q = j := by simpa using hq
      exact wpOp_of_hOp hi2 hw2 (hOp_mono (fun v w' hk => ⟨hk.1, by have := wpAnyH_of_wpOT hs hQ u _ _ w' h4 hk.1 hk.2; rw [← h2] at this; exact this⟩) hk2)
theorem wp_ordT (S : World → Prop) (t : OT) {id : Nat} {a : Act} {w : World} {l : List Oper} (hm : P.follows .mixedOrders = true) (hs : Region.noSelect l.toArray = true) (hQ : ∀ c a (dt : Option Tmp) v w, Q (.panic c) (Act.put a dt v) w → Q (.panic c) a w)
    (hn : t.len = l.length) (ho : okT l.toArray t (Array.replicate l.length false) = true) (hS : S w.drew) (h : wpOT P l.toArray S Q t a w.drew) : (Code.region id l.toArray true).wp P Q a w := by
  refine wp_region_held (S := S) hm ?_
  have := wpAnyH_of_wpOT hs hQ t _ a w.drew ho hS h
  rw [hn] at this
  simpa using this
theorem wpOT_nil {a : Act} {w : World} (h : Q .normal a w) : wpOT P ops S Q .nil a w := h
theorem wpOT_q {i : Nat} {t : OT} {o : Oper} {l : List Oper} {a : Act} {w : World} (v : Value) (hi : l[i]? = some o) (hw : Region.wanted o (yielded l.toArray a.tmps) = true) (hr : ∀ w', S w' → (execOp a.eval o).run P w' = .ok (.value v) w') (h : wpOT P l.toArray S Q t (a.put o.dst v) w) : wpOT P l.toArray S Q (.q i t) a w :=
  ⟨o, by simpa using hi, v, .inl ⟨hw, hr⟩, h⟩
theorem wpOT_one {i : Nat} {t : OT} {o : Oper} {l : List Oper} {a : Act} {w : World} (hi : l[i]? = some o) (hw : Region.wanted o (yielded l.toArray a.tmps) = true) (h : hOp P o (fun v w' => S w' ∧ wpOT P l.toArray S Q t (a.put o.dst v) w') a w) : wpOT P l.toArray S Q (.one i t) a w :=
  ⟨o, by simpa using hi, hw, h⟩
theorem wpOT_fork {i j : Nat} {t u : OT} {a : Act} {w : World} (h1 : wpOT P ops S Q (.one i t) a w) (h2 : wpOT P ops S Q (.one j u) a w) : wpOT P ops S Q (.fork i t j u) a w := ⟨h1, h2⟩
end
section
variable {P : Program}
theorem hOp_val {o : Oper} {a : Act} {w : World} {K : Value → World → Prop} (v : Value) (hr : (execOp a.eval o).run P w = .ok (.value v) w) (h : K v w) : hOp P o K a w := by
  unfold hOp
  rw [hr]
  exact h
/-- a new variable -/
theorem hOp_new {o : Oper} {a : Act} {w : World} {K : Value → World → Prop} (z : Array Value) (t : TypeId) (hr : (execOp a.eval o).run P w = .ok (.value (.pointer (some ⟨w.heap.size, 0, none⟩))) (w.alloc (.cells z t)))
    (h : ∀ b W, w.heap.size ≤ b → W.heap[b]? = some (.cells z t (0, 0)) → Below w.heap.size w W → K (.pointer (some ⟨b, 0, none⟩)) W) : hOp P o K a w := by
  unfold hOp
  rw [hr]
  exact h _ _ (Nat.le_refl _) (heap_new w _) ((Below.refl _ _).alloc (Nat.le_refl _) _)
/-- a store of a whole row -/
theorem hOp_storeW {o : Oper} {a : Act} {w : World} {K : Value → World → Prop} (g : Nat) (old row : Array Value) (t : TypeId) (hg : w.heap[g]? = some (.cells old t (0, 0))) (hr : (execOp a.eval o).run P w = .ok .skip (w.setRow g row))
    (h : ∀ W, W.heap[g]? = some (.cells row t (0, 0)) → (∀ k o, k ≠ g → w.heap[k]? = some o → W.heap[k]? = some o) → (∀ B v0, B ≤ g → Below B v0 w → Below B v0 W) → W.heap.size = w.heap.size → K undef W) : hOp P o K a w := by
  unfold hOp
  rw [hr]
  refine h _ ?_ (fun k o hk h0 => ?_) (fun B v0 hB hb => bel_setRow hb hB _) (by simp [World.setRow])
  · simp [World.setRow, Array.getElem?_modify, hg]
  · simp [World.setRow, Array.getElem?_modify, Ne.symm hk, h0]
end
/-- a slice's value -/
def isSl : Value → Bool
  | .slice .. => true
  | _ => false
/-- what holds no slices lies far from a row of slices -/
theorem Sg.farSl {α : Type} {E : α → List Value} {k : Nat} [hE : Enc E k] {w w' : World} {A : Option Addr} {n c b : Nat} {xs : List α} {cs : Array Value} {t : TypeId} (h : Sg E k w A n c xs) (hn : ∀ x, ∀ u ∈ E x, isSl u = false) (hb : w.heap[b]? = some (.cells cs t (0, 0))) (hc : cs.all isSl = true)
    (hfar : ∀ q o, q ≠ b → w.heap[q]? = some o → w'.heap[q]? = some o) : Sg E k w' A n c xs :=
  ⟨h.len, h.cap, h.top, h.nil, fun i x hx => by
    obtain ⟨g, off, e, hr⟩ := h.at_ i x hx
    refine ⟨g, off, e, fun j v hv => ?_⟩
    have h1 := hr j v hv
    have hne : g ≠ b := by
      rintro rfl
      rw [cell_of_row w g _ cs t (0, 0) hb] at h1
      have h2 := Array.all_eq_true_iff_forall_mem.1 hc v (Array.mem_of_getElem? h1)
      have h3 := hn x v (List.mem_of_getElem? hv)
      rw [h2] at h3
      cases h3
    have hlt := World.block_lt_of_cell? _ _ h1
    have ho := Array.getElem?_eq_getElem hlt
    exact (World.cell?_of_block ((hfar g _ hne ho).trans ho.symm)).trans h1⟩
end Go.Proofs.YtopicjdmajlndaaDoor.K
namespace Go.Proofs.YtopicjdmajlndaaDoor
set_option linter.unusedVariables false
set_option linter.unusedSimpArgs false
set_option linter.unusedSectionVars false
open Go.RowKit Go.Proofs.YtopicjdmajlndaaDoor.K
theorem rd_nosl : ∀ x, ∀ u ∈ rdC x, isSl u = false := fun x u hu => by
  simp only [rdC, List.mem_cons, List.not_mem_nil, or_false] at hu
  rcases hu with rfl | rfl | rfl | rfl <;> rfl
theorem bo_nosl : ∀ x, ∀ u ∈ boC x, isSl u = false := fun x u hu => by
  simp only [boC, List.mem_cons, List.not_mem_nil, or_false] at hu
  subst hu
  rfl
section
variable {P : Program} {ev : Operand → Value} {o : Oper} {w : World} {x y : Operand} {t : TypeId}
theorem exec_eqRd (r : Rd) (ho : o.op = .binOp .eql 24 x y t) (hx : ev x = .agg #[.int .i64 r.who, .int .i64 r.when_, .int .i64 r.kind, .int .i64 r.value]) (hy : ev y = .agg #[.int .i64 r.who, .int .i64 r.when_, .int .i64 r.kind, .int .i64 r.value]) : (execOp ev o).run Tryd.prog w = .ok (.value (.bool true)) w := by
  unfold execOp
  rw [ho]
  simp only [hx, hy]
  go_simp
end
end Go.Proofs.YtopicjdmajlndaaDoor

namespace Go.Proofs.YtopicjdmajlndaaDoor
set_option linter.unusedVariables false
set_option linter.unusedSimpArgs false
set_option linter.unusedSectionVars false
set_option maxRecDepth 8000
open Go.RowKit Go.Proofs.YtopicjdmajlndaaDoor.K
attribute [local irreducible] wpList wpQuiet
theorem liveL_le (rs : List Rd) : ∀ gs : List Bool, (liveL rs gs).length ≤ rs.length := by
  induction rs with
  | nil => intro gs; cases gs <;> simp [liveL]
  | cons r rs ih =>
    intro gs
    cases gs with
    | nil => simp [liveL]
    | cons g gs =>
      have := ih gs
      simp only [liveL]
      split <;> simp <;> omega
end Go.Proofs.YtopicjdmajlndaaDoor

