/- Several texts in one: Tss. -/
import Derived.Test.YtcaoajeplinopaaDoorH16
namespace Go.Proofs.YtcaoajeplinopaaDoor
set_option linter.unusedVariables false
set_option linter.unusedSimpArgs false
set_option maxRecDepth 8000
open Go.RowKit Gold
open Go.Shelf
attribute [local simp] z32_ne z32_run
attribute [-simp] Tryd.zeroValue30 Tryd.isAgg30 Tryd.sizeOf30
attribute [-simp] Tryd.zeroValue32 Tryd.isAgg32 Tryd.sizeOf32
attribute [local simp] z33_ne z33_run
attribute [local irreducible] wpList wpQuiet
set_option maxHeartbeats 8000000 in
theorem rindices_no (s : List Nat) (c : Nat) (lb : ByteArray) (L C : Int) (hl : s.length = 32) (hsb : ∀ x ∈ s, x < 256) (h : ¬ PossT L C) (w : World) :
    Calls Tryd.prog 27 #[.agg (trC s c), .string lb, .agg #[.int .i64 L, .int .i64 C]] w fun e w' => ∃ A k, e = .returned (.tuple #[.agg (trC s c), .slice A 0 k]) ∧ Ib w' A 0 k [] ∧ Below w.heap.size w w' := by
  have HDs := Lib.hid (show s.length = 32 ∧ ∀ x ∈ s, x < 256 from ⟨hl, hsb⟩)
  clear hl hsb
  go_enter Tryd.func27, Tryd.ntmps27
  go_upto_region 1 with fail
  refine wp_named3 (fun V1 hb g0 g1 g2 hlt => ?_)
  have B0 := Lib.hid hb
  have Fv0_3 : Hid (RowT V1 w.heap.size s c) := Lib.hid (g0)
  have Fv1_5 : Hid (V1.heap[(w.heap.size + 1)]? = some (.cells #[.int .i64 L, .int .i64 C] 47 (0, 0))) := Lib.hid (g1)
  have Fv2_6 : Hid (RowT V1 (w.heap.size + 1 + 1) (List.replicate 32 0) 0) := Lib.hid (g2)
  have Nb0_1 : Hid (w.heap.size ≠ (w.heap.size + 1)) := Lib.hid (by omega)
  have Nb0_2 : Hid (w.heap.size ≠ (w.heap.size + 1 + 1)) := Lib.hid (by omega)
  have Nb1_2 : Hid ((w.heap.size + 1) ≠ (w.heap.size + 1 + 1)) := Lib.hid (by omega)
  have Gb0 : Hid (w.heap.size ≤ w.heap.size) := Lib.hid (by omega)
  have Gb1 : Hid (w.heap.size ≤ (w.heap.size + 1)) := Lib.hid (by omega)
  have Gb2 : Hid (w.heap.size ≤ (w.heap.size + 1 + 1)) := Lib.hid (by omega)
  clear hb g0 g1 g2 hlt
  have hlt0 := xp_lt Fv0_3.out
  have hlt1 := xp_lt Fv1_5.out
  have hlt2 := xp_lt Fv2_6.out
  refine wp_region_lit ?_
  refine wpList_mk (by kernel_rfl) #[] 3 0 0 (xo_empty (size := 1) Tryd.underlying48 (by kernel_rfl) rfl V1) ?_
  intro g13 V2 hge h0 hb
  have B1 := Lib.hid hb
  have Ow13 : Hid (V2.ownsRow V1.heap.size 3 1 (.slice (some ⟨g13, 0, none⟩) 0 0) 0 (celI [])) := Lib.hid (own_new h0 hge)
  clear hge h0 hb
  simp only [ptr, Act.put, List.setIfInBounds_toArray, List.set_cons_zero, List.set_cons_succ]
  refine wpList_run (by kernel_rfl) (.slice (some ⟨g13, 0, none⟩) 0 0) V2 rfl ?_
  simp only [Act.put, List.setIfInBounds_toArray, List.set_cons_zero, List.set_cons_succ]
  refine wpList_nil ?_
  obtain ⟨A0, k0, e0, hi0⟩ := own_ibn Ow13.out
  injection e0 with e1 e2 e3
  subst e1 e3
  have HI := Lib.hid hi0
  clear hi0 e2
  unfold PossT at h
  by_cases h0 : L < 1
  · go_upto_region 2 with fail
    refine wp_region_lit ?_
    refine wpList_run (by kernel_rfl) (.pointer (some ⟨(w.heap.size + 1), 0, none⟩)) V2 (xo_fld0 0 (w.heap.size + 1) 0 (by kernel_rfl) rfl rfl) ?_
    simp only [Act.put, List.setIfInBounds_toArray, List.set_cons_zero, List.set_cons_succ]
    refine wpList_run (by kernel_rfl) (.int .i64 L) V2 (xo_load1 ⟨(w.heap.size + 1), 0, none⟩ _ (cells_at (heap_keep Fv1_5.out B1.out) 0 rfl) Tryd.underlying3 rfl rfl rfl) ?_
    simp only [Act.put, List.setIfInBounds_toArray, List.set_cons_zero, List.set_cons_succ]
    refine wpList_run (by kernel_rfl) (.bool true) V2 (xo_lssT .i64 L 1 (by omega) rfl rfl rfl) ?_
    simp only [Act.put, List.setIfInBounds_toArray, List.set_cons_zero, List.set_cons_succ]
    refine wpList_run (by kernel_rfl) (.bool true) V2 rfl ?_
    simp only [Act.put, List.setIfInBounds_toArray, List.set_cons_zero, List.set_cons_succ]
    refine wpList_skip (by kernel_rfl) ?_
    try simp only [Act.put, List.setIfInBounds_toArray, List.set_cons_zero, List.set_cons_succ]
    refine wpList_skip (by kernel_rfl) ?_
    try simp only [Act.put, List.setIfInBounds_toArray, List.set_cons_zero, List.set_cons_succ]
    refine wpList_skip (by kernel_rfl) ?_
    try simp only [Act.put, List.setIfInBounds_toArray, List.set_cons_zero, List.set_cons_succ]
    refine wpList_run (by kernel_rfl) (.bool true) V2 rfl ?_
    simp only [Act.put, List.setIfInBounds_toArray, List.set_cons_zero, List.set_cons_succ]
    refine wpList_run (by kernel_rfl) (.bool true) V2 rfl ?_
    simp only [Act.put, List.setIfInBounds_toArray, List.set_cons_zero, List.set_cons_succ]
    refine wpList_skip (by kernel_rfl) ?_
    try simp only [Act.put, List.setIfInBounds_toArray, List.set_cons_zero, List.set_cons_succ]
    refine wpList_skip (by kernel_rfl) ?_
    try simp only [Act.put, List.setIfInBounds_toArray, List.set_cons_zero, List.set_cons_succ]
    refine wpList_skip (by kernel_rfl) ?_
    try simp only [Act.put, List.setIfInBounds_toArray, List.set_cons_zero, List.set_cons_succ]
    refine wpList_run (by kernel_rfl) (.bool true) V2 rfl ?_
    simp only [Act.put, List.setIfInBounds_toArray, List.set_cons_zero, List.set_cons_succ]
    refine wpList_run (by kernel_rfl) (.bool true) V2 rfl ?_
    simp only [Act.put, List.setIfInBounds_toArray, List.set_cons_zero, List.set_cons_succ]
    refine wpList_skip (by kernel_rfl) ?_
    try simp only [Act.put, List.setIfInBounds_toArray, List.set_cons_zero, List.set_cons_succ]
    refine wpList_skip (by kernel_rfl) ?_
    try simp only [Act.put, List.setIfInBounds_toArray, List.set_cons_zero, List.set_cons_succ]
    refine wpList_skip (by kernel_rfl) ?_
    try simp only [Act.put, List.setIfInBounds_toArray, List.set_cons_zero, List.set_cons_succ]
    refine wpList_run (by kernel_rfl) (.bool true) V2 rfl ?_
    simp only [Act.put, List.setIfInBounds_toArray, List.set_cons_zero, List.set_cons_succ]
    refine wpList_run (by kernel_rfl) (.bool true) V2 rfl ?_
    simp only [Act.put, List.setIfInBounds_toArray, List.set_cons_zero, List.set_cons_succ]
    refine wpList_skip (by kernel_rfl) ?_
    try simp only [Act.put, List.setIfInBounds_toArray, List.set_cons_zero, List.set_cons_succ]
    refine wpList_skip (by kernel_rfl) ?_
    try simp only [Act.put, List.setIfInBounds_toArray, List.set_cons_zero, List.set_cons_succ]
    refine wpList_skip (by kernel_rfl) ?_
    try simp only [Act.put, List.setIfInBounds_toArray, List.set_cons_zero, List.set_cons_succ]
    refine wpList_skip (by kernel_rfl) ?_
    try simp only [Act.put, List.setIfInBounds_toArray, List.set_cons_zero, List.set_cons_succ]
    refine wpList_skip (by kernel_rfl) ?_
    try simp only [Act.put, List.setIfInBounds_toArray, List.set_cons_zero, List.set_cons_succ]
    refine wpList_run (by kernel_rfl) (.bool true) V2 rfl ?_
    simp only [Act.put, List.setIfInBounds_toArray, List.set_cons_zero, List.set_cons_succ]
    refine wpList_nil ?_
    go_upto_region 3 with fail
    refine wp_region_lit ?_
    refine wpList_run (by kernel_rfl) (.agg (trC s c)) V2 (exec_loadT w.heap.size s c HDs.out.1 (Fv0_3.out.keep B1.out) rfl rfl) ?_
    simp only [Act.put, List.setIfInBounds_toArray, List.set_cons_zero, List.set_cons_succ]
    refine wpList_run (by kernel_rfl) (.slice (some ⟨g13, 0, none⟩) 0 0) V2 rfl ?_
    simp only [Act.put, List.setIfInBounds_toArray, List.set_cons_zero, List.set_cons_succ]
    refine wpList_storeW (w.heap.size + 1 + 1) (trC (List.replicate 32 0) 0) (trC s c) 32 (by kernel_rfl) (Fv2_6.out.keep B1.out) (exec_storeT (w.heap.size + 1 + 1) (List.replicate 32 0) 0 s c List.length_replicate HDs.out.1 (Fv2_6.out.keep B1.out) rfl rfl rfl) ?_
    intro X2_0 h1 hfar hbel hsz
    have YHI : IbN X2_0 V1.heap.size (some ⟨g13, 0, none⟩) 0 0 [] := (HI.out).far hlt2 hfar
    have YFv0_3 : RowT X2_0 w.heap.size s c := hfar _ _ Nb0_2.out (Fv0_3.out.keep B1.out)
    have YFv1_5 : X2_0.heap[(w.heap.size + 1)]? = some (.cells #[.int .i64 L, .int .i64 C] 47 (0, 0)) := hfar _ _ Nb1_2.out (heap_keep Fv1_5.out B1.out)
    -- drops Ow13
    have C0_2 := Lib.hid (bel_step B0.out B1.out)
    have hbr := hbel _ _ Gb2.out C0_2.out
    clear B0
    have B0 := Lib.hid hbr
    clear hbr
    clear Fv0_3
    have Fv0_3 : Hid (RowT X2_0 w.heap.size s c) := Lib.hid YFv0_3
    clear YFv0_3
    clear Fv1_5
    have Fv1_5 : Hid (X2_0.heap[(w.heap.size + 1)]? = some (.cells #[.int .i64 L, .int .i64 C] 47 (0, 0))) := Lib.hid YFv1_5
    clear YFv1_5
    clear HI
    have HI := Lib.hid YHI
    clear YHI
    clear Fv2_6
    have Fv2_6 : Hid (RowT X2_0 (w.heap.size + 1 + 1) s c) := Lib.hid (h1)
    have HszX2_0 := Lib.hid hsz
    clear h1 hfar hbel hsz
    simp only [ptr, Act.put, List.setIfInBounds_toArray, List.set_cons_zero, List.set_cons_succ]
    refine wpList_run (by kernel_rfl) (.slice (some ⟨g13, 0, none⟩) 0 0) X2_0 rfl ?_
    simp only [Act.put, List.setIfInBounds_toArray, List.set_cons_zero, List.set_cons_succ]
    refine wpList_nil ?_
    have hB := B0.out
    have hI := HI.out.1
    have hR := Fv2_6.out
    go_wp2_with fail
    refine bodyPost_ret (v := .tuple #[.agg (trC s c), .slice (some ⟨g13, 0, none⟩) 0 0]) ?_ rfl ⟨_, _, rfl, hI, hB⟩
    exact results_row_tmp rfl _ _ (w.heap.size + 1 + 1) 32 _ (0, 0) _ _ rfl rfl hR Tryd.underlying32 rfl (trC_info HDs.out.1 c)
  · by_cases h1 : L > 65536
    · go_upto_region 2 with fail
      refine wp_region_lit ?_
      refine wpList_run (by kernel_rfl) (.pointer (some ⟨(w.heap.size + 1), 0, none⟩)) V2 (xo_fld0 0 (w.heap.size + 1) 0 (by kernel_rfl) rfl rfl) ?_
      simp only [Act.put, List.setIfInBounds_toArray, List.set_cons_zero, List.set_cons_succ]
      refine wpList_run (by kernel_rfl) (.int .i64 L) V2 (xo_load1 ⟨(w.heap.size + 1), 0, none⟩ _ (cells_at (heap_keep Fv1_5.out B1.out) 0 rfl) Tryd.underlying3 rfl rfl rfl) ?_
      simp only [Act.put, List.setIfInBounds_toArray, List.set_cons_zero, List.set_cons_succ]
      refine wpList_run (by kernel_rfl) (.bool false) V2 (xo_lssF .i64 L 1 (by omega) rfl rfl rfl) ?_
      simp only [Act.put, List.setIfInBounds_toArray, List.set_cons_zero, List.set_cons_succ]
      refine wpList_run (by kernel_rfl) (.bool false) V2 rfl ?_
      simp only [Act.put, List.setIfInBounds_toArray, List.set_cons_zero, List.set_cons_succ]
      refine wpList_run (by kernel_rfl) (.pointer (some ⟨(w.heap.size + 1), 0, none⟩)) V2 (xo_fld0 0 (w.heap.size + 1) 0 (by kernel_rfl) rfl rfl) ?_
      simp only [Act.put, List.setIfInBounds_toArray, List.set_cons_zero, List.set_cons_succ]
      refine wpList_run (by kernel_rfl) (.int .i64 L) V2 (xo_load1 ⟨(w.heap.size + 1), 0, none⟩ _ (cells_at (heap_keep Fv1_5.out B1.out) 0 rfl) Tryd.underlying3 rfl rfl rfl) ?_
      simp only [Act.put, List.setIfInBounds_toArray, List.set_cons_zero, List.set_cons_succ]
      refine wpList_run (by kernel_rfl) (.bool true) V2 (xo_gtrT .i64 L 65536 (by omega) rfl rfl rfl) ?_
      simp only [Act.put, List.setIfInBounds_toArray, List.set_cons_zero, List.set_cons_succ]
      refine wpList_run (by kernel_rfl) (.bool true) V2 rfl ?_
      simp only [Act.put, List.setIfInBounds_toArray, List.set_cons_zero, List.set_cons_succ]
      refine wpList_run (by kernel_rfl) (.bool true) V2 rfl ?_
      simp only [Act.put, List.setIfInBounds_toArray, List.set_cons_zero, List.set_cons_succ]
      refine wpList_skip (by kernel_rfl) ?_
      try simp only [Act.put, List.setIfInBounds_toArray, List.set_cons_zero, List.set_cons_succ]
      refine wpList_skip (by kernel_rfl) ?_
      try simp only [Act.put, List.setIfInBounds_toArray, List.set_cons_zero, List.set_cons_succ]
      refine wpList_skip (by kernel_rfl) ?_
      try simp only [Act.put, List.setIfInBounds_toArray, List.set_cons_zero, List.set_cons_succ]
      refine wpList_run (by kernel_rfl) (.bool true) V2 rfl ?_
      simp only [Act.put, List.setIfInBounds_toArray, List.set_cons_zero, List.set_cons_succ]
      refine wpList_run (by kernel_rfl) (.bool true) V2 rfl ?_
      simp only [Act.put, List.setIfInBounds_toArray, List.set_cons_zero, List.set_cons_succ]
      refine wpList_skip (by kernel_rfl) ?_
      try simp only [Act.put, List.setIfInBounds_toArray, List.set_cons_zero, List.set_cons_succ]
      refine wpList_skip (by kernel_rfl) ?_
      try simp only [Act.put, List.setIfInBounds_toArray, List.set_cons_zero, List.set_cons_succ]
      refine wpList_skip (by kernel_rfl) ?_
      try simp only [Act.put, List.setIfInBounds_toArray, List.set_cons_zero, List.set_cons_succ]
      refine wpList_run (by kernel_rfl) (.bool true) V2 rfl ?_
      simp only [Act.put, List.setIfInBounds_toArray, List.set_cons_zero, List.set_cons_succ]
      refine wpList_run (by kernel_rfl) (.bool true) V2 rfl ?_
      simp only [Act.put, List.setIfInBounds_toArray, List.set_cons_zero, List.set_cons_succ]
      refine wpList_skip (by kernel_rfl) ?_
      try simp only [Act.put, List.setIfInBounds_toArray, List.set_cons_zero, List.set_cons_succ]
      refine wpList_skip (by kernel_rfl) ?_
      try simp only [Act.put, List.setIfInBounds_toArray, List.set_cons_zero, List.set_cons_succ]
      refine wpList_skip (by kernel_rfl) ?_
      try simp only [Act.put, List.setIfInBounds_toArray, List.set_cons_zero, List.set_cons_succ]
      refine wpList_skip (by kernel_rfl) ?_
      try simp only [Act.put, List.setIfInBounds_toArray, List.set_cons_zero, List.set_cons_succ]
      refine wpList_skip (by kernel_rfl) ?_
      try simp only [Act.put, List.setIfInBounds_toArray, List.set_cons_zero, List.set_cons_succ]
      refine wpList_run (by kernel_rfl) (.bool true) V2 rfl ?_
      simp only [Act.put, List.setIfInBounds_toArray, List.set_cons_zero, List.set_cons_succ]
      refine wpList_nil ?_
      go_upto_region 3 with fail
      refine wp_region_lit ?_
      refine wpList_run (by kernel_rfl) (.agg (trC s c)) V2 (exec_loadT w.heap.size s c HDs.out.1 (Fv0_3.out.keep B1.out) rfl rfl) ?_
      simp only [Act.put, List.setIfInBounds_toArray, List.set_cons_zero, List.set_cons_succ]
      refine wpList_run (by kernel_rfl) (.slice (some ⟨g13, 0, none⟩) 0 0) V2 rfl ?_
      simp only [Act.put, List.setIfInBounds_toArray, List.set_cons_zero, List.set_cons_succ]
      refine wpList_storeW (w.heap.size + 1 + 1) (trC (List.replicate 32 0) 0) (trC s c) 32 (by kernel_rfl) (Fv2_6.out.keep B1.out) (exec_storeT (w.heap.size + 1 + 1) (List.replicate 32 0) 0 s c List.length_replicate HDs.out.1 (Fv2_6.out.keep B1.out) rfl rfl rfl) ?_
      intro X2_0 h1 hfar hbel hsz
      have YHI : IbN X2_0 V1.heap.size (some ⟨g13, 0, none⟩) 0 0 [] := (HI.out).far hlt2 hfar
      have YFv0_3 : RowT X2_0 w.heap.size s c := hfar _ _ Nb0_2.out (Fv0_3.out.keep B1.out)
      have YFv1_5 : X2_0.heap[(w.heap.size + 1)]? = some (.cells #[.int .i64 L, .int .i64 C] 47 (0, 0)) := hfar _ _ Nb1_2.out (heap_keep Fv1_5.out B1.out)
      -- drops Ow13
      have C0_2 := Lib.hid (bel_step B0.out B1.out)
      have hbr := hbel _ _ Gb2.out C0_2.out
      clear B0
      have B0 := Lib.hid hbr
      clear hbr
      clear Fv0_3
      have Fv0_3 : Hid (RowT X2_0 w.heap.size s c) := Lib.hid YFv0_3
      clear YFv0_3
      clear Fv1_5
      have Fv1_5 : Hid (X2_0.heap[(w.heap.size + 1)]? = some (.cells #[.int .i64 L, .int .i64 C] 47 (0, 0))) := Lib.hid YFv1_5
      clear YFv1_5
      clear HI
      have HI := Lib.hid YHI
      clear YHI
      clear Fv2_6
      have Fv2_6 : Hid (RowT X2_0 (w.heap.size + 1 + 1) s c) := Lib.hid (h1)
      have HszX2_0 := Lib.hid hsz
      clear h1 hfar hbel hsz
      simp only [ptr, Act.put, List.setIfInBounds_toArray, List.set_cons_zero, List.set_cons_succ]
      refine wpList_run (by kernel_rfl) (.slice (some ⟨g13, 0, none⟩) 0 0) X2_0 rfl ?_
      simp only [Act.put, List.setIfInBounds_toArray, List.set_cons_zero, List.set_cons_succ]
      refine wpList_nil ?_
      have hB := B0.out
      have hI := HI.out.1
      have hR := Fv2_6.out
      go_wp2_with fail
      refine bodyPost_ret (v := .tuple #[.agg (trC s c), .slice (some ⟨g13, 0, none⟩) 0 0]) ?_ rfl ⟨_, _, rfl, hI, hB⟩
      exact results_row_tmp rfl _ _ (w.heap.size + 1 + 1) 32 _ (0, 0) _ _ rfl rfl hR Tryd.underlying32 rfl (trC_info HDs.out.1 c)
    · by_cases h2 : C < 0
      · go_upto_region 2 with fail
        refine wp_region_lit ?_
        refine wpList_run (by kernel_rfl) (.pointer (some ⟨(w.heap.size + 1), 0, none⟩)) V2 (xo_fld0 0 (w.heap.size + 1) 0 (by kernel_rfl) rfl rfl) ?_
        simp only [Act.put, List.setIfInBounds_toArray, List.set_cons_zero, List.set_cons_succ]
        refine wpList_run (by kernel_rfl) (.int .i64 L) V2 (xo_load1 ⟨(w.heap.size + 1), 0, none⟩ _ (cells_at (heap_keep Fv1_5.out B1.out) 0 rfl) Tryd.underlying3 rfl rfl rfl) ?_
        simp only [Act.put, List.setIfInBounds_toArray, List.set_cons_zero, List.set_cons_succ]
        refine wpList_run (by kernel_rfl) (.bool false) V2 (xo_lssF .i64 L 1 (by omega) rfl rfl rfl) ?_
        simp only [Act.put, List.setIfInBounds_toArray, List.set_cons_zero, List.set_cons_succ]
        refine wpList_run (by kernel_rfl) (.bool false) V2 rfl ?_
        simp only [Act.put, List.setIfInBounds_toArray, List.set_cons_zero, List.set_cons_succ]
        refine wpList_run (by kernel_rfl) (.pointer (some ⟨(w.heap.size + 1), 0, none⟩)) V2 (xo_fld0 0 (w.heap.size + 1) 0 (by kernel_rfl) rfl rfl) ?_
        simp only [Act.put, List.setIfInBounds_toArray, List.set_cons_zero, List.set_cons_succ]
        refine wpList_run (by kernel_rfl) (.int .i64 L) V2 (xo_load1 ⟨(w.heap.size + 1), 0, none⟩ _ (cells_at (heap_keep Fv1_5.out B1.out) 0 rfl) Tryd.underlying3 rfl rfl rfl) ?_
        simp only [Act.put, List.setIfInBounds_toArray, List.set_cons_zero, List.set_cons_succ]
        refine wpList_run (by kernel_rfl) (.bool false) V2 (xo_gtrF .i64 L 65536 (by omega) rfl rfl rfl) ?_
        simp only [Act.put, List.setIfInBounds_toArray, List.set_cons_zero, List.set_cons_succ]
        refine wpList_run (by kernel_rfl) (.bool false) V2 rfl ?_
        simp only [Act.put, List.setIfInBounds_toArray, List.set_cons_zero, List.set_cons_succ]
        refine wpList_run (by kernel_rfl) (.bool false) V2 rfl ?_
        simp only [Act.put, List.setIfInBounds_toArray, List.set_cons_zero, List.set_cons_succ]
        refine wpList_run (by kernel_rfl) (.pointer (some ⟨(w.heap.size + 1), 1, none⟩)) V2 (xo_fld0 1 (w.heap.size + 1) 1 (by kernel_rfl) rfl rfl) ?_
        simp only [Act.put, List.setIfInBounds_toArray, List.set_cons_zero, List.set_cons_succ]
        refine wpList_run (by kernel_rfl) (.int .i64 C) V2 (xo_load1 ⟨(w.heap.size + 1), 1, none⟩ _ (cells_at (heap_keep Fv1_5.out B1.out) 1 rfl) Tryd.underlying3 rfl rfl rfl) ?_
        simp only [Act.put, List.setIfInBounds_toArray, List.set_cons_zero, List.set_cons_succ]
        refine wpList_run (by kernel_rfl) (.bool true) V2 (xo_lssT .i64 C 0 (by omega) rfl rfl rfl) ?_
        simp only [Act.put, List.setIfInBounds_toArray, List.set_cons_zero, List.set_cons_succ]
        refine wpList_run (by kernel_rfl) (.bool true) V2 rfl ?_
        simp only [Act.put, List.setIfInBounds_toArray, List.set_cons_zero, List.set_cons_succ]
        refine wpList_run (by kernel_rfl) (.bool true) V2 rfl ?_
        simp only [Act.put, List.setIfInBounds_toArray, List.set_cons_zero, List.set_cons_succ]
        refine wpList_skip (by kernel_rfl) ?_
        try simp only [Act.put, List.setIfInBounds_toArray, List.set_cons_zero, List.set_cons_succ]
        refine wpList_skip (by kernel_rfl) ?_
        try simp only [Act.put, List.setIfInBounds_toArray, List.set_cons_zero, List.set_cons_succ]
        refine wpList_skip (by kernel_rfl) ?_
        try simp only [Act.put, List.setIfInBounds_toArray, List.set_cons_zero, List.set_cons_succ]
        refine wpList_run (by kernel_rfl) (.bool true) V2 rfl ?_
        simp only [Act.put, List.setIfInBounds_toArray, List.set_cons_zero, List.set_cons_succ]
        refine wpList_run (by kernel_rfl) (.bool true) V2 rfl ?_
        simp only [Act.put, List.setIfInBounds_toArray, List.set_cons_zero, List.set_cons_succ]
        refine wpList_skip (by kernel_rfl) ?_
        try simp only [Act.put, List.setIfInBounds_toArray, List.set_cons_zero, List.set_cons_succ]
        refine wpList_skip (by kernel_rfl) ?_
        try simp only [Act.put, List.setIfInBounds_toArray, List.set_cons_zero, List.set_cons_succ]
        refine wpList_skip (by kernel_rfl) ?_
        try simp only [Act.put, List.setIfInBounds_toArray, List.set_cons_zero, List.set_cons_succ]
        refine wpList_skip (by kernel_rfl) ?_
        try simp only [Act.put, List.setIfInBounds_toArray, List.set_cons_zero, List.set_cons_succ]
        refine wpList_skip (by kernel_rfl) ?_
        try simp only [Act.put, List.setIfInBounds_toArray, List.set_cons_zero, List.set_cons_succ]
        refine wpList_run (by kernel_rfl) (.bool true) V2 rfl ?_
        simp only [Act.put, List.setIfInBounds_toArray, List.set_cons_zero, List.set_cons_succ]
        refine wpList_nil ?_
        go_upto_region 3 with fail
        refine wp_region_lit ?_
        refine wpList_run (by kernel_rfl) (.agg (trC s c)) V2 (exec_loadT w.heap.size s c HDs.out.1 (Fv0_3.out.keep B1.out) rfl rfl) ?_
        simp only [Act.put, List.setIfInBounds_toArray, List.set_cons_zero, List.set_cons_succ]
        refine wpList_run (by kernel_rfl) (.slice (some ⟨g13, 0, none⟩) 0 0) V2 rfl ?_
        simp only [Act.put, List.setIfInBounds_toArray, List.set_cons_zero, List.set_cons_succ]
        refine wpList_storeW (w.heap.size + 1 + 1) (trC (List.replicate 32 0) 0) (trC s c) 32 (by kernel_rfl) (Fv2_6.out.keep B1.out) (exec_storeT (w.heap.size + 1 + 1) (List.replicate 32 0) 0 s c List.length_replicate HDs.out.1 (Fv2_6.out.keep B1.out) rfl rfl rfl) ?_
        intro X2_0 h1 hfar hbel hsz
        have YHI : IbN X2_0 V1.heap.size (some ⟨g13, 0, none⟩) 0 0 [] := (HI.out).far hlt2 hfar
        have YFv0_3 : RowT X2_0 w.heap.size s c := hfar _ _ Nb0_2.out (Fv0_3.out.keep B1.out)
        have YFv1_5 : X2_0.heap[(w.heap.size + 1)]? = some (.cells #[.int .i64 L, .int .i64 C] 47 (0, 0)) := hfar _ _ Nb1_2.out (heap_keep Fv1_5.out B1.out)
        -- drops Ow13
        have C0_2 := Lib.hid (bel_step B0.out B1.out)
        have hbr := hbel _ _ Gb2.out C0_2.out
        clear B0
        have B0 := Lib.hid hbr
        clear hbr
        clear Fv0_3
        have Fv0_3 : Hid (RowT X2_0 w.heap.size s c) := Lib.hid YFv0_3
        clear YFv0_3
        clear Fv1_5
        have Fv1_5 : Hid (X2_0.heap[(w.heap.size + 1)]? = some (.cells #[.int .i64 L, .int .i64 C] 47 (0, 0))) := Lib.hid YFv1_5
        clear YFv1_5
        clear HI
        have HI := Lib.hid YHI
        clear YHI
        clear Fv2_6
        have Fv2_6 : Hid (RowT X2_0 (w.heap.size + 1 + 1) s c) := Lib.hid (h1)
        have HszX2_0 := Lib.hid hsz
        clear h1 hfar hbel hsz
        simp only [ptr, Act.put, List.setIfInBounds_toArray, List.set_cons_zero, List.set_cons_succ]
        refine wpList_run (by kernel_rfl) (.slice (some ⟨g13, 0, none⟩) 0 0) X2_0 rfl ?_
        simp only [Act.put, List.setIfInBounds_toArray, List.set_cons_zero, List.set_cons_succ]
        refine wpList_nil ?_
        have hB := B0.out
        have hI := HI.out.1
        have hR := Fv2_6.out
        go_wp2_with fail
        refine bodyPost_ret (v := .tuple #[.agg (trC s c), .slice (some ⟨g13, 0, none⟩) 0 0]) ?_ rfl ⟨_, _, rfl, hI, hB⟩
        exact results_row_tmp rfl _ _ (w.heap.size + 1 + 1) 32 _ (0, 0) _ _ rfl rfl hR Tryd.underlying32 rfl (trC_info HDs.out.1 c)
      · by_cases h3 : C > 64
        · go_upto_region 2 with fail
          refine wp_region_lit ?_
          refine wpList_run (by kernel_rfl) (.pointer (some ⟨(w.heap.size + 1), 0, none⟩)) V2 (xo_fld0 0 (w.heap.size + 1) 0 (by kernel_rfl) rfl rfl) ?_
          simp only [Act.put, List.setIfInBounds_toArray, List.set_cons_zero, List.set_cons_succ]
          refine wpList_run (by kernel_rfl) (.int .i64 L) V2 (xo_load1 ⟨(w.heap.size + 1), 0, none⟩ _ (cells_at (heap_keep Fv1_5.out B1.out) 0 rfl) Tryd.underlying3 rfl rfl rfl) ?_
          simp only [Act.put, List.setIfInBounds_toArray, List.set_cons_zero, List.set_cons_succ]
          refine wpList_run (by kernel_rfl) (.bool false) V2 (xo_lssF .i64 L 1 (by omega) rfl rfl rfl) ?_
          simp only [Act.put, List.setIfInBounds_toArray, List.set_cons_zero, List.set_cons_succ]
          refine wpList_run (by kernel_rfl) (.bool false) V2 rfl ?_
          simp only [Act.put, List.setIfInBounds_toArray, List.set_cons_zero, List.set_cons_succ]
          refine wpList_run (by kernel_rfl) (.pointer (some ⟨(w.heap.size + 1), 0, none⟩)) V2 (xo_fld0 0 (w.heap.size + 1) 0 (by kernel_rfl) rfl rfl) ?_
          simp only [Act.put, List.setIfInBounds_toArray, List.set_cons_zero, List.set_cons_succ]
          refine wpList_run (by kernel_rfl) (.int .i64 L) V2 (xo_load1 ⟨(w.heap.size + 1), 0, none⟩ _ (cells_at (heap_keep Fv1_5.out B1.out) 0 rfl) Tryd.underlying3 rfl rfl rfl) ?_
          simp only [Act.put, List.setIfInBounds_toArray, List.set_cons_zero, List.set_cons_succ]
          refine wpList_run (by kernel_rfl) (.bool false) V2 (xo_gtrF .i64 L 65536 (by omega) rfl rfl rfl) ?_
          simp only [Act.put, List.setIfInBounds_toArray, List.set_cons_zero, List.set_cons_succ]
          refine wpList_run (by kernel_rfl) (.bool false) V2 rfl ?_
          simp only [Act.put, List.setIfInBounds_toArray, List.set_cons_zero, List.set_cons_succ]
          refine wpList_run (by kernel_rfl) (.bool false) V2 rfl ?_
          simp only [Act.put, List.setIfInBounds_toArray, List.set_cons_zero, List.set_cons_succ]
          refine wpList_run (by kernel_rfl) (.pointer (some ⟨(w.heap.size + 1), 1, none⟩)) V2 (xo_fld0 1 (w.heap.size + 1) 1 (by kernel_rfl) rfl rfl) ?_
          simp only [Act.put, List.setIfInBounds_toArray, List.set_cons_zero, List.set_cons_succ]
          refine wpList_run (by kernel_rfl) (.int .i64 C) V2 (xo_load1 ⟨(w.heap.size + 1), 1, none⟩ _ (cells_at (heap_keep Fv1_5.out B1.out) 1 rfl) Tryd.underlying3 rfl rfl rfl) ?_
          simp only [Act.put, List.setIfInBounds_toArray, List.set_cons_zero, List.set_cons_succ]
          refine wpList_run (by kernel_rfl) (.bool false) V2 (xo_lssF .i64 C 0 (by omega) rfl rfl rfl) ?_
          simp only [Act.put, List.setIfInBounds_toArray, List.set_cons_zero, List.set_cons_succ]
          refine wpList_run (by kernel_rfl) (.bool false) V2 rfl ?_
          simp only [Act.put, List.setIfInBounds_toArray, List.set_cons_zero, List.set_cons_succ]
          refine wpList_run (by kernel_rfl) (.bool false) V2 rfl ?_
          simp only [Act.put, List.setIfInBounds_toArray, List.set_cons_zero, List.set_cons_succ]
          refine wpList_run (by kernel_rfl) (.pointer (some ⟨(w.heap.size + 1), 1, none⟩)) V2 (xo_fld0 1 (w.heap.size + 1) 1 (by kernel_rfl) rfl rfl) ?_
          simp only [Act.put, List.setIfInBounds_toArray, List.set_cons_zero, List.set_cons_succ]
          refine wpList_run (by kernel_rfl) (.int .i64 C) V2 (xo_load1 ⟨(w.heap.size + 1), 1, none⟩ _ (cells_at (heap_keep Fv1_5.out B1.out) 1 rfl) Tryd.underlying3 rfl rfl rfl) ?_
          simp only [Act.put, List.setIfInBounds_toArray, List.set_cons_zero, List.set_cons_succ]
          refine wpList_run (by kernel_rfl) (.bool true) V2 (xo_gtrT .i64 C 64 (by omega) rfl rfl rfl) ?_
          simp only [Act.put, List.setIfInBounds_toArray, List.set_cons_zero, List.set_cons_succ]
          refine wpList_run (by kernel_rfl) (.bool true) V2 rfl ?_
          simp only [Act.put, List.setIfInBounds_toArray, List.set_cons_zero, List.set_cons_succ]
          refine wpList_run (by kernel_rfl) (.bool true) V2 rfl ?_
          simp only [Act.put, List.setIfInBounds_toArray, List.set_cons_zero, List.set_cons_succ]
          refine wpList_skip (by kernel_rfl) ?_
          try simp only [Act.put, List.setIfInBounds_toArray, List.set_cons_zero, List.set_cons_succ]
          refine wpList_skip (by kernel_rfl) ?_
          try simp only [Act.put, List.setIfInBounds_toArray, List.set_cons_zero, List.set_cons_succ]
          refine wpList_skip (by kernel_rfl) ?_
          try simp only [Act.put, List.setIfInBounds_toArray, List.set_cons_zero, List.set_cons_succ]
          refine wpList_skip (by kernel_rfl) ?_
          try simp only [Act.put, List.setIfInBounds_toArray, List.set_cons_zero, List.set_cons_succ]
          refine wpList_skip (by kernel_rfl) ?_
          try simp only [Act.put, List.setIfInBounds_toArray, List.set_cons_zero, List.set_cons_succ]
          refine wpList_run (by kernel_rfl) (.bool true) V2 rfl ?_
          simp only [Act.put, List.setIfInBounds_toArray, List.set_cons_zero, List.set_cons_succ]
          refine wpList_nil ?_
          go_upto_region 3 with fail
          refine wp_region_lit ?_
          refine wpList_run (by kernel_rfl) (.agg (trC s c)) V2 (exec_loadT w.heap.size s c HDs.out.1 (Fv0_3.out.keep B1.out) rfl rfl) ?_
          simp only [Act.put, List.setIfInBounds_toArray, List.set_cons_zero, List.set_cons_succ]
          refine wpList_run (by kernel_rfl) (.slice (some ⟨g13, 0, none⟩) 0 0) V2 rfl ?_
          simp only [Act.put, List.setIfInBounds_toArray, List.set_cons_zero, List.set_cons_succ]
          refine wpList_storeW (w.heap.size + 1 + 1) (trC (List.replicate 32 0) 0) (trC s c) 32 (by kernel_rfl) (Fv2_6.out.keep B1.out) (exec_storeT (w.heap.size + 1 + 1) (List.replicate 32 0) 0 s c List.length_replicate HDs.out.1 (Fv2_6.out.keep B1.out) rfl rfl rfl) ?_
          intro X2_0 h1 hfar hbel hsz
          have YHI : IbN X2_0 V1.heap.size (some ⟨g13, 0, none⟩) 0 0 [] := (HI.out).far hlt2 hfar
          have YFv0_3 : RowT X2_0 w.heap.size s c := hfar _ _ Nb0_2.out (Fv0_3.out.keep B1.out)
          have YFv1_5 : X2_0.heap[(w.heap.size + 1)]? = some (.cells #[.int .i64 L, .int .i64 C] 47 (0, 0)) := hfar _ _ Nb1_2.out (heap_keep Fv1_5.out B1.out)
          -- drops Ow13
          have C0_2 := Lib.hid (bel_step B0.out B1.out)
          have hbr := hbel _ _ Gb2.out C0_2.out
          clear B0
          have B0 := Lib.hid hbr
          clear hbr
          clear Fv0_3
          have Fv0_3 : Hid (RowT X2_0 w.heap.size s c) := Lib.hid YFv0_3
          clear YFv0_3
          clear Fv1_5
          have Fv1_5 : Hid (X2_0.heap[(w.heap.size + 1)]? = some (.cells #[.int .i64 L, .int .i64 C] 47 (0, 0))) := Lib.hid YFv1_5
          clear YFv1_5
          clear HI
          have HI := Lib.hid YHI
          clear YHI
          clear Fv2_6
          have Fv2_6 : Hid (RowT X2_0 (w.heap.size + 1 + 1) s c) := Lib.hid (h1)
          have HszX2_0 := Lib.hid hsz
          clear h1 hfar hbel hsz
          simp only [ptr, Act.put, List.setIfInBounds_toArray, List.set_cons_zero, List.set_cons_succ]
          refine wpList_run (by kernel_rfl) (.slice (some ⟨g13, 0, none⟩) 0 0) X2_0 rfl ?_
          simp only [Act.put, List.setIfInBounds_toArray, List.set_cons_zero, List.set_cons_succ]
          refine wpList_nil ?_
          have hB := B0.out
          have hI := HI.out.1
          have hR := Fv2_6.out
          go_wp2_with fail
          refine bodyPost_ret (v := .tuple #[.agg (trC s c), .slice (some ⟨g13, 0, none⟩) 0 0]) ?_ rfl ⟨_, _, rfl, hI, hB⟩
          exact results_row_tmp rfl _ _ (w.heap.size + 1 + 1) 32 _ (0, 0) _ _ rfl rfl hR Tryd.underlying32 rfl (trC_info HDs.out.1 c)
        · by_cases h4 : C > L
          · go_upto_region 2 with fail
            refine wp_region_lit ?_
            refine wpList_run (by kernel_rfl) (.pointer (some ⟨(w.heap.size + 1), 0, none⟩)) V2 (xo_fld0 0 (w.heap.size + 1) 0 (by kernel_rfl) rfl rfl) ?_
            simp only [Act.put, List.setIfInBounds_toArray, List.set_cons_zero, List.set_cons_succ]
            refine wpList_run (by kernel_rfl) (.int .i64 L) V2 (xo_load1 ⟨(w.heap.size + 1), 0, none⟩ _ (cells_at (heap_keep Fv1_5.out B1.out) 0 rfl) Tryd.underlying3 rfl rfl rfl) ?_
            simp only [Act.put, List.setIfInBounds_toArray, List.set_cons_zero, List.set_cons_succ]
            refine wpList_run (by kernel_rfl) (.bool false) V2 (xo_lssF .i64 L 1 (by omega) rfl rfl rfl) ?_
            simp only [Act.put, List.setIfInBounds_toArray, List.set_cons_zero, List.set_cons_succ]
            refine wpList_run (by kernel_rfl) (.bool false) V2 rfl ?_
            simp only [Act.put, List.setIfInBounds_toArray, List.set_cons_zero, List.set_cons_succ]
            refine wpList_run (by kernel_rfl) (.pointer (some ⟨(w.heap.size + 1), 0, none⟩)) V2 (xo_fld0 0 (w.heap.size + 1) 0 (by kernel_rfl) rfl rfl) ?_
            simp only [Act.put, List.setIfInBounds_toArray, List.set_cons_zero, List.set_cons_succ]
            refine wpList_run (by kernel_rfl) (.int .i64 L) V2 (xo_load1 ⟨(w.heap.size + 1), 0, none⟩ _ (cells_at (heap_keep Fv1_5.out B1.out) 0 rfl) Tryd.underlying3 rfl rfl rfl) ?_
            simp only [Act.put, List.setIfInBounds_toArray, List.set_cons_zero, List.set_cons_succ]
            refine wpList_run (by kernel_rfl) (.bool false) V2 (xo_gtrF .i64 L 65536 (by omega) rfl rfl rfl) ?_
            simp only [Act.put, List.setIfInBounds_toArray, List.set_cons_zero, List.set_cons_succ]
            refine wpList_run (by kernel_rfl) (.bool false) V2 rfl ?_
            simp only [Act.put, List.setIfInBounds_toArray, List.set_cons_zero, List.set_cons_succ]
            refine wpList_run (by kernel_rfl) (.bool false) V2 rfl ?_
            simp only [Act.put, List.setIfInBounds_toArray, List.set_cons_zero, List.set_cons_succ]
            refine wpList_run (by kernel_rfl) (.pointer (some ⟨(w.heap.size + 1), 1, none⟩)) V2 (xo_fld0 1 (w.heap.size + 1) 1 (by kernel_rfl) rfl rfl) ?_
            simp only [Act.put, List.setIfInBounds_toArray, List.set_cons_zero, List.set_cons_succ]
            refine wpList_run (by kernel_rfl) (.int .i64 C) V2 (xo_load1 ⟨(w.heap.size + 1), 1, none⟩ _ (cells_at (heap_keep Fv1_5.out B1.out) 1 rfl) Tryd.underlying3 rfl rfl rfl) ?_
            simp only [Act.put, List.setIfInBounds_toArray, List.set_cons_zero, List.set_cons_succ]
            refine wpList_run (by kernel_rfl) (.bool false) V2 (xo_lssF .i64 C 0 (by omega) rfl rfl rfl) ?_
            simp only [Act.put, List.setIfInBounds_toArray, List.set_cons_zero, List.set_cons_succ]
            refine wpList_run (by kernel_rfl) (.bool false) V2 rfl ?_
            simp only [Act.put, List.setIfInBounds_toArray, List.set_cons_zero, List.set_cons_succ]
            refine wpList_run (by kernel_rfl) (.bool false) V2 rfl ?_
            simp only [Act.put, List.setIfInBounds_toArray, List.set_cons_zero, List.set_cons_succ]
            refine wpList_run (by kernel_rfl) (.pointer (some ⟨(w.heap.size + 1), 1, none⟩)) V2 (xo_fld0 1 (w.heap.size + 1) 1 (by kernel_rfl) rfl rfl) ?_
            simp only [Act.put, List.setIfInBounds_toArray, List.set_cons_zero, List.set_cons_succ]
            refine wpList_run (by kernel_rfl) (.int .i64 C) V2 (xo_load1 ⟨(w.heap.size + 1), 1, none⟩ _ (cells_at (heap_keep Fv1_5.out B1.out) 1 rfl) Tryd.underlying3 rfl rfl rfl) ?_
            simp only [Act.put, List.setIfInBounds_toArray, List.set_cons_zero, List.set_cons_succ]
            refine wpList_run (by kernel_rfl) (.bool false) V2 (xo_gtrF .i64 C 64 (by omega) rfl rfl rfl) ?_
            simp only [Act.put, List.setIfInBounds_toArray, List.set_cons_zero, List.set_cons_succ]
            refine wpList_run (by kernel_rfl) (.bool false) V2 rfl ?_
            simp only [Act.put, List.setIfInBounds_toArray, List.set_cons_zero, List.set_cons_succ]
            refine wpList_run (by kernel_rfl) (.bool false) V2 rfl ?_
            simp only [Act.put, List.setIfInBounds_toArray, List.set_cons_zero, List.set_cons_succ]
            refine wpList_run (by kernel_rfl) (.pointer (some ⟨(w.heap.size + 1), 1, none⟩)) V2 (xo_fld0 1 (w.heap.size + 1) 1 (by kernel_rfl) rfl rfl) ?_
            simp only [Act.put, List.setIfInBounds_toArray, List.set_cons_zero, List.set_cons_succ]
            refine wpList_run (by kernel_rfl) (.int .i64 C) V2 (xo_load1 ⟨(w.heap.size + 1), 1, none⟩ _ (cells_at (heap_keep Fv1_5.out B1.out) 1 rfl) Tryd.underlying3 rfl rfl rfl) ?_
            simp only [Act.put, List.setIfInBounds_toArray, List.set_cons_zero, List.set_cons_succ]
            refine wpList_run (by kernel_rfl) (.pointer (some ⟨(w.heap.size + 1), 0, none⟩)) V2 (xo_fld0 0 (w.heap.size + 1) 0 (by kernel_rfl) rfl rfl) ?_
            simp only [Act.put, List.setIfInBounds_toArray, List.set_cons_zero, List.set_cons_succ]
            refine wpList_run (by kernel_rfl) (.int .i64 L) V2 (xo_load1 ⟨(w.heap.size + 1), 0, none⟩ _ (cells_at (heap_keep Fv1_5.out B1.out) 0 rfl) Tryd.underlying3 rfl rfl rfl) ?_
            simp only [Act.put, List.setIfInBounds_toArray, List.set_cons_zero, List.set_cons_succ]
            refine wpList_run (by kernel_rfl) (.bool true) V2 (xo_gtrT .i64 C L (by omega) rfl rfl rfl) ?_
            simp only [Act.put, List.setIfInBounds_toArray, List.set_cons_zero, List.set_cons_succ]
            refine wpList_run (by kernel_rfl) (.bool true) V2 rfl ?_
            simp only [Act.put, List.setIfInBounds_toArray, List.set_cons_zero, List.set_cons_succ]
            refine wpList_nil ?_
            go_upto_region 3 with fail
            refine wp_region_lit ?_
            refine wpList_run (by kernel_rfl) (.agg (trC s c)) V2 (exec_loadT w.heap.size s c HDs.out.1 (Fv0_3.out.keep B1.out) rfl rfl) ?_
            simp only [Act.put, List.setIfInBounds_toArray, List.set_cons_zero, List.set_cons_succ]
            refine wpList_run (by kernel_rfl) (.slice (some ⟨g13, 0, none⟩) 0 0) V2 rfl ?_
            simp only [Act.put, List.setIfInBounds_toArray, List.set_cons_zero, List.set_cons_succ]
            refine wpList_storeW (w.heap.size + 1 + 1) (trC (List.replicate 32 0) 0) (trC s c) 32 (by kernel_rfl) (Fv2_6.out.keep B1.out) (exec_storeT (w.heap.size + 1 + 1) (List.replicate 32 0) 0 s c List.length_replicate HDs.out.1 (Fv2_6.out.keep B1.out) rfl rfl rfl) ?_
            intro X2_0 h1 hfar hbel hsz
            have YHI : IbN X2_0 V1.heap.size (some ⟨g13, 0, none⟩) 0 0 [] := (HI.out).far hlt2 hfar
            have YFv0_3 : RowT X2_0 w.heap.size s c := hfar _ _ Nb0_2.out (Fv0_3.out.keep B1.out)
            have YFv1_5 : X2_0.heap[(w.heap.size + 1)]? = some (.cells #[.int .i64 L, .int .i64 C] 47 (0, 0)) := hfar _ _ Nb1_2.out (heap_keep Fv1_5.out B1.out)
            -- drops Ow13
            have C0_2 := Lib.hid (bel_step B0.out B1.out)
            have hbr := hbel _ _ Gb2.out C0_2.out
            clear B0
            have B0 := Lib.hid hbr
            clear hbr
            clear Fv0_3
            have Fv0_3 : Hid (RowT X2_0 w.heap.size s c) := Lib.hid YFv0_3
            clear YFv0_3
            clear Fv1_5
            have Fv1_5 : Hid (X2_0.heap[(w.heap.size + 1)]? = some (.cells #[.int .i64 L, .int .i64 C] 47 (0, 0))) := Lib.hid YFv1_5
            clear YFv1_5
            clear HI
            have HI := Lib.hid YHI
            clear YHI
            clear Fv2_6
            have Fv2_6 : Hid (RowT X2_0 (w.heap.size + 1 + 1) s c) := Lib.hid (h1)
            have HszX2_0 := Lib.hid hsz
            clear h1 hfar hbel hsz
            simp only [ptr, Act.put, List.setIfInBounds_toArray, List.set_cons_zero, List.set_cons_succ]
            refine wpList_run (by kernel_rfl) (.slice (some ⟨g13, 0, none⟩) 0 0) X2_0 rfl ?_
            simp only [Act.put, List.setIfInBounds_toArray, List.set_cons_zero, List.set_cons_succ]
            refine wpList_nil ?_
            have hB := B0.out
            have hI := HI.out.1
            have hR := Fv2_6.out
            go_wp2_with fail
            refine bodyPost_ret (v := .tuple #[.agg (trC s c), .slice (some ⟨g13, 0, none⟩) 0 0]) ?_ rfl ⟨_, _, rfl, hI, hB⟩
            exact results_row_tmp rfl _ _ (w.heap.size + 1 + 1) 32 _ (0, 0) _ _ rfl rfl hR Tryd.underlying32 rfl (trC_info HDs.out.1 c)
          · exact absurd h (by omega)
set_option maxHeartbeats 16000000 in
theorem rindices_yes (s : List Nat) (c : Nat) (lb : ByteArray) (l n : Nat) (hl : s.length = 32) (hsb : ∀ x ∈ s, x < 256) (hc : c < 18446744073709551616) (hlb : lb.size ≤ 200) (hL1 : 1 ≤ l) (hL : l ≤ 65536) (hn64 : n ≤ 64) (hnL : n ≤ l) (w : World)
    (f : Nat → Nat) (hf : cdF s lb c l = f) (R : List Nat) (hR : pickT f n l 16384 = R) (c' : Nat) (hc' : lastC c (stopT f n 16384) = c') :
    Calls Tryd.prog 27 #[.agg (trC s c), .string lb, .agg #[.int .i64 (l : Int), .int .i64 (n : Int)]] w fun e w' => ∃ A k, e = .returned (.tuple #[.agg (trC s c'), .slice A n k]) ∧ Ib w' A n k (R.map fun x : Nat => (x : Int)) ∧ Below w.heap.size w w' := by
  have HDs := Lib.hid (show s.length = 32 ∧ ∀ x ∈ s, x < 256 from ⟨hl, hsb⟩)
  clear hl hsb
  go_enter Tryd.func27, Tryd.ntmps27
  go_upto_region 1 with fail
  refine wp_named3 (fun V1 hb g0 g1 g2 hlt => ?_)
  have B0 := Lib.hid hb
  have Fv0_3 : Hid (RowT V1 w.heap.size s c) := Lib.hid (g0)
  have Fv1_5 : Hid (V1.heap[(w.heap.size + 1)]? = some (.cells #[.int .i64 (l : Int), .int .i64 (n : Int)] 47 (0, 0))) := Lib.hid (g1)
  have Fv2_6 : Hid (RowT V1 (w.heap.size + 1 + 1) (List.replicate 32 0) 0) := Lib.hid (g2)
  have Nb0_1 : Hid (w.heap.size ≠ (w.heap.size + 1)) := Lib.hid (by omega)
  have Nb0_2 : Hid (w.heap.size ≠ (w.heap.size + 1 + 1)) := Lib.hid (by omega)
  have Nb1_2 : Hid ((w.heap.size + 1) ≠ (w.heap.size + 1 + 1)) := Lib.hid (by omega)
  have Gb0 : Hid (w.heap.size ≤ w.heap.size) := Lib.hid (by omega)
  have Gb1 : Hid (w.heap.size ≤ (w.heap.size + 1)) := Lib.hid (by omega)
  have Gb2 : Hid (w.heap.size ≤ (w.heap.size + 1 + 1)) := Lib.hid (by omega)
  clear hb g0 g1 g2 hlt
  have hlt0 := xp_lt Fv0_3.out
  have hlt1 := xp_lt Fv1_5.out
  have hlt2 := xp_lt Fv2_6.out
  refine wp_region_lit ?_
  refine wpList_mk (by kernel_rfl) #[] 3 0 0 (xo_empty (size := 1) Tryd.underlying48 (by kernel_rfl) rfl V1) ?_
  intro g13 V2 hge h0 hb
  have B1 := Lib.hid hb
  have Ow13 : Hid (V2.ownsRow V1.heap.size 3 1 (.slice (some ⟨g13, 0, none⟩) 0 0) 0 (celI [])) := Lib.hid (own_new h0 hge)
  clear hge h0 hb
  simp only [ptr, Act.put, List.setIfInBounds_toArray, List.set_cons_zero, List.set_cons_succ]
  refine wpList_run (by kernel_rfl) (.slice (some ⟨g13, 0, none⟩) 0 0) V2 rfl ?_
  simp only [Act.put, List.setIfInBounds_toArray, List.set_cons_zero, List.set_cons_succ]
  refine wpList_nil ?_
  obtain ⟨A0, k0, e0, hi0⟩ := own_ibn Ow13.out
  injection e0 with e1 e2 e3
  subst e1 e3
  have HI := Lib.hid hi0
  clear hi0 e2
  have HF := Lib.hid hf
  have HR := Lib.hid hR
  have HC := Lib.hid hc'
  clear hf hR hc'
  go_upto_region 2 with fail
  refine wp_region_lit ?_
  refine wpList_run (by kernel_rfl) (.pointer (some ⟨(w.heap.size + 1), 0, none⟩)) V2 (xo_fld0 0 (w.heap.size + 1) 0 (by kernel_rfl) rfl rfl) ?_
  simp only [Act.put, List.setIfInBounds_toArray, List.set_cons_zero, List.set_cons_succ]
  refine wpList_run (by kernel_rfl) (.int .i64 (l : Int)) V2 (xo_load1 ⟨(w.heap.size + 1), 0, none⟩ _ (cells_at (heap_keep Fv1_5.out B1.out) 0 rfl) Tryd.underlying3 rfl rfl rfl) ?_
  simp only [Act.put, List.setIfInBounds_toArray, List.set_cons_zero, List.set_cons_succ]
  refine wpList_run (by kernel_rfl) (.bool false) V2 (xo_lssF .i64 (l : Int) 1 (by omega) rfl rfl rfl) ?_
  simp only [Act.put, List.setIfInBounds_toArray, List.set_cons_zero, List.set_cons_succ]
  refine wpList_run (by kernel_rfl) (.bool false) V2 rfl ?_
  simp only [Act.put, List.setIfInBounds_toArray, List.set_cons_zero, List.set_cons_succ]
  refine wpList_run (by kernel_rfl) (.pointer (some ⟨(w.heap.size + 1), 0, none⟩)) V2 (xo_fld0 0 (w.heap.size + 1) 0 (by kernel_rfl) rfl rfl) ?_
  simp only [Act.put, List.setIfInBounds_toArray, List.set_cons_zero, List.set_cons_succ]
  refine wpList_run (by kernel_rfl) (.int .i64 (l : Int)) V2 (xo_load1 ⟨(w.heap.size + 1), 0, none⟩ _ (cells_at (heap_keep Fv1_5.out B1.out) 0 rfl) Tryd.underlying3 rfl rfl rfl) ?_
  simp only [Act.put, List.setIfInBounds_toArray, List.set_cons_zero, List.set_cons_succ]
  refine wpList_run (by kernel_rfl) (.bool false) V2 (xo_gtrF .i64 (l : Int) 65536 (by omega) rfl rfl rfl) ?_
  simp only [Act.put, List.setIfInBounds_toArray, List.set_cons_zero, List.set_cons_succ]
  refine wpList_run (by kernel_rfl) (.bool false) V2 rfl ?_
  simp only [Act.put, List.setIfInBounds_toArray, List.set_cons_zero, List.set_cons_succ]
  refine wpList_run (by kernel_rfl) (.bool false) V2 rfl ?_
  simp only [Act.put, List.setIfInBounds_toArray, List.set_cons_zero, List.set_cons_succ]
  refine wpList_run (by kernel_rfl) (.pointer (some ⟨(w.heap.size + 1), 1, none⟩)) V2 (xo_fld0 1 (w.heap.size + 1) 1 (by kernel_rfl) rfl rfl) ?_
  simp only [Act.put, List.setIfInBounds_toArray, List.set_cons_zero, List.set_cons_succ]
  refine wpList_run (by kernel_rfl) (.int .i64 (n : Int)) V2 (xo_load1 ⟨(w.heap.size + 1), 1, none⟩ _ (cells_at (heap_keep Fv1_5.out B1.out) 1 rfl) Tryd.underlying3 rfl rfl rfl) ?_
  simp only [Act.put, List.setIfInBounds_toArray, List.set_cons_zero, List.set_cons_succ]
  refine wpList_run (by kernel_rfl) (.bool false) V2 (xo_lssF .i64 (n : Int) 0 (by omega) rfl rfl rfl) ?_
  simp only [Act.put, List.setIfInBounds_toArray, List.set_cons_zero, List.set_cons_succ]
  refine wpList_run (by kernel_rfl) (.bool false) V2 rfl ?_
  simp only [Act.put, List.setIfInBounds_toArray, List.set_cons_zero, List.set_cons_succ]
  refine wpList_run (by kernel_rfl) (.bool false) V2 rfl ?_
  simp only [Act.put, List.setIfInBounds_toArray, List.set_cons_zero, List.set_cons_succ]
  refine wpList_run (by kernel_rfl) (.pointer (some ⟨(w.heap.size + 1), 1, none⟩)) V2 (xo_fld0 1 (w.heap.size + 1) 1 (by kernel_rfl) rfl rfl) ?_
  simp only [Act.put, List.setIfInBounds_toArray, List.set_cons_zero, List.set_cons_succ]
  refine wpList_run (by kernel_rfl) (.int .i64 (n : Int)) V2 (xo_load1 ⟨(w.heap.size + 1), 1, none⟩ _ (cells_at (heap_keep Fv1_5.out B1.out) 1 rfl) Tryd.underlying3 rfl rfl rfl) ?_
  simp only [Act.put, List.setIfInBounds_toArray, List.set_cons_zero, List.set_cons_succ]
  refine wpList_run (by kernel_rfl) (.bool false) V2 (xo_gtrF .i64 (n : Int) 64 (by omega) rfl rfl rfl) ?_
  simp only [Act.put, List.setIfInBounds_toArray, List.set_cons_zero, List.set_cons_succ]
  refine wpList_run (by kernel_rfl) (.bool false) V2 rfl ?_
  simp only [Act.put, List.setIfInBounds_toArray, List.set_cons_zero, List.set_cons_succ]
  refine wpList_run (by kernel_rfl) (.bool false) V2 rfl ?_
  simp only [Act.put, List.setIfInBounds_toArray, List.set_cons_zero, List.set_cons_succ]
  refine wpList_run (by kernel_rfl) (.pointer (some ⟨(w.heap.size + 1), 1, none⟩)) V2 (xo_fld0 1 (w.heap.size + 1) 1 (by kernel_rfl) rfl rfl) ?_
  simp only [Act.put, List.setIfInBounds_toArray, List.set_cons_zero, List.set_cons_succ]
  refine wpList_run (by kernel_rfl) (.int .i64 (n : Int)) V2 (xo_load1 ⟨(w.heap.size + 1), 1, none⟩ _ (cells_at (heap_keep Fv1_5.out B1.out) 1 rfl) Tryd.underlying3 rfl rfl rfl) ?_
  simp only [Act.put, List.setIfInBounds_toArray, List.set_cons_zero, List.set_cons_succ]
  refine wpList_run (by kernel_rfl) (.pointer (some ⟨(w.heap.size + 1), 0, none⟩)) V2 (xo_fld0 0 (w.heap.size + 1) 0 (by kernel_rfl) rfl rfl) ?_
  simp only [Act.put, List.setIfInBounds_toArray, List.set_cons_zero, List.set_cons_succ]
  refine wpList_run (by kernel_rfl) (.int .i64 (l : Int)) V2 (xo_load1 ⟨(w.heap.size + 1), 0, none⟩ _ (cells_at (heap_keep Fv1_5.out B1.out) 0 rfl) Tryd.underlying3 rfl rfl rfl) ?_
  simp only [Act.put, List.setIfInBounds_toArray, List.set_cons_zero, List.set_cons_succ]
  refine wpList_run (by kernel_rfl) (.bool false) V2 (xo_gtrF .i64 (n : Int) (l : Int) (by omega) rfl rfl rfl) ?_
  simp only [Act.put, List.setIfInBounds_toArray, List.set_cons_zero, List.set_cons_succ]
  refine wpList_run (by kernel_rfl) (.bool false) V2 rfl ?_
  simp only [Act.put, List.setIfInBounds_toArray, List.set_cons_zero, List.set_cons_succ]
  refine wpList_nil ?_
  have q3 := (Fv0_3.out.keep B1.out)
  have q5 := (heap_keep Fv1_5.out B1.out)
  have q6 := (Fv2_6.out.keep B1.out)
  have q8 := HI.out
  have C0_2 := Lib.hid (bel_step B0.out B1.out)
  have qb := C0_2.out
  have qz : V1.heap.size ≤ V2.heap.size := B1.out.size
  go_wp2_with fail
  go_loopw [8, 9] (fun o p wr => ∃ (q k : Nat) (A : Option Addr) (m cap : Nat), p = .int .i64 q ∧ q ≤ 4096 ∧ o = .slice A m cap ∧ IbN wr V1.heap.size A m cap (drawT f k) ∧ k ≤ 4 * q ∧ (k + 3) / 4 = q ∧ (k < 4 * q → n ≤ (drawT f k).length) ∧ (∀ j, j < k → (drawT f j).length < n) ∧ RowT wr w.heap.size s ((c + q) % 18446744073709551616) ∧ wr.heap[(w.heap.size + 1)]? = some (.cells #[.int .i64 (l : Int), .int .i64 (n : Int)] 47 (0, 0)) ∧ RowT wr (w.heap.size + 1 + 1) (List.replicate 32 0) 0 ∧ Below w.heap.size w wr ∧ V1.heap.size ≤ wr.heap.size) (fun _ p _ => 4096 - (intOf p).toNat)
  case atStart => exact ⟨0, 0, _, _, _, rfl, by omega, rfl, q8, by omega, rfl, fun h => by omega, fun j hj => by omega, by rw [show (c + 0) % 18446744073709551616 = c by omega]; exact q3, q5, q6, qb, qz⟩
  case round =>
    clear q3 q5 q6 q8 qb qz
    obtain ⟨wo, rfl⟩ : ∃ wo : World, wo = wr := ⟨_, rfl⟩
    obtain ⟨q, k, A, m, cap, rfl, hq, rfl, hi, hk4, hkq, hfull, hbef, h3, h5, h6, hb, hz⟩ := hrel
    have HFU := Lib.hid hfull
    have HBE := Lib.hid hbef
    have HZ := Lib.hid hz
    have hlen := hi.len
    have HLN := Lib.hid hlen
    have hmc := hi.1.cap
    have hct := hi.1.top
    obtain ⟨cq, hcq⟩ : ∃ x, (c + q) % 18446744073709551616 = x := ⟨_, rfl⟩
    rw [hcq] at h3
    have hcq2 : cq < 18446744073709551616 := by omega
    clear HI
    have hbr := hb
    clear B0
    have B0 := Lib.hid hbr
    clear hbr
    clear Fv0_3
    have Fv0_3 : Hid (RowT wo w.heap.size s cq) := Lib.hid (h3)
    clear Fv1_5
    have Fv1_5 : Hid (wo.heap[(w.heap.size + 1)]? = some (.cells #[.int .i64 (l : Int), .int .i64 (n : Int)] 47 (0, 0))) := Lib.hid (h5)
    clear Fv2_6
    have Fv2_6 : Hid (RowT wo (w.heap.size + 1 + 1) (List.replicate 32 0) 0) := Lib.hid (h6)
    have HI := Lib.hid hi
    clear hb h3 h5 h6 hi hfull hbef hz
    have hq0 : (0 : Int) ≤ (q : Int) := by omega
    by_cases hq4 : q < 4096
    · by_cases hmn0 : m < n
      · have hk : k = 4 * q := by
          rcases Nat.lt_or_ge k (4 * q) with h | h
          · have := HFU.out h; have := HLN.out; omega
          · omega
        subst hk
        obtain ⟨D, hD⟩ : ∃ D, outT s 3 lb cq = D := ⟨_, rfl⟩
        have HD := Lib.hid hD
        have HDB := Lib.hid (show ∀ z ∈ D, z < 256 by rw [← hD]; exact outT_lt _ _ _ _)
        clear hD
        have HFI := Lib.hid (show ∀ i, i < 4 → leV D (8 * i) % l = f (4 * q + i) by
          intro i hi
          rw [← HF.out]
          unfold cdF
          rw [show (4 * q + i) / 4 = q by omega, show (4 * q + i) % 4 = i by omega, hcq, HD.out])
        obtain ⟨c1, hc1⟩ : ∃ x, (cq + 1) % 18446744073709551616 = x := ⟨_, rfl⟩
        have hc1q : (c + (q + 1)) % 18446744073709551616 = c1 := by omega
        go_upto_region 5 with fail
        refine wp_region_lit ?_
        refine wpList_run (by kernel_rfl) (.int .i64 (q : Int)) wo rfl ?_
        simp only [Act.put, List.setIfInBounds_toArray, List.set_cons_zero, List.set_cons_succ]
        refine wpList_run (by kernel_rfl) (.bool true) wo (xo_lssT .i64 (q : Int) 4096 (by omega) rfl rfl rfl) ?_
        simp only [Act.put, List.setIfInBounds_toArray, List.set_cons_zero, List.set_cons_succ]
        refine wpList_run (by kernel_rfl) (.bool true) wo rfl ?_
        simp only [Act.put, List.setIfInBounds_toArray, List.set_cons_zero, List.set_cons_succ]
        refine wpList_run (by kernel_rfl) (.slice A m cap) wo rfl ?_
        simp only [Act.put, List.setIfInBounds_toArray, List.set_cons_zero, List.set_cons_succ]
        refine wpList_run (by kernel_rfl) (.int .i64 (m : Int)) wo (xo_len A m cap Tryd.underlying48 rfl rfl) ?_
        simp only [Act.put, List.setIfInBounds_toArray, List.set_cons_zero, List.set_cons_succ]
        refine wpList_run (by kernel_rfl) (.pointer (some ⟨(w.heap.size + 1), 1, none⟩)) wo (xo_fld0 1 (w.heap.size + 1) 1 (by kernel_rfl) rfl rfl) ?_
        simp only [Act.put, List.setIfInBounds_toArray, List.set_cons_zero, List.set_cons_succ]
        refine wpList_run (by kernel_rfl) (.int .i64 (n : Int)) wo (xo_load1 ⟨(w.heap.size + 1), 1, none⟩ _ (cells_at Fv1_5.out 1 rfl) Tryd.underlying3 rfl rfl rfl) ?_
        simp only [Act.put, List.setIfInBounds_toArray, List.set_cons_zero, List.set_cons_succ]
        refine wpList_run (by kernel_rfl) (.bool true) wo (xo_lssT .i64 (m : Int) (n : Int) (by omega) rfl rfl rfl) ?_
        simp only [Act.put, List.setIfInBounds_toArray, List.set_cons_zero, List.set_cons_succ]
        refine wpList_run (by kernel_rfl) (.bool true) wo rfl ?_
        simp only [Act.put, List.setIfInBounds_toArray, List.set_cons_zero, List.set_cons_succ]
        refine wpList_nil ?_
        go_upto_region 7 with fail
        refine wp_region_lit ?_
        refine wpList_run (by kernel_rfl) (.agg (trC s cq)) wo (exec_loadT w.heap.size s cq HDs.out.1 Fv0_3.out rfl rfl) ?_
        simp only [Act.put, List.setIfInBounds_toArray, List.set_cons_zero, List.set_cons_succ]
        refine wpList_run (by kernel_rfl) (.string lb) wo rfl ?_
        simp only [Act.put, List.setIfInBounds_toArray, List.set_cons_zero, List.set_cons_succ]
        refine wpList_call (by kernel_rfl) 42 Tryd.func42 (by kernel_rfl) (by kernel_rfl) _ _ #[.agg (trC s cq), .int .u8 ((3 : Nat) : Int), .string lb] rfl (by kernel_rfl) ?_
        refine (routputO_any s 3 lb cq wo HDs.out.1 HDs.out.2 hcq2 (by omega) hlb D HD.out).mono ?_
        rintro e V2 ⟨C, fo, rfl, hs, hb⟩
        have B1 := Lib.hid hb
        have HO := Lib.hid hs
        clear hb hs
        refine ⟨_, rfl, ?_⟩
        simp only [Act.put, List.setIfInBounds_toArray, List.set_cons_zero, List.set_cons_succ]
        refine wpList_run (by kernel_rfl) (.slice C 32 fo) V2 rfl ?_
        simp only [Act.put, List.setIfInBounds_toArray, List.set_cons_zero, List.set_cons_succ]
        refine wpList_nil ?_
        have hltO : w.heap.size < wo.heap.size := by have := HZ.out; omega
        have hsz1 := B1.out.size
        go_upto_region 8 with fail
        refine wp_region_lit ?_
        refine wpList_run (by kernel_rfl) (.pointer (some ⟨w.heap.size, 32, none⟩)) V2 (exec_fT1 w.heap.size rfl rfl V2) ?_
        simp only [Act.put, List.setIfInBounds_toArray, List.set_cons_zero, List.set_cons_succ]
        refine wpList_run (by kernel_rfl) (.int .u64 ((cq : Nat) : Int)) V2 (exec_loadU ⟨w.heap.size, 32, none⟩ _ ((Fv0_3.out.keep B1.out).count HDs.out.1) rfl rfl) ?_
        simp only [Act.put, List.setIfInBounds_toArray, List.set_cons_zero, List.set_cons_succ]
        refine wpList_run (by kernel_rfl) (.int .u64 (c1 : Int)) V2 (xo_addU cq 1 c1 hc1 rfl rfl rfl) ?_
        simp only [Act.put, List.setIfInBounds_toArray, List.set_cons_zero, List.set_cons_succ]
        refine wpList_run (by kernel_rfl) (.pointer (some ⟨w.heap.size, 32, none⟩)) V2 (exec_fT1 w.heap.size rfl rfl V2) ?_
        simp only [Act.put, List.setIfInBounds_toArray, List.set_cons_zero, List.set_cons_succ]
        refine wpList_store1 w.heap.size 32 (trC s cq) (.int .u64 (c1 : Int)) 32 (by kernel_rfl) (Fv0_3.out.keep B1.out) (xo_store1 w.heap.size 32 (trC s cq) _ (.int .u64 (c1 : Int)) (Fv0_3.out.keep B1.out) (trC_count HDs.out.1 _) (by kernel_rfl) rfl rfl rfl rfl) ?_
        intro X2_1 h1 hfar hbel hsz
        have YHI : IbN X2_1 V1.heap.size A m cap (drawT f (4 * q)) := ((HI.out.keep B1.out)).far hlt0 hfar
        have YHO : OwB X2_1 wo.heap.size (.slice C 32 fo) 32 D := OwB.same1 HO.out hltO hfar
        have YFv1_5 : X2_1.heap[(w.heap.size + 1)]? = some (.cells #[.int .i64 (l : Int), .int .i64 (n : Int)] 47 (0, 0)) := hfar _ _ (Ne.symm Nb0_1.out) (heap_keep Fv1_5.out B1.out)
        have YFv2_6 : RowT X2_1 (w.heap.size + 1 + 1) (List.replicate 32 0) 0 := hfar _ _ (Ne.symm Nb0_2.out) (Fv2_6.out.keep B1.out)
        have C0_2 := Lib.hid (bel_step B0.out B1.out)
        have hbr := hbel _ _ Gb0.out C0_2.out
        clear B0
        have B0 := Lib.hid hbr
        clear hbr
        clear Fv1_5
        have Fv1_5 : Hid (X2_1.heap[(w.heap.size + 1)]? = some (.cells #[.int .i64 (l : Int), .int .i64 (n : Int)] 47 (0, 0))) := Lib.hid YFv1_5
        clear YFv1_5
        clear Fv2_6
        have Fv2_6 : Hid (RowT X2_1 (w.heap.size + 1 + 1) (List.replicate 32 0) 0) := Lib.hid YFv2_6
        clear YFv2_6
        clear HI
        have HI := Lib.hid YHI
        clear YHI
        clear HO
        have HO := Lib.hid YHO
        clear YHO
        clear Fv0_3
        have Fv0_3 : Hid (RowT X2_1 w.heap.size s c1) := Lib.hid ((by have h2 := h1; rw [trC_set HDs.out.1 cq c1] at h2; exact h2))
        have HszX2_1 := Lib.hid hsz
        clear h1 hfar hbel hsz
        simp only [ptr, Act.put, List.setIfInBounds_toArray, List.set_cons_zero, List.set_cons_succ]
        refine wpList_nil ?_
        have HZ1 := Lib.hid (show V1.heap.size ≤ X2_1.heap.size by have := HZ.out; have := HszX2_1.out; omega)
        have q3 := Fv0_3.out
        have q5 := Fv1_5.out
        have q6 := Fv2_6.out
        have q8 := HI.out
        have qo := HO.out.sl'
        have qb := B0.out
        go_wp2_with fail
        go_loopw [8, 11] (fun o p wr => ∃ (i : Nat) (A : Option Addr) (m cap : Nat), p = .int .i64 i ∧ i ≤ 4 ∧ o = .slice A m cap ∧ IbN wr V1.heap.size A m cap (drawT f (4 * q + i)) ∧ (∀ j, j < 4 * q + i → (drawT f j).length < n) ∧ Below X2_1.heap.size X2_1 wr) (fun _ p _ => 4 - (intOf p).toNat)
        case atStart => exact ⟨0, _, _, _, rfl, by omega, rfl, q8, HBE.out, Below.refl _ _⟩
        case round =>
          clear q8 HBE HFU
          obtain ⟨w2, rfl⟩ : ∃ w2 : World, w2 = wr := ⟨_, rfl⟩
          obtain ⟨i, A2, m2, cap2, rfl, hi4, rfl, hi2, hbe, hb2⟩ := hrel
          have HB2 := Lib.hid hb2
          have HBE := Lib.hid hbe
          have hm2 := hi2.len
          have HM2 := Lib.hid hm2
          have HI2 := Lib.hid hi2
          have qb2 := bel_step qb hb2
          have HO2 := Lib.hid (qo.keep hb2)
          have HZ2 := Lib.hid (Nat.le_trans HZ1.out hb2.size)
          have hmc2 := hi2.1.cap
          have hct2 := hi2.1.top
          have hbr := qb2
          clear B0
          have B0 := Lib.hid hbr
          clear hbr
          clear Fv0_3
          have Fv0_3 : Hid (RowT w2 w.heap.size s c1) := Lib.hid (q3.keep hb2)
          clear Fv1_5
          have Fv1_5 : Hid (w2.heap[(w.heap.size + 1)]? = some (.cells #[.int .i64 (l : Int), .int .i64 (n : Int)] 47 (0, 0))) := Lib.hid (heap_keep q5 hb2)
          clear Fv2_6
          have Fv2_6 : Hid (RowT w2 (w.heap.size + 1 + 1) (List.replicate 32 0) 0) := Lib.hid (q6.keep hb2)
          clear hi2 hb2 hbe q3 q5 q6 qb qb2 qo
          have hi0 : (0 : Int) ≤ (i : Int) := by omega
          by_cases hi4' : i < 4
          · by_cases hmn2 : m2 < n
            · have hfi := HFI.out i hi4'
              have hfl : f (4 * q + i) < l := by rw [← hfi]; exact Nat.mod_lt _ (by omega)
              have HFK := Lib.hid hfi
              clear hfi
              go_upto_region 10 with fail
              refine wp_region_lit ?_
              refine wpList_run (by kernel_rfl) (.int .i64 (i : Int)) w2 rfl ?_
              simp only [Act.put, List.setIfInBounds_toArray, List.set_cons_zero, List.set_cons_succ]
              refine wpList_run (by kernel_rfl) (.bool true) w2 (xo_lssT .i64 (i : Int) 4 (by omega) rfl rfl rfl) ?_
              simp only [Act.put, List.setIfInBounds_toArray, List.set_cons_zero, List.set_cons_succ]
              refine wpList_run (by kernel_rfl) (.bool true) w2 rfl ?_
              simp only [Act.put, List.setIfInBounds_toArray, List.set_cons_zero, List.set_cons_succ]
              refine wpList_run (by kernel_rfl) (.slice A2 m2 cap2) w2 rfl ?_
              simp only [Act.put, List.setIfInBounds_toArray, List.set_cons_zero, List.set_cons_succ]
              refine wpList_run (by kernel_rfl) (.int .i64 (m2 : Int)) w2 (xo_len A2 m2 cap2 Tryd.underlying48 rfl rfl) ?_
              simp only [Act.put, List.setIfInBounds_toArray, List.set_cons_zero, List.set_cons_succ]
              refine wpList_run (by kernel_rfl) (.pointer (some ⟨(w.heap.size + 1), 1, none⟩)) w2 (xo_fld0 1 (w.heap.size + 1) 1 (by kernel_rfl) rfl rfl) ?_
              simp only [Act.put, List.setIfInBounds_toArray, List.set_cons_zero, List.set_cons_succ]
              refine wpList_run (by kernel_rfl) (.int .i64 (n : Int)) w2 (xo_load1 ⟨(w.heap.size + 1), 1, none⟩ _ (cells_at Fv1_5.out 1 rfl) Tryd.underlying3 rfl rfl rfl) ?_
              simp only [Act.put, List.setIfInBounds_toArray, List.set_cons_zero, List.set_cons_succ]
              refine wpList_run (by kernel_rfl) (.bool true) w2 (xo_lssT .i64 (m2 : Int) (n : Int) (by omega) rfl rfl rfl) ?_
              simp only [Act.put, List.setIfInBounds_toArray, List.set_cons_zero, List.set_cons_succ]
              refine wpList_run (by kernel_rfl) (.bool true) w2 rfl ?_
              simp only [Act.put, List.setIfInBounds_toArray, List.set_cons_zero, List.set_cons_succ]
              refine wpList_nil ?_
              go_upto_region 12 with fail
              try simp only [List.append_eq, List.cons_append, List.nil_append]
              refine Tl.wp_held_tailB 11 w2.heap.size (by kernel_rfl) (lexOK_of (by kernel_rfl) (by kernel_rfl)) (Tl.chainW_of (by kernel_rfl)) rfl (by kernel_rfl) (by kernel_rfl) (fun V2 hb hSW => ?_)
              simp only [List.take_succ_cons, List.take_zero]
              have HS2 := Lib.hid hSW
              have B1 := Lib.hid hb
              clear hb hSW
              refine wpHeld_seg 4 HS2.out (by kernel_rfl) ?_
              simp only [List.take_succ_cons, List.take_zero, List.drop_succ_cons, List.drop_zero]
              refine wpQuiet_val (by kernel_rfl) (.slice A2 m2 cap2) (fun v hv => rfl) ?_
              simp only [Act.put, List.setIfInBounds_toArray, List.set_cons_zero, List.set_cons_succ]
              refine wpQuiet_val (by kernel_rfl) (.slice C 32 fo) (fun v hv => rfl) ?_
              simp only [Act.put, List.setIfInBounds_toArray, List.set_cons_zero, List.set_cons_succ]
              refine wpQuiet_val (by kernel_rfl) (.int .i64 (i : Int)) (fun v hv => rfl) ?_
              simp only [Act.put, List.setIfInBounds_toArray, List.set_cons_zero, List.set_cons_succ]
              refine wpQuiet_val (by kernel_rfl) (.int .i64 ((8 * i : Nat) : Int)) (fun v hv => (xo_mulI 8 (i : Int) ((8 * i : Nat) : Int) (by omega) (by omega) (by omega) rfl rfl rfl)) ?_
              simp only [Act.put, List.setIfInBounds_toArray, List.set_cons_zero, List.set_cons_succ]
              refine wpQuiet_nil ?_
              refine wpHeld_call 31 Tryd.func31 (by kernel_rfl) (by kernel_rfl) _ _ #[.slice C 32 fo, .int .i64 ((8 * i : Nat) : Int)] rfl (by kernel_rfl) (by kernel_rfl) ?_
              refine (value_any C 32 fo D (8 * i) V2 (HO2.out.keep B1.out) (by omega)).mono ?_
              rintro e W1 ⟨rfl, hw1⟩
              rw [hw1]
              clear hw1 W1
              refine ⟨_, rfl, HS2.out, ?_⟩
              simp only [Act.put, List.setIfInBounds_toArray, List.set_cons_zero, List.set_cons_succ]
              refine wpHeld_seg 5 HS2.out (by kernel_rfl) ?_
              simp only [List.take_succ_cons, List.take_zero, List.drop_succ_cons, List.drop_zero]
              refine wpQuiet_val (by kernel_rfl) (.pointer (some ⟨(w.heap.size + 1), 0, none⟩)) (fun v hv => (xo_fld0 0 (w.heap.size + 1) 0 (by kernel_rfl) rfl rfl)) ?_
              simp only [Act.put, List.setIfInBounds_toArray, List.set_cons_zero, List.set_cons_succ]
              refine wpQuiet_val (by kernel_rfl) (.int .i64 (l : Int)) (fun v hv => (xo_load1 ⟨(w.heap.size + 1), 0, none⟩ _ (cells_at (heap_keep Fv1_5.out (LaterB.of hv)) 0 rfl) Tryd.underlying3 rfl rfl rfl)) ?_
              simp only [Act.put, List.setIfInBounds_toArray, List.set_cons_zero, List.set_cons_succ]
              refine wpQuiet_val (by kernel_rfl) (.int .u64 (l : Int)) (fun v hv => (xo_cvt .i64 .u64 (l : Int) (l : Int) (wrapU (by omega) (by omega)) Tryd.underlying25 Tryd.underlying3 rfl rfl)) ?_
              simp only [Act.put, List.setIfInBounds_toArray, List.set_cons_zero, List.set_cons_succ]
              refine wpQuiet_val (by kernel_rfl) (.int .u64 ((f (4 * q + i) : Nat) : Int)) (fun v hv => (xo_remN .u64 (leV D (8 * i)) l (f (4 * q + i)) (by omega) HFK.out rfl rfl rfl)) ?_
              simp only [Act.put, List.setIfInBounds_toArray, List.set_cons_zero, List.set_cons_succ]
              refine wpQuiet_val (by kernel_rfl) (.int .i64 ((f (4 * q + i) : Nat) : Int)) (fun v hv => (xo_cvt .u64 .i64 ((f (4 * q + i) : Nat) : Int) ((f (4 * q + i) : Nat) : Int) (wrapI (by omega) (by omega)) Tryd.underlying3 Tryd.underlying25 rfl rfl)) ?_
              simp only [Act.put, List.setIfInBounds_toArray, List.set_cons_zero, List.set_cons_succ]
              refine wpQuiet_nil ?_
              refine wpHeld_call 53 Tryd.func53 (by kernel_rfl) (by kernel_rfl) _ _ #[.slice A2 m2 cap2, .int .i64 ((f (4 * q + i) : Nat) : Int)] rfl (by kernel_rfl) (by kernel_rfl) ?_
              refine (rinsert_any A2 m2 cap2 (drawT f (4 * q + i)) (f (4 * q + i)) V2 V1.heap.size (HI2.out.keep B1.out) (drawT_sorted _ _) (by omega) (by omega) (Nat.le_trans HZ2.out B1.out.size)).mono ?_
              rintro e V3 ⟨C3, m3, f3, rfl, hs, hb⟩
              have B2 := Lib.hid hb
              have HS3 := Lib.hid (LaterB.step HS2.out (hb.mono B1.out.size))
              have HI3 := Lib.hid hs
              clear hb hs
              refine ⟨_, rfl, HS3.out, ?_⟩
              simp only [Act.put, List.setIfInBounds_toArray, List.set_cons_zero, List.set_cons_succ]
              refine wpHeld_nil ?_
              refine mOp_val (.slice C3 m3 f3) rfl rfl rfl ?_
              try simp only [List.getElem_toArray, List.getElem_cons_succ, List.getElem_cons_zero, ptr, Act.put, List.setIfInBounds_toArray, List.set_cons_zero, List.set_cons_succ]
              have z8 : IbN V3 V1.heap.size C3 m3 f3 (drawT f (4 * q + (i + 1))) := HI3.out
              have C1_3 := Lib.hid (bel_step B1.out B2.out)
              have zb := C1_3.out
              go_wp2_with fail
              go_roundw
              case rel => exact ⟨i + 1, _, _, _, by go_num, by omega, rfl, z8, fun j hj => by
                              rcases Nat.lt_or_ge j (4 * q + i) with h | h
                              · exact HBE.out j h
                              · obtain rfl : j = 4 * q + i := by omega
                                have := HM2.out; omega, bel_step HB2.out zb⟩
              case measure => simp [intOf]; omega
            · have hi1 : 1 ≤ i := by
                rcases Nat.eq_zero_or_pos i with h | h
                · exfalso; subst h; have h1 := HM2.out; have h2 := HLN.out; rw [Nat.add_zero] at h1; omega
                · exact h
              go_upto_region 10 with fail
              refine wp_region_lit ?_
              refine wpList_run (by kernel_rfl) (.int .i64 (i : Int)) w2 rfl ?_
              simp only [Act.put, List.setIfInBounds_toArray, List.set_cons_zero, List.set_cons_succ]
              refine wpList_run (by kernel_rfl) (.bool true) w2 (xo_lssT .i64 (i : Int) 4 (by omega) rfl rfl rfl) ?_
              simp only [Act.put, List.setIfInBounds_toArray, List.set_cons_zero, List.set_cons_succ]
              refine wpList_run (by kernel_rfl) (.bool true) w2 rfl ?_
              simp only [Act.put, List.setIfInBounds_toArray, List.set_cons_zero, List.set_cons_succ]
              refine wpList_run (by kernel_rfl) (.slice A2 m2 cap2) w2 rfl ?_
              simp only [Act.put, List.setIfInBounds_toArray, List.set_cons_zero, List.set_cons_succ]
              refine wpList_run (by kernel_rfl) (.int .i64 (m2 : Int)) w2 (xo_len A2 m2 cap2 Tryd.underlying48 rfl rfl) ?_
              simp only [Act.put, List.setIfInBounds_toArray, List.set_cons_zero, List.set_cons_succ]
              refine wpList_run (by kernel_rfl) (.pointer (some ⟨(w.heap.size + 1), 1, none⟩)) w2 (xo_fld0 1 (w.heap.size + 1) 1 (by kernel_rfl) rfl rfl) ?_
              simp only [Act.put, List.setIfInBounds_toArray, List.set_cons_zero, List.set_cons_succ]
              refine wpList_run (by kernel_rfl) (.int .i64 (n : Int)) w2 (xo_load1 ⟨(w.heap.size + 1), 1, none⟩ _ (cells_at Fv1_5.out 1 rfl) Tryd.underlying3 rfl rfl rfl) ?_
              simp only [Act.put, List.setIfInBounds_toArray, List.set_cons_zero, List.set_cons_succ]
              refine wpList_run (by kernel_rfl) (.bool false) w2 (xo_lssF .i64 (m2 : Int) (n : Int) (by omega) rfl rfl rfl) ?_
              simp only [Act.put, List.setIfInBounds_toArray, List.set_cons_zero, List.set_cons_succ]
              refine wpList_run (by kernel_rfl) (.bool false) w2 rfl ?_
              simp only [Act.put, List.setIfInBounds_toArray, List.set_cons_zero, List.set_cons_succ]
              refine wpList_nil ?_
              go_upto_region 6 with fail
              refine wp_region_lit ?_
              refine wpList_run (by kernel_rfl) (.int .i64 (q : Int)) w2 rfl ?_
              simp only [Act.put, List.setIfInBounds_toArray, List.set_cons_zero, List.set_cons_succ]
              refine wpList_run (by kernel_rfl) (.int .i64 ((q + 1 : Nat) : Int)) w2 (xo_addI (q : Int) 1 ((q + 1 : Nat) : Int) (by omega) (by omega) (by omega) rfl rfl rfl) ?_
              simp only [Act.put, List.setIfInBounds_toArray, List.set_cons_zero, List.set_cons_succ]
              refine wpList_run (by kernel_rfl) (.int .i64 ((q + 1 : Nat) : Int)) w2 rfl ?_
              simp only [Act.put, List.setIfInBounds_toArray, List.set_cons_zero, List.set_cons_succ]
              refine wpList_nil ?_
              have z3 := Fv0_3.out
              have z5 := Fv1_5.out
              have z6 := Fv2_6.out
              have z8 := HI2.out
              have zb := B0.out
              have zz := HZ2.out
              go_wp2_with fail
              go_roundw
              case rel => exact ⟨q + 1, 4 * q + i, _, _, _, by go_num, by omega, rfl, z8, by omega, by omega, fun _ => by have := HM2.out; omega, HBE.out, by rw [hc1q]; exact z3, z5, z6, zb, zz⟩
              case measure => simp [intOf]; omega
          · obtain rfl : i = 4 := by omega
            go_upto_region 10 with fail
            refine wp_region_lit ?_
            refine wpList_run (by kernel_rfl) (.int .i64 ((4 : Nat) : Int)) w2 rfl ?_
            simp only [Act.put, List.setIfInBounds_toArray, List.set_cons_zero, List.set_cons_succ]
            refine wpList_run (by kernel_rfl) (.bool false) w2 (xo_lssF .i64 4 4 (by omega) rfl rfl rfl) ?_
            simp only [Act.put, List.setIfInBounds_toArray, List.set_cons_zero, List.set_cons_succ]
            refine wpList_run (by kernel_rfl) (.bool false) w2 rfl ?_
            simp only [Act.put, List.setIfInBounds_toArray, List.set_cons_zero, List.set_cons_succ]
            refine wpList_skip (by kernel_rfl) ?_
            try simp only [Act.put, List.setIfInBounds_toArray, List.set_cons_zero, List.set_cons_succ]
            refine wpList_skip (by kernel_rfl) ?_
            try simp only [Act.put, List.setIfInBounds_toArray, List.set_cons_zero, List.set_cons_succ]
            refine wpList_skip (by kernel_rfl) ?_
            try simp only [Act.put, List.setIfInBounds_toArray, List.set_cons_zero, List.set_cons_succ]
            refine wpList_skip (by kernel_rfl) ?_
            try simp only [Act.put, List.setIfInBounds_toArray, List.set_cons_zero, List.set_cons_succ]
            refine wpList_skip (by kernel_rfl) ?_
            try simp only [Act.put, List.setIfInBounds_toArray, List.set_cons_zero, List.set_cons_succ]
            refine wpList_run (by kernel_rfl) (.bool false) w2 rfl ?_
            simp only [Act.put, List.setIfInBounds_toArray, List.set_cons_zero, List.set_cons_succ]
            refine wpList_nil ?_
            go_upto_region 6 with fail
            refine wp_region_lit ?_
            refine wpList_run (by kernel_rfl) (.int .i64 (q : Int)) w2 rfl ?_
            simp only [Act.put, List.setIfInBounds_toArray, List.set_cons_zero, List.set_cons_succ]
            refine wpList_run (by kernel_rfl) (.int .i64 ((q + 1 : Nat) : Int)) w2 (xo_addI (q : Int) 1 ((q + 1 : Nat) : Int) (by omega) (by omega) (by omega) rfl rfl rfl) ?_
            simp only [Act.put, List.setIfInBounds_toArray, List.set_cons_zero, List.set_cons_succ]
            refine wpList_run (by kernel_rfl) (.int .i64 ((q + 1 : Nat) : Int)) w2 rfl ?_
            simp only [Act.put, List.setIfInBounds_toArray, List.set_cons_zero, List.set_cons_succ]
            refine wpList_nil ?_
            have z3 := Fv0_3.out
            have z5 := Fv1_5.out
            have z6 := Fv2_6.out
            have z8 := HI2.out
            have zb := B0.out
            have zz := HZ2.out
            go_wp2_with fail
            go_roundw
            case rel => exact ⟨q + 1, 4 * q + 4, _, _, _, by go_num, by omega, rfl, z8, by omega, by omega, fun h => by omega, HBE.out, by rw [hc1q]; exact z3, z5, z6, zb, zz⟩
            case measure => simp [intOf]; omega
      · go_upto_region 5 with fail
        refine wp_region_lit ?_
        refine wpList_run (by kernel_rfl) (.int .i64 (q : Int)) wo rfl ?_
        simp only [Act.put, List.setIfInBounds_toArray, List.set_cons_zero, List.set_cons_succ]
        refine wpList_run (by kernel_rfl) (.bool true) wo (xo_lssT .i64 (q : Int) 4096 (by omega) rfl rfl rfl) ?_
        simp only [Act.put, List.setIfInBounds_toArray, List.set_cons_zero, List.set_cons_succ]
        refine wpList_run (by kernel_rfl) (.bool true) wo rfl ?_
        simp only [Act.put, List.setIfInBounds_toArray, List.set_cons_zero, List.set_cons_succ]
        refine wpList_run (by kernel_rfl) (.slice A m cap) wo rfl ?_
        simp only [Act.put, List.setIfInBounds_toArray, List.set_cons_zero, List.set_cons_succ]
        refine wpList_run (by kernel_rfl) (.int .i64 (m : Int)) wo (xo_len A m cap Tryd.underlying48 rfl rfl) ?_
        simp only [Act.put, List.setIfInBounds_toArray, List.set_cons_zero, List.set_cons_succ]
        refine wpList_run (by kernel_rfl) (.pointer (some ⟨(w.heap.size + 1), 1, none⟩)) wo (xo_fld0 1 (w.heap.size + 1) 1 (by kernel_rfl) rfl rfl) ?_
        simp only [Act.put, List.setIfInBounds_toArray, List.set_cons_zero, List.set_cons_succ]
        refine wpList_run (by kernel_rfl) (.int .i64 (n : Int)) wo (xo_load1 ⟨(w.heap.size + 1), 1, none⟩ _ (cells_at Fv1_5.out 1 rfl) Tryd.underlying3 rfl rfl rfl) ?_
        simp only [Act.put, List.setIfInBounds_toArray, List.set_cons_zero, List.set_cons_succ]
        refine wpList_run (by kernel_rfl) (.bool false) wo (xo_lssF .i64 (m : Int) (n : Int) (by omega) rfl rfl rfl) ?_
        simp only [Act.put, List.setIfInBounds_toArray, List.set_cons_zero, List.set_cons_succ]
        refine wpList_run (by kernel_rfl) (.bool false) wo rfl ?_
        simp only [Act.put, List.setIfInBounds_toArray, List.set_cons_zero, List.set_cons_succ]
        refine wpList_nil ?_
        have hst : stopT f n 16384 = k := stopT_eq (by omega) HBE.out (fun _ => by have := HLN.out; omega)
        have HC2 : Hid (lastC c k = c') := Lib.hid (by rw [← hst]; exact HC.out)
        have HR2 : Hid (fillT n l 0 (drawT f k) = R) := Lib.hid (by rw [← HR.out, ← hst]; rfl)
        clear hst
        have hcc : cq = c' := by rw [← HC2.out]; unfold lastC outsN; rw [hkq]; exact hcq.symm
        subst hcc
        have q3 := Fv0_3.out
        have q5 := Fv1_5.out
        have q6 := Fv2_6.out
        have q8 := HI.out
        have qb := B0.out
        have hsrt := drawT_sorted f k
        go_wp2_with fail
        go_loopw [8, 12] (fun o p wr => ∃ (i : Nat) (cur : List Nat) (A : Option Addr) (m cap : Nat), p = .int .i64 i ∧ i ≤ l ∧ o = .slice A m cap ∧ IbN wr V1.heap.size A m cap cur ∧ cur.Pairwise (· < ·) ∧ (∀ z, z < i → z ∈ cur) ∧ fillT n (l - i) i cur = R ∧ Below wo.heap.size wo wr) (fun _ p _ => l - (intOf p).toNat)
        case atStart => exact ⟨0, drawT f k, _, _, _, rfl, Nat.zero_le _, rfl, q8, hsrt, fun z hz => by omega, HR2.out, Below.refl _ _⟩
        case round =>
          clear q8 hsrt HR2
          obtain ⟨w2, rfl⟩ : ∃ w2 : World, w2 = wr := ⟨_, rfl⟩
          obtain ⟨i, cur, A2, m2, cap2, rfl, hil, rfl, hi2, hsr, hin, hfl, hb2⟩ := hrel
          have HB2 := Lib.hid hb2
          have HZ2 := Lib.hid (Nat.le_trans HZ.out hb2.size)
          have hm2 := hi2.len
          have HM2 := Lib.hid hm2
          have HFL := Lib.hid hfl
          have HSR := Lib.hid hsr
          have HIN := Lib.hid hin
          have hmc2 := hi2.1.cap
          have hct2 := hi2.1.top
          have HI2 := Lib.hid hi2
          have qb2 := bel_step qb hb2
          have hbr := qb2
          clear B0
          have B0 := Lib.hid hbr
          clear hbr
          clear Fv0_3
          have Fv0_3 : Hid (RowT w2 w.heap.size s cq) := Lib.hid (q3.keep hb2)
          clear Fv1_5
          have Fv1_5 : Hid (w2.heap[(w.heap.size + 1)]? = some (.cells #[.int .i64 (l : Int), .int .i64 (n : Int)] 47 (0, 0))) := Lib.hid (heap_keep q5 hb2)
          clear Fv2_6
          have Fv2_6 : Hid (RowT w2 (w.heap.size + 1 + 1) (List.replicate 32 0) 0) := Lib.hid (q6.keep hb2)
          clear hi2 hb2 hsr hin hfl q3 q5 q6 qb qb2
          have hi0 : (0 : Int) ≤ (i : Int) := by omega
          by_cases hmn : m2 < n
          · have hile : i < l := by
              have h1 := sorted_geT i cur (sorted_nodupT HSR.out) HIN.out
              omega
            have HFL2 := Lib.hid (show fillT n (l - (i + 1)) (i + 1) (insT cur i) = R by
              have h1 := HFL.out
              rw [show l - i = (l - (i + 1)) + 1 by omega] at h1
              unfold fillT at h1
              rwa [if_pos (by omega)] at h1)
            go_upto_region 14 with fail
            refine wp_region_lit ?_
            refine wpList_run (by kernel_rfl) (.slice A2 m2 cap2) w2 rfl ?_
            simp only [Act.put, List.setIfInBounds_toArray, List.set_cons_zero, List.set_cons_succ]
            refine wpList_run (by kernel_rfl) (.int .i64 (m2 : Int)) w2 (xo_len A2 m2 cap2 Tryd.underlying48 rfl rfl) ?_
            simp only [Act.put, List.setIfInBounds_toArray, List.set_cons_zero, List.set_cons_succ]
            refine wpList_run (by kernel_rfl) (.pointer (some ⟨(w.heap.size + 1), 1, none⟩)) w2 (xo_fld0 1 (w.heap.size + 1) 1 (by kernel_rfl) rfl rfl) ?_
            simp only [Act.put, List.setIfInBounds_toArray, List.set_cons_zero, List.set_cons_succ]
            refine wpList_run (by kernel_rfl) (.int .i64 (n : Int)) w2 (xo_load1 ⟨(w.heap.size + 1), 1, none⟩ _ (cells_at Fv1_5.out 1 rfl) Tryd.underlying3 rfl rfl rfl) ?_
            simp only [Act.put, List.setIfInBounds_toArray, List.set_cons_zero, List.set_cons_succ]
            refine wpList_run (by kernel_rfl) (.bool true) w2 (xo_lssT .i64 (m2 : Int) (n : Int) (by omega) rfl rfl rfl) ?_
            simp only [Act.put, List.setIfInBounds_toArray, List.set_cons_zero, List.set_cons_succ]
            refine wpList_nil ?_
            go_upto_region 16 with fail
            refine wp_region_lit ?_
            refine wpList_run (by kernel_rfl) (.slice A2 m2 cap2) w2 rfl ?_
            simp only [Act.put, List.setIfInBounds_toArray, List.set_cons_zero, List.set_cons_succ]
            refine wpList_run (by kernel_rfl) (.int .i64 (i : Int)) w2 rfl ?_
            simp only [Act.put, List.setIfInBounds_toArray, List.set_cons_zero, List.set_cons_succ]
            refine wpList_call (by kernel_rfl) 53 Tryd.func53 (by kernel_rfl) (by kernel_rfl) _ _ #[.slice A2 m2 cap2, .int .i64 (i : Int)] rfl (by kernel_rfl) ?_
            refine (rinsert_any A2 m2 cap2 cur i w2 V1.heap.size HI2.out HSR.out (by omega) (by omega) (Nat.le_trans HZ2.out (Below.refl w2.heap.size w2).size)).mono ?_
            rintro e V2 ⟨C3, m3, f3, rfl, hs, hb⟩
            have B1 := Lib.hid hb
            have HI3 := Lib.hid hs
            clear hb hs
            refine ⟨_, rfl, ?_⟩
            simp only [Act.put, List.setIfInBounds_toArray, List.set_cons_zero, List.set_cons_succ]
            refine wpList_run (by kernel_rfl) (.slice C3 m3 f3) V2 rfl ?_
            simp only [Act.put, List.setIfInBounds_toArray, List.set_cons_zero, List.set_cons_succ]
            refine wpList_nil ?_
            have z8 := HI3.out
            have zb := B1.out
            go_wp2_with fail
            go_roundw
            case rel => exact ⟨i + 1, insT cur i, _, _, _, by go_num, by omega, rfl, z8, insT_sorted HSR.out, fun z hz => mem_insT.2 (by rcases Nat.lt_succ_iff_lt_or_eq.1 hz with h | h; exact .inr (HIN.out z h); exact .inl h), HFL2.out, bel_step HB2.out zb⟩
            case measure => simp [intOf]; omega
          · have HE := Lib.hid (show cur = R by have h1 := HFL.out; rwa [fillT_full _ _ _ (by omega)] at h1)
            have hRn : m2 = n := by have h1 := pickT_length (f := f) (n := n) (L := l) (K := 16384) hnL; rw [HR.out, ← HE.out] at h1; omega
            go_upto_region 14 with fail
            refine wp_region_lit ?_
            refine wpList_run (by kernel_rfl) (.slice A2 m2 cap2) w2 rfl ?_
            simp only [Act.put, List.setIfInBounds_toArray, List.set_cons_zero, List.set_cons_succ]
            refine wpList_run (by kernel_rfl) (.int .i64 (m2 : Int)) w2 (xo_len A2 m2 cap2 Tryd.underlying48 rfl rfl) ?_
            simp only [Act.put, List.setIfInBounds_toArray, List.set_cons_zero, List.set_cons_succ]
            refine wpList_run (by kernel_rfl) (.pointer (some ⟨(w.heap.size + 1), 1, none⟩)) w2 (xo_fld0 1 (w.heap.size + 1) 1 (by kernel_rfl) rfl rfl) ?_
            simp only [Act.put, List.setIfInBounds_toArray, List.set_cons_zero, List.set_cons_succ]
            refine wpList_run (by kernel_rfl) (.int .i64 (n : Int)) w2 (xo_load1 ⟨(w.heap.size + 1), 1, none⟩ _ (cells_at Fv1_5.out 1 rfl) Tryd.underlying3 rfl rfl rfl) ?_
            simp only [Act.put, List.setIfInBounds_toArray, List.set_cons_zero, List.set_cons_succ]
            refine wpList_run (by kernel_rfl) (.bool false) w2 (xo_lssF .i64 (m2 : Int) (n : Int) (by omega) rfl rfl rfl) ?_
            simp only [Act.put, List.setIfInBounds_toArray, List.set_cons_zero, List.set_cons_succ]
            refine wpList_nil ?_
            go_upto_region 17 with fail
            refine wp_region_lit ?_
            refine wpList_run (by kernel_rfl) (.agg (trC s cq)) w2 (exec_loadT w.heap.size s cq HDs.out.1 Fv0_3.out rfl rfl) ?_
            simp only [Act.put, List.setIfInBounds_toArray, List.set_cons_zero, List.set_cons_succ]
            refine wpList_run (by kernel_rfl) (.slice A2 m2 cap2) w2 rfl ?_
            simp only [Act.put, List.setIfInBounds_toArray, List.set_cons_zero, List.set_cons_succ]
            refine wpList_storeW (w.heap.size + 1 + 1) (trC (List.replicate 32 0) 0) (trC s cq) 32 (by kernel_rfl) Fv2_6.out (exec_storeT (w.heap.size + 1 + 1) (List.replicate 32 0) 0 s cq List.length_replicate HDs.out.1 Fv2_6.out rfl rfl rfl) ?_
            intro X1_2 h1 hfar hbel hsz
            have YHI2 : IbN X1_2 V1.heap.size A2 m2 cap2 cur := (HI2.out).far hlt2 hfar
            have YFv0_3 : RowT X1_2 w.heap.size s cq := hfar _ _ Nb0_2.out Fv0_3.out
            have YFv1_5 : X1_2.heap[(w.heap.size + 1)]? = some (.cells #[.int .i64 (l : Int), .int .i64 (n : Int)] 47 (0, 0)) := hfar _ _ Nb1_2.out Fv1_5.out
            have hbr := hbel _ _ Gb2.out B0.out
            clear B0
            have B0 := Lib.hid hbr
            clear hbr
            clear Fv0_3
            have Fv0_3 : Hid (RowT X1_2 w.heap.size s cq) := Lib.hid YFv0_3
            clear YFv0_3
            clear Fv1_5
            have Fv1_5 : Hid (X1_2.heap[(w.heap.size + 1)]? = some (.cells #[.int .i64 (l : Int), .int .i64 (n : Int)] 47 (0, 0))) := Lib.hid YFv1_5
            clear YFv1_5
            clear HI2
            have HI2 := Lib.hid YHI2
            clear YHI2
            clear Fv2_6
            have Fv2_6 : Hid (RowT X1_2 (w.heap.size + 1 + 1) s cq) := Lib.hid (h1)
            have HszX1_2 := Lib.hid hsz
            clear h1 hfar hbel hsz
            simp only [ptr, Act.put, List.setIfInBounds_toArray, List.set_cons_zero, List.set_cons_succ]
            refine wpList_run (by kernel_rfl) (.slice A2 m2 cap2) X1_2 rfl ?_
            simp only [Act.put, List.setIfInBounds_toArray, List.set_cons_zero, List.set_cons_succ]
            refine wpList_nil ?_
            have hB := B0.out
            have hI := HI2.out.1
            rw [HE.out, hRn] at hI
            have hR9 := Fv2_6.out
            go_wp2_with fail
            refine bodyPost_ret (v := .tuple #[.agg (trC s cq), .slice A2 m2 cap2]) ?_ rfl ⟨A2, cap2, by rw [hRn], hI, hB⟩
            exact results_row_tmp rfl _ _ (w.heap.size + 1 + 1) 32 _ (0, 0) _ _ rfl rfl hR9 Tryd.underlying32 rfl (trC_info HDs.out.1 cq)
    · obtain rfl : q = 4096 := by omega
      go_upto_region 5 with fail
      refine wp_region_lit ?_
      refine wpList_run (by kernel_rfl) (.int .i64 ((4096 : Nat) : Int)) wo rfl ?_
      simp only [Act.put, List.setIfInBounds_toArray, List.set_cons_zero, List.set_cons_succ]
      refine wpList_run (by kernel_rfl) (.bool false) wo (xo_lssF .i64 4096 4096 (by omega) rfl rfl rfl) ?_
      simp only [Act.put, List.setIfInBounds_toArray, List.set_cons_zero, List.set_cons_succ]
      refine wpList_run (by kernel_rfl) (.bool false) wo rfl ?_
      simp only [Act.put, List.setIfInBounds_toArray, List.set_cons_zero, List.set_cons_succ]
      refine wpList_skip (by kernel_rfl) ?_
      try simp only [Act.put, List.setIfInBounds_toArray, List.set_cons_zero, List.set_cons_succ]
      refine wpList_skip (by kernel_rfl) ?_
      try simp only [Act.put, List.setIfInBounds_toArray, List.set_cons_zero, List.set_cons_succ]
      refine wpList_skip (by kernel_rfl) ?_
      try simp only [Act.put, List.setIfInBounds_toArray, List.set_cons_zero, List.set_cons_succ]
      refine wpList_skip (by kernel_rfl) ?_
      try simp only [Act.put, List.setIfInBounds_toArray, List.set_cons_zero, List.set_cons_succ]
      refine wpList_skip (by kernel_rfl) ?_
      try simp only [Act.put, List.setIfInBounds_toArray, List.set_cons_zero, List.set_cons_succ]
      refine wpList_run (by kernel_rfl) (.bool false) wo rfl ?_
      simp only [Act.put, List.setIfInBounds_toArray, List.set_cons_zero, List.set_cons_succ]
      refine wpList_nil ?_
      have hst : stopT f n 16384 = k := stopT_eq (by omega) HBE.out (fun h => HFU.out (by omega))
      have HC2 : Hid (lastC c k = c') := Lib.hid (by rw [← hst]; exact HC.out)
      have HR2 : Hid (fillT n l 0 (drawT f k) = R) := Lib.hid (by rw [← HR.out, ← hst]; rfl)
      clear hst
      have hcc : cq = c' := by rw [← HC2.out]; unfold lastC outsN; rw [hkq]; exact hcq.symm
      subst hcc
      have q3 := Fv0_3.out
      have q5 := Fv1_5.out
      have q6 := Fv2_6.out
      have q8 := HI.out
      have qb := B0.out
      have hsrt := drawT_sorted f k
      go_wp2_with fail
      go_loopw [8, 12] (fun o p wr => ∃ (i : Nat) (cur : List Nat) (A : Option Addr) (m cap : Nat), p = .int .i64 i ∧ i ≤ l ∧ o = .slice A m cap ∧ IbN wr V1.heap.size A m cap cur ∧ cur.Pairwise (· < ·) ∧ (∀ z, z < i → z ∈ cur) ∧ fillT n (l - i) i cur = R ∧ Below wo.heap.size wo wr) (fun _ p _ => l - (intOf p).toNat)
      case atStart => exact ⟨0, drawT f k, _, _, _, rfl, Nat.zero_le _, rfl, q8, hsrt, fun z hz => by omega, HR2.out, Below.refl _ _⟩
      case round =>
        clear q8 hsrt HR2
        obtain ⟨w2, rfl⟩ : ∃ w2 : World, w2 = wr := ⟨_, rfl⟩
        obtain ⟨i, cur, A2, m2, cap2, rfl, hil, rfl, hi2, hsr, hin, hfl, hb2⟩ := hrel
        have HB2 := Lib.hid hb2
        have HZ2 := Lib.hid (Nat.le_trans HZ.out hb2.size)
        have hm2 := hi2.len
        have HM2 := Lib.hid hm2
        have HFL := Lib.hid hfl
        have HSR := Lib.hid hsr
        have HIN := Lib.hid hin
        have hmc2 := hi2.1.cap
        have hct2 := hi2.1.top
        have HI2 := Lib.hid hi2
        have qb2 := bel_step qb hb2
        have hbr := qb2
        clear B0
        have B0 := Lib.hid hbr
        clear hbr
        clear Fv0_3
        have Fv0_3 : Hid (RowT w2 w.heap.size s cq) := Lib.hid (q3.keep hb2)
        clear Fv1_5
        have Fv1_5 : Hid (w2.heap[(w.heap.size + 1)]? = some (.cells #[.int .i64 (l : Int), .int .i64 (n : Int)] 47 (0, 0))) := Lib.hid (heap_keep q5 hb2)
        clear Fv2_6
        have Fv2_6 : Hid (RowT w2 (w.heap.size + 1 + 1) (List.replicate 32 0) 0) := Lib.hid (q6.keep hb2)
        clear hi2 hb2 hsr hin hfl q3 q5 q6 qb qb2
        have hi0 : (0 : Int) ≤ (i : Int) := by omega
        by_cases hmn : m2 < n
        · have hile : i < l := by
            have h1 := sorted_geT i cur (sorted_nodupT HSR.out) HIN.out
            omega
          have HFL2 := Lib.hid (show fillT n (l - (i + 1)) (i + 1) (insT cur i) = R by
            have h1 := HFL.out
            rw [show l - i = (l - (i + 1)) + 1 by omega] at h1
            unfold fillT at h1
            rwa [if_pos (by omega)] at h1)
          go_upto_region 14 with fail
          refine wp_region_lit ?_
          refine wpList_run (by kernel_rfl) (.slice A2 m2 cap2) w2 rfl ?_
          simp only [Act.put, List.setIfInBounds_toArray, List.set_cons_zero, List.set_cons_succ]
          refine wpList_run (by kernel_rfl) (.int .i64 (m2 : Int)) w2 (xo_len A2 m2 cap2 Tryd.underlying48 rfl rfl) ?_
          simp only [Act.put, List.setIfInBounds_toArray, List.set_cons_zero, List.set_cons_succ]
          refine wpList_run (by kernel_rfl) (.pointer (some ⟨(w.heap.size + 1), 1, none⟩)) w2 (xo_fld0 1 (w.heap.size + 1) 1 (by kernel_rfl) rfl rfl) ?_
          simp only [Act.put, List.setIfInBounds_toArray, List.set_cons_zero, List.set_cons_succ]
          refine wpList_run (by kernel_rfl) (.int .i64 (n : Int)) w2 (xo_load1 ⟨(w.heap.size + 1), 1, none⟩ _ (cells_at Fv1_5.out 1 rfl) Tryd.underlying3 rfl rfl rfl) ?_
          simp only [Act.put, List.setIfInBounds_toArray, List.set_cons_zero, List.set_cons_succ]
          refine wpList_run (by kernel_rfl) (.bool true) w2 (xo_lssT .i64 (m2 : Int) (n : Int) (by omega) rfl rfl rfl) ?_
          simp only [Act.put, List.setIfInBounds_toArray, List.set_cons_zero, List.set_cons_succ]
          refine wpList_nil ?_
          go_upto_region 16 with fail
          refine wp_region_lit ?_
          refine wpList_run (by kernel_rfl) (.slice A2 m2 cap2) w2 rfl ?_
          simp only [Act.put, List.setIfInBounds_toArray, List.set_cons_zero, List.set_cons_succ]
          refine wpList_run (by kernel_rfl) (.int .i64 (i : Int)) w2 rfl ?_
          simp only [Act.put, List.setIfInBounds_toArray, List.set_cons_zero, List.set_cons_succ]
          refine wpList_call (by kernel_rfl) 53 Tryd.func53 (by kernel_rfl) (by kernel_rfl) _ _ #[.slice A2 m2 cap2, .int .i64 (i : Int)] rfl (by kernel_rfl) ?_
          refine (rinsert_any A2 m2 cap2 cur i w2 V1.heap.size HI2.out HSR.out (by omega) (by omega) (Nat.le_trans HZ2.out (Below.refl w2.heap.size w2).size)).mono ?_
          rintro e V2 ⟨C3, m3, f3, rfl, hs, hb⟩
          have B1 := Lib.hid hb
          have HI3 := Lib.hid hs
          clear hb hs
          refine ⟨_, rfl, ?_⟩
          simp only [Act.put, List.setIfInBounds_toArray, List.set_cons_zero, List.set_cons_succ]
          refine wpList_run (by kernel_rfl) (.slice C3 m3 f3) V2 rfl ?_
          simp only [Act.put, List.setIfInBounds_toArray, List.set_cons_zero, List.set_cons_succ]
          refine wpList_nil ?_
          have z8 := HI3.out
          have zb := B1.out
          go_wp2_with fail
          go_roundw
          case rel => exact ⟨i + 1, insT cur i, _, _, _, by go_num, by omega, rfl, z8, insT_sorted HSR.out, fun z hz => mem_insT.2 (by rcases Nat.lt_succ_iff_lt_or_eq.1 hz with h | h; exact .inr (HIN.out z h); exact .inl h), HFL2.out, bel_step HB2.out zb⟩
          case measure => simp [intOf]; omega
        · have HE := Lib.hid (show cur = R by have h1 := HFL.out; rwa [fillT_full _ _ _ (by omega)] at h1)
          have hRn : m2 = n := by have h1 := pickT_length (f := f) (n := n) (L := l) (K := 16384) hnL; rw [HR.out, ← HE.out] at h1; omega
          go_upto_region 14 with fail
          refine wp_region_lit ?_
          refine wpList_run (by kernel_rfl) (.slice A2 m2 cap2) w2 rfl ?_
          simp only [Act.put, List.setIfInBounds_toArray, List.set_cons_zero, List.set_cons_succ]
          refine wpList_run (by kernel_rfl) (.int .i64 (m2 : Int)) w2 (xo_len A2 m2 cap2 Tryd.underlying48 rfl rfl) ?_
          simp only [Act.put, List.setIfInBounds_toArray, List.set_cons_zero, List.set_cons_succ]
          refine wpList_run (by kernel_rfl) (.pointer (some ⟨(w.heap.size + 1), 1, none⟩)) w2 (xo_fld0 1 (w.heap.size + 1) 1 (by kernel_rfl) rfl rfl) ?_
          simp only [Act.put, List.setIfInBounds_toArray, List.set_cons_zero, List.set_cons_succ]
          refine wpList_run (by kernel_rfl) (.int .i64 (n : Int)) w2 (xo_load1 ⟨(w.heap.size + 1), 1, none⟩ _ (cells_at Fv1_5.out 1 rfl) Tryd.underlying3 rfl rfl rfl) ?_
          simp only [Act.put, List.setIfInBounds_toArray, List.set_cons_zero, List.set_cons_succ]
          refine wpList_run (by kernel_rfl) (.bool false) w2 (xo_lssF .i64 (m2 : Int) (n : Int) (by omega) rfl rfl rfl) ?_
          simp only [Act.put, List.setIfInBounds_toArray, List.set_cons_zero, List.set_cons_succ]
          refine wpList_nil ?_
          go_upto_region 17 with fail
          refine wp_region_lit ?_
          refine wpList_run (by kernel_rfl) (.agg (trC s cq)) w2 (exec_loadT w.heap.size s cq HDs.out.1 Fv0_3.out rfl rfl) ?_
          simp only [Act.put, List.setIfInBounds_toArray, List.set_cons_zero, List.set_cons_succ]
          refine wpList_run (by kernel_rfl) (.slice A2 m2 cap2) w2 rfl ?_
          simp only [Act.put, List.setIfInBounds_toArray, List.set_cons_zero, List.set_cons_succ]
          refine wpList_storeW (w.heap.size + 1 + 1) (trC (List.replicate 32 0) 0) (trC s cq) 32 (by kernel_rfl) Fv2_6.out (exec_storeT (w.heap.size + 1 + 1) (List.replicate 32 0) 0 s cq List.length_replicate HDs.out.1 Fv2_6.out rfl rfl rfl) ?_
          intro X1_2 h1 hfar hbel hsz
          have YHI2 : IbN X1_2 V1.heap.size A2 m2 cap2 cur := (HI2.out).far hlt2 hfar
          have YFv0_3 : RowT X1_2 w.heap.size s cq := hfar _ _ Nb0_2.out Fv0_3.out
          have YFv1_5 : X1_2.heap[(w.heap.size + 1)]? = some (.cells #[.int .i64 (l : Int), .int .i64 (n : Int)] 47 (0, 0)) := hfar _ _ Nb1_2.out Fv1_5.out
          have hbr := hbel _ _ Gb2.out B0.out
          clear B0
          have B0 := Lib.hid hbr
          clear hbr
          clear Fv0_3
          have Fv0_3 : Hid (RowT X1_2 w.heap.size s cq) := Lib.hid YFv0_3
          clear YFv0_3
          clear Fv1_5
          have Fv1_5 : Hid (X1_2.heap[(w.heap.size + 1)]? = some (.cells #[.int .i64 (l : Int), .int .i64 (n : Int)] 47 (0, 0))) := Lib.hid YFv1_5
          clear YFv1_5
          clear HI2
          have HI2 := Lib.hid YHI2
          clear YHI2
          clear Fv2_6
          have Fv2_6 : Hid (RowT X1_2 (w.heap.size + 1 + 1) s cq) := Lib.hid (h1)
          have HszX1_2 := Lib.hid hsz
          clear h1 hfar hbel hsz
          simp only [ptr, Act.put, List.setIfInBounds_toArray, List.set_cons_zero, List.set_cons_succ]
          refine wpList_run (by kernel_rfl) (.slice A2 m2 cap2) X1_2 rfl ?_
          simp only [Act.put, List.setIfInBounds_toArray, List.set_cons_zero, List.set_cons_succ]
          refine wpList_nil ?_
          have hB := B0.out
          have hI := HI2.out.1
          rw [HE.out, hRn] at hI
          have hR9 := Fv2_6.out
          go_wp2_with fail
          refine bodyPost_ret (v := .tuple #[.agg (trC s cq), .slice A2 m2 cap2]) ?_ rfl ⟨A2, cap2, by rw [hRn], hI, hB⟩
          exact results_row_tmp rfl _ _ (w.heap.size + 1 + 1) 32 _ (0, 0) _ _ rfl rfl hR9 Tryd.underlying32 rfl (trC_info HDs.out.1 cq)
end Go.Proofs.YtcaoajeplinopaaDoor

