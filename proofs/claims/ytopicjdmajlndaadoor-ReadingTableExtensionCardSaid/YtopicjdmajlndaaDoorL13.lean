/- Several texts in one: Qy. -/
import Derived.Test.YtopicjdmajlndaaDoorL12
namespace Go.Proofs.YtopicjdmajlndaaDoor
set_option linter.unusedVariables false
set_option linter.unusedSimpArgs false
set_option linter.unusedSectionVars false
set_option maxRecDepth 8000
open Go.RowKit Go.Proofs.YtopicjdmajlndaaDoor.K
attribute [local irreducible] wpList wpQuiet
set_option maxRecDepth 100000 in
set_option maxHeartbeats 16000000 in
theorem sanity12_any (w : World) (hW : Gw w) : Calls Tryd.prog 10 #[] w fun e w' => e = .returned (.bool true) ∧ Below w.heap.size w w' := by
  have HW := Lib.hid hW
  clear hW
  go_enter Tryd.func10, Tryd.ntmps10
  go_upto_region 1 with fail
  refine wp_region_lit ?_
  refine wpList_run (by kernel_rfl) (.agg #[.int .i64 1, .int .i64 2, .int .i64 3, .int .i64 4]) w (by unfold execOp; go_simp) ?_
  simp only [Act.put, List.setIfInBounds_toArray, List.set_cons_zero, List.set_cons_succ]
  refine wpList_new #[.int .i64 0, .int .i64 0, .int .i64 0, .int .i64 0] 24 (by kernel_rfl) (xo_alloc #[.int .i64 0, .int .i64 0, .int .i64 0, .int .i64 0] (by kernel_rfl) rfl) ?_
  intro b1 V1 hge h0 hb
  have Ge0 : Hid (w.heap.size ≤ b1) := Lib.hid hge
  have B0 := Lib.hid hb
  have Fv1_1 : Hid (V1.heap[b1]? = some (.cells #[.int .i64 0, .int .i64 0, .int .i64 0, .int .i64 0] 24 (0, 0))) := Lib.hid (h0)
  have Lt2 : Hid (b1 < V1.heap.size) := Lib.hid (xp_lt Fv1_1.out)
  clear hge h0 hb
  simp only [ptr, Act.put, List.setIfInBounds_toArray, List.set_cons_zero, List.set_cons_succ]
  refine wpList_storeW b1 #[.int .i64 0, .int .i64 0, .int .i64 0, .int .i64 0] #[.int .i64 1, .int .i64 2, .int .i64 3, .int .i64 4] 24 (by kernel_rfl) Fv1_1.out (xo_storeW b1 #[.int .i64 0, .int .i64 0, .int .i64 0, .int .i64 0] #[.int .i64 1, .int .i64 2, .int .i64 3, .int .i64 4] Fv1_1.out (by kernel_rfl) rfl (by simp [Value.oneCell']) rfl rfl rfl) ?_
  intro X1_3 h1 hfar hbel hsz
  have hbr := hbel _ _ Ge0.out B0.out
  clear B0
  have B0 := Lib.hid hbr
  clear hbr
  clear Fv1_1
  have Fv1_1 : Hid (X1_3.heap[b1]? = some (.cells #[.int .i64 1, .int .i64 2, .int .i64 3, .int .i64 4] 24 (0, 0))) := Lib.hid (h1)
  have HszX1_3 := Lib.hid hsz
  clear h1 hfar hbel hsz
  simp only [ptr, Act.put, List.setIfInBounds_toArray, List.set_cons_zero, List.set_cons_succ]
  refine wpList_nil ?_
  go_upto_region 2 with fail
  refine wp_region_lit ?_
  refine wpList_run (by kernel_rfl) (.agg #[.int .i64 15, .int .i64 255, .int .i64 0, .int .i64 129]) X1_3 (by unfold execOp; go_simp) ?_
  simp only [Act.put, List.setIfInBounds_toArray, List.set_cons_zero, List.set_cons_succ]
  refine wpList_new #[.int .i64 0, .int .i64 0, .int .i64 0, .int .i64 0] 24 (by kernel_rfl) (xo_alloc #[.int .i64 0, .int .i64 0, .int .i64 0, .int .i64 0] (by kernel_rfl) rfl) ?_
  intro b2 V2 hge h0 hb
  have N4_0 : Hid (b1 ≠ b2) := Lib.hid (xp_lt0 Fv1_1.out hge)
  have Ge5 : Hid (X1_3.heap.size ≤ b2) := Lib.hid hge
  have B1 := Lib.hid hb
  have Fv6_2 : Hid (V2.heap[b2]? = some (.cells #[.int .i64 0, .int .i64 0, .int .i64 0, .int .i64 0] 24 (0, 0))) := Lib.hid (h0)
  have Lt7 : Hid (b2 < V2.heap.size) := Lib.hid (xp_lt Fv6_2.out)
  clear hge h0 hb
  simp only [ptr, Act.put, List.setIfInBounds_toArray, List.set_cons_zero, List.set_cons_succ]
  refine wpList_storeW b2 #[.int .i64 0, .int .i64 0, .int .i64 0, .int .i64 0] #[.int .i64 15, .int .i64 255, .int .i64 0, .int .i64 129] 24 (by kernel_rfl) Fv6_2.out (xo_storeW b2 #[.int .i64 0, .int .i64 0, .int .i64 0, .int .i64 0] #[.int .i64 15, .int .i64 255, .int .i64 0, .int .i64 129] Fv6_2.out (by kernel_rfl) rfl (by simp [Value.oneCell']) rfl rfl rfl) ?_
  intro X2_8 h1 hfar hbel hsz
  have hbr := hbel _ _ Ge5.out B1.out
  clear B1
  have B1 := Lib.hid hbr
  clear hbr
  clear Fv6_2
  have Fv6_2 : Hid (X2_8.heap[b2]? = some (.cells #[.int .i64 15, .int .i64 255, .int .i64 0, .int .i64 129] 24 (0, 0))) := Lib.hid (h1)
  have HszX2_8 := Lib.hid hsz
  clear h1 hfar hbel hsz
  simp only [ptr, Act.put, List.setIfInBounds_toArray, List.set_cons_zero, List.set_cons_succ]
  refine wpList_nil ?_
  go_upto_region 3 with fail
  refine wp_region_lit ?_
  refine wpList_run (by kernel_rfl) (.agg #[.int .i64 1, .int .i64 2, .int .i64 3, .int .i64 4]) X2_8 (xo_loadW b1 _ (heap_keep Fv1_1.out B1.out) Tryd.underlying24 rfl (by kernel_rfl) rfl rfl) ?_
  simp only [Act.put, List.setIfInBounds_toArray, List.set_cons_zero, List.set_cons_succ]
  refine wpList_call (by kernel_rfl) 27 Tryd.func27 (by kernel_rfl) (by kernel_rfl) _ _ #[.agg #[.int .i64 1, .int .i64 2, .int .i64 3, .int .i64 4]] rfl (by kernel_rfl) ?_
  refine (encode_any 1 2 3 4 (by omega) (by omega) (by omega) (by omega) X2_8).mono ?_
  rintro e V3 ⟨Ae, ce, rfl, hs, hb⟩
  have B2 := Lib.hid hb
  have HEn := Lib.hid hs
  clear hb hs
  refine ⟨_, rfl, ?_⟩
  simp only [Act.put, List.setIfInBounds_toArray, List.set_cons_zero, List.set_cons_succ]
  refine wpList_run (by kernel_rfl) (.slice Ae 3 ce) V3 rfl ?_
  simp only [Act.put, List.setIfInBounds_toArray, List.set_cons_zero, List.set_cons_succ]
  refine wpList_nil ?_
  go_upto_region 4 with fail
  refine wp_region_lit ?_
  refine wpList_mk (by kernel_rfl) ([49, 2, 4].flatMap byC).toArray 5 3 3 (xg_lit (E := byC) (bytes := 1) (.int .u8 0) [.const (.int .u8 49), .const (.int .u8 2), .const (.int .u8 4)] [49, 2, 4] 3 Tryd.underlying25 (by kernel_rfl) rfl (by decide) (by decide) rfl rfl) ?_
  intro g41 V4 hge h0 hb
  have C1_3 := Lib.hid (bel_step B1.out B2.out)
  have N9_0 : Hid (b1 ≠ g41) := Lib.hid (xp_lt0 (heap_keep Fv1_1.out C1_3.out) hge)
  have N10_1 : Hid (b2 ≠ g41) := Lib.hid (xp_lt0 (heap_keep Fv6_2.out B2.out) hge)
  have Ge11 : Hid (V3.heap.size ≤ g41) := Lib.hid hge
  have B3 := Lib.hid hb
  have Fv12_41 : Hid (RowG byC V4 g41 5 ([49, 2, 4])) := Lib.hid (h0)
  have Lt13 : Hid (g41 < V4.heap.size) := Lib.hid (xp_lt Fv12_41.out)
  clear hge h0 hb
  simp only [ptr, Act.put, List.setIfInBounds_toArray, List.set_cons_zero, List.set_cons_succ]
  refine wpList_call (by kernel_rfl) 23 Tryd.func23 (by kernel_rfl) (by kernel_rfl) _ _ #[.slice (some ⟨g41, 0, none⟩) 3 3] rfl (by kernel_rfl) ?_
  refine (decode_s (some ⟨g41, 0, none⟩) 3 V4 (RowG.sg (n := 3) (c := 3) Fv12_41.out (show ([49, 2, 4]).length = 3 from rfl) (Nat.le_refl _) (by omega))).mono ?_
  rintro e V5 ⟨rfl, hb⟩
  have B4 := Lib.hid hb
  clear hb 
  refine ⟨_, rfl, ?_⟩
  simp only [Act.put, List.setIfInBounds_toArray, List.set_cons_zero, List.set_cons_succ]
  refine wpList_run (by kernel_rfl) (.tuple #[.agg #[.int .i64 1, .int .i64 2, .int .i64 3, .int .i64 4], .int .i64 0]) V5 rfl ?_
  simp only [Act.put, List.setIfInBounds_toArray, List.set_cons_zero, List.set_cons_succ]
  refine wpList_run (by kernel_rfl) (.agg #[.int .i64 1, .int .i64 2, .int .i64 3, .int .i64 4]) V5 rfl ?_
  simp only [Act.put, List.setIfInBounds_toArray, List.set_cons_zero, List.set_cons_succ]
  refine wpList_run (by kernel_rfl) (.int .i64 0) V5 rfl ?_
  simp only [Act.put, List.setIfInBounds_toArray, List.set_cons_zero, List.set_cons_succ]
  refine wpList_new #[.int .i64 0, .int .i64 0, .int .i64 0, .int .i64 0] 24 (by kernel_rfl) (xo_alloc #[.int .i64 0, .int .i64 0, .int .i64 0, .int .i64 0] (by kernel_rfl) rfl) ?_
  intro b4 V6 hge h0 hb
  have C1_4 := Lib.hid (bel_step C1_3.out B3.out)
  have C1_5 := Lib.hid (bel_step C1_4.out B4.out)
  have N14_0 : Hid (b1 ≠ b4) := Lib.hid (xp_lt0 (heap_keep Fv1_1.out C1_5.out) hge)
  have C2_4 := Lib.hid (bel_step B2.out B3.out)
  have C2_5 := Lib.hid (bel_step C2_4.out B4.out)
  have N15_1 : Hid (b2 ≠ b4) := Lib.hid (xp_lt0 (heap_keep Fv6_2.out C2_5.out) hge)
  have N16_2 : Hid (g41 ≠ b4) := Lib.hid (xp_lt0 (Fv12_41.out.keep B4.out) hge)
  have Ge17 : Hid (V5.heap.size ≤ b4) := Lib.hid hge
  have B5 := Lib.hid hb
  have Fv18_4 : Hid (V6.heap[b4]? = some (.cells #[.int .i64 0, .int .i64 0, .int .i64 0, .int .i64 0] 24 (0, 0))) := Lib.hid (h0)
  have Lt19 : Hid (b4 < V6.heap.size) := Lib.hid (xp_lt Fv18_4.out)
  clear hge h0 hb
  simp only [ptr, Act.put, List.setIfInBounds_toArray, List.set_cons_zero, List.set_cons_succ]
  refine wpList_storeW b4 #[.int .i64 0, .int .i64 0, .int .i64 0, .int .i64 0] #[.int .i64 1, .int .i64 2, .int .i64 3, .int .i64 4] 24 (by kernel_rfl) Fv18_4.out (xo_storeW b4 #[.int .i64 0, .int .i64 0, .int .i64 0, .int .i64 0] #[.int .i64 1, .int .i64 2, .int .i64 3, .int .i64 4] Fv18_4.out (by kernel_rfl) rfl (by simp [Value.oneCell']) rfl rfl rfl) ?_
  intro X6_20 h1 hfar hbel hsz
  have hbr := hbel _ _ Ge17.out B5.out
  clear B5
  have B5 := Lib.hid hbr
  clear hbr
  clear Fv18_4
  have Fv18_4 : Hid (X6_20.heap[b4]? = some (.cells #[.int .i64 1, .int .i64 2, .int .i64 3, .int .i64 4] 24 (0, 0))) := Lib.hid (h1)
  have HszX6_20 := Lib.hid hsz
  clear h1 hfar hbel hsz
  simp only [ptr, Act.put, List.setIfInBounds_toArray, List.set_cons_zero, List.set_cons_succ]
  refine wpList_run (by kernel_rfl) (.int .i64 0) X6_20 rfl ?_
  simp only [Act.put, List.setIfInBounds_toArray, List.set_cons_zero, List.set_cons_succ]
  refine wpList_nil ?_
  go_upto_region 5 with fail
  refine wp_region_lit ?_
  refine wpList_mk (by kernel_rfl) ([1, 2].flatMap byC).toArray 5 2 2 (xg_lit (E := byC) (bytes := 1) (.int .u8 0) [.const (.int .u8 1), .const (.int .u8 2)] [1, 2] 2 Tryd.underlying25 (by kernel_rfl) rfl (by decide) (by decide) rfl rfl) ?_
  intro g46 V7 hge h0 hb
  have C1_6 := Lib.hid (bel_step C1_5.out B5.out)
  have N21_0 : Hid (b1 ≠ g46) := Lib.hid (xp_lt0 (heap_keep Fv1_1.out C1_6.out) hge)
  have C2_6 := Lib.hid (bel_step C2_5.out B5.out)
  have N22_1 : Hid (b2 ≠ g46) := Lib.hid (xp_lt0 (heap_keep Fv6_2.out C2_6.out) hge)
  have C4_6 := Lib.hid (bel_step B4.out B5.out)
  have N23_2 : Hid (g41 ≠ g46) := Lib.hid (xp_lt0 (Fv12_41.out.keep C4_6.out) hge)
  have N24_3 : Hid (b4 ≠ g46) := Lib.hid (xp_lt0 Fv18_4.out hge)
  have Ge25 : Hid (X6_20.heap.size ≤ g46) := Lib.hid hge
  have B6 := Lib.hid hb
  have Fv26_46 : Hid (RowG byC V7 g46 5 ([1, 2])) := Lib.hid (h0)
  have Lt27 : Hid (g46 < V7.heap.size) := Lib.hid (xp_lt Fv26_46.out)
  clear hge h0 hb
  simp only [ptr, Act.put, List.setIfInBounds_toArray, List.set_cons_zero, List.set_cons_succ]
  refine wpList_call (by kernel_rfl) 23 Tryd.func23 (by kernel_rfl) (by kernel_rfl) _ _ #[.slice (some ⟨g46, 0, none⟩) 2 2] rfl (by kernel_rfl) ?_
  refine (decode_no (some ⟨g46, 0, none⟩) 2 2 (by decide) V7).mono ?_
  rintro e V8 ⟨rfl, hb⟩
  have B7 := Lib.hid hb
  clear hb 
  refine ⟨_, rfl, ?_⟩
  simp only [Act.put, List.setIfInBounds_toArray, List.set_cons_zero, List.set_cons_succ]
  refine wpList_run (by kernel_rfl) (.tuple #[.agg #[.int .i64 0, .int .i64 0, .int .i64 0, .int .i64 0], .int .i64 5]) V8 rfl ?_
  simp only [Act.put, List.setIfInBounds_toArray, List.set_cons_zero, List.set_cons_succ]
  refine wpList_run (by kernel_rfl) (.agg #[.int .i64 0, .int .i64 0, .int .i64 0, .int .i64 0]) V8 rfl ?_
  simp only [Act.put, List.setIfInBounds_toArray, List.set_cons_zero, List.set_cons_succ]
  refine wpList_run (by kernel_rfl) (.int .i64 5) V8 rfl ?_
  simp only [Act.put, List.setIfInBounds_toArray, List.set_cons_zero, List.set_cons_succ]
  refine wpList_new #[.int .i64 0, .int .i64 0, .int .i64 0, .int .i64 0] 24 (by kernel_rfl) (xo_alloc #[.int .i64 0, .int .i64 0, .int .i64 0, .int .i64 0] (by kernel_rfl) rfl) ?_
  intro b6 V9 hge h0 hb
  have C1_7 := Lib.hid (bel_step C1_6.out B6.out)
  have C1_8 := Lib.hid (bel_step C1_7.out B7.out)
  have N28_0 : Hid (b1 ≠ b6) := Lib.hid (xp_lt0 (heap_keep Fv1_1.out C1_8.out) hge)
  have C2_7 := Lib.hid (bel_step C2_6.out B6.out)
  have C2_8 := Lib.hid (bel_step C2_7.out B7.out)
  have N29_1 : Hid (b2 ≠ b6) := Lib.hid (xp_lt0 (heap_keep Fv6_2.out C2_8.out) hge)
  have C4_7 := Lib.hid (bel_step C4_6.out B6.out)
  have C4_8 := Lib.hid (bel_step C4_7.out B7.out)
  have N30_2 : Hid (g41 ≠ b6) := Lib.hid (xp_lt0 (Fv12_41.out.keep C4_8.out) hge)
  have C6_8 := Lib.hid (bel_step B6.out B7.out)
  have N31_3 : Hid (b4 ≠ b6) := Lib.hid (xp_lt0 (heap_keep Fv18_4.out C6_8.out) hge)
  have N32_4 : Hid (g46 ≠ b6) := Lib.hid (xp_lt0 (Fv26_46.out.keep B7.out) hge)
  have Ge33 : Hid (V8.heap.size ≤ b6) := Lib.hid hge
  have B8 := Lib.hid hb
  have Fv34_6 : Hid (V9.heap[b6]? = some (.cells #[.int .i64 0, .int .i64 0, .int .i64 0, .int .i64 0] 24 (0, 0))) := Lib.hid (h0)
  have Lt35 : Hid (b6 < V9.heap.size) := Lib.hid (xp_lt Fv34_6.out)
  clear hge h0 hb
  simp only [ptr, Act.put, List.setIfInBounds_toArray, List.set_cons_zero, List.set_cons_succ]
  refine wpList_storeW b6 #[.int .i64 0, .int .i64 0, .int .i64 0, .int .i64 0] #[.int .i64 0, .int .i64 0, .int .i64 0, .int .i64 0] 24 (by kernel_rfl) Fv34_6.out (xo_storeW b6 #[.int .i64 0, .int .i64 0, .int .i64 0, .int .i64 0] #[.int .i64 0, .int .i64 0, .int .i64 0, .int .i64 0] Fv34_6.out (by kernel_rfl) rfl (by simp [Value.oneCell']) rfl rfl rfl) ?_
  intro X9_36 h1 hfar hbel hsz
  have hbr := hbel _ _ Ge33.out B8.out
  clear B8
  have B8 := Lib.hid hbr
  clear hbr
  clear Fv34_6
  have Fv34_6 : Hid (X9_36.heap[b6]? = some (.cells #[.int .i64 0, .int .i64 0, .int .i64 0, .int .i64 0] 24 (0, 0))) := Lib.hid (h1)
  have HszX9_36 := Lib.hid hsz
  clear h1 hfar hbel hsz
  simp only [ptr, Act.put, List.setIfInBounds_toArray, List.set_cons_zero, List.set_cons_succ]
  refine wpList_run (by kernel_rfl) (.int .i64 5) X9_36 rfl ?_
  simp only [Act.put, List.setIfInBounds_toArray, List.set_cons_zero, List.set_cons_succ]
  refine wpList_nil ?_
  go_upto_region 6 with fail
  refine wp_region_lit ?_
  refine wpList_run (by kernel_rfl) (.agg #[.slice none 0 0, .slice none 0 0]) X9_36 (by unfold execOp; go_simp) ?_
  simp only [Act.put, List.setIfInBounds_toArray, List.set_cons_zero, List.set_cons_succ]
  have C1_9 := Lib.hid (bel_step C1_8.out B8.out)
  refine wpList_run (by kernel_rfl) (.agg #[.int .i64 1, .int .i64 2, .int .i64 3, .int .i64 4]) X9_36 (xo_loadW b1 _ (heap_keep Fv1_1.out C1_9.out) Tryd.underlying24 rfl (by kernel_rfl) rfl rfl) ?_
  simp only [Act.put, List.setIfInBounds_toArray, List.set_cons_zero, List.set_cons_succ]
  have C0_2 := Lib.hid (bel_step B0.out B1.out)
  have C0_3 := Lib.hid (bel_step C0_2.out B2.out)
  have C0_4 := Lib.hid (bel_step C0_3.out B3.out)
  have C0_5 := Lib.hid (bel_step C0_4.out B4.out)
  have C0_6 := Lib.hid (bel_step C0_5.out B5.out)
  have C0_7 := Lib.hid (bel_step C0_6.out B6.out)
  have C0_8 := Lib.hid (bel_step C0_7.out B7.out)
  have C0_9 := Lib.hid (bel_step C0_8.out B8.out)
  refine wpList_call (by kernel_rfl) 12 Tryd.func12 (by kernel_rfl) (by kernel_rfl) _ _ #[.agg #[.slice none 0 0, .slice none 0 0], .agg #[.int .i64 1, .int .i64 2, .int .i64 3, .int .i64 4]] rfl (by kernel_rfl) ?_
  refine (take_yes none 0 0 [] none 0 [] (Rd.mk 1 2 3 4) (by decide) (by omega) X9_36 (Sg.nil_ X9_36) (Sg.nil_ X9_36) (HW.out.keep C0_9.out)).mono ?_
  rintro e V10 ⟨At1, ct1, Bt1, dt1, rfl, hs1, hs2, hb⟩
  have B9 := Lib.hid hb
  have HLt1 := Lib.hid hs1
  have HGt1 := Lib.hid hs2
  clear hb hs1 hs2
  refine ⟨_, rfl, ?_⟩
  simp only [Act.put, List.setIfInBounds_toArray, List.set_cons_zero, List.set_cons_succ]
  refine wpList_run (by kernel_rfl) (.tuple #[.agg #[.slice At1 1 ct1, .slice Bt1 1 dt1], .int .i64 0]) V10 rfl ?_
  simp only [Act.put, List.setIfInBounds_toArray, List.set_cons_zero, List.set_cons_succ]
  refine wpList_run (by kernel_rfl) (.agg #[.slice At1 1 ct1, .slice Bt1 1 dt1]) V10 rfl ?_
  simp only [Act.put, List.setIfInBounds_toArray, List.set_cons_zero, List.set_cons_succ]
  refine wpList_run (by kernel_rfl) (.int .i64 0) V10 rfl ?_
  simp only [Act.put, List.setIfInBounds_toArray, List.set_cons_zero, List.set_cons_succ]
  refine wpList_new #[.slice none 0 0, .slice none 0 0] 30 (by kernel_rfl) (xo_alloc #[.slice none 0 0, .slice none 0 0] (by kernel_rfl) rfl) ?_
  intro b8 V11 hge h0 hb
  have C1_10 := Lib.hid (bel_step C1_9.out B9.out)
  have N37_0 : Hid (b1 ≠ b8) := Lib.hid (xp_lt0 (heap_keep Fv1_1.out C1_10.out) hge)
  have C2_9 := Lib.hid (bel_step C2_8.out B8.out)
  have C2_10 := Lib.hid (bel_step C2_9.out B9.out)
  have N38_1 : Hid (b2 ≠ b8) := Lib.hid (xp_lt0 (heap_keep Fv6_2.out C2_10.out) hge)
  have C4_9 := Lib.hid (bel_step C4_8.out B8.out)
  have C4_10 := Lib.hid (bel_step C4_9.out B9.out)
  have N39_2 : Hid (g41 ≠ b8) := Lib.hid (xp_lt0 (Fv12_41.out.keep C4_10.out) hge)
  have C6_9 := Lib.hid (bel_step C6_8.out B8.out)
  have C6_10 := Lib.hid (bel_step C6_9.out B9.out)
  have N40_3 : Hid (b4 ≠ b8) := Lib.hid (xp_lt0 (heap_keep Fv18_4.out C6_10.out) hge)
  have C7_9 := Lib.hid (bel_step B7.out B8.out)
  have C7_10 := Lib.hid (bel_step C7_9.out B9.out)
  have N41_4 : Hid (g46 ≠ b8) := Lib.hid (xp_lt0 (Fv26_46.out.keep C7_10.out) hge)
  have N42_5 : Hid (b6 ≠ b8) := Lib.hid (xp_lt0 (heap_keep Fv34_6.out B9.out) hge)
  have Ge43 : Hid (V10.heap.size ≤ b8) := Lib.hid hge
  have B10 := Lib.hid hb
  have Fv44_8 : Hid (V11.heap[b8]? = some (.cells #[.slice none 0 0, .slice none 0 0] 30 (0, 0))) := Lib.hid (h0)
  have Lt45 : Hid (b8 < V11.heap.size) := Lib.hid (xp_lt Fv44_8.out)
  clear hge h0 hb
  simp only [ptr, Act.put, List.setIfInBounds_toArray, List.set_cons_zero, List.set_cons_succ]
  refine wpList_storeW b8 #[.slice none 0 0, .slice none 0 0] #[.slice At1 1 ct1, .slice Bt1 1 dt1] 30 (by kernel_rfl) Fv44_8.out (xo_storeW b8 #[.slice none 0 0, .slice none 0 0] #[.slice At1 1 ct1, .slice Bt1 1 dt1] Fv44_8.out (by kernel_rfl) rfl (by simp [Value.oneCell']) rfl rfl rfl) ?_
  intro X11_46 h1 hfar hbel hsz
  have hbr := hbel _ _ Ge43.out B10.out
  clear B10
  have B10 := Lib.hid hbr
  clear hbr
  clear Fv44_8
  have Fv44_8 : Hid (X11_46.heap[b8]? = some (.cells #[.slice At1 1 ct1, .slice Bt1 1 dt1] 30 (0, 0))) := Lib.hid (h1)
  have HszX11_46 := Lib.hid hsz
  clear h1 hfar hbel hsz
  simp only [ptr, Act.put, List.setIfInBounds_toArray, List.set_cons_zero, List.set_cons_succ]
  refine wpList_run (by kernel_rfl) (.int .i64 0) X11_46 rfl ?_
  simp only [Act.put, List.setIfInBounds_toArray, List.set_cons_zero, List.set_cons_succ]
  refine wpList_nil ?_
  go_upto_region 7 with fail
  refine wp_region_lit ?_
  refine wpList_run (by kernel_rfl) (.agg #[.slice At1 1 ct1, .slice Bt1 1 dt1]) X11_46 (xo_loadW b8 _ Fv44_8.out Tryd.underlying30 rfl (by kernel_rfl) rfl rfl) ?_
  simp only [Act.put, List.setIfInBounds_toArray, List.set_cons_zero, List.set_cons_succ]
  have C2_11 := Lib.hid (bel_step C2_10.out B10.out)
  refine wpList_run (by kernel_rfl) (.agg #[.int .i64 15, .int .i64 255, .int .i64 0, .int .i64 129]) X11_46 (xo_loadW b2 _ (heap_keep Fv6_2.out C2_11.out) Tryd.underlying24 rfl (by kernel_rfl) rfl rfl) ?_
  simp only [Act.put, List.setIfInBounds_toArray, List.set_cons_zero, List.set_cons_succ]
  have C0_10 := Lib.hid (bel_step C0_9.out B9.out)
  have C0_11 := Lib.hid (bel_step C0_10.out B10.out)
  refine wpList_call (by kernel_rfl) 12 Tryd.func12 (by kernel_rfl) (by kernel_rfl) _ _ #[.agg #[.slice At1 1 ct1, .slice Bt1 1 dt1], .agg #[.int .i64 15, .int .i64 255, .int .i64 0, .int .i64 129]] rfl (by kernel_rfl) ?_
  refine (take_yes At1 1 ct1 [(Rd.mk 1 2 3 4)] Bt1 dt1 [false] (Rd.mk 15 255 0 129) (by decide) (by omega) X11_46 (HLt1.out.keep B10.out) (HGt1.out.keep B10.out) (HW.out.keep C0_11.out)).mono ?_
  rintro e V12 ⟨At2, ct2, Bt2, dt2, rfl, hs1, hs2, hb⟩
  have B11 := Lib.hid hb
  have HLt2 := Lib.hid hs1
  have HGt2 := Lib.hid hs2
  clear hb hs1 hs2
  refine ⟨_, rfl, ?_⟩
  simp only [Act.put, List.setIfInBounds_toArray, List.set_cons_zero, List.set_cons_succ]
  refine wpList_run (by kernel_rfl) (.tuple #[.agg #[.slice At2 2 ct2, .slice Bt2 2 dt2], .int .i64 0]) V12 rfl ?_
  simp only [Act.put, List.setIfInBounds_toArray, List.set_cons_zero, List.set_cons_succ]
  refine wpList_run (by kernel_rfl) (.agg #[.slice At2 2 ct2, .slice Bt2 2 dt2]) V12 rfl ?_
  simp only [Act.put, List.setIfInBounds_toArray, List.set_cons_zero, List.set_cons_succ]
  refine wpList_run (by kernel_rfl) (.int .i64 0) V12 rfl ?_
  simp only [Act.put, List.setIfInBounds_toArray, List.set_cons_zero, List.set_cons_succ]
  refine wpList_storeW b8 #[.slice At1 1 ct1, .slice Bt1 1 dt1] #[.slice At2 2 ct2, .slice Bt2 2 dt2] 30 (by kernel_rfl) (heap_keep Fv44_8.out B11.out) (xo_storeW b8 #[.slice At1 1 ct1, .slice Bt1 1 dt1] #[.slice At2 2 ct2, .slice Bt2 2 dt2] (heap_keep Fv44_8.out B11.out) (by kernel_rfl) rfl (by simp [Value.oneCell']) rfl rfl rfl) ?_
  intro X12_47 h1 hfar hbel hsz
  have YHLt2 : Sg rdC 4 X12_47 At2 2 ct2 [(Rd.mk 1 2 3 4), (Rd.mk 15 255 0 129)] := Sg.farSl HLt2.out rd_nosl (heap_keep Fv44_8.out B11.out) (by simp [isSl]) hfar
  have YHGt2 : Sg boC 1 X12_47 Bt2 2 dt2 [false, false] := Sg.farSl HGt2.out bo_nosl (heap_keep Fv44_8.out B11.out) (by simp [isSl]) hfar
  have C10_12 := Lib.hid (bel_step B10.out B11.out)
  have hbr := hbel _ _ Ge43.out C10_12.out
  clear B10
  have B10 := Lib.hid hbr
  clear hbr
  clear HLt2
  have HLt2 := Lib.hid YHLt2
  clear YHLt2
  clear HGt2
  have HGt2 := Lib.hid YHGt2
  clear YHGt2
  clear Fv44_8
  have Fv44_8 : Hid (X12_47.heap[b8]? = some (.cells #[.slice At2 2 ct2, .slice Bt2 2 dt2] 30 (0, 0))) := Lib.hid (h1)
  have HszX12_47 := Lib.hid hsz
  clear h1 hfar hbel hsz
  simp only [ptr, Act.put, List.setIfInBounds_toArray, List.set_cons_zero, List.set_cons_succ]
  refine wpList_run (by kernel_rfl) (.int .i64 0) X12_47 rfl ?_
  simp only [Act.put, List.setIfInBounds_toArray, List.set_cons_zero, List.set_cons_succ]
  refine wpList_nil ?_
  go_upto_region 8 with fail
  refine wp_region_lit ?_
  refine wpList_run (by kernel_rfl) (.agg #[.slice At2 2 ct2, .slice Bt2 2 dt2]) X12_47 (xo_loadW b8 _ Fv44_8.out Tryd.underlying30 rfl (by kernel_rfl) rfl rfl) ?_
  simp only [Act.put, List.setIfInBounds_toArray, List.set_cons_zero, List.set_cons_succ]
  refine wpList_call (by kernel_rfl) 14 Tryd.func14 (by kernel_rfl) (by kernel_rfl) _ _ #[.agg #[.slice At2 2 ct2, .slice Bt2 2 dt2], .int .i64 0] rfl (by kernel_rfl) ?_
  refine (retract_ok At2 2 ct2 [(Rd.mk 1 2 3 4), (Rd.mk 15 255 0 129)] Bt2 dt2 [false, false] 0 rfl (by omega) X12_47 HLt2.out HGt2.out).mono ?_
  rintro e V12 ⟨At3, ct3, Bt3, dt3, rfl, hs1, hs2, hb⟩
  have B11 := Lib.hid hb
  have HLt3 := Lib.hid hs1
  have HGt3 := Lib.hid hs2
  clear hb hs1 hs2
  refine ⟨_, rfl, ?_⟩
  simp only [Act.put, List.setIfInBounds_toArray, List.set_cons_zero, List.set_cons_succ]
  refine wpList_run (by kernel_rfl) (.tuple #[.agg #[.slice At3 2 ct3, .slice Bt3 2 dt3], .int .i64 0]) V12 rfl ?_
  simp only [Act.put, List.setIfInBounds_toArray, List.set_cons_zero, List.set_cons_succ]
  refine wpList_run (by kernel_rfl) (.agg #[.slice At3 2 ct3, .slice Bt3 2 dt3]) V12 rfl ?_
  simp only [Act.put, List.setIfInBounds_toArray, List.set_cons_zero, List.set_cons_succ]
  refine wpList_run (by kernel_rfl) (.int .i64 0) V12 rfl ?_
  simp only [Act.put, List.setIfInBounds_toArray, List.set_cons_zero, List.set_cons_succ]
  refine wpList_new #[.slice none 0 0, .slice none 0 0] 30 (by kernel_rfl) (xo_alloc #[.slice none 0 0, .slice none 0 0] (by kernel_rfl) rfl) ?_
  intro b11 V13 hge h0 hb
  have C1_11 := Lib.hid (bel_step C1_10.out B10.out)
  have C1_12 := Lib.hid (bel_step C1_11.out B11.out)
  have N48_0 : Hid (b1 ≠ b11) := Lib.hid (xp_lt0 (heap_keep Fv1_1.out C1_12.out) hge)
  have C2_11 := Lib.hid (bel_step C2_10.out B10.out)
  have C2_12 := Lib.hid (bel_step C2_11.out B11.out)
  have N49_1 : Hid (b2 ≠ b11) := Lib.hid (xp_lt0 (heap_keep Fv6_2.out C2_12.out) hge)
  have C4_11 := Lib.hid (bel_step C4_10.out B10.out)
  have C4_12 := Lib.hid (bel_step C4_11.out B11.out)
  have N50_2 : Hid (g41 ≠ b11) := Lib.hid (xp_lt0 (Fv12_41.out.keep C4_12.out) hge)
  have C6_11 := Lib.hid (bel_step C6_10.out B10.out)
  have C6_12 := Lib.hid (bel_step C6_11.out B11.out)
  have N51_3 : Hid (b4 ≠ b11) := Lib.hid (xp_lt0 (heap_keep Fv18_4.out C6_12.out) hge)
  have C7_11 := Lib.hid (bel_step C7_10.out B10.out)
  have C7_12 := Lib.hid (bel_step C7_11.out B11.out)
  have N52_4 : Hid (g46 ≠ b11) := Lib.hid (xp_lt0 (Fv26_46.out.keep C7_12.out) hge)
  have C9_11 := Lib.hid (bel_step B9.out B10.out)
  have C9_12 := Lib.hid (bel_step C9_11.out B11.out)
  have N53_5 : Hid (b6 ≠ b11) := Lib.hid (xp_lt0 (heap_keep Fv34_6.out C9_12.out) hge)
  have N54_6 : Hid (b8 ≠ b11) := Lib.hid (xp_lt0 (heap_keep Fv44_8.out B11.out) hge)
  have Ge55 : Hid (V12.heap.size ≤ b11) := Lib.hid hge
  have B12 := Lib.hid hb
  have Fv56_11 : Hid (V13.heap[b11]? = some (.cells #[.slice none 0 0, .slice none 0 0] 30 (0, 0))) := Lib.hid (h0)
  have Lt57 : Hid (b11 < V13.heap.size) := Lib.hid (xp_lt Fv56_11.out)
  clear hge h0 hb
  simp only [ptr, Act.put, List.setIfInBounds_toArray, List.set_cons_zero, List.set_cons_succ]
  refine wpList_storeW b11 #[.slice none 0 0, .slice none 0 0] #[.slice At3 2 ct3, .slice Bt3 2 dt3] 30 (by kernel_rfl) Fv56_11.out (xo_storeW b11 #[.slice none 0 0, .slice none 0 0] #[.slice At3 2 ct3, .slice Bt3 2 dt3] Fv56_11.out (by kernel_rfl) rfl (by simp [Value.oneCell']) rfl rfl rfl) ?_
  intro X13_58 h1 hfar hbel hsz
  have hbr := hbel _ _ Ge55.out B12.out
  clear B12
  have B12 := Lib.hid hbr
  clear hbr
  clear Fv56_11
  have Fv56_11 : Hid (X13_58.heap[b11]? = some (.cells #[.slice At3 2 ct3, .slice Bt3 2 dt3] 30 (0, 0))) := Lib.hid (h1)
  have HszX13_58 := Lib.hid hsz
  clear h1 hfar hbel hsz
  simp only [ptr, Act.put, List.setIfInBounds_toArray, List.set_cons_zero, List.set_cons_succ]
  refine wpList_run (by kernel_rfl) (.int .i64 0) X13_58 rfl ?_
  simp only [Act.put, List.setIfInBounds_toArray, List.set_cons_zero, List.set_cons_succ]
  refine wpList_nil ?_
  go_upto_region 9 with fail
  refine wp_region_lit ?_
  refine wpList_run (by kernel_rfl) (.agg #[.slice At3 2 ct3, .slice Bt3 2 dt3]) X13_58 (xo_loadW b11 _ Fv56_11.out Tryd.underlying30 rfl (by kernel_rfl) rfl rfl) ?_
  simp only [Act.put, List.setIfInBounds_toArray, List.set_cons_zero, List.set_cons_succ]
  refine wpList_call (by kernel_rfl) 14 Tryd.func14 (by kernel_rfl) (by kernel_rfl) _ _ #[.agg #[.slice At3 2 ct3, .slice Bt3 2 dt3], .int .i64 0] rfl (by kernel_rfl) ?_
  refine (retract_spent At3 2 ct3 [(Rd.mk 1 2 3 4), (Rd.mk 15 255 0 129)] Bt3 dt3 [true, false] 0 rfl (by omega) X13_58 (HLt3.out.keep B12.out) (HGt3.out.keep B12.out)).mono ?_
  rintro e V14 ⟨rfl, hb⟩
  have B13 := Lib.hid hb
  clear hb 
  refine ⟨_, rfl, ?_⟩
  simp only [Act.put, List.setIfInBounds_toArray, List.set_cons_zero, List.set_cons_succ]
  refine wpList_run (by kernel_rfl) (.tuple #[.agg #[.slice none 0 0, .slice none 0 0], .int .i64 120]) V14 rfl ?_
  simp only [Act.put, List.setIfInBounds_toArray, List.set_cons_zero, List.set_cons_succ]
  refine wpList_run (by kernel_rfl) (.agg #[.slice none 0 0, .slice none 0 0]) V14 rfl ?_
  simp only [Act.put, List.setIfInBounds_toArray, List.set_cons_zero, List.set_cons_succ]
  refine wpList_run (by kernel_rfl) (.int .i64 120) V14 rfl ?_
  simp only [Act.put, List.setIfInBounds_toArray, List.set_cons_zero, List.set_cons_succ]
  refine wpList_new #[.slice none 0 0, .slice none 0 0] 30 (by kernel_rfl) (xo_alloc #[.slice none 0 0, .slice none 0 0] (by kernel_rfl) rfl) ?_
  intro b13 V15 hge h0 hb
  have C1_13 := Lib.hid (bel_step C1_12.out B12.out)
  have C1_14 := Lib.hid (bel_step C1_13.out B13.out)
  have N59_0 : Hid (b1 ≠ b13) := Lib.hid (xp_lt0 (heap_keep Fv1_1.out C1_14.out) hge)
  have C2_13 := Lib.hid (bel_step C2_12.out B12.out)
  have C2_14 := Lib.hid (bel_step C2_13.out B13.out)
  have N60_1 : Hid (b2 ≠ b13) := Lib.hid (xp_lt0 (heap_keep Fv6_2.out C2_14.out) hge)
  have C4_13 := Lib.hid (bel_step C4_12.out B12.out)
  have C4_14 := Lib.hid (bel_step C4_13.out B13.out)
  have N61_2 : Hid (g41 ≠ b13) := Lib.hid (xp_lt0 (Fv12_41.out.keep C4_14.out) hge)
  have C6_13 := Lib.hid (bel_step C6_12.out B12.out)
  have C6_14 := Lib.hid (bel_step C6_13.out B13.out)
  have N62_3 : Hid (b4 ≠ b13) := Lib.hid (xp_lt0 (heap_keep Fv18_4.out C6_14.out) hge)
  have C7_13 := Lib.hid (bel_step C7_12.out B12.out)
  have C7_14 := Lib.hid (bel_step C7_13.out B13.out)
  have N63_4 : Hid (g46 ≠ b13) := Lib.hid (xp_lt0 (Fv26_46.out.keep C7_14.out) hge)
  have C9_13 := Lib.hid (bel_step C9_12.out B12.out)
  have C9_14 := Lib.hid (bel_step C9_13.out B13.out)
  have N64_5 : Hid (b6 ≠ b13) := Lib.hid (xp_lt0 (heap_keep Fv34_6.out C9_14.out) hge)
  have C11_13 := Lib.hid (bel_step B11.out B12.out)
  have C11_14 := Lib.hid (bel_step C11_13.out B13.out)
  have N65_6 : Hid (b8 ≠ b13) := Lib.hid (xp_lt0 (heap_keep Fv44_8.out C11_14.out) hge)
  have N66_7 : Hid (b11 ≠ b13) := Lib.hid (xp_lt0 (heap_keep Fv56_11.out B13.out) hge)
  have Ge67 : Hid (V14.heap.size ≤ b13) := Lib.hid hge
  have B14 := Lib.hid hb
  have Fv68_13 : Hid (V15.heap[b13]? = some (.cells #[.slice none 0 0, .slice none 0 0] 30 (0, 0))) := Lib.hid (h0)
  have Lt69 : Hid (b13 < V15.heap.size) := Lib.hid (xp_lt Fv68_13.out)
  clear hge h0 hb
  simp only [ptr, Act.put, List.setIfInBounds_toArray, List.set_cons_zero, List.set_cons_succ]
  refine wpList_storeW b13 #[.slice none 0 0, .slice none 0 0] #[.slice none 0 0, .slice none 0 0] 30 (by kernel_rfl) Fv68_13.out (xo_storeW b13 #[.slice none 0 0, .slice none 0 0] #[.slice none 0 0, .slice none 0 0] Fv68_13.out (by kernel_rfl) rfl (by simp [Value.oneCell']) rfl rfl rfl) ?_
  intro X15_70 h1 hfar hbel hsz
  have hbr := hbel _ _ Ge67.out B14.out
  clear B14
  have B14 := Lib.hid hbr
  clear hbr
  clear Fv68_13
  have Fv68_13 : Hid (X15_70.heap[b13]? = some (.cells #[.slice none 0 0, .slice none 0 0] 30 (0, 0))) := Lib.hid (h1)
  have HszX15_70 := Lib.hid hsz
  clear h1 hfar hbel hsz
  simp only [ptr, Act.put, List.setIfInBounds_toArray, List.set_cons_zero, List.set_cons_succ]
  refine wpList_run (by kernel_rfl) (.int .i64 120) X15_70 rfl ?_
  simp only [Act.put, List.setIfInBounds_toArray, List.set_cons_zero, List.set_cons_succ]
  refine wpList_nil ?_
  go_upto_region 10 with fail
  refine wp_region_lit ?_
  have C13_15 := Lib.hid (bel_step B13.out B14.out)
  refine wpList_run (by kernel_rfl) (.agg #[.slice At3 2 ct3, .slice Bt3 2 dt3]) X15_70 (xo_loadW b11 _ (heap_keep Fv56_11.out C13_15.out) Tryd.underlying30 rfl (by kernel_rfl) rfl rfl) ?_
  simp only [Act.put, List.setIfInBounds_toArray, List.set_cons_zero, List.set_cons_succ]
  have C12_14 := Lib.hid (bel_step B12.out B13.out)
  have C12_15 := Lib.hid (bel_step C12_14.out B14.out)
  refine wpList_call (by kernel_rfl) 14 Tryd.func14 (by kernel_rfl) (by kernel_rfl) _ _ #[.agg #[.slice At3 2 ct3, .slice Bt3 2 dt3], .int .i64 2] rfl (by kernel_rfl) ?_
  refine (retract_out At3 2 ct3 [(Rd.mk 1 2 3 4), (Rd.mk 15 255 0 129)] Bt3 dt3 [true, false] 2 (.inr (by decide)) X15_70 (HLt3.out.keep C12_15.out) (HGt3.out.keep C12_15.out)).mono ?_
  rintro e V16 ⟨rfl, hb⟩
  have B15 := Lib.hid hb
  clear hb 
  refine ⟨_, rfl, ?_⟩
  simp only [Act.put, List.setIfInBounds_toArray, List.set_cons_zero, List.set_cons_succ]
  refine wpList_run (by kernel_rfl) (.tuple #[.agg #[.slice none 0 0, .slice none 0 0], .int .i64 4]) V16 rfl ?_
  simp only [Act.put, List.setIfInBounds_toArray, List.set_cons_zero, List.set_cons_succ]
  refine wpList_run (by kernel_rfl) (.agg #[.slice none 0 0, .slice none 0 0]) V16 rfl ?_
  simp only [Act.put, List.setIfInBounds_toArray, List.set_cons_zero, List.set_cons_succ]
  refine wpList_run (by kernel_rfl) (.int .i64 4) V16 rfl ?_
  simp only [Act.put, List.setIfInBounds_toArray, List.set_cons_zero, List.set_cons_succ]
  refine wpList_new #[.slice none 0 0, .slice none 0 0] 30 (by kernel_rfl) (xo_alloc #[.slice none 0 0, .slice none 0 0] (by kernel_rfl) rfl) ?_
  intro b15 V17 hge h0 hb
  have C1_15 := Lib.hid (bel_step C1_14.out B14.out)
  have C1_16 := Lib.hid (bel_step C1_15.out B15.out)
  have N71_0 : Hid (b1 ≠ b15) := Lib.hid (xp_lt0 (heap_keep Fv1_1.out C1_16.out) hge)
  have C2_15 := Lib.hid (bel_step C2_14.out B14.out)
  have C2_16 := Lib.hid (bel_step C2_15.out B15.out)
  have N72_1 : Hid (b2 ≠ b15) := Lib.hid (xp_lt0 (heap_keep Fv6_2.out C2_16.out) hge)
  have C4_15 := Lib.hid (bel_step C4_14.out B14.out)
  have C4_16 := Lib.hid (bel_step C4_15.out B15.out)
  have N73_2 : Hid (g41 ≠ b15) := Lib.hid (xp_lt0 (Fv12_41.out.keep C4_16.out) hge)
  have C6_15 := Lib.hid (bel_step C6_14.out B14.out)
  have C6_16 := Lib.hid (bel_step C6_15.out B15.out)
  have N74_3 : Hid (b4 ≠ b15) := Lib.hid (xp_lt0 (heap_keep Fv18_4.out C6_16.out) hge)
  have C7_15 := Lib.hid (bel_step C7_14.out B14.out)
  have C7_16 := Lib.hid (bel_step C7_15.out B15.out)
  have N75_4 : Hid (g46 ≠ b15) := Lib.hid (xp_lt0 (Fv26_46.out.keep C7_16.out) hge)
  have C9_15 := Lib.hid (bel_step C9_14.out B14.out)
  have C9_16 := Lib.hid (bel_step C9_15.out B15.out)
  have N76_5 : Hid (b6 ≠ b15) := Lib.hid (xp_lt0 (heap_keep Fv34_6.out C9_16.out) hge)
  have C11_15 := Lib.hid (bel_step C11_14.out B14.out)
  have C11_16 := Lib.hid (bel_step C11_15.out B15.out)
  have N77_6 : Hid (b8 ≠ b15) := Lib.hid (xp_lt0 (heap_keep Fv44_8.out C11_16.out) hge)
  have C13_16 := Lib.hid (bel_step C13_15.out B15.out)
  have N78_7 : Hid (b11 ≠ b15) := Lib.hid (xp_lt0 (heap_keep Fv56_11.out C13_16.out) hge)
  have N79_8 : Hid (b13 ≠ b15) := Lib.hid (xp_lt0 (heap_keep Fv68_13.out B15.out) hge)
  have Ge80 : Hid (V16.heap.size ≤ b15) := Lib.hid hge
  have B16 := Lib.hid hb
  have Fv81_15 : Hid (V17.heap[b15]? = some (.cells #[.slice none 0 0, .slice none 0 0] 30 (0, 0))) := Lib.hid (h0)
  have Lt82 : Hid (b15 < V17.heap.size) := Lib.hid (xp_lt Fv81_15.out)
  clear hge h0 hb
  simp only [ptr, Act.put, List.setIfInBounds_toArray, List.set_cons_zero, List.set_cons_succ]
  refine wpList_storeW b15 #[.slice none 0 0, .slice none 0 0] #[.slice none 0 0, .slice none 0 0] 30 (by kernel_rfl) Fv81_15.out (xo_storeW b15 #[.slice none 0 0, .slice none 0 0] #[.slice none 0 0, .slice none 0 0] Fv81_15.out (by kernel_rfl) rfl (by simp [Value.oneCell']) rfl rfl rfl) ?_
  intro X17_83 h1 hfar hbel hsz
  have hbr := hbel _ _ Ge80.out B16.out
  clear B16
  have B16 := Lib.hid hbr
  clear hbr
  clear Fv81_15
  have Fv81_15 : Hid (X17_83.heap[b15]? = some (.cells #[.slice none 0 0, .slice none 0 0] 30 (0, 0))) := Lib.hid (h1)
  have HszX17_83 := Lib.hid hsz
  clear h1 hfar hbel hsz
  simp only [ptr, Act.put, List.setIfInBounds_toArray, List.set_cons_zero, List.set_cons_succ]
  refine wpList_run (by kernel_rfl) (.int .i64 4) X17_83 rfl ?_
  simp only [Act.put, List.setIfInBounds_toArray, List.set_cons_zero, List.set_cons_succ]
  refine wpList_nil ?_
  go_upto_region 11 with fail
  refine wp_region_lit ?_
  have C11_17 := Lib.hid (bel_step C11_16.out B16.out)
  refine wpList_run (by kernel_rfl) (.agg #[.slice At2 2 ct2, .slice Bt2 2 dt2]) X17_83 (xo_loadW b8 _ (heap_keep Fv44_8.out C11_17.out) Tryd.underlying30 rfl (by kernel_rfl) rfl rfl) ?_
  simp only [Act.put, List.setIfInBounds_toArray, List.set_cons_zero, List.set_cons_succ]
  refine wpList_run (by kernel_rfl) (.agg #[.int .i64 16, .int .i64 0, .int .i64 0, .int .i64 0]) X17_83 (by unfold execOp; go_simp) ?_
  simp only [Act.put, List.setIfInBounds_toArray, List.set_cons_zero, List.set_cons_succ]
  have C0_11 := Lib.hid (bel_step C0_10.out B10.out)
  have C0_12 := Lib.hid (bel_step C0_11.out B11.out)
  have C0_13 := Lib.hid (bel_step C0_12.out B12.out)
  have C0_14 := Lib.hid (bel_step C0_13.out B13.out)
  have C0_15 := Lib.hid (bel_step C0_14.out B14.out)
  have C0_16 := Lib.hid (bel_step C0_15.out B15.out)
  have C0_17 := Lib.hid (bel_step C0_16.out B16.out)
  refine wpList_call (by kernel_rfl) 12 Tryd.func12 (by kernel_rfl) (by kernel_rfl) _ _ #[.agg #[.slice At2 2 ct2, .slice Bt2 2 dt2], .agg #[.int .i64 16, .int .i64 0, .int .i64 0, .int .i64 0]] rfl (by kernel_rfl) ?_
  refine (take_no At2 2 ct2 [(Rd.mk 1 2 3 4), (Rd.mk 15 255 0 129)] Bt2 dt2 [false, false] (Rd.mk 16 0 0 0) (by decide) X17_83 (HLt2.out.keep C11_17.out) (HGt2.out.keep C11_17.out) (HW.out.keep C0_17.out)).mono ?_
  rintro e V18 ⟨rfl, hb⟩
  have B17 := Lib.hid hb
  clear hb 
  refine ⟨_, rfl, ?_⟩
  simp only [Act.put, List.setIfInBounds_toArray, List.set_cons_zero, List.set_cons_succ]
  refine wpList_run (by kernel_rfl) (.tuple #[.agg #[.slice none 0 0, .slice none 0 0], .int .i64 1]) V18 rfl ?_
  simp only [Act.put, List.setIfInBounds_toArray, List.set_cons_zero, List.set_cons_succ]
  refine wpList_run (by kernel_rfl) (.agg #[.slice none 0 0, .slice none 0 0]) V18 rfl ?_
  simp only [Act.put, List.setIfInBounds_toArray, List.set_cons_zero, List.set_cons_succ]
  refine wpList_run (by kernel_rfl) (.int .i64 1) V18 rfl ?_
  simp only [Act.put, List.setIfInBounds_toArray, List.set_cons_zero, List.set_cons_succ]
  refine wpList_new #[.slice none 0 0, .slice none 0 0] 30 (by kernel_rfl) (xo_alloc #[.slice none 0 0, .slice none 0 0] (by kernel_rfl) rfl) ?_
  intro b17 V19 hge h0 hb
  have C1_17 := Lib.hid (bel_step C1_16.out B16.out)
  have C1_18 := Lib.hid (bel_step C1_17.out B17.out)
  have N84_0 : Hid (b1 ≠ b17) := Lib.hid (xp_lt0 (heap_keep Fv1_1.out C1_18.out) hge)
  have C2_17 := Lib.hid (bel_step C2_16.out B16.out)
  have C2_18 := Lib.hid (bel_step C2_17.out B17.out)
  have N85_1 : Hid (b2 ≠ b17) := Lib.hid (xp_lt0 (heap_keep Fv6_2.out C2_18.out) hge)
  have C4_17 := Lib.hid (bel_step C4_16.out B16.out)
  have C4_18 := Lib.hid (bel_step C4_17.out B17.out)
  have N86_2 : Hid (g41 ≠ b17) := Lib.hid (xp_lt0 (Fv12_41.out.keep C4_18.out) hge)
  have C6_17 := Lib.hid (bel_step C6_16.out B16.out)
  have C6_18 := Lib.hid (bel_step C6_17.out B17.out)
  have N87_3 : Hid (b4 ≠ b17) := Lib.hid (xp_lt0 (heap_keep Fv18_4.out C6_18.out) hge)
  have C7_17 := Lib.hid (bel_step C7_16.out B16.out)
  have C7_18 := Lib.hid (bel_step C7_17.out B17.out)
  have N88_4 : Hid (g46 ≠ b17) := Lib.hid (xp_lt0 (Fv26_46.out.keep C7_18.out) hge)
  have C9_17 := Lib.hid (bel_step C9_16.out B16.out)
  have C9_18 := Lib.hid (bel_step C9_17.out B17.out)
  have N89_5 : Hid (b6 ≠ b17) := Lib.hid (xp_lt0 (heap_keep Fv34_6.out C9_18.out) hge)
  have C11_18 := Lib.hid (bel_step C11_17.out B17.out)
  have N90_6 : Hid (b8 ≠ b17) := Lib.hid (xp_lt0 (heap_keep Fv44_8.out C11_18.out) hge)
  have C13_17 := Lib.hid (bel_step C13_16.out B16.out)
  have C13_18 := Lib.hid (bel_step C13_17.out B17.out)
  have N91_7 : Hid (b11 ≠ b17) := Lib.hid (xp_lt0 (heap_keep Fv56_11.out C13_18.out) hge)
  have C15_17 := Lib.hid (bel_step B15.out B16.out)
  have C15_18 := Lib.hid (bel_step C15_17.out B17.out)
  have N92_8 : Hid (b13 ≠ b17) := Lib.hid (xp_lt0 (heap_keep Fv68_13.out C15_18.out) hge)
  have N93_9 : Hid (b15 ≠ b17) := Lib.hid (xp_lt0 (heap_keep Fv81_15.out B17.out) hge)
  have Ge94 : Hid (V18.heap.size ≤ b17) := Lib.hid hge
  have B18 := Lib.hid hb
  have Fv95_17 : Hid (V19.heap[b17]? = some (.cells #[.slice none 0 0, .slice none 0 0] 30 (0, 0))) := Lib.hid (h0)
  have Lt96 : Hid (b17 < V19.heap.size) := Lib.hid (xp_lt Fv95_17.out)
  clear hge h0 hb
  simp only [ptr, Act.put, List.setIfInBounds_toArray, List.set_cons_zero, List.set_cons_succ]
  refine wpList_storeW b17 #[.slice none 0 0, .slice none 0 0] #[.slice none 0 0, .slice none 0 0] 30 (by kernel_rfl) Fv95_17.out (xo_storeW b17 #[.slice none 0 0, .slice none 0 0] #[.slice none 0 0, .slice none 0 0] Fv95_17.out (by kernel_rfl) rfl (by simp [Value.oneCell']) rfl rfl rfl) ?_
  intro X19_97 h1 hfar hbel hsz
  have hbr := hbel _ _ Ge94.out B18.out
  clear B18
  have B18 := Lib.hid hbr
  clear hbr
  clear Fv95_17
  have Fv95_17 : Hid (X19_97.heap[b17]? = some (.cells #[.slice none 0 0, .slice none 0 0] 30 (0, 0))) := Lib.hid (h1)
  have HszX19_97 := Lib.hid hsz
  clear h1 hfar hbel hsz
  simp only [ptr, Act.put, List.setIfInBounds_toArray, List.set_cons_zero, List.set_cons_succ]
  refine wpList_run (by kernel_rfl) (.int .i64 1) X19_97 rfl ?_
  simp only [Act.put, List.setIfInBounds_toArray, List.set_cons_zero, List.set_cons_succ]
  refine wpList_nil ?_
  go_upto_region 12 with fail
  refine wp_region_lit ?_
  have C13_19 := Lib.hid (bel_step C13_18.out B18.out)
  refine wpList_run (by kernel_rfl) (.agg #[.slice At3 2 ct3, .slice Bt3 2 dt3]) X19_97 (xo_loadW b11 _ (heap_keep Fv56_11.out C13_19.out) Tryd.underlying30 rfl (by kernel_rfl) rfl rfl) ?_
  simp only [Act.put, List.setIfInBounds_toArray, List.set_cons_zero, List.set_cons_succ]
  have C12_16 := Lib.hid (bel_step C12_15.out B15.out)
  have C12_17 := Lib.hid (bel_step C12_16.out B16.out)
  have C12_18 := Lib.hid (bel_step C12_17.out B17.out)
  have C12_19 := Lib.hid (bel_step C12_18.out B18.out)
  refine wpList_call (by kernel_rfl) 31 Tryd.func31 (by kernel_rfl) (by kernel_rfl) _ _ #[.agg #[.slice At3 2 ct3, .slice Bt3 2 dt3]] rfl (by kernel_rfl) ?_
  refine (live_any At3 2 ct3 [(Rd.mk 1 2 3 4), (Rd.mk 15 255 0 129)] Bt3 dt3 [true, false] (by omega) X19_97 (HLt3.out.keep C12_19.out) (HGt3.out.keep C12_19.out)).mono ?_
  rintro e V20 ⟨Alv, clv, rfl, hs1, hb⟩
  have B19 := Lib.hid hb
  have HLv := Lib.hid hs1
  clear hb hs1
  refine ⟨_, rfl, ?_⟩
  simp only [Act.put, List.setIfInBounds_toArray, List.set_cons_zero, List.set_cons_succ]
  refine wpList_run (by kernel_rfl) (.slice Alv 1 clv) V20 rfl ?_
  simp only [Act.put, List.setIfInBounds_toArray, List.set_cons_zero, List.set_cons_succ]
  refine wpList_nil ?_
  go_upto_region 13 with fail
  refine wp_region_lit ?_
  have C13_20 := Lib.hid (bel_step C13_19.out B19.out)
  refine wpList_run (by kernel_rfl) (.agg #[.slice At3 2 ct3, .slice Bt3 2 dt3]) V20 (xo_loadW b11 _ (heap_keep Fv56_11.out C13_20.out) Tryd.underlying30 rfl (by kernel_rfl) rfl rfl) ?_
  simp only [Act.put, List.setIfInBounds_toArray, List.set_cons_zero, List.set_cons_succ]
  have C12_20 := Lib.hid (bel_step C12_19.out B19.out)
  refine wpList_call (by kernel_rfl) 19 Tryd.func19 (by kernel_rfl) (by kernel_rfl) _ _ #[.agg #[.slice At3 2 ct3, .slice Bt3 2 dt3], .int .i64 2] rfl (by kernel_rfl) ?_
  refine (cols_yesC At3 2 ct3 [(Rd.mk 1 2 3 4), (Rd.mk 15 255 0 129)] Bt3 dt3 [true, false] 2 (by omega) (by decide) (by decide) V20 (HLt3.out.keep C12_20.out) (HGt3.out.keep C12_20.out)).mono ?_
  rintro e V21 ⟨Ac, cc, rfl, ⟨hsc, hs1⟩, hb⟩
  have B20 := Lib.hid hb
  have hs2 : Cols V21 Ac 5 cc hsc [[1, 15, 0, 0], [2, 255, 0, 0], [3, 0, 0, 0], [4, 129, 0, 0], [0, 1, 0, 0]] := hs1
  clear hs1
  have HCc := Lib.hid hs2
  clear hb hs2
  refine ⟨_, rfl, ?_⟩
  simp only [Act.put, List.setIfInBounds_toArray, List.set_cons_zero, List.set_cons_succ]
  refine wpList_run (by kernel_rfl) (.tuple #[.slice Ac 5 cc, .int .i64 0]) V21 rfl ?_
  simp only [Act.put, List.setIfInBounds_toArray, List.set_cons_zero, List.set_cons_succ]
  refine wpList_run (by kernel_rfl) (.slice Ac 5 cc) V21 rfl ?_
  simp only [Act.put, List.setIfInBounds_toArray, List.set_cons_zero, List.set_cons_succ]
  refine wpList_run (by kernel_rfl) (.int .i64 0) V21 rfl ?_
  simp only [Act.put, List.setIfInBounds_toArray, List.set_cons_zero, List.set_cons_succ]
  refine wpList_run (by kernel_rfl) (.slice Ac 5 cc) V21 rfl ?_
  simp only [Act.put, List.setIfInBounds_toArray, List.set_cons_zero, List.set_cons_succ]
  refine wpList_run (by kernel_rfl) (.int .i64 0) V21 rfl ?_
  simp only [Act.put, List.setIfInBounds_toArray, List.set_cons_zero, List.set_cons_succ]
  refine wpList_nil ?_
  go_upto_region 14 with fail
  refine wp_region_lit ?_
  have C13_21 := Lib.hid (bel_step C13_20.out B20.out)
  refine wpList_run (by kernel_rfl) (.agg #[.slice At3 2 ct3, .slice Bt3 2 dt3]) V21 (xo_loadW b11 _ (heap_keep Fv56_11.out C13_21.out) Tryd.underlying30 rfl (by kernel_rfl) rfl rfl) ?_
  simp only [Act.put, List.setIfInBounds_toArray, List.set_cons_zero, List.set_cons_succ]
  have C12_21 := Lib.hid (bel_step C12_20.out B20.out)
  have C0_18 := Lib.hid (bel_step C0_17.out B17.out)
  have C0_19 := Lib.hid (bel_step C0_18.out B18.out)
  have C0_20 := Lib.hid (bel_step C0_19.out B19.out)
  have C0_21 := Lib.hid (bel_step C0_20.out B20.out)
  refine wpList_call (by kernel_rfl) 21 Tryd.func21 (by kernel_rfl) (by kernel_rfl) _ _ #[.agg #[.slice At3 2 ct3, .slice Bt3 2 dt3], .int .i64 1] rfl (by kernel_rfl) ?_
  refine (bits_yes At3 2 ct3 [(Rd.mk 1 2 3 4), (Rd.mk 15 255 0 129)] Bt3 dt3 [true, false] 1 (by omega) (by decide) (by decide) V21 (HLt3.out.keep C12_21.out) (HGt3.out.keep C12_21.out) (HW.out.keep C0_21.out)).mono ?_
  rintro e V22 ⟨Ab, cb, rfl, ⟨hsb, hs1⟩, hb⟩
  have B21 := Lib.hid hb
  have hcb := hs1.head.cap
  have htb := hs1.head.top
  have HBb := Lib.hid hs1
  clear hb hs1
  refine ⟨_, rfl, ?_⟩
  simp only [Act.put, List.setIfInBounds_toArray, List.set_cons_zero, List.set_cons_succ]
  refine wpList_run (by kernel_rfl) (.tuple #[.slice Ab 24 cb, .int .i64 0]) V22 rfl ?_
  simp only [Act.put, List.setIfInBounds_toArray, List.set_cons_zero, List.set_cons_succ]
  refine wpList_run (by kernel_rfl) (.slice Ab 24 cb) V22 rfl ?_
  simp only [Act.put, List.setIfInBounds_toArray, List.set_cons_zero, List.set_cons_succ]
  refine wpList_run (by kernel_rfl) (.int .i64 0) V22 rfl ?_
  simp only [Act.put, List.setIfInBounds_toArray, List.set_cons_zero, List.set_cons_succ]
  refine wpList_run (by kernel_rfl) (.slice Ab 24 cb) V22 rfl ?_
  simp only [Act.put, List.setIfInBounds_toArray, List.set_cons_zero, List.set_cons_succ]
  refine wpList_run (by kernel_rfl) (.int .i64 0) V22 rfl ?_
  simp only [Act.put, List.setIfInBounds_toArray, List.set_cons_zero, List.set_cons_succ]
  refine wpList_nil ?_
  go_upto_region 15 with fail
  refine wp_region_lit ?_
  have C13_22 := Lib.hid (bel_step C13_21.out B21.out)
  refine wpList_run (by kernel_rfl) (.agg #[.slice At3 2 ct3, .slice Bt3 2 dt3]) V22 (xo_loadW b11 _ (heap_keep Fv56_11.out C13_22.out) Tryd.underlying30 rfl (by kernel_rfl) rfl rfl) ?_
  simp only [Act.put, List.setIfInBounds_toArray, List.set_cons_zero, List.set_cons_succ]
  have C12_22 := Lib.hid (bel_step C12_21.out B21.out)
  refine wpList_call (by kernel_rfl) 19 Tryd.func19 (by kernel_rfl) (by kernel_rfl) _ _ #[.agg #[.slice At3 2 ct3, .slice Bt3 2 dt3], .int .i64 0] rfl (by kernel_rfl) ?_
  refine (cols_big At3 2 ct3 [(Rd.mk 1 2 3 4), (Rd.mk 15 255 0 129)] Bt3 dt3 [true, false] 0 (by omega) (by decide) V22 (HLt3.out.keep C12_22.out) (HGt3.out.keep C12_22.out)).mono ?_
  rintro e V23 ⟨rfl, hb⟩
  have B22 := Lib.hid hb
  clear hb 
  refine ⟨_, rfl, ?_⟩
  simp only [Act.put, List.setIfInBounds_toArray, List.set_cons_zero, List.set_cons_succ]
  refine wpList_run (by kernel_rfl) (.tuple #[.slice none 0 0, .int .i64 2]) V23 rfl ?_
  simp only [Act.put, List.setIfInBounds_toArray, List.set_cons_zero, List.set_cons_succ]
  refine wpList_run (by kernel_rfl) (.slice none 0 0) V23 rfl ?_
  simp only [Act.put, List.setIfInBounds_toArray, List.set_cons_zero, List.set_cons_succ]
  refine wpList_run (by kernel_rfl) (.int .i64 2) V23 rfl ?_
  simp only [Act.put, List.setIfInBounds_toArray, List.set_cons_zero, List.set_cons_succ]
  refine wpList_run (by kernel_rfl) (.slice none 0 0) V23 rfl ?_
  simp only [Act.put, List.setIfInBounds_toArray, List.set_cons_zero, List.set_cons_succ]
  refine wpList_run (by kernel_rfl) (.int .i64 2) V23 rfl ?_
  simp only [Act.put, List.setIfInBounds_toArray, List.set_cons_zero, List.set_cons_succ]
  refine wpList_nil ?_
  go_upto_region 16 with fail
  refine wp_region_lit ?_
  have C13_23 := Lib.hid (bel_step C13_22.out B22.out)
  refine wpList_run (by kernel_rfl) (.agg #[.slice At3 2 ct3, .slice Bt3 2 dt3]) V23 (xo_loadW b11 _ (heap_keep Fv56_11.out C13_23.out) Tryd.underlying30 rfl (by kernel_rfl) rfl rfl) ?_
  simp only [Act.put, List.setIfInBounds_toArray, List.set_cons_zero, List.set_cons_succ]
  have C12_23 := Lib.hid (bel_step C12_22.out B22.out)
  refine wpList_call (by kernel_rfl) 21 Tryd.func21 (by kernel_rfl) (by kernel_rfl) _ _ #[.agg #[.slice At3 2 ct3, .slice Bt3 2 dt3], .int .i64 17] rfl (by kernel_rfl) ?_
  refine (bits_arg At3 2 ct3 [(Rd.mk 1 2 3 4), (Rd.mk 15 255 0 129)] Bt3 dt3 [true, false] 17 (.inr (by decide)) V23 (HLt3.out.keep C12_23.out) (HGt3.out.keep C12_23.out)).mono ?_
  rintro e V24 ⟨rfl, hb⟩
  have B23 := Lib.hid hb
  clear hb 
  refine ⟨_, rfl, ?_⟩
  simp only [Act.put, List.setIfInBounds_toArray, List.set_cons_zero, List.set_cons_succ]
  refine wpList_run (by kernel_rfl) (.tuple #[.slice none 0 0, .int .i64 1]) V24 rfl ?_
  simp only [Act.put, List.setIfInBounds_toArray, List.set_cons_zero, List.set_cons_succ]
  refine wpList_run (by kernel_rfl) (.slice none 0 0) V24 rfl ?_
  simp only [Act.put, List.setIfInBounds_toArray, List.set_cons_zero, List.set_cons_succ]
  refine wpList_run (by kernel_rfl) (.int .i64 1) V24 rfl ?_
  simp only [Act.put, List.setIfInBounds_toArray, List.set_cons_zero, List.set_cons_succ]
  refine wpList_run (by kernel_rfl) (.slice none 0 0) V24 rfl ?_
  simp only [Act.put, List.setIfInBounds_toArray, List.set_cons_zero, List.set_cons_succ]
  refine wpList_run (by kernel_rfl) (.int .i64 1) V24 rfl ?_
  simp only [Act.put, List.setIfInBounds_toArray, List.set_cons_zero, List.set_cons_succ]
  refine wpList_nil ?_
  go_upto_region 17 with fail
  refine wp_region_lit ?_
  refine wpList_mk (by kernel_rfl) ([1, 2].flatMap wdC).toArray 50 2 2 (xg_lit (E := wdC) (bytes := 8) (.int .u64 0) [.const (.int .u64 1), .const (.int .u64 2)] [1, 2] 2 Tryd.underlying48 (by kernel_rfl) rfl (by decide) (by decide) rfl rfl) ?_
  intro g106 V25 hge h0 hb
  have C1_19 := Lib.hid (bel_step C1_18.out B18.out)
  have C1_20 := Lib.hid (bel_step C1_19.out B19.out)
  have C1_21 := Lib.hid (bel_step C1_20.out B20.out)
  have C1_22 := Lib.hid (bel_step C1_21.out B21.out)
  have C1_23 := Lib.hid (bel_step C1_22.out B22.out)
  have C1_24 := Lib.hid (bel_step C1_23.out B23.out)
  have N98_0 : Hid (b1 ≠ g106) := Lib.hid (xp_lt0 (heap_keep Fv1_1.out C1_24.out) hge)
  have C2_19 := Lib.hid (bel_step C2_18.out B18.out)
  have C2_20 := Lib.hid (bel_step C2_19.out B19.out)
  have C2_21 := Lib.hid (bel_step C2_20.out B20.out)
  have C2_22 := Lib.hid (bel_step C2_21.out B21.out)
  have C2_23 := Lib.hid (bel_step C2_22.out B22.out)
  have C2_24 := Lib.hid (bel_step C2_23.out B23.out)
  have N99_1 : Hid (b2 ≠ g106) := Lib.hid (xp_lt0 (heap_keep Fv6_2.out C2_24.out) hge)
  have C4_19 := Lib.hid (bel_step C4_18.out B18.out)
  have C4_20 := Lib.hid (bel_step C4_19.out B19.out)
  have C4_21 := Lib.hid (bel_step C4_20.out B20.out)
  have C4_22 := Lib.hid (bel_step C4_21.out B21.out)
  have C4_23 := Lib.hid (bel_step C4_22.out B22.out)
  have C4_24 := Lib.hid (bel_step C4_23.out B23.out)
  have N100_2 : Hid (g41 ≠ g106) := Lib.hid (xp_lt0 (Fv12_41.out.keep C4_24.out) hge)
  have C6_19 := Lib.hid (bel_step C6_18.out B18.out)
  have C6_20 := Lib.hid (bel_step C6_19.out B19.out)
  have C6_21 := Lib.hid (bel_step C6_20.out B20.out)
  have C6_22 := Lib.hid (bel_step C6_21.out B21.out)
  have C6_23 := Lib.hid (bel_step C6_22.out B22.out)
  have C6_24 := Lib.hid (bel_step C6_23.out B23.out)
  have N101_3 : Hid (b4 ≠ g106) := Lib.hid (xp_lt0 (heap_keep Fv18_4.out C6_24.out) hge)
  have C7_19 := Lib.hid (bel_step C7_18.out B18.out)
  have C7_20 := Lib.hid (bel_step C7_19.out B19.out)
  have C7_21 := Lib.hid (bel_step C7_20.out B20.out)
  have C7_22 := Lib.hid (bel_step C7_21.out B21.out)
  have C7_23 := Lib.hid (bel_step C7_22.out B22.out)
  have C7_24 := Lib.hid (bel_step C7_23.out B23.out)
  have N102_4 : Hid (g46 ≠ g106) := Lib.hid (xp_lt0 (Fv26_46.out.keep C7_24.out) hge)
  have C9_19 := Lib.hid (bel_step C9_18.out B18.out)
  have C9_20 := Lib.hid (bel_step C9_19.out B19.out)
  have C9_21 := Lib.hid (bel_step C9_20.out B20.out)
  have C9_22 := Lib.hid (bel_step C9_21.out B21.out)
  have C9_23 := Lib.hid (bel_step C9_22.out B22.out)
  have C9_24 := Lib.hid (bel_step C9_23.out B23.out)
  have N103_5 : Hid (b6 ≠ g106) := Lib.hid (xp_lt0 (heap_keep Fv34_6.out C9_24.out) hge)
  have C11_19 := Lib.hid (bel_step C11_18.out B18.out)
  have C11_20 := Lib.hid (bel_step C11_19.out B19.out)
  have C11_21 := Lib.hid (bel_step C11_20.out B20.out)
  have C11_22 := Lib.hid (bel_step C11_21.out B21.out)
  have C11_23 := Lib.hid (bel_step C11_22.out B22.out)
  have C11_24 := Lib.hid (bel_step C11_23.out B23.out)
  have N104_6 : Hid (b8 ≠ g106) := Lib.hid (xp_lt0 (heap_keep Fv44_8.out C11_24.out) hge)
  have C13_24 := Lib.hid (bel_step C13_23.out B23.out)
  have N105_7 : Hid (b11 ≠ g106) := Lib.hid (xp_lt0 (heap_keep Fv56_11.out C13_24.out) hge)
  have C15_19 := Lib.hid (bel_step C15_18.out B18.out)
  have C15_20 := Lib.hid (bel_step C15_19.out B19.out)
  have C15_21 := Lib.hid (bel_step C15_20.out B20.out)
  have C15_22 := Lib.hid (bel_step C15_21.out B21.out)
  have C15_23 := Lib.hid (bel_step C15_22.out B22.out)
  have C15_24 := Lib.hid (bel_step C15_23.out B23.out)
  have N106_8 : Hid (b13 ≠ g106) := Lib.hid (xp_lt0 (heap_keep Fv68_13.out C15_24.out) hge)
  have C17_19 := Lib.hid (bel_step B17.out B18.out)
  have C17_20 := Lib.hid (bel_step C17_19.out B19.out)
  have C17_21 := Lib.hid (bel_step C17_20.out B20.out)
  have C17_22 := Lib.hid (bel_step C17_21.out B21.out)
  have C17_23 := Lib.hid (bel_step C17_22.out B22.out)
  have C17_24 := Lib.hid (bel_step C17_23.out B23.out)
  have N107_9 : Hid (b15 ≠ g106) := Lib.hid (xp_lt0 (heap_keep Fv81_15.out C17_24.out) hge)
  have C19_21 := Lib.hid (bel_step B19.out B20.out)
  have C19_22 := Lib.hid (bel_step C19_21.out B21.out)
  have C19_23 := Lib.hid (bel_step C19_22.out B22.out)
  have C19_24 := Lib.hid (bel_step C19_23.out B23.out)
  have N108_10 : Hid (b17 ≠ g106) := Lib.hid (xp_lt0 (heap_keep Fv95_17.out C19_24.out) hge)
  have Ge109 : Hid (V24.heap.size ≤ g106) := Lib.hid hge
  have B24 := Lib.hid hb
  have Fv110_106 : Hid (RowG wdC V25 g106 50 ([1, 2])) := Lib.hid (h0)
  have Lt111 : Hid (g106 < V25.heap.size) := Lib.hid (xp_lt Fv110_106.out)
  clear hge h0 hb
  simp only [ptr, Act.put, List.setIfInBounds_toArray, List.set_cons_zero, List.set_cons_succ]
  refine wpList_mk (by kernel_rfl) ([3, 4].flatMap wdC).toArray 50 2 2 (xg_lit (E := wdC) (bytes := 8) (.int .u64 0) [.const (.int .u64 3), .const (.int .u64 4)] [3, 4] 2 Tryd.underlying48 (by kernel_rfl) rfl (by decide) (by decide) rfl rfl) ?_
  intro g107 V26 hge h0 hb
  have C1_25 := Lib.hid (bel_step C1_24.out B24.out)
  have N112_0 : Hid (b1 ≠ g107) := Lib.hid (xp_lt0 (heap_keep Fv1_1.out C1_25.out) hge)
  have C2_25 := Lib.hid (bel_step C2_24.out B24.out)
  have N113_1 : Hid (b2 ≠ g107) := Lib.hid (xp_lt0 (heap_keep Fv6_2.out C2_25.out) hge)
  have C4_25 := Lib.hid (bel_step C4_24.out B24.out)
  have N114_2 : Hid (g41 ≠ g107) := Lib.hid (xp_lt0 (Fv12_41.out.keep C4_25.out) hge)
  have C6_25 := Lib.hid (bel_step C6_24.out B24.out)
  have N115_3 : Hid (b4 ≠ g107) := Lib.hid (xp_lt0 (heap_keep Fv18_4.out C6_25.out) hge)
  have C7_25 := Lib.hid (bel_step C7_24.out B24.out)
  have N116_4 : Hid (g46 ≠ g107) := Lib.hid (xp_lt0 (Fv26_46.out.keep C7_25.out) hge)
  have C9_25 := Lib.hid (bel_step C9_24.out B24.out)
  have N117_5 : Hid (b6 ≠ g107) := Lib.hid (xp_lt0 (heap_keep Fv34_6.out C9_25.out) hge)
  have C11_25 := Lib.hid (bel_step C11_24.out B24.out)
  have N118_6 : Hid (b8 ≠ g107) := Lib.hid (xp_lt0 (heap_keep Fv44_8.out C11_25.out) hge)
  have C13_25 := Lib.hid (bel_step C13_24.out B24.out)
  have N119_7 : Hid (b11 ≠ g107) := Lib.hid (xp_lt0 (heap_keep Fv56_11.out C13_25.out) hge)
  have C15_25 := Lib.hid (bel_step C15_24.out B24.out)
  have N120_8 : Hid (b13 ≠ g107) := Lib.hid (xp_lt0 (heap_keep Fv68_13.out C15_25.out) hge)
  have C17_25 := Lib.hid (bel_step C17_24.out B24.out)
  have N121_9 : Hid (b15 ≠ g107) := Lib.hid (xp_lt0 (heap_keep Fv81_15.out C17_25.out) hge)
  have C19_25 := Lib.hid (bel_step C19_24.out B24.out)
  have N122_10 : Hid (b17 ≠ g107) := Lib.hid (xp_lt0 (heap_keep Fv95_17.out C19_25.out) hge)
  have N123_11 : Hid (g106 ≠ g107) := Lib.hid (xp_lt0 Fv110_106.out hge)
  have Ge124 : Hid (V25.heap.size ≤ g107) := Lib.hid hge
  have B25 := Lib.hid hb
  have Fv125_107 : Hid (RowG wdC V26 g107 50 ([3, 4])) := Lib.hid (h0)
  have Lt126 : Hid (g107 < V26.heap.size) := Lib.hid (xp_lt Fv125_107.out)
  clear hge h0 hb
  simp only [ptr, Act.put, List.setIfInBounds_toArray, List.set_cons_zero, List.set_cons_succ]
  refine wpList_mk (by kernel_rfl) ([5, 6].flatMap wdC).toArray 50 2 2 (xg_lit (E := wdC) (bytes := 8) (.int .u64 0) [.const (.int .u64 5), .const (.int .u64 6)] [5, 6] 2 Tryd.underlying48 (by kernel_rfl) rfl (by decide) (by decide) rfl rfl) ?_
  intro g108 V27 hge h0 hb
  have C1_26 := Lib.hid (bel_step C1_25.out B25.out)
  have N127_0 : Hid (b1 ≠ g108) := Lib.hid (xp_lt0 (heap_keep Fv1_1.out C1_26.out) hge)
  have C2_26 := Lib.hid (bel_step C2_25.out B25.out)
  have N128_1 : Hid (b2 ≠ g108) := Lib.hid (xp_lt0 (heap_keep Fv6_2.out C2_26.out) hge)
  have C4_26 := Lib.hid (bel_step C4_25.out B25.out)
  have N129_2 : Hid (g41 ≠ g108) := Lib.hid (xp_lt0 (Fv12_41.out.keep C4_26.out) hge)
  have C6_26 := Lib.hid (bel_step C6_25.out B25.out)
  have N130_3 : Hid (b4 ≠ g108) := Lib.hid (xp_lt0 (heap_keep Fv18_4.out C6_26.out) hge)
  have C7_26 := Lib.hid (bel_step C7_25.out B25.out)
  have N131_4 : Hid (g46 ≠ g108) := Lib.hid (xp_lt0 (Fv26_46.out.keep C7_26.out) hge)
  have C9_26 := Lib.hid (bel_step C9_25.out B25.out)
  have N132_5 : Hid (b6 ≠ g108) := Lib.hid (xp_lt0 (heap_keep Fv34_6.out C9_26.out) hge)
  have C11_26 := Lib.hid (bel_step C11_25.out B25.out)
  have N133_6 : Hid (b8 ≠ g108) := Lib.hid (xp_lt0 (heap_keep Fv44_8.out C11_26.out) hge)
  have C13_26 := Lib.hid (bel_step C13_25.out B25.out)
  have N134_7 : Hid (b11 ≠ g108) := Lib.hid (xp_lt0 (heap_keep Fv56_11.out C13_26.out) hge)
  have C15_26 := Lib.hid (bel_step C15_25.out B25.out)
  have N135_8 : Hid (b13 ≠ g108) := Lib.hid (xp_lt0 (heap_keep Fv68_13.out C15_26.out) hge)
  have C17_26 := Lib.hid (bel_step C17_25.out B25.out)
  have N136_9 : Hid (b15 ≠ g108) := Lib.hid (xp_lt0 (heap_keep Fv81_15.out C17_26.out) hge)
  have C19_26 := Lib.hid (bel_step C19_25.out B25.out)
  have N137_10 : Hid (b17 ≠ g108) := Lib.hid (xp_lt0 (heap_keep Fv95_17.out C19_26.out) hge)
  have N138_11 : Hid (g106 ≠ g108) := Lib.hid (xp_lt0 (Fv110_106.out.keep B25.out) hge)
  have N139_12 : Hid (g107 ≠ g108) := Lib.hid (xp_lt0 Fv125_107.out hge)
  have Ge140 : Hid (V26.heap.size ≤ g108) := Lib.hid hge
  have B26 := Lib.hid hb
  have Fv141_108 : Hid (RowG wdC V27 g108 50 ([5, 6])) := Lib.hid (h0)
  have Lt142 : Hid (g108 < V27.heap.size) := Lib.hid (xp_lt Fv141_108.out)
  clear hge h0 hb
  simp only [ptr, Act.put, List.setIfInBounds_toArray, List.set_cons_zero, List.set_cons_succ]
  refine wpList_mk (by kernel_rfl) ([(Hd.mk (some ⟨g106, 0, none⟩) 2 2), (Hd.mk (some ⟨g107, 0, none⟩) 2 2), (Hd.mk (some ⟨g108, 0, none⟩) 2 2)].flatMap hdC).toArray 48 3 3 (xg_lit (E := hdC) (bytes := 24) (.slice none 0 0) [.tmp 106, .tmp 107, .tmp 108] [(Hd.mk (some ⟨g106, 0, none⟩) 2 2), (Hd.mk (some ⟨g107, 0, none⟩) 2 2), (Hd.mk (some ⟨g108, 0, none⟩) 2 2)] 3 Tryd.underlying38 (by kernel_rfl) rfl (by decide) (by decide) rfl rfl) ?_
  intro g109 V28 hge h0 hb
  have C1_27 := Lib.hid (bel_step C1_26.out B26.out)
  have N143_0 : Hid (b1 ≠ g109) := Lib.hid (xp_lt0 (heap_keep Fv1_1.out C1_27.out) hge)
  have C2_27 := Lib.hid (bel_step C2_26.out B26.out)
  have N144_1 : Hid (b2 ≠ g109) := Lib.hid (xp_lt0 (heap_keep Fv6_2.out C2_27.out) hge)
  have C4_27 := Lib.hid (bel_step C4_26.out B26.out)
  have N145_2 : Hid (g41 ≠ g109) := Lib.hid (xp_lt0 (Fv12_41.out.keep C4_27.out) hge)
  have C6_27 := Lib.hid (bel_step C6_26.out B26.out)
  have N146_3 : Hid (b4 ≠ g109) := Lib.hid (xp_lt0 (heap_keep Fv18_4.out C6_27.out) hge)
  have C7_27 := Lib.hid (bel_step C7_26.out B26.out)
  have N147_4 : Hid (g46 ≠ g109) := Lib.hid (xp_lt0 (Fv26_46.out.keep C7_27.out) hge)
  have C9_27 := Lib.hid (bel_step C9_26.out B26.out)
  have N148_5 : Hid (b6 ≠ g109) := Lib.hid (xp_lt0 (heap_keep Fv34_6.out C9_27.out) hge)
  have C11_27 := Lib.hid (bel_step C11_26.out B26.out)
  have N149_6 : Hid (b8 ≠ g109) := Lib.hid (xp_lt0 (heap_keep Fv44_8.out C11_27.out) hge)
  have C13_27 := Lib.hid (bel_step C13_26.out B26.out)
  have N150_7 : Hid (b11 ≠ g109) := Lib.hid (xp_lt0 (heap_keep Fv56_11.out C13_27.out) hge)
  have C15_27 := Lib.hid (bel_step C15_26.out B26.out)
  have N151_8 : Hid (b13 ≠ g109) := Lib.hid (xp_lt0 (heap_keep Fv68_13.out C15_27.out) hge)
  have C17_27 := Lib.hid (bel_step C17_26.out B26.out)
  have N152_9 : Hid (b15 ≠ g109) := Lib.hid (xp_lt0 (heap_keep Fv81_15.out C17_27.out) hge)
  have C19_27 := Lib.hid (bel_step C19_26.out B26.out)
  have N153_10 : Hid (b17 ≠ g109) := Lib.hid (xp_lt0 (heap_keep Fv95_17.out C19_27.out) hge)
  have C25_27 := Lib.hid (bel_step B25.out B26.out)
  have N154_11 : Hid (g106 ≠ g109) := Lib.hid (xp_lt0 (Fv110_106.out.keep C25_27.out) hge)
  have N155_12 : Hid (g107 ≠ g109) := Lib.hid (xp_lt0 (Fv125_107.out.keep B26.out) hge)
  have N156_13 : Hid (g108 ≠ g109) := Lib.hid (xp_lt0 Fv141_108.out hge)
  have Ge157 : Hid (V27.heap.size ≤ g109) := Lib.hid hge
  have B27 := Lib.hid hb
  have Fv158_109 : Hid (RowG hdC V28 g109 48 ([(Hd.mk (some ⟨g106, 0, none⟩) 2 2), (Hd.mk (some ⟨g107, 0, none⟩) 2 2), (Hd.mk (some ⟨g108, 0, none⟩) 2 2)])) := Lib.hid (h0)
  have Lt159 : Hid (g109 < V28.heap.size) := Lib.hid (xp_lt Fv158_109.out)
  clear hge h0 hb
  simp only [ptr, Act.put, List.setIfInBounds_toArray, List.set_cons_zero, List.set_cons_succ]
  have C25_28 := Lib.hid (bel_step C25_27.out B27.out)
  have C26_28 := Lib.hid (bel_step B26.out B27.out)
  refine wpList_call (by kernel_rfl) 29 Tryd.func29 (by kernel_rfl) (by kernel_rfl) _ _ #[.slice (some ⟨g109, 0, none⟩) 3 3] rfl (by kernel_rfl) ?_
  refine (table_yes (some ⟨g109, 0, none⟩) 3 3 [(Hd.mk (some ⟨g106, 0, none⟩) 2 2), (Hd.mk (some ⟨g107, 0, none⟩) 2 2), (Hd.mk (some ⟨g108, 0, none⟩) 2 2)] [[1, 2], [3, 4], [5, 6]] (by decide) rfl V28 (Cols.of (RowG.sg (n := 3) (c := 3) Fv158_109.out (show ([(Hd.mk (some ⟨g106, 0, none⟩) 2 2), (Hd.mk (some ⟨g107, 0, none⟩) 2 2), (Hd.mk (some ⟨g108, 0, none⟩) 2 2)]).length = 3 from rfl) (Nat.le_refl _) (by omega)) ⟨(RowG.sg (n := 2) (c := 2) (Fv110_106.out.keep C25_28.out) (show ([1, 2]).length = 2 from rfl) (Nat.le_refl _) (by omega)), (RowG.sg (n := 2) (c := 2) (Fv125_107.out.keep C26_28.out) (show ([3, 4]).length = 2 from rfl) (Nat.le_refl _) (by omega)), (RowG.sg (n := 2) (c := 2) (Fv141_108.out.keep B27.out) (show ([5, 6]).length = 2 from rfl) (Nat.le_refl _) (by omega)), trivial⟩)).mono ?_
  rintro e V29 ⟨gT, WT, LT, MT, rfl, hw, hl, hm, hm2, hr0, hg0, hb⟩
  have B28 := Lib.hid hb
  have hw2 : WT = 4 := hw.symm
  have hl2 : LT = 2 := hl.symm
  have hm3 : MT = 8 := by rw [← hm, hw2, hl2]
  subst hw2 hl2 hm3
  have hr : RowG wdC V29 gT 50 [1, 3, 5, 0, 2, 4, 6, 0] := hr0
  clear hw hl hm hm2 hr0 hg0
  have HT := Lib.hid hr
  clear hb hr
  refine ⟨_, rfl, ?_⟩
  simp only [Act.put, List.setIfInBounds_toArray, List.set_cons_zero, List.set_cons_succ]
  refine wpList_run (by kernel_rfl) (.tuple #[.slice (some ⟨gT, 0, none⟩) 8 8, .int .i64 0]) V29 rfl ?_
  simp only [Act.put, List.setIfInBounds_toArray, List.set_cons_zero, List.set_cons_succ]
  refine wpList_run (by kernel_rfl) (.slice (some ⟨gT, 0, none⟩) 8 8) V29 rfl ?_
  simp only [Act.put, List.setIfInBounds_toArray, List.set_cons_zero, List.set_cons_succ]
  refine wpList_run (by kernel_rfl) (.int .i64 0) V29 rfl ?_
  simp only [Act.put, List.setIfInBounds_toArray, List.set_cons_zero, List.set_cons_succ]
  refine wpList_run (by kernel_rfl) (.slice (some ⟨gT, 0, none⟩) 8 8) V29 rfl ?_
  simp only [Act.put, List.setIfInBounds_toArray, List.set_cons_zero, List.set_cons_succ]
  refine wpList_run (by kernel_rfl) (.int .i64 0) V29 rfl ?_
  simp only [Act.put, List.setIfInBounds_toArray, List.set_cons_zero, List.set_cons_succ]
  refine wpList_nil ?_
  go_upto_region 18 with fail
  refine wp_region_lit ?_
  refine wpList_call (by kernel_rfl) 29 Tryd.func29 (by kernel_rfl) (by kernel_rfl) _ _ #[.slice none 0 0] rfl (by kernel_rfl) ?_
  refine (table_no none 0 0 [] [] (by decide) rfl V29 (Cols.of (Sg.nil_ _) trivial)).mono ?_
  rintro e V30 ⟨rfl, hb⟩
  have B29 := Lib.hid hb
  clear hb 
  refine ⟨_, rfl, ?_⟩
  simp only [Act.put, List.setIfInBounds_toArray, List.set_cons_zero, List.set_cons_succ]
  refine wpList_run (by kernel_rfl) (.tuple #[.slice none 0 0, .int .i64 1]) V30 rfl ?_
  simp only [Act.put, List.setIfInBounds_toArray, List.set_cons_zero, List.set_cons_succ]
  refine wpList_run (by kernel_rfl) (.slice none 0 0) V30 rfl ?_
  simp only [Act.put, List.setIfInBounds_toArray, List.set_cons_zero, List.set_cons_succ]
  refine wpList_run (by kernel_rfl) (.int .i64 1) V30 rfl ?_
  simp only [Act.put, List.setIfInBounds_toArray, List.set_cons_zero, List.set_cons_succ]
  refine wpList_run (by kernel_rfl) (.slice none 0 0) V30 rfl ?_
  simp only [Act.put, List.setIfInBounds_toArray, List.set_cons_zero, List.set_cons_succ]
  refine wpList_run (by kernel_rfl) (.int .i64 1) V30 rfl ?_
  simp only [Act.put, List.setIfInBounds_toArray, List.set_cons_zero, List.set_cons_succ]
  refine wpList_nil ?_
  go_upto_region 19 with fail
  refine wp_region_lit ?_
  refine wpList_mk (by kernel_rfl) ([1, 2].flatMap wdC).toArray 50 2 2 (xg_lit (E := wdC) (bytes := 8) (.int .u64 0) [.const (.int .u64 1), .const (.int .u64 2)] [1, 2] 2 Tryd.underlying48 (by kernel_rfl) rfl (by decide) (by decide) rfl rfl) ?_
  intro g118 V31 hge h0 hb
  have C1_28 := Lib.hid (bel_step C1_27.out B27.out)
  have C1_29 := Lib.hid (bel_step C1_28.out B28.out)
  have C1_30 := Lib.hid (bel_step C1_29.out B29.out)
  have N160_0 : Hid (b1 ≠ g118) := Lib.hid (xp_lt0 (heap_keep Fv1_1.out C1_30.out) hge)
  have C2_28 := Lib.hid (bel_step C2_27.out B27.out)
  have C2_29 := Lib.hid (bel_step C2_28.out B28.out)
  have C2_30 := Lib.hid (bel_step C2_29.out B29.out)
  have N161_1 : Hid (b2 ≠ g118) := Lib.hid (xp_lt0 (heap_keep Fv6_2.out C2_30.out) hge)
  have C4_28 := Lib.hid (bel_step C4_27.out B27.out)
  have C4_29 := Lib.hid (bel_step C4_28.out B28.out)
  have C4_30 := Lib.hid (bel_step C4_29.out B29.out)
  have N162_2 : Hid (g41 ≠ g118) := Lib.hid (xp_lt0 (Fv12_41.out.keep C4_30.out) hge)
  have C6_28 := Lib.hid (bel_step C6_27.out B27.out)
  have C6_29 := Lib.hid (bel_step C6_28.out B28.out)
  have C6_30 := Lib.hid (bel_step C6_29.out B29.out)
  have N163_3 : Hid (b4 ≠ g118) := Lib.hid (xp_lt0 (heap_keep Fv18_4.out C6_30.out) hge)
  have C7_28 := Lib.hid (bel_step C7_27.out B27.out)
  have C7_29 := Lib.hid (bel_step C7_28.out B28.out)
  have C7_30 := Lib.hid (bel_step C7_29.out B29.out)
  have N164_4 : Hid (g46 ≠ g118) := Lib.hid (xp_lt0 (Fv26_46.out.keep C7_30.out) hge)
  have C9_28 := Lib.hid (bel_step C9_27.out B27.out)
  have C9_29 := Lib.hid (bel_step C9_28.out B28.out)
  have C9_30 := Lib.hid (bel_step C9_29.out B29.out)
  have N165_5 : Hid (b6 ≠ g118) := Lib.hid (xp_lt0 (heap_keep Fv34_6.out C9_30.out) hge)
  have C11_28 := Lib.hid (bel_step C11_27.out B27.out)
  have C11_29 := Lib.hid (bel_step C11_28.out B28.out)
  have C11_30 := Lib.hid (bel_step C11_29.out B29.out)
  have N166_6 : Hid (b8 ≠ g118) := Lib.hid (xp_lt0 (heap_keep Fv44_8.out C11_30.out) hge)
  have C13_28 := Lib.hid (bel_step C13_27.out B27.out)
  have C13_29 := Lib.hid (bel_step C13_28.out B28.out)
  have C13_30 := Lib.hid (bel_step C13_29.out B29.out)
  have N167_7 : Hid (b11 ≠ g118) := Lib.hid (xp_lt0 (heap_keep Fv56_11.out C13_30.out) hge)
  have C15_28 := Lib.hid (bel_step C15_27.out B27.out)
  have C15_29 := Lib.hid (bel_step C15_28.out B28.out)
  have C15_30 := Lib.hid (bel_step C15_29.out B29.out)
  have N168_8 : Hid (b13 ≠ g118) := Lib.hid (xp_lt0 (heap_keep Fv68_13.out C15_30.out) hge)
  have C17_28 := Lib.hid (bel_step C17_27.out B27.out)
  have C17_29 := Lib.hid (bel_step C17_28.out B28.out)
  have C17_30 := Lib.hid (bel_step C17_29.out B29.out)
  have N169_9 : Hid (b15 ≠ g118) := Lib.hid (xp_lt0 (heap_keep Fv81_15.out C17_30.out) hge)
  have C19_28 := Lib.hid (bel_step C19_27.out B27.out)
  have C19_29 := Lib.hid (bel_step C19_28.out B28.out)
  have C19_30 := Lib.hid (bel_step C19_29.out B29.out)
  have N170_10 : Hid (b17 ≠ g118) := Lib.hid (xp_lt0 (heap_keep Fv95_17.out C19_30.out) hge)
  have C25_29 := Lib.hid (bel_step C25_28.out B28.out)
  have C25_30 := Lib.hid (bel_step C25_29.out B29.out)
  have N171_11 : Hid (g106 ≠ g118) := Lib.hid (xp_lt0 (Fv110_106.out.keep C25_30.out) hge)
  have C26_29 := Lib.hid (bel_step C26_28.out B28.out)
  have C26_30 := Lib.hid (bel_step C26_29.out B29.out)
  have N172_12 : Hid (g107 ≠ g118) := Lib.hid (xp_lt0 (Fv125_107.out.keep C26_30.out) hge)
  have C27_29 := Lib.hid (bel_step B27.out B28.out)
  have C27_30 := Lib.hid (bel_step C27_29.out B29.out)
  have N173_13 : Hid (g108 ≠ g118) := Lib.hid (xp_lt0 (Fv141_108.out.keep C27_30.out) hge)
  have C28_30 := Lib.hid (bel_step B28.out B29.out)
  have N174_14 : Hid (g109 ≠ g118) := Lib.hid (xp_lt0 (Fv158_109.out.keep C28_30.out) hge)
  have Ge175 : Hid (V30.heap.size ≤ g118) := Lib.hid hge
  have B30 := Lib.hid hb
  have Fv176_118 : Hid (RowG wdC V31 g118 50 ([1, 2])) := Lib.hid (h0)
  have Lt177 : Hid (g118 < V31.heap.size) := Lib.hid (xp_lt Fv176_118.out)
  clear hge h0 hb
  simp only [ptr, Act.put, List.setIfInBounds_toArray, List.set_cons_zero, List.set_cons_succ]
  refine wpList_mk (by kernel_rfl) ([3].flatMap wdC).toArray 50 1 1 (xg_lit (E := wdC) (bytes := 8) (.int .u64 0) [.const (.int .u64 3)] [3] 1 Tryd.underlying48 (by kernel_rfl) rfl (by decide) (by decide) rfl rfl) ?_
  intro g119 V32 hge h0 hb
  have C1_31 := Lib.hid (bel_step C1_30.out B30.out)
  have N178_0 : Hid (b1 ≠ g119) := Lib.hid (xp_lt0 (heap_keep Fv1_1.out C1_31.out) hge)
  have C2_31 := Lib.hid (bel_step C2_30.out B30.out)
  have N179_1 : Hid (b2 ≠ g119) := Lib.hid (xp_lt0 (heap_keep Fv6_2.out C2_31.out) hge)
  have C4_31 := Lib.hid (bel_step C4_30.out B30.out)
  have N180_2 : Hid (g41 ≠ g119) := Lib.hid (xp_lt0 (Fv12_41.out.keep C4_31.out) hge)
  have C6_31 := Lib.hid (bel_step C6_30.out B30.out)
  have N181_3 : Hid (b4 ≠ g119) := Lib.hid (xp_lt0 (heap_keep Fv18_4.out C6_31.out) hge)
  have C7_31 := Lib.hid (bel_step C7_30.out B30.out)
  have N182_4 : Hid (g46 ≠ g119) := Lib.hid (xp_lt0 (Fv26_46.out.keep C7_31.out) hge)
  have C9_31 := Lib.hid (bel_step C9_30.out B30.out)
  have N183_5 : Hid (b6 ≠ g119) := Lib.hid (xp_lt0 (heap_keep Fv34_6.out C9_31.out) hge)
  have C11_31 := Lib.hid (bel_step C11_30.out B30.out)
  have N184_6 : Hid (b8 ≠ g119) := Lib.hid (xp_lt0 (heap_keep Fv44_8.out C11_31.out) hge)
  have C13_31 := Lib.hid (bel_step C13_30.out B30.out)
  have N185_7 : Hid (b11 ≠ g119) := Lib.hid (xp_lt0 (heap_keep Fv56_11.out C13_31.out) hge)
  have C15_31 := Lib.hid (bel_step C15_30.out B30.out)
  have N186_8 : Hid (b13 ≠ g119) := Lib.hid (xp_lt0 (heap_keep Fv68_13.out C15_31.out) hge)
  have C17_31 := Lib.hid (bel_step C17_30.out B30.out)
  have N187_9 : Hid (b15 ≠ g119) := Lib.hid (xp_lt0 (heap_keep Fv81_15.out C17_31.out) hge)
  have C19_31 := Lib.hid (bel_step C19_30.out B30.out)
  have N188_10 : Hid (b17 ≠ g119) := Lib.hid (xp_lt0 (heap_keep Fv95_17.out C19_31.out) hge)
  have C25_31 := Lib.hid (bel_step C25_30.out B30.out)
  have N189_11 : Hid (g106 ≠ g119) := Lib.hid (xp_lt0 (Fv110_106.out.keep C25_31.out) hge)
  have C26_31 := Lib.hid (bel_step C26_30.out B30.out)
  have N190_12 : Hid (g107 ≠ g119) := Lib.hid (xp_lt0 (Fv125_107.out.keep C26_31.out) hge)
  have C27_31 := Lib.hid (bel_step C27_30.out B30.out)
  have N191_13 : Hid (g108 ≠ g119) := Lib.hid (xp_lt0 (Fv141_108.out.keep C27_31.out) hge)
  have C28_31 := Lib.hid (bel_step C28_30.out B30.out)
  have N192_14 : Hid (g109 ≠ g119) := Lib.hid (xp_lt0 (Fv158_109.out.keep C28_31.out) hge)
  have N193_15 : Hid (g118 ≠ g119) := Lib.hid (xp_lt0 Fv176_118.out hge)
  have Ge194 : Hid (V31.heap.size ≤ g119) := Lib.hid hge
  have B31 := Lib.hid hb
  have Fv195_119 : Hid (RowG wdC V32 g119 50 ([3])) := Lib.hid (h0)
  have Lt196 : Hid (g119 < V32.heap.size) := Lib.hid (xp_lt Fv195_119.out)
  clear hge h0 hb
  simp only [ptr, Act.put, List.setIfInBounds_toArray, List.set_cons_zero, List.set_cons_succ]
  refine wpList_mk (by kernel_rfl) ([(Hd.mk (some ⟨g118, 0, none⟩) 2 2), (Hd.mk (some ⟨g119, 0, none⟩) 1 1)].flatMap hdC).toArray 48 2 2 (xg_lit (E := hdC) (bytes := 24) (.slice none 0 0) [.tmp 118, .tmp 119] [(Hd.mk (some ⟨g118, 0, none⟩) 2 2), (Hd.mk (some ⟨g119, 0, none⟩) 1 1)] 2 Tryd.underlying38 (by kernel_rfl) rfl (by decide) (by decide) rfl rfl) ?_
  intro g120 V33 hge h0 hb
  have C1_32 := Lib.hid (bel_step C1_31.out B31.out)
  have N197_0 : Hid (b1 ≠ g120) := Lib.hid (xp_lt0 (heap_keep Fv1_1.out C1_32.out) hge)
  have C2_32 := Lib.hid (bel_step C2_31.out B31.out)
  have N198_1 : Hid (b2 ≠ g120) := Lib.hid (xp_lt0 (heap_keep Fv6_2.out C2_32.out) hge)
  have C4_32 := Lib.hid (bel_step C4_31.out B31.out)
  have N199_2 : Hid (g41 ≠ g120) := Lib.hid (xp_lt0 (Fv12_41.out.keep C4_32.out) hge)
  have C6_32 := Lib.hid (bel_step C6_31.out B31.out)
  have N200_3 : Hid (b4 ≠ g120) := Lib.hid (xp_lt0 (heap_keep Fv18_4.out C6_32.out) hge)
  have C7_32 := Lib.hid (bel_step C7_31.out B31.out)
  have N201_4 : Hid (g46 ≠ g120) := Lib.hid (xp_lt0 (Fv26_46.out.keep C7_32.out) hge)
  have C9_32 := Lib.hid (bel_step C9_31.out B31.out)
  have N202_5 : Hid (b6 ≠ g120) := Lib.hid (xp_lt0 (heap_keep Fv34_6.out C9_32.out) hge)
  have C11_32 := Lib.hid (bel_step C11_31.out B31.out)
  have N203_6 : Hid (b8 ≠ g120) := Lib.hid (xp_lt0 (heap_keep Fv44_8.out C11_32.out) hge)
  have C13_32 := Lib.hid (bel_step C13_31.out B31.out)
  have N204_7 : Hid (b11 ≠ g120) := Lib.hid (xp_lt0 (heap_keep Fv56_11.out C13_32.out) hge)
  have C15_32 := Lib.hid (bel_step C15_31.out B31.out)
  have N205_8 : Hid (b13 ≠ g120) := Lib.hid (xp_lt0 (heap_keep Fv68_13.out C15_32.out) hge)
  have C17_32 := Lib.hid (bel_step C17_31.out B31.out)
  have N206_9 : Hid (b15 ≠ g120) := Lib.hid (xp_lt0 (heap_keep Fv81_15.out C17_32.out) hge)
  have C19_32 := Lib.hid (bel_step C19_31.out B31.out)
  have N207_10 : Hid (b17 ≠ g120) := Lib.hid (xp_lt0 (heap_keep Fv95_17.out C19_32.out) hge)
  have C25_32 := Lib.hid (bel_step C25_31.out B31.out)
  have N208_11 : Hid (g106 ≠ g120) := Lib.hid (xp_lt0 (Fv110_106.out.keep C25_32.out) hge)
  have C26_32 := Lib.hid (bel_step C26_31.out B31.out)
  have N209_12 : Hid (g107 ≠ g120) := Lib.hid (xp_lt0 (Fv125_107.out.keep C26_32.out) hge)
  have C27_32 := Lib.hid (bel_step C27_31.out B31.out)
  have N210_13 : Hid (g108 ≠ g120) := Lib.hid (xp_lt0 (Fv141_108.out.keep C27_32.out) hge)
  have C28_32 := Lib.hid (bel_step C28_31.out B31.out)
  have N211_14 : Hid (g109 ≠ g120) := Lib.hid (xp_lt0 (Fv158_109.out.keep C28_32.out) hge)
  have N212_15 : Hid (g118 ≠ g120) := Lib.hid (xp_lt0 (Fv176_118.out.keep B31.out) hge)
  have N213_16 : Hid (g119 ≠ g120) := Lib.hid (xp_lt0 Fv195_119.out hge)
  have Ge214 : Hid (V32.heap.size ≤ g120) := Lib.hid hge
  have B32 := Lib.hid hb
  have Fv215_120 : Hid (RowG hdC V33 g120 48 ([(Hd.mk (some ⟨g118, 0, none⟩) 2 2), (Hd.mk (some ⟨g119, 0, none⟩) 1 1)])) := Lib.hid (h0)
  have Lt216 : Hid (g120 < V33.heap.size) := Lib.hid (xp_lt Fv215_120.out)
  clear hge h0 hb
  simp only [ptr, Act.put, List.setIfInBounds_toArray, List.set_cons_zero, List.set_cons_succ]
  have C31_33 := Lib.hid (bel_step B31.out B32.out)
  refine wpList_call (by kernel_rfl) 29 Tryd.func29 (by kernel_rfl) (by kernel_rfl) _ _ #[.slice (some ⟨g120, 0, none⟩) 2 2] rfl (by kernel_rfl) ?_
  refine (table_no (some ⟨g120, 0, none⟩) 2 2 [(Hd.mk (some ⟨g118, 0, none⟩) 2 2), (Hd.mk (some ⟨g119, 0, none⟩) 1 1)] [[1, 2], [3]] (by decide) (by decide) V33 (Cols.of (RowG.sg (n := 2) (c := 2) Fv215_120.out (show ([(Hd.mk (some ⟨g118, 0, none⟩) 2 2), (Hd.mk (some ⟨g119, 0, none⟩) 1 1)]).length = 2 from rfl) (Nat.le_refl _) (by omega)) ⟨(RowG.sg (n := 2) (c := 2) (Fv176_118.out.keep C31_33.out) (show ([1, 2]).length = 2 from rfl) (Nat.le_refl _) (by omega)), (RowG.sg (n := 1) (c := 1) (Fv195_119.out.keep B32.out) (show ([3]).length = 1 from rfl) (Nat.le_refl _) (by omega)), trivial⟩)).mono ?_
  rintro e V34 ⟨rfl, hb⟩
  have B33 := Lib.hid hb
  clear hb 
  refine ⟨_, rfl, ?_⟩
  simp only [Act.put, List.setIfInBounds_toArray, List.set_cons_zero, List.set_cons_succ]
  refine wpList_run (by kernel_rfl) (.tuple #[.slice none 0 0, .int .i64 1]) V34 rfl ?_
  simp only [Act.put, List.setIfInBounds_toArray, List.set_cons_zero, List.set_cons_succ]
  refine wpList_run (by kernel_rfl) (.slice none 0 0) V34 rfl ?_
  simp only [Act.put, List.setIfInBounds_toArray, List.set_cons_zero, List.set_cons_succ]
  refine wpList_run (by kernel_rfl) (.int .i64 1) V34 rfl ?_
  simp only [Act.put, List.setIfInBounds_toArray, List.set_cons_zero, List.set_cons_succ]
  refine wpList_run (by kernel_rfl) (.slice none 0 0) V34 rfl ?_
  simp only [Act.put, List.setIfInBounds_toArray, List.set_cons_zero, List.set_cons_succ]
  refine wpList_run (by kernel_rfl) (.int .i64 1) V34 rfl ?_
  simp only [Act.put, List.setIfInBounds_toArray, List.set_cons_zero, List.set_cons_succ]
  refine wpList_nil ?_
  go_upto_region 20 with fail
  refine wp_region_lit ?_
  refine wpList_run (by kernel_rfl) (.slice Alv 1 clv) V34 rfl ?_
  simp only [Act.put, List.setIfInBounds_toArray, List.set_cons_zero, List.set_cons_succ]
  refine wpList_run (by kernel_rfl) (.int .i64 1) V34 (xo_len Alv 1 clv Tryd.underlying27 rfl rfl) ?_
  simp only [Act.put, List.setIfInBounds_toArray, List.set_cons_zero, List.set_cons_succ]
  refine wpList_run (by kernel_rfl) (.bool false) V34 (xo_neqF .i64 1 1 (by omega) rfl rfl rfl) ?_
  simp only [Act.put, List.setIfInBounds_toArray, List.set_cons_zero, List.set_cons_succ]
  refine wpList_run (by kernel_rfl) (.bool false) V34 rfl ?_
  simp only [Act.put, List.setIfInBounds_toArray, List.set_cons_zero, List.set_cons_succ]
  refine wpList_run (by kernel_rfl) (.slice Ab 24 cb) V34 rfl ?_
  simp only [Act.put, List.setIfInBounds_toArray, List.set_cons_zero, List.set_cons_succ]
  refine wpList_run (by kernel_rfl) (.int .i64 24) V34 (xo_len Ab 24 cb Tryd.underlying38 rfl rfl) ?_
  simp only [Act.put, List.setIfInBounds_toArray, List.set_cons_zero, List.set_cons_succ]
  refine wpList_run (by kernel_rfl) (.bool false) V34 (xo_neqF .i64 24 24 (by omega) rfl rfl rfl) ?_
  simp only [Act.put, List.setIfInBounds_toArray, List.set_cons_zero, List.set_cons_succ]
  refine wpList_run (by kernel_rfl) (.bool false) V34 rfl ?_
  simp only [Act.put, List.setIfInBounds_toArray, List.set_cons_zero, List.set_cons_succ]
  refine wpList_nil ?_
  go_upto_region 22 with fail
  refine wp_region_lit ?_
  refine wpList_mk (by kernel_rfl) ([1, 15, 0, 0].flatMap wdC).toArray 50 4 4 (xg_lit (E := wdC) (bytes := 8) (.int .u64 0) [.const (.int .u64 1), .const (.int .u64 15), .const (.int .u64 0), .const (.int .u64 0)] [1, 15, 0, 0] 4 Tryd.underlying48 (by kernel_rfl) rfl (by decide) (by decide) rfl rfl) ?_
  intro g132 V35 hge h0 hb
  have C1_33 := Lib.hid (bel_step C1_32.out B32.out)
  have C1_34 := Lib.hid (bel_step C1_33.out B33.out)
  have N217_0 : Hid (b1 ≠ g132) := Lib.hid (xp_lt0 (heap_keep Fv1_1.out C1_34.out) hge)
  have C2_33 := Lib.hid (bel_step C2_32.out B32.out)
  have C2_34 := Lib.hid (bel_step C2_33.out B33.out)
  have N218_1 : Hid (b2 ≠ g132) := Lib.hid (xp_lt0 (heap_keep Fv6_2.out C2_34.out) hge)
  have C4_33 := Lib.hid (bel_step C4_32.out B32.out)
  have C4_34 := Lib.hid (bel_step C4_33.out B33.out)
  have N219_2 : Hid (g41 ≠ g132) := Lib.hid (xp_lt0 (Fv12_41.out.keep C4_34.out) hge)
  have C6_33 := Lib.hid (bel_step C6_32.out B32.out)
  have C6_34 := Lib.hid (bel_step C6_33.out B33.out)
  have N220_3 : Hid (b4 ≠ g132) := Lib.hid (xp_lt0 (heap_keep Fv18_4.out C6_34.out) hge)
  have C7_33 := Lib.hid (bel_step C7_32.out B32.out)
  have C7_34 := Lib.hid (bel_step C7_33.out B33.out)
  have N221_4 : Hid (g46 ≠ g132) := Lib.hid (xp_lt0 (Fv26_46.out.keep C7_34.out) hge)
  have C9_33 := Lib.hid (bel_step C9_32.out B32.out)
  have C9_34 := Lib.hid (bel_step C9_33.out B33.out)
  have N222_5 : Hid (b6 ≠ g132) := Lib.hid (xp_lt0 (heap_keep Fv34_6.out C9_34.out) hge)
  have C11_33 := Lib.hid (bel_step C11_32.out B32.out)
  have C11_34 := Lib.hid (bel_step C11_33.out B33.out)
  have N223_6 : Hid (b8 ≠ g132) := Lib.hid (xp_lt0 (heap_keep Fv44_8.out C11_34.out) hge)
  have C13_33 := Lib.hid (bel_step C13_32.out B32.out)
  have C13_34 := Lib.hid (bel_step C13_33.out B33.out)
  have N224_7 : Hid (b11 ≠ g132) := Lib.hid (xp_lt0 (heap_keep Fv56_11.out C13_34.out) hge)
  have C15_33 := Lib.hid (bel_step C15_32.out B32.out)
  have C15_34 := Lib.hid (bel_step C15_33.out B33.out)
  have N225_8 : Hid (b13 ≠ g132) := Lib.hid (xp_lt0 (heap_keep Fv68_13.out C15_34.out) hge)
  have C17_33 := Lib.hid (bel_step C17_32.out B32.out)
  have C17_34 := Lib.hid (bel_step C17_33.out B33.out)
  have N226_9 : Hid (b15 ≠ g132) := Lib.hid (xp_lt0 (heap_keep Fv81_15.out C17_34.out) hge)
  have C19_33 := Lib.hid (bel_step C19_32.out B32.out)
  have C19_34 := Lib.hid (bel_step C19_33.out B33.out)
  have N227_10 : Hid (b17 ≠ g132) := Lib.hid (xp_lt0 (heap_keep Fv95_17.out C19_34.out) hge)
  have C25_33 := Lib.hid (bel_step C25_32.out B32.out)
  have C25_34 := Lib.hid (bel_step C25_33.out B33.out)
  have N228_11 : Hid (g106 ≠ g132) := Lib.hid (xp_lt0 (Fv110_106.out.keep C25_34.out) hge)
  have C26_33 := Lib.hid (bel_step C26_32.out B32.out)
  have C26_34 := Lib.hid (bel_step C26_33.out B33.out)
  have N229_12 : Hid (g107 ≠ g132) := Lib.hid (xp_lt0 (Fv125_107.out.keep C26_34.out) hge)
  have C27_33 := Lib.hid (bel_step C27_32.out B32.out)
  have C27_34 := Lib.hid (bel_step C27_33.out B33.out)
  have N230_13 : Hid (g108 ≠ g132) := Lib.hid (xp_lt0 (Fv141_108.out.keep C27_34.out) hge)
  have C28_33 := Lib.hid (bel_step C28_32.out B32.out)
  have C28_34 := Lib.hid (bel_step C28_33.out B33.out)
  have N231_14 : Hid (g109 ≠ g132) := Lib.hid (xp_lt0 (Fv158_109.out.keep C28_34.out) hge)
  have C31_34 := Lib.hid (bel_step C31_33.out B33.out)
  have N232_15 : Hid (g118 ≠ g132) := Lib.hid (xp_lt0 (Fv176_118.out.keep C31_34.out) hge)
  have C32_34 := Lib.hid (bel_step B32.out B33.out)
  have N233_16 : Hid (g119 ≠ g132) := Lib.hid (xp_lt0 (Fv195_119.out.keep C32_34.out) hge)
  have N234_17 : Hid (g120 ≠ g132) := Lib.hid (xp_lt0 (Fv215_120.out.keep B33.out) hge)
  have Ge235 : Hid (V34.heap.size ≤ g132) := Lib.hid hge
  have B34 := Lib.hid hb
  have Fv236_132 : Hid (RowG wdC V35 g132 50 ([1, 15, 0, 0])) := Lib.hid (h0)
  have Lt237 : Hid (g132 < V35.heap.size) := Lib.hid (xp_lt Fv236_132.out)
  clear hge h0 hb
  simp only [ptr, Act.put, List.setIfInBounds_toArray, List.set_cons_zero, List.set_cons_succ]
  refine wpList_mk (by kernel_rfl) ([2, 255, 0, 0].flatMap wdC).toArray 50 4 4 (xg_lit (E := wdC) (bytes := 8) (.int .u64 0) [.const (.int .u64 2), .const (.int .u64 255), .const (.int .u64 0), .const (.int .u64 0)] [2, 255, 0, 0] 4 Tryd.underlying48 (by kernel_rfl) rfl (by decide) (by decide) rfl rfl) ?_
  intro g133 V36 hge h0 hb
  have C1_35 := Lib.hid (bel_step C1_34.out B34.out)
  have N238_0 : Hid (b1 ≠ g133) := Lib.hid (xp_lt0 (heap_keep Fv1_1.out C1_35.out) hge)
  have C2_35 := Lib.hid (bel_step C2_34.out B34.out)
  have N239_1 : Hid (b2 ≠ g133) := Lib.hid (xp_lt0 (heap_keep Fv6_2.out C2_35.out) hge)
  have C4_35 := Lib.hid (bel_step C4_34.out B34.out)
  have N240_2 : Hid (g41 ≠ g133) := Lib.hid (xp_lt0 (Fv12_41.out.keep C4_35.out) hge)
  have C6_35 := Lib.hid (bel_step C6_34.out B34.out)
  have N241_3 : Hid (b4 ≠ g133) := Lib.hid (xp_lt0 (heap_keep Fv18_4.out C6_35.out) hge)
  have C7_35 := Lib.hid (bel_step C7_34.out B34.out)
  have N242_4 : Hid (g46 ≠ g133) := Lib.hid (xp_lt0 (Fv26_46.out.keep C7_35.out) hge)
  have C9_35 := Lib.hid (bel_step C9_34.out B34.out)
  have N243_5 : Hid (b6 ≠ g133) := Lib.hid (xp_lt0 (heap_keep Fv34_6.out C9_35.out) hge)
  have C11_35 := Lib.hid (bel_step C11_34.out B34.out)
  have N244_6 : Hid (b8 ≠ g133) := Lib.hid (xp_lt0 (heap_keep Fv44_8.out C11_35.out) hge)
  have C13_35 := Lib.hid (bel_step C13_34.out B34.out)
  have N245_7 : Hid (b11 ≠ g133) := Lib.hid (xp_lt0 (heap_keep Fv56_11.out C13_35.out) hge)
  have C15_35 := Lib.hid (bel_step C15_34.out B34.out)
  have N246_8 : Hid (b13 ≠ g133) := Lib.hid (xp_lt0 (heap_keep Fv68_13.out C15_35.out) hge)
  have C17_35 := Lib.hid (bel_step C17_34.out B34.out)
  have N247_9 : Hid (b15 ≠ g133) := Lib.hid (xp_lt0 (heap_keep Fv81_15.out C17_35.out) hge)
  have C19_35 := Lib.hid (bel_step C19_34.out B34.out)
  have N248_10 : Hid (b17 ≠ g133) := Lib.hid (xp_lt0 (heap_keep Fv95_17.out C19_35.out) hge)
  have C25_35 := Lib.hid (bel_step C25_34.out B34.out)
  have N249_11 : Hid (g106 ≠ g133) := Lib.hid (xp_lt0 (Fv110_106.out.keep C25_35.out) hge)
  have C26_35 := Lib.hid (bel_step C26_34.out B34.out)
  have N250_12 : Hid (g107 ≠ g133) := Lib.hid (xp_lt0 (Fv125_107.out.keep C26_35.out) hge)
  have C27_35 := Lib.hid (bel_step C27_34.out B34.out)
  have N251_13 : Hid (g108 ≠ g133) := Lib.hid (xp_lt0 (Fv141_108.out.keep C27_35.out) hge)
  have C28_35 := Lib.hid (bel_step C28_34.out B34.out)
  have N252_14 : Hid (g109 ≠ g133) := Lib.hid (xp_lt0 (Fv158_109.out.keep C28_35.out) hge)
  have C31_35 := Lib.hid (bel_step C31_34.out B34.out)
  have N253_15 : Hid (g118 ≠ g133) := Lib.hid (xp_lt0 (Fv176_118.out.keep C31_35.out) hge)
  have C32_35 := Lib.hid (bel_step C32_34.out B34.out)
  have N254_16 : Hid (g119 ≠ g133) := Lib.hid (xp_lt0 (Fv195_119.out.keep C32_35.out) hge)
  have C33_35 := Lib.hid (bel_step B33.out B34.out)
  have N255_17 : Hid (g120 ≠ g133) := Lib.hid (xp_lt0 (Fv215_120.out.keep C33_35.out) hge)
  have N256_18 : Hid (g132 ≠ g133) := Lib.hid (xp_lt0 Fv236_132.out hge)
  have Ge257 : Hid (V35.heap.size ≤ g133) := Lib.hid hge
  have B35 := Lib.hid hb
  have Fv258_133 : Hid (RowG wdC V36 g133 50 ([2, 255, 0, 0])) := Lib.hid (h0)
  have Lt259 : Hid (g133 < V36.heap.size) := Lib.hid (xp_lt Fv258_133.out)
  clear hge h0 hb
  simp only [ptr, Act.put, List.setIfInBounds_toArray, List.set_cons_zero, List.set_cons_succ]
  refine wpList_mk (by kernel_rfl) ([3, 0, 0, 0].flatMap wdC).toArray 50 4 4 (xg_lit (E := wdC) (bytes := 8) (.int .u64 0) [.const (.int .u64 3), .const (.int .u64 0), .const (.int .u64 0), .const (.int .u64 0)] [3, 0, 0, 0] 4 Tryd.underlying48 (by kernel_rfl) rfl (by decide) (by decide) rfl rfl) ?_
  intro g134 V37 hge h0 hb
  have C1_36 := Lib.hid (bel_step C1_35.out B35.out)
  have N260_0 : Hid (b1 ≠ g134) := Lib.hid (xp_lt0 (heap_keep Fv1_1.out C1_36.out) hge)
  have C2_36 := Lib.hid (bel_step C2_35.out B35.out)
  have N261_1 : Hid (b2 ≠ g134) := Lib.hid (xp_lt0 (heap_keep Fv6_2.out C2_36.out) hge)
  have C4_36 := Lib.hid (bel_step C4_35.out B35.out)
  have N262_2 : Hid (g41 ≠ g134) := Lib.hid (xp_lt0 (Fv12_41.out.keep C4_36.out) hge)
  have C6_36 := Lib.hid (bel_step C6_35.out B35.out)
  have N263_3 : Hid (b4 ≠ g134) := Lib.hid (xp_lt0 (heap_keep Fv18_4.out C6_36.out) hge)
  have C7_36 := Lib.hid (bel_step C7_35.out B35.out)
  have N264_4 : Hid (g46 ≠ g134) := Lib.hid (xp_lt0 (Fv26_46.out.keep C7_36.out) hge)
  have C9_36 := Lib.hid (bel_step C9_35.out B35.out)
  have N265_5 : Hid (b6 ≠ g134) := Lib.hid (xp_lt0 (heap_keep Fv34_6.out C9_36.out) hge)
  have C11_36 := Lib.hid (bel_step C11_35.out B35.out)
  have N266_6 : Hid (b8 ≠ g134) := Lib.hid (xp_lt0 (heap_keep Fv44_8.out C11_36.out) hge)
  have C13_36 := Lib.hid (bel_step C13_35.out B35.out)
  have N267_7 : Hid (b11 ≠ g134) := Lib.hid (xp_lt0 (heap_keep Fv56_11.out C13_36.out) hge)
  have C15_36 := Lib.hid (bel_step C15_35.out B35.out)
  have N268_8 : Hid (b13 ≠ g134) := Lib.hid (xp_lt0 (heap_keep Fv68_13.out C15_36.out) hge)
  have C17_36 := Lib.hid (bel_step C17_35.out B35.out)
  have N269_9 : Hid (b15 ≠ g134) := Lib.hid (xp_lt0 (heap_keep Fv81_15.out C17_36.out) hge)
  have C19_36 := Lib.hid (bel_step C19_35.out B35.out)
  have N270_10 : Hid (b17 ≠ g134) := Lib.hid (xp_lt0 (heap_keep Fv95_17.out C19_36.out) hge)
  have C25_36 := Lib.hid (bel_step C25_35.out B35.out)
  have N271_11 : Hid (g106 ≠ g134) := Lib.hid (xp_lt0 (Fv110_106.out.keep C25_36.out) hge)
  have C26_36 := Lib.hid (bel_step C26_35.out B35.out)
  have N272_12 : Hid (g107 ≠ g134) := Lib.hid (xp_lt0 (Fv125_107.out.keep C26_36.out) hge)
  have C27_36 := Lib.hid (bel_step C27_35.out B35.out)
  have N273_13 : Hid (g108 ≠ g134) := Lib.hid (xp_lt0 (Fv141_108.out.keep C27_36.out) hge)
  have C28_36 := Lib.hid (bel_step C28_35.out B35.out)
  have N274_14 : Hid (g109 ≠ g134) := Lib.hid (xp_lt0 (Fv158_109.out.keep C28_36.out) hge)
  have C31_36 := Lib.hid (bel_step C31_35.out B35.out)
  have N275_15 : Hid (g118 ≠ g134) := Lib.hid (xp_lt0 (Fv176_118.out.keep C31_36.out) hge)
  have C32_36 := Lib.hid (bel_step C32_35.out B35.out)
  have N276_16 : Hid (g119 ≠ g134) := Lib.hid (xp_lt0 (Fv195_119.out.keep C32_36.out) hge)
  have C33_36 := Lib.hid (bel_step C33_35.out B35.out)
  have N277_17 : Hid (g120 ≠ g134) := Lib.hid (xp_lt0 (Fv215_120.out.keep C33_36.out) hge)
  have N278_18 : Hid (g132 ≠ g134) := Lib.hid (xp_lt0 (Fv236_132.out.keep B35.out) hge)
  have N279_19 : Hid (g133 ≠ g134) := Lib.hid (xp_lt0 Fv258_133.out hge)
  have Ge280 : Hid (V36.heap.size ≤ g134) := Lib.hid hge
  have B36 := Lib.hid hb
  have Fv281_134 : Hid (RowG wdC V37 g134 50 ([3, 0, 0, 0])) := Lib.hid (h0)
  have Lt282 : Hid (g134 < V37.heap.size) := Lib.hid (xp_lt Fv281_134.out)
  clear hge h0 hb
  simp only [ptr, Act.put, List.setIfInBounds_toArray, List.set_cons_zero, List.set_cons_succ]
  refine wpList_mk (by kernel_rfl) ([4, 129, 0, 0].flatMap wdC).toArray 50 4 4 (xg_lit (E := wdC) (bytes := 8) (.int .u64 0) [.const (.int .u64 4), .const (.int .u64 129), .const (.int .u64 0), .const (.int .u64 0)] [4, 129, 0, 0] 4 Tryd.underlying48 (by kernel_rfl) rfl (by decide) (by decide) rfl rfl) ?_
  intro g135 V38 hge h0 hb
  have C1_37 := Lib.hid (bel_step C1_36.out B36.out)
  have N283_0 : Hid (b1 ≠ g135) := Lib.hid (xp_lt0 (heap_keep Fv1_1.out C1_37.out) hge)
  have C2_37 := Lib.hid (bel_step C2_36.out B36.out)
  have N284_1 : Hid (b2 ≠ g135) := Lib.hid (xp_lt0 (heap_keep Fv6_2.out C2_37.out) hge)
  have C4_37 := Lib.hid (bel_step C4_36.out B36.out)
  have N285_2 : Hid (g41 ≠ g135) := Lib.hid (xp_lt0 (Fv12_41.out.keep C4_37.out) hge)
  have C6_37 := Lib.hid (bel_step C6_36.out B36.out)
  have N286_3 : Hid (b4 ≠ g135) := Lib.hid (xp_lt0 (heap_keep Fv18_4.out C6_37.out) hge)
  have C7_37 := Lib.hid (bel_step C7_36.out B36.out)
  have N287_4 : Hid (g46 ≠ g135) := Lib.hid (xp_lt0 (Fv26_46.out.keep C7_37.out) hge)
  have C9_37 := Lib.hid (bel_step C9_36.out B36.out)
  have N288_5 : Hid (b6 ≠ g135) := Lib.hid (xp_lt0 (heap_keep Fv34_6.out C9_37.out) hge)
  have C11_37 := Lib.hid (bel_step C11_36.out B36.out)
  have N289_6 : Hid (b8 ≠ g135) := Lib.hid (xp_lt0 (heap_keep Fv44_8.out C11_37.out) hge)
  have C13_37 := Lib.hid (bel_step C13_36.out B36.out)
  have N290_7 : Hid (b11 ≠ g135) := Lib.hid (xp_lt0 (heap_keep Fv56_11.out C13_37.out) hge)
  have C15_37 := Lib.hid (bel_step C15_36.out B36.out)
  have N291_8 : Hid (b13 ≠ g135) := Lib.hid (xp_lt0 (heap_keep Fv68_13.out C15_37.out) hge)
  have C17_37 := Lib.hid (bel_step C17_36.out B36.out)
  have N292_9 : Hid (b15 ≠ g135) := Lib.hid (xp_lt0 (heap_keep Fv81_15.out C17_37.out) hge)
  have C19_37 := Lib.hid (bel_step C19_36.out B36.out)
  have N293_10 : Hid (b17 ≠ g135) := Lib.hid (xp_lt0 (heap_keep Fv95_17.out C19_37.out) hge)
  have C25_37 := Lib.hid (bel_step C25_36.out B36.out)
  have N294_11 : Hid (g106 ≠ g135) := Lib.hid (xp_lt0 (Fv110_106.out.keep C25_37.out) hge)
  have C26_37 := Lib.hid (bel_step C26_36.out B36.out)
  have N295_12 : Hid (g107 ≠ g135) := Lib.hid (xp_lt0 (Fv125_107.out.keep C26_37.out) hge)
  have C27_37 := Lib.hid (bel_step C27_36.out B36.out)
  have N296_13 : Hid (g108 ≠ g135) := Lib.hid (xp_lt0 (Fv141_108.out.keep C27_37.out) hge)
  have C28_37 := Lib.hid (bel_step C28_36.out B36.out)
  have N297_14 : Hid (g109 ≠ g135) := Lib.hid (xp_lt0 (Fv158_109.out.keep C28_37.out) hge)
  have C31_37 := Lib.hid (bel_step C31_36.out B36.out)
  have N298_15 : Hid (g118 ≠ g135) := Lib.hid (xp_lt0 (Fv176_118.out.keep C31_37.out) hge)
  have C32_37 := Lib.hid (bel_step C32_36.out B36.out)
  have N299_16 : Hid (g119 ≠ g135) := Lib.hid (xp_lt0 (Fv195_119.out.keep C32_37.out) hge)
  have C33_37 := Lib.hid (bel_step C33_36.out B36.out)
  have N300_17 : Hid (g120 ≠ g135) := Lib.hid (xp_lt0 (Fv215_120.out.keep C33_37.out) hge)
  have C35_37 := Lib.hid (bel_step B35.out B36.out)
  have N301_18 : Hid (g132 ≠ g135) := Lib.hid (xp_lt0 (Fv236_132.out.keep C35_37.out) hge)
  have N302_19 : Hid (g133 ≠ g135) := Lib.hid (xp_lt0 (Fv258_133.out.keep B36.out) hge)
  have N303_20 : Hid (g134 ≠ g135) := Lib.hid (xp_lt0 Fv281_134.out hge)
  have Ge304 : Hid (V37.heap.size ≤ g135) := Lib.hid hge
  have B37 := Lib.hid hb
  have Fv305_135 : Hid (RowG wdC V38 g135 50 ([4, 129, 0, 0])) := Lib.hid (h0)
  have Lt306 : Hid (g135 < V38.heap.size) := Lib.hid (xp_lt Fv305_135.out)
  clear hge h0 hb
  simp only [ptr, Act.put, List.setIfInBounds_toArray, List.set_cons_zero, List.set_cons_succ]
  refine wpList_mk (by kernel_rfl) ([0, 1, 0, 0].flatMap wdC).toArray 50 4 4 (xg_lit (E := wdC) (bytes := 8) (.int .u64 0) [.const (.int .u64 0), .const (.int .u64 1), .const (.int .u64 0), .const (.int .u64 0)] [0, 1, 0, 0] 4 Tryd.underlying48 (by kernel_rfl) rfl (by decide) (by decide) rfl rfl) ?_
  intro g136 V39 hge h0 hb
  have C1_38 := Lib.hid (bel_step C1_37.out B37.out)
  have N307_0 : Hid (b1 ≠ g136) := Lib.hid (xp_lt0 (heap_keep Fv1_1.out C1_38.out) hge)
  have C2_38 := Lib.hid (bel_step C2_37.out B37.out)
  have N308_1 : Hid (b2 ≠ g136) := Lib.hid (xp_lt0 (heap_keep Fv6_2.out C2_38.out) hge)
  have C4_38 := Lib.hid (bel_step C4_37.out B37.out)
  have N309_2 : Hid (g41 ≠ g136) := Lib.hid (xp_lt0 (Fv12_41.out.keep C4_38.out) hge)
  have C6_38 := Lib.hid (bel_step C6_37.out B37.out)
  have N310_3 : Hid (b4 ≠ g136) := Lib.hid (xp_lt0 (heap_keep Fv18_4.out C6_38.out) hge)
  have C7_38 := Lib.hid (bel_step C7_37.out B37.out)
  have N311_4 : Hid (g46 ≠ g136) := Lib.hid (xp_lt0 (Fv26_46.out.keep C7_38.out) hge)
  have C9_38 := Lib.hid (bel_step C9_37.out B37.out)
  have N312_5 : Hid (b6 ≠ g136) := Lib.hid (xp_lt0 (heap_keep Fv34_6.out C9_38.out) hge)
  have C11_38 := Lib.hid (bel_step C11_37.out B37.out)
  have N313_6 : Hid (b8 ≠ g136) := Lib.hid (xp_lt0 (heap_keep Fv44_8.out C11_38.out) hge)
  have C13_38 := Lib.hid (bel_step C13_37.out B37.out)
  have N314_7 : Hid (b11 ≠ g136) := Lib.hid (xp_lt0 (heap_keep Fv56_11.out C13_38.out) hge)
  have C15_38 := Lib.hid (bel_step C15_37.out B37.out)
  have N315_8 : Hid (b13 ≠ g136) := Lib.hid (xp_lt0 (heap_keep Fv68_13.out C15_38.out) hge)
  have C17_38 := Lib.hid (bel_step C17_37.out B37.out)
  have N316_9 : Hid (b15 ≠ g136) := Lib.hid (xp_lt0 (heap_keep Fv81_15.out C17_38.out) hge)
  have C19_38 := Lib.hid (bel_step C19_37.out B37.out)
  have N317_10 : Hid (b17 ≠ g136) := Lib.hid (xp_lt0 (heap_keep Fv95_17.out C19_38.out) hge)
  have C25_38 := Lib.hid (bel_step C25_37.out B37.out)
  have N318_11 : Hid (g106 ≠ g136) := Lib.hid (xp_lt0 (Fv110_106.out.keep C25_38.out) hge)
  have C26_38 := Lib.hid (bel_step C26_37.out B37.out)
  have N319_12 : Hid (g107 ≠ g136) := Lib.hid (xp_lt0 (Fv125_107.out.keep C26_38.out) hge)
  have C27_38 := Lib.hid (bel_step C27_37.out B37.out)
  have N320_13 : Hid (g108 ≠ g136) := Lib.hid (xp_lt0 (Fv141_108.out.keep C27_38.out) hge)
  have C28_38 := Lib.hid (bel_step C28_37.out B37.out)
  have N321_14 : Hid (g109 ≠ g136) := Lib.hid (xp_lt0 (Fv158_109.out.keep C28_38.out) hge)
  have C31_38 := Lib.hid (bel_step C31_37.out B37.out)
  have N322_15 : Hid (g118 ≠ g136) := Lib.hid (xp_lt0 (Fv176_118.out.keep C31_38.out) hge)
  have C32_38 := Lib.hid (bel_step C32_37.out B37.out)
  have N323_16 : Hid (g119 ≠ g136) := Lib.hid (xp_lt0 (Fv195_119.out.keep C32_38.out) hge)
  have C33_38 := Lib.hid (bel_step C33_37.out B37.out)
  have N324_17 : Hid (g120 ≠ g136) := Lib.hid (xp_lt0 (Fv215_120.out.keep C33_38.out) hge)
  have C35_38 := Lib.hid (bel_step C35_37.out B37.out)
  have N325_18 : Hid (g132 ≠ g136) := Lib.hid (xp_lt0 (Fv236_132.out.keep C35_38.out) hge)
  have C36_38 := Lib.hid (bel_step B36.out B37.out)
  have N326_19 : Hid (g133 ≠ g136) := Lib.hid (xp_lt0 (Fv258_133.out.keep C36_38.out) hge)
  have N327_20 : Hid (g134 ≠ g136) := Lib.hid (xp_lt0 (Fv281_134.out.keep B37.out) hge)
  have N328_21 : Hid (g135 ≠ g136) := Lib.hid (xp_lt0 Fv305_135.out hge)
  have Ge329 : Hid (V38.heap.size ≤ g136) := Lib.hid hge
  have B38 := Lib.hid hb
  have Fv330_136 : Hid (RowG wdC V39 g136 50 ([0, 1, 0, 0])) := Lib.hid (h0)
  have Lt331 : Hid (g136 < V39.heap.size) := Lib.hid (xp_lt Fv330_136.out)
  clear hge h0 hb
  simp only [ptr, Act.put, List.setIfInBounds_toArray, List.set_cons_zero, List.set_cons_succ]
  refine wpList_mk (by kernel_rfl) ([(Hd.mk (some ⟨g132, 0, none⟩) 4 4), (Hd.mk (some ⟨g133, 0, none⟩) 4 4), (Hd.mk (some ⟨g134, 0, none⟩) 4 4), (Hd.mk (some ⟨g135, 0, none⟩) 4 4), (Hd.mk (some ⟨g136, 0, none⟩) 4 4)].flatMap hdC).toArray 48 5 5 (xg_lit (E := hdC) (bytes := 24) (.slice none 0 0) [.tmp 132, .tmp 133, .tmp 134, .tmp 135, .tmp 136] [(Hd.mk (some ⟨g132, 0, none⟩) 4 4), (Hd.mk (some ⟨g133, 0, none⟩) 4 4), (Hd.mk (some ⟨g134, 0, none⟩) 4 4), (Hd.mk (some ⟨g135, 0, none⟩) 4 4), (Hd.mk (some ⟨g136, 0, none⟩) 4 4)] 5 Tryd.underlying38 (by kernel_rfl) rfl (by decide) (by decide) rfl rfl) ?_
  intro g137 V40 hge h0 hb
  have C1_39 := Lib.hid (bel_step C1_38.out B38.out)
  have N332_0 : Hid (b1 ≠ g137) := Lib.hid (xp_lt0 (heap_keep Fv1_1.out C1_39.out) hge)
  have C2_39 := Lib.hid (bel_step C2_38.out B38.out)
  have N333_1 : Hid (b2 ≠ g137) := Lib.hid (xp_lt0 (heap_keep Fv6_2.out C2_39.out) hge)
  have C4_39 := Lib.hid (bel_step C4_38.out B38.out)
  have N334_2 : Hid (g41 ≠ g137) := Lib.hid (xp_lt0 (Fv12_41.out.keep C4_39.out) hge)
  have C6_39 := Lib.hid (bel_step C6_38.out B38.out)
  have N335_3 : Hid (b4 ≠ g137) := Lib.hid (xp_lt0 (heap_keep Fv18_4.out C6_39.out) hge)
  have C7_39 := Lib.hid (bel_step C7_38.out B38.out)
  have N336_4 : Hid (g46 ≠ g137) := Lib.hid (xp_lt0 (Fv26_46.out.keep C7_39.out) hge)
  have C9_39 := Lib.hid (bel_step C9_38.out B38.out)
  have N337_5 : Hid (b6 ≠ g137) := Lib.hid (xp_lt0 (heap_keep Fv34_6.out C9_39.out) hge)
  have C11_39 := Lib.hid (bel_step C11_38.out B38.out)
  have N338_6 : Hid (b8 ≠ g137) := Lib.hid (xp_lt0 (heap_keep Fv44_8.out C11_39.out) hge)
  have C13_39 := Lib.hid (bel_step C13_38.out B38.out)
  have N339_7 : Hid (b11 ≠ g137) := Lib.hid (xp_lt0 (heap_keep Fv56_11.out C13_39.out) hge)
  have C15_39 := Lib.hid (bel_step C15_38.out B38.out)
  have N340_8 : Hid (b13 ≠ g137) := Lib.hid (xp_lt0 (heap_keep Fv68_13.out C15_39.out) hge)
  have C17_39 := Lib.hid (bel_step C17_38.out B38.out)
  have N341_9 : Hid (b15 ≠ g137) := Lib.hid (xp_lt0 (heap_keep Fv81_15.out C17_39.out) hge)
  have C19_39 := Lib.hid (bel_step C19_38.out B38.out)
  have N342_10 : Hid (b17 ≠ g137) := Lib.hid (xp_lt0 (heap_keep Fv95_17.out C19_39.out) hge)
  have C25_39 := Lib.hid (bel_step C25_38.out B38.out)
  have N343_11 : Hid (g106 ≠ g137) := Lib.hid (xp_lt0 (Fv110_106.out.keep C25_39.out) hge)
  have C26_39 := Lib.hid (bel_step C26_38.out B38.out)
  have N344_12 : Hid (g107 ≠ g137) := Lib.hid (xp_lt0 (Fv125_107.out.keep C26_39.out) hge)
  have C27_39 := Lib.hid (bel_step C27_38.out B38.out)
  have N345_13 : Hid (g108 ≠ g137) := Lib.hid (xp_lt0 (Fv141_108.out.keep C27_39.out) hge)
  have C28_39 := Lib.hid (bel_step C28_38.out B38.out)
  have N346_14 : Hid (g109 ≠ g137) := Lib.hid (xp_lt0 (Fv158_109.out.keep C28_39.out) hge)
  have C31_39 := Lib.hid (bel_step C31_38.out B38.out)
  have N347_15 : Hid (g118 ≠ g137) := Lib.hid (xp_lt0 (Fv176_118.out.keep C31_39.out) hge)
  have C32_39 := Lib.hid (bel_step C32_38.out B38.out)
  have N348_16 : Hid (g119 ≠ g137) := Lib.hid (xp_lt0 (Fv195_119.out.keep C32_39.out) hge)
  have C33_39 := Lib.hid (bel_step C33_38.out B38.out)
  have N349_17 : Hid (g120 ≠ g137) := Lib.hid (xp_lt0 (Fv215_120.out.keep C33_39.out) hge)
  have C35_39 := Lib.hid (bel_step C35_38.out B38.out)
  have N350_18 : Hid (g132 ≠ g137) := Lib.hid (xp_lt0 (Fv236_132.out.keep C35_39.out) hge)
  have C36_39 := Lib.hid (bel_step C36_38.out B38.out)
  have N351_19 : Hid (g133 ≠ g137) := Lib.hid (xp_lt0 (Fv258_133.out.keep C36_39.out) hge)
  have C37_39 := Lib.hid (bel_step B37.out B38.out)
  have N352_20 : Hid (g134 ≠ g137) := Lib.hid (xp_lt0 (Fv281_134.out.keep C37_39.out) hge)
  have N353_21 : Hid (g135 ≠ g137) := Lib.hid (xp_lt0 (Fv305_135.out.keep B38.out) hge)
  have N354_22 : Hid (g136 ≠ g137) := Lib.hid (xp_lt0 Fv330_136.out hge)
  have Ge355 : Hid (V39.heap.size ≤ g137) := Lib.hid hge
  have B39 := Lib.hid hb
  have Fv356_137 : Hid (RowG hdC V40 g137 48 ([(Hd.mk (some ⟨g132, 0, none⟩) 4 4), (Hd.mk (some ⟨g133, 0, none⟩) 4 4), (Hd.mk (some ⟨g134, 0, none⟩) 4 4), (Hd.mk (some ⟨g135, 0, none⟩) 4 4), (Hd.mk (some ⟨g136, 0, none⟩) 4 4)])) := Lib.hid (h0)
  have Lt357 : Hid (g137 < V40.heap.size) := Lib.hid (xp_lt Fv356_137.out)
  clear hge h0 hb
  simp only [ptr, Act.put, List.setIfInBounds_toArray, List.set_cons_zero, List.set_cons_succ]
  refine wpList_run (by kernel_rfl) (.slice (some ⟨g137, 0, none⟩) 5 5) V40 rfl ?_
  simp only [Act.put, List.setIfInBounds_toArray, List.set_cons_zero, List.set_cons_succ]
  refine wpList_nil ?_
  go_upto_region 23 with fail
  refine wp_region_lit ?_
  refine wpList_mk (by kernel_rfl) ([1, 3, 5, 0, 2, 4, 6, 0].flatMap wdC).toArray 50 8 8 (xg_lit (E := wdC) (bytes := 8) (.int .u64 0) [.const (.int .u64 1), .const (.int .u64 3), .const (.int .u64 5), .const (.int .u64 0), .const (.int .u64 2), .const (.int .u64 4), .const (.int .u64 6), .const (.int .u64 0)] [1, 3, 5, 0, 2, 4, 6, 0] 8 Tryd.underlying48 (by kernel_rfl) rfl (by decide) (by decide) rfl rfl) ?_
  intro g138 V41 hge h0 hb
  have C1_40 := Lib.hid (bel_step C1_39.out B39.out)
  have N358_0 : Hid (b1 ≠ g138) := Lib.hid (xp_lt0 (heap_keep Fv1_1.out C1_40.out) hge)
  have C2_40 := Lib.hid (bel_step C2_39.out B39.out)
  have N359_1 : Hid (b2 ≠ g138) := Lib.hid (xp_lt0 (heap_keep Fv6_2.out C2_40.out) hge)
  have C4_40 := Lib.hid (bel_step C4_39.out B39.out)
  have N360_2 : Hid (g41 ≠ g138) := Lib.hid (xp_lt0 (Fv12_41.out.keep C4_40.out) hge)
  have C6_40 := Lib.hid (bel_step C6_39.out B39.out)
  have N361_3 : Hid (b4 ≠ g138) := Lib.hid (xp_lt0 (heap_keep Fv18_4.out C6_40.out) hge)
  have C7_40 := Lib.hid (bel_step C7_39.out B39.out)
  have N362_4 : Hid (g46 ≠ g138) := Lib.hid (xp_lt0 (Fv26_46.out.keep C7_40.out) hge)
  have C9_40 := Lib.hid (bel_step C9_39.out B39.out)
  have N363_5 : Hid (b6 ≠ g138) := Lib.hid (xp_lt0 (heap_keep Fv34_6.out C9_40.out) hge)
  have C11_40 := Lib.hid (bel_step C11_39.out B39.out)
  have N364_6 : Hid (b8 ≠ g138) := Lib.hid (xp_lt0 (heap_keep Fv44_8.out C11_40.out) hge)
  have C13_40 := Lib.hid (bel_step C13_39.out B39.out)
  have N365_7 : Hid (b11 ≠ g138) := Lib.hid (xp_lt0 (heap_keep Fv56_11.out C13_40.out) hge)
  have C15_40 := Lib.hid (bel_step C15_39.out B39.out)
  have N366_8 : Hid (b13 ≠ g138) := Lib.hid (xp_lt0 (heap_keep Fv68_13.out C15_40.out) hge)
  have C17_40 := Lib.hid (bel_step C17_39.out B39.out)
  have N367_9 : Hid (b15 ≠ g138) := Lib.hid (xp_lt0 (heap_keep Fv81_15.out C17_40.out) hge)
  have C19_40 := Lib.hid (bel_step C19_39.out B39.out)
  have N368_10 : Hid (b17 ≠ g138) := Lib.hid (xp_lt0 (heap_keep Fv95_17.out C19_40.out) hge)
  have C25_40 := Lib.hid (bel_step C25_39.out B39.out)
  have N369_11 : Hid (g106 ≠ g138) := Lib.hid (xp_lt0 (Fv110_106.out.keep C25_40.out) hge)
  have C26_40 := Lib.hid (bel_step C26_39.out B39.out)
  have N370_12 : Hid (g107 ≠ g138) := Lib.hid (xp_lt0 (Fv125_107.out.keep C26_40.out) hge)
  have C27_40 := Lib.hid (bel_step C27_39.out B39.out)
  have N371_13 : Hid (g108 ≠ g138) := Lib.hid (xp_lt0 (Fv141_108.out.keep C27_40.out) hge)
  have C28_40 := Lib.hid (bel_step C28_39.out B39.out)
  have N372_14 : Hid (g109 ≠ g138) := Lib.hid (xp_lt0 (Fv158_109.out.keep C28_40.out) hge)
  have C31_40 := Lib.hid (bel_step C31_39.out B39.out)
  have N373_15 : Hid (g118 ≠ g138) := Lib.hid (xp_lt0 (Fv176_118.out.keep C31_40.out) hge)
  have C32_40 := Lib.hid (bel_step C32_39.out B39.out)
  have N374_16 : Hid (g119 ≠ g138) := Lib.hid (xp_lt0 (Fv195_119.out.keep C32_40.out) hge)
  have C33_40 := Lib.hid (bel_step C33_39.out B39.out)
  have N375_17 : Hid (g120 ≠ g138) := Lib.hid (xp_lt0 (Fv215_120.out.keep C33_40.out) hge)
  have C35_40 := Lib.hid (bel_step C35_39.out B39.out)
  have N376_18 : Hid (g132 ≠ g138) := Lib.hid (xp_lt0 (Fv236_132.out.keep C35_40.out) hge)
  have C36_40 := Lib.hid (bel_step C36_39.out B39.out)
  have N377_19 : Hid (g133 ≠ g138) := Lib.hid (xp_lt0 (Fv258_133.out.keep C36_40.out) hge)
  have C37_40 := Lib.hid (bel_step C37_39.out B39.out)
  have N378_20 : Hid (g134 ≠ g138) := Lib.hid (xp_lt0 (Fv281_134.out.keep C37_40.out) hge)
  have C38_40 := Lib.hid (bel_step B38.out B39.out)
  have N379_21 : Hid (g135 ≠ g138) := Lib.hid (xp_lt0 (Fv305_135.out.keep C38_40.out) hge)
  have N380_22 : Hid (g136 ≠ g138) := Lib.hid (xp_lt0 (Fv330_136.out.keep B39.out) hge)
  have N381_23 : Hid (g137 ≠ g138) := Lib.hid (xp_lt0 Fv356_137.out hge)
  have Ge382 : Hid (V40.heap.size ≤ g138) := Lib.hid hge
  have B40 := Lib.hid hb
  have Fv383_138 : Hid (RowG wdC V41 g138 50 ([1, 3, 5, 0, 2, 4, 6, 0])) := Lib.hid (h0)
  have Lt384 : Hid (g138 < V41.heap.size) := Lib.hid (xp_lt Fv383_138.out)
  clear hge h0 hb
  simp only [ptr, Act.put, List.setIfInBounds_toArray, List.set_cons_zero, List.set_cons_succ]
  refine wpList_mk (by kernel_rfl) ([(Hd.mk (some ⟨g138, 0, none⟩) 8 8)].flatMap hdC).toArray 48 1 1 (xg_lit (E := hdC) (bytes := 24) (.slice none 0 0) [.tmp 138] [(Hd.mk (some ⟨g138, 0, none⟩) 8 8)] 1 Tryd.underlying38 (by kernel_rfl) rfl (by decide) (by decide) rfl rfl) ?_
  intro g139 V42 hge h0 hb
  have C1_41 := Lib.hid (bel_step C1_40.out B40.out)
  have N385_0 : Hid (b1 ≠ g139) := Lib.hid (xp_lt0 (heap_keep Fv1_1.out C1_41.out) hge)
  have C2_41 := Lib.hid (bel_step C2_40.out B40.out)
  have N386_1 : Hid (b2 ≠ g139) := Lib.hid (xp_lt0 (heap_keep Fv6_2.out C2_41.out) hge)
  have C4_41 := Lib.hid (bel_step C4_40.out B40.out)
  have N387_2 : Hid (g41 ≠ g139) := Lib.hid (xp_lt0 (Fv12_41.out.keep C4_41.out) hge)
  have C6_41 := Lib.hid (bel_step C6_40.out B40.out)
  have N388_3 : Hid (b4 ≠ g139) := Lib.hid (xp_lt0 (heap_keep Fv18_4.out C6_41.out) hge)
  have C7_41 := Lib.hid (bel_step C7_40.out B40.out)
  have N389_4 : Hid (g46 ≠ g139) := Lib.hid (xp_lt0 (Fv26_46.out.keep C7_41.out) hge)
  have C9_41 := Lib.hid (bel_step C9_40.out B40.out)
  have N390_5 : Hid (b6 ≠ g139) := Lib.hid (xp_lt0 (heap_keep Fv34_6.out C9_41.out) hge)
  have C11_41 := Lib.hid (bel_step C11_40.out B40.out)
  have N391_6 : Hid (b8 ≠ g139) := Lib.hid (xp_lt0 (heap_keep Fv44_8.out C11_41.out) hge)
  have C13_41 := Lib.hid (bel_step C13_40.out B40.out)
  have N392_7 : Hid (b11 ≠ g139) := Lib.hid (xp_lt0 (heap_keep Fv56_11.out C13_41.out) hge)
  have C15_41 := Lib.hid (bel_step C15_40.out B40.out)
  have N393_8 : Hid (b13 ≠ g139) := Lib.hid (xp_lt0 (heap_keep Fv68_13.out C15_41.out) hge)
  have C17_41 := Lib.hid (bel_step C17_40.out B40.out)
  have N394_9 : Hid (b15 ≠ g139) := Lib.hid (xp_lt0 (heap_keep Fv81_15.out C17_41.out) hge)
  have C19_41 := Lib.hid (bel_step C19_40.out B40.out)
  have N395_10 : Hid (b17 ≠ g139) := Lib.hid (xp_lt0 (heap_keep Fv95_17.out C19_41.out) hge)
  have C25_41 := Lib.hid (bel_step C25_40.out B40.out)
  have N396_11 : Hid (g106 ≠ g139) := Lib.hid (xp_lt0 (Fv110_106.out.keep C25_41.out) hge)
  have C26_41 := Lib.hid (bel_step C26_40.out B40.out)
  have N397_12 : Hid (g107 ≠ g139) := Lib.hid (xp_lt0 (Fv125_107.out.keep C26_41.out) hge)
  have C27_41 := Lib.hid (bel_step C27_40.out B40.out)
  have N398_13 : Hid (g108 ≠ g139) := Lib.hid (xp_lt0 (Fv141_108.out.keep C27_41.out) hge)
  have C28_41 := Lib.hid (bel_step C28_40.out B40.out)
  have N399_14 : Hid (g109 ≠ g139) := Lib.hid (xp_lt0 (Fv158_109.out.keep C28_41.out) hge)
  have C31_41 := Lib.hid (bel_step C31_40.out B40.out)
  have N400_15 : Hid (g118 ≠ g139) := Lib.hid (xp_lt0 (Fv176_118.out.keep C31_41.out) hge)
  have C32_41 := Lib.hid (bel_step C32_40.out B40.out)
  have N401_16 : Hid (g119 ≠ g139) := Lib.hid (xp_lt0 (Fv195_119.out.keep C32_41.out) hge)
  have C33_41 := Lib.hid (bel_step C33_40.out B40.out)
  have N402_17 : Hid (g120 ≠ g139) := Lib.hid (xp_lt0 (Fv215_120.out.keep C33_41.out) hge)
  have C35_41 := Lib.hid (bel_step C35_40.out B40.out)
  have N403_18 : Hid (g132 ≠ g139) := Lib.hid (xp_lt0 (Fv236_132.out.keep C35_41.out) hge)
  have C36_41 := Lib.hid (bel_step C36_40.out B40.out)
  have N404_19 : Hid (g133 ≠ g139) := Lib.hid (xp_lt0 (Fv258_133.out.keep C36_41.out) hge)
  have C37_41 := Lib.hid (bel_step C37_40.out B40.out)
  have N405_20 : Hid (g134 ≠ g139) := Lib.hid (xp_lt0 (Fv281_134.out.keep C37_41.out) hge)
  have C38_41 := Lib.hid (bel_step C38_40.out B40.out)
  have N406_21 : Hid (g135 ≠ g139) := Lib.hid (xp_lt0 (Fv305_135.out.keep C38_41.out) hge)
  have C39_41 := Lib.hid (bel_step B39.out B40.out)
  have N407_22 : Hid (g136 ≠ g139) := Lib.hid (xp_lt0 (Fv330_136.out.keep C39_41.out) hge)
  have N408_23 : Hid (g137 ≠ g139) := Lib.hid (xp_lt0 (Fv356_137.out.keep B40.out) hge)
  have N409_24 : Hid (g138 ≠ g139) := Lib.hid (xp_lt0 Fv383_138.out hge)
  have Ge410 : Hid (V41.heap.size ≤ g139) := Lib.hid hge
  have B41 := Lib.hid hb
  have Fv411_139 : Hid (RowG hdC V42 g139 48 ([(Hd.mk (some ⟨g138, 0, none⟩) 8 8)])) := Lib.hid (h0)
  have Lt412 : Hid (g139 < V42.heap.size) := Lib.hid (xp_lt Fv411_139.out)
  clear hge h0 hb
  simp only [ptr, Act.put, List.setIfInBounds_toArray, List.set_cons_zero, List.set_cons_succ]
  refine wpList_run (by kernel_rfl) (.slice (some ⟨g139, 0, none⟩) 1 1) V42 rfl ?_
  simp only [Act.put, List.setIfInBounds_toArray, List.set_cons_zero, List.set_cons_succ]
  refine wpList_nil ?_
  go_upto_region 24 with fail
  try simp only [List.append_eq, List.cons_append, List.nil_append]
  refine wp_ordF [(0, true), (1, true), (2, false), (3, false)] [4, 5, 6, 7, 8, 9, 10, 11, 12, 13, 14, 15, 16, 17, 18, 19, 20, 21, 22, 23, 24, 25, 26, 27, 28, 29, 30, 31, 32, 33, 34, 35, 36, 37, 38, 39, 40, 41, 42, 43, 44, 45, 46, 47, 48, 49, 50, 51, 52, 53, 54, 55, 56, 57, 58, 59, 60, 61, 62, 63, 64, 65, 66, 67, 68, 69, 70, 71, 72, 73, 74, 75, 76, 77, 78, 79, 80, 81, 82, 83, 84, 85, 86, 87, 88, 89, 90, 91, 92, 93, 94, 95, 96, 97, 98, 99, 100, 101, 102, 103, 104, 105, 106, 107, 108, 109, 110, 111] (((((Array.replicate 112 false).setIfInBounds 0 true).setIfInBounds 1 true).setIfInBounds 2 true).setIfInBounds 3 true) (l' := [_, _, _, _, _, _, _, _, _, _, _, _, _, _, _, _, _, _, _, _, _, _, _, _, _, _, _, _, _, _, _, _, _, _, _, _, _, _, _, _, _, _, _, _, _, _, _, _, _, _, _, _, _, _, _, _, _, _, _, _, _, _, _, _, _, _, _, _, _, _, _, _, _, _, _, _, _, _, _, _, _, _, _, _, _, _, _, _, _, _, _, _, _, _, _, _, _, _, _, _, _, _, _, _, _, _, _, _]) (by kernel_rfl) (by kernel_rfl) (fun _ _ dt _ _ h => by first | exact h.elim | (cases dt <;> exact h)) (lexOK_of (by kernel_rfl) (by kernel_rfl)) (by kernel_rfl) (ordOK_of (by kernel_rfl) (by kernel_rfl)) rfl rfl rfl (by kernel_rfl) (by kernel_rfl) (by kernel_rfl) (by kernel_rfl) ?_
  have hb : Below V42.heap.size V42 V42.drew := (Below.refl _ _).drew
  generalize V42.drew = V43 at hb ⊢
  have B42 := Lib.hid hb
  clear hb
  refine wpO_w (.slice Ae 3 ce) rfl (by kernel_rfl) (fun v hW => rfl) ?_
  simp only [ptr, Act.put, List.setIfInBounds_toArray, List.set_cons_zero, List.set_cons_succ]
  have C3_5 := Lib.hid (bel_step B3.out B4.out)
  have C3_6 := Lib.hid (bel_step C3_5.out B5.out)
  have C3_7 := Lib.hid (bel_step C3_6.out B6.out)
  have C3_8 := Lib.hid (bel_step C3_7.out B7.out)
  have C3_9 := Lib.hid (bel_step C3_8.out B8.out)
  have C3_10 := Lib.hid (bel_step C3_9.out B9.out)
  have C3_11 := Lib.hid (bel_step C3_10.out B10.out)
  have C3_12 := Lib.hid (bel_step C3_11.out B11.out)
  have C3_13 := Lib.hid (bel_step C3_12.out B12.out)
  have C3_14 := Lib.hid (bel_step C3_13.out B13.out)
  have C3_15 := Lib.hid (bel_step C3_14.out B14.out)
  have C3_16 := Lib.hid (bel_step C3_15.out B15.out)
  have C3_17 := Lib.hid (bel_step C3_16.out B16.out)
  have C3_18 := Lib.hid (bel_step C3_17.out B17.out)
  have C3_19 := Lib.hid (bel_step C3_18.out B18.out)
  have C3_20 := Lib.hid (bel_step C3_19.out B19.out)
  have C3_21 := Lib.hid (bel_step C3_20.out B20.out)
  have C3_22 := Lib.hid (bel_step C3_21.out B21.out)
  have C3_23 := Lib.hid (bel_step C3_22.out B22.out)
  have C3_24 := Lib.hid (bel_step C3_23.out B23.out)
  have C3_25 := Lib.hid (bel_step C3_24.out B24.out)
  have C3_26 := Lib.hid (bel_step C3_25.out B25.out)
  have C3_27 := Lib.hid (bel_step C3_26.out B26.out)
  have C3_28 := Lib.hid (bel_step C3_27.out B27.out)
  have C3_29 := Lib.hid (bel_step C3_28.out B28.out)
  have C3_30 := Lib.hid (bel_step C3_29.out B29.out)
  have C3_31 := Lib.hid (bel_step C3_30.out B30.out)
  have C3_32 := Lib.hid (bel_step C3_31.out B31.out)
  have C3_33 := Lib.hid (bel_step C3_32.out B32.out)
  have C3_34 := Lib.hid (bel_step C3_33.out B33.out)
  have C3_35 := Lib.hid (bel_step C3_34.out B34.out)
  have C3_36 := Lib.hid (bel_step C3_35.out B35.out)
  have C3_37 := Lib.hid (bel_step C3_36.out B36.out)
  have C3_38 := Lib.hid (bel_step C3_37.out B37.out)
  have C3_39 := Lib.hid (bel_step C3_38.out B38.out)
  have C3_40 := Lib.hid (bel_step C3_39.out B39.out)
  have C3_41 := Lib.hid (bel_step C3_40.out B40.out)
  have C3_42 := Lib.hid (bel_step C3_41.out B41.out)
  refine wpO_w (.string (strB [49, 2, 4])) rfl (by kernel_rfl) (fun v hW => (xg_str (xs := [49, 2, 4]) ((HEn.out.keep C3_42.out).keep hW) (by decide) Tryd.underlying25 Tryd.underlying5 Tryd.underlying9 rfl rfl)) ?_
  simp only [ptr, Act.put, List.setIfInBounds_toArray, List.set_cons_zero, List.set_cons_succ]
  refine wpO_op rfl (by kernel_rfl) ?_
  refine hOp_mk ([49, 2, 4].flatMap byC).toArray 5 3 3 (xg_lit (E := byC) (bytes := 1) (.int .u8 0) [.const (.int .u8 49), .const (.int .u8 2), .const (.int .u8 4)] [49, 2, 4] 3 Tryd.underlying25 (by kernel_rfl) rfl (by decide) (by decide) rfl rfl) ?_
  intro g142 V44 hge h0 hb
  have C1_42 := Lib.hid (bel_step C1_41.out B41.out)
  have C1_43 := Lib.hid (bel_step C1_42.out B42.out)
  have N413_0 : Hid (b1 ≠ g142) := Lib.hid (xp_lt0 (heap_keep Fv1_1.out C1_43.out) hge)
  have C2_42 := Lib.hid (bel_step C2_41.out B41.out)
  have C2_43 := Lib.hid (bel_step C2_42.out B42.out)
  have N414_1 : Hid (b2 ≠ g142) := Lib.hid (xp_lt0 (heap_keep Fv6_2.out C2_43.out) hge)
  have C4_42 := Lib.hid (bel_step C4_41.out B41.out)
  have C4_43 := Lib.hid (bel_step C4_42.out B42.out)
  have N415_2 : Hid (g41 ≠ g142) := Lib.hid (xp_lt0 (Fv12_41.out.keep C4_43.out) hge)
  have C6_42 := Lib.hid (bel_step C6_41.out B41.out)
  have C6_43 := Lib.hid (bel_step C6_42.out B42.out)
  have N416_3 : Hid (b4 ≠ g142) := Lib.hid (xp_lt0 (heap_keep Fv18_4.out C6_43.out) hge)
  have C7_42 := Lib.hid (bel_step C7_41.out B41.out)
  have C7_43 := Lib.hid (bel_step C7_42.out B42.out)
  have N417_4 : Hid (g46 ≠ g142) := Lib.hid (xp_lt0 (Fv26_46.out.keep C7_43.out) hge)
  have C9_42 := Lib.hid (bel_step C9_41.out B41.out)
  have C9_43 := Lib.hid (bel_step C9_42.out B42.out)
  have N418_5 : Hid (b6 ≠ g142) := Lib.hid (xp_lt0 (heap_keep Fv34_6.out C9_43.out) hge)
  have C11_42 := Lib.hid (bel_step C11_41.out B41.out)
  have C11_43 := Lib.hid (bel_step C11_42.out B42.out)
  have N419_6 : Hid (b8 ≠ g142) := Lib.hid (xp_lt0 (heap_keep Fv44_8.out C11_43.out) hge)
  have C13_42 := Lib.hid (bel_step C13_41.out B41.out)
  have C13_43 := Lib.hid (bel_step C13_42.out B42.out)
  have N420_7 : Hid (b11 ≠ g142) := Lib.hid (xp_lt0 (heap_keep Fv56_11.out C13_43.out) hge)
  have C15_42 := Lib.hid (bel_step C15_41.out B41.out)
  have C15_43 := Lib.hid (bel_step C15_42.out B42.out)
  have N421_8 : Hid (b13 ≠ g142) := Lib.hid (xp_lt0 (heap_keep Fv68_13.out C15_43.out) hge)
  have C17_42 := Lib.hid (bel_step C17_41.out B41.out)
  have C17_43 := Lib.hid (bel_step C17_42.out B42.out)
  have N422_9 : Hid (b15 ≠ g142) := Lib.hid (xp_lt0 (heap_keep Fv81_15.out C17_43.out) hge)
  have C19_42 := Lib.hid (bel_step C19_41.out B41.out)
  have C19_43 := Lib.hid (bel_step C19_42.out B42.out)
  have N423_10 : Hid (b17 ≠ g142) := Lib.hid (xp_lt0 (heap_keep Fv95_17.out C19_43.out) hge)
  have C25_42 := Lib.hid (bel_step C25_41.out B41.out)
  have C25_43 := Lib.hid (bel_step C25_42.out B42.out)
  have N424_11 : Hid (g106 ≠ g142) := Lib.hid (xp_lt0 (Fv110_106.out.keep C25_43.out) hge)
  have C26_42 := Lib.hid (bel_step C26_41.out B41.out)
  have C26_43 := Lib.hid (bel_step C26_42.out B42.out)
  have N425_12 : Hid (g107 ≠ g142) := Lib.hid (xp_lt0 (Fv125_107.out.keep C26_43.out) hge)
  have C27_42 := Lib.hid (bel_step C27_41.out B41.out)
  have C27_43 := Lib.hid (bel_step C27_42.out B42.out)
  have N426_13 : Hid (g108 ≠ g142) := Lib.hid (xp_lt0 (Fv141_108.out.keep C27_43.out) hge)
  have C28_42 := Lib.hid (bel_step C28_41.out B41.out)
  have C28_43 := Lib.hid (bel_step C28_42.out B42.out)
  have N427_14 : Hid (g109 ≠ g142) := Lib.hid (xp_lt0 (Fv158_109.out.keep C28_43.out) hge)
  have C31_42 := Lib.hid (bel_step C31_41.out B41.out)
  have C31_43 := Lib.hid (bel_step C31_42.out B42.out)
  have N428_15 : Hid (g118 ≠ g142) := Lib.hid (xp_lt0 (Fv176_118.out.keep C31_43.out) hge)
  have C32_42 := Lib.hid (bel_step C32_41.out B41.out)
  have C32_43 := Lib.hid (bel_step C32_42.out B42.out)
  have N429_16 : Hid (g119 ≠ g142) := Lib.hid (xp_lt0 (Fv195_119.out.keep C32_43.out) hge)
  have C33_42 := Lib.hid (bel_step C33_41.out B41.out)
  have C33_43 := Lib.hid (bel_step C33_42.out B42.out)
  have N430_17 : Hid (g120 ≠ g142) := Lib.hid (xp_lt0 (Fv215_120.out.keep C33_43.out) hge)
  have C35_42 := Lib.hid (bel_step C35_41.out B41.out)
  have C35_43 := Lib.hid (bel_step C35_42.out B42.out)
  have N431_18 : Hid (g132 ≠ g142) := Lib.hid (xp_lt0 (Fv236_132.out.keep C35_43.out) hge)
  have C36_42 := Lib.hid (bel_step C36_41.out B41.out)
  have C36_43 := Lib.hid (bel_step C36_42.out B42.out)
  have N432_19 : Hid (g133 ≠ g142) := Lib.hid (xp_lt0 (Fv258_133.out.keep C36_43.out) hge)
  have C37_42 := Lib.hid (bel_step C37_41.out B41.out)
  have C37_43 := Lib.hid (bel_step C37_42.out B42.out)
  have N433_20 : Hid (g134 ≠ g142) := Lib.hid (xp_lt0 (Fv281_134.out.keep C37_43.out) hge)
  have C38_42 := Lib.hid (bel_step C38_41.out B41.out)
  have C38_43 := Lib.hid (bel_step C38_42.out B42.out)
  have N434_21 : Hid (g135 ≠ g142) := Lib.hid (xp_lt0 (Fv305_135.out.keep C38_43.out) hge)
  have C39_42 := Lib.hid (bel_step C39_41.out B41.out)
  have C39_43 := Lib.hid (bel_step C39_42.out B42.out)
  have N435_22 : Hid (g136 ≠ g142) := Lib.hid (xp_lt0 (Fv330_136.out.keep C39_43.out) hge)
  have C40_42 := Lib.hid (bel_step B40.out B41.out)
  have C40_43 := Lib.hid (bel_step C40_42.out B42.out)
  have N436_23 : Hid (g137 ≠ g142) := Lib.hid (xp_lt0 (Fv356_137.out.keep C40_43.out) hge)
  have C41_43 := Lib.hid (bel_step B41.out B42.out)
  have N437_24 : Hid (g138 ≠ g142) := Lib.hid (xp_lt0 (Fv383_138.out.keep C41_43.out) hge)
  have N438_25 : Hid (g139 ≠ g142) := Lib.hid (xp_lt0 (Fv411_139.out.keep B42.out) hge)
  have Ge439 : Hid (V43.heap.size ≤ g142) := Lib.hid hge
  have B43 := Lib.hid hb
  have Fv440_142 : Hid (RowG byC V44 g142 5 ([49, 2, 4])) := Lib.hid (h0)
  have Lt441 : Hid (g142 < V44.heap.size) := Lib.hid (xp_lt Fv440_142.out)
  clear hge h0 hb
  have C42_44 := Lib.hid (bel_step B42.out B43.out)
  refine ⟨C42_44.out, ?_⟩
  simp only [ptr, Act.put, List.setIfInBounds_toArray, List.set_cons_zero, List.set_cons_succ]
  refine wpO_op rfl (by kernel_rfl) ?_
  refine hOp_val (.string (strB [49, 2, 4])) (xg_str (xs := [49, 2, 4]) (RowG.sg (n := 3) (c := 3) Fv440_142.out (show ([49, 2, 4]).length = 3 from rfl) (Nat.le_refl _) (by omega)) (by decide) Tryd.underlying25 Tryd.underlying5 Tryd.underlying9 rfl rfl) ⟨C42_44.out, ?_⟩
  simp only [ptr, Act.put, List.setIfInBounds_toArray, List.set_cons_zero, List.set_cons_succ]
  refine wpO_nil (tailQ_normal ?_)
  simp only [List.getElem_toArray, List.getElem_cons_succ, List.getElem_cons_zero]
  have HF44 : Hid (SL V44 V44) := Lib.hid ⟨⟨V44, Below.refl _ _⟩, rfl⟩
  refine wpF_seg 48 (by kernel_rfl) ?_
  simp only [List.take_succ_cons, List.take_zero, List.drop_succ_cons, List.drop_zero]
  refine wpQuiet_val (by kernel_rfl) (.bool true) (fun v hv => (xo_eqS (strB [49, 2, 4]) Tryd.underlying9 rfl rfl rfl)) ?_
  simp only [Act.put, List.setIfInBounds_toArray, List.set_cons_zero, List.set_cons_succ]
  refine wpQuiet_val (by kernel_rfl) (.bool true) (fun v hv => rfl) ?_
  simp only [Act.put, List.setIfInBounds_toArray, List.set_cons_zero, List.set_cons_succ]
  have C6_44 := Lib.hid (bel_step C6_43.out B43.out)
  refine wpQuiet_val (by kernel_rfl) (.agg #[.int .i64 1, .int .i64 2, .int .i64 3, .int .i64 4]) (fun v hv => (xo_loadW b4 _ (heap_keep (heap_keep Fv18_4.out C6_44.out) (laterF hv)) Tryd.underlying24 rfl (by kernel_rfl) rfl rfl)) ?_
  simp only [Act.put, List.setIfInBounds_toArray, List.set_cons_zero, List.set_cons_succ]
  have C1_44 := Lib.hid (bel_step C1_43.out B43.out)
  refine wpQuiet_val (by kernel_rfl) (.agg #[.int .i64 1, .int .i64 2, .int .i64 3, .int .i64 4]) (fun v hv => (xo_loadW b1 _ (heap_keep (heap_keep Fv1_1.out C1_44.out) (laterF hv)) Tryd.underlying24 rfl (by kernel_rfl) rfl rfl)) ?_
  simp only [Act.put, List.setIfInBounds_toArray, List.set_cons_zero, List.set_cons_succ]
  refine wpQuiet_val (by kernel_rfl) (.bool true) (fun v hv => (exec_eqRd (Rd.mk 1 2 3 4) rfl rfl rfl)) ?_
  simp only [Act.put, List.setIfInBounds_toArray, List.set_cons_zero, List.set_cons_succ]
  refine wpQuiet_val (by kernel_rfl) (.bool true) (fun v hv => rfl) ?_
  simp only [Act.put, List.setIfInBounds_toArray, List.set_cons_zero, List.set_cons_succ]
  refine wpQuiet_val (by kernel_rfl) (.bool true) (fun v hv => rfl) ?_
  simp only [Act.put, List.setIfInBounds_toArray, List.set_cons_zero, List.set_cons_succ]
  refine wpQuiet_val (by kernel_rfl) (.int .i64 0) (fun v hv => rfl) ?_
  simp only [Act.put, List.setIfInBounds_toArray, List.set_cons_zero, List.set_cons_succ]
  refine wpQuiet_val (by kernel_rfl) (.bool true) (fun v hv => (xo_eqlT .i64 0 0 (by omega) rfl rfl rfl)) ?_
  simp only [Act.put, List.setIfInBounds_toArray, List.set_cons_zero, List.set_cons_succ]
  refine wpQuiet_val (by kernel_rfl) (.bool true) (fun v hv => rfl) ?_
  simp only [Act.put, List.setIfInBounds_toArray, List.set_cons_zero, List.set_cons_succ]
  refine wpQuiet_val (by kernel_rfl) (.bool true) (fun v hv => rfl) ?_
  simp only [Act.put, List.setIfInBounds_toArray, List.set_cons_zero, List.set_cons_succ]
  refine wpQuiet_val (by kernel_rfl) (.int .i64 5) (fun v hv => rfl) ?_
  simp only [Act.put, List.setIfInBounds_toArray, List.set_cons_zero, List.set_cons_succ]
  refine wpQuiet_val (by kernel_rfl) (.bool true) (fun v hv => (xo_eqlT .i64 5 5 (by omega) rfl rfl rfl)) ?_
  simp only [Act.put, List.setIfInBounds_toArray, List.set_cons_zero, List.set_cons_succ]
  refine wpQuiet_val (by kernel_rfl) (.bool true) (fun v hv => rfl) ?_
  simp only [Act.put, List.setIfInBounds_toArray, List.set_cons_zero, List.set_cons_succ]
  refine wpQuiet_val (by kernel_rfl) (.bool true) (fun v hv => rfl) ?_
  simp only [Act.put, List.setIfInBounds_toArray, List.set_cons_zero, List.set_cons_succ]
  refine wpQuiet_val (by kernel_rfl) (.int .i64 0) (fun v hv => rfl) ?_
  simp only [Act.put, List.setIfInBounds_toArray, List.set_cons_zero, List.set_cons_succ]
  refine wpQuiet_val (by kernel_rfl) (.bool true) (fun v hv => (xo_eqlT .i64 0 0 (by omega) rfl rfl rfl)) ?_
  simp only [Act.put, List.setIfInBounds_toArray, List.set_cons_zero, List.set_cons_succ]
  refine wpQuiet_val (by kernel_rfl) (.bool true) (fun v hv => rfl) ?_
  simp only [Act.put, List.setIfInBounds_toArray, List.set_cons_zero, List.set_cons_succ]
  refine wpQuiet_val (by kernel_rfl) (.bool true) (fun v hv => rfl) ?_
  simp only [Act.put, List.setIfInBounds_toArray, List.set_cons_zero, List.set_cons_succ]
  refine wpQuiet_val (by kernel_rfl) (.int .i64 0) (fun v hv => rfl) ?_
  simp only [Act.put, List.setIfInBounds_toArray, List.set_cons_zero, List.set_cons_succ]
  refine wpQuiet_val (by kernel_rfl) (.bool true) (fun v hv => (xo_eqlT .i64 0 0 (by omega) rfl rfl rfl)) ?_
  simp only [Act.put, List.setIfInBounds_toArray, List.set_cons_zero, List.set_cons_succ]
  refine wpQuiet_val (by kernel_rfl) (.bool true) (fun v hv => rfl) ?_
  simp only [Act.put, List.setIfInBounds_toArray, List.set_cons_zero, List.set_cons_succ]
  refine wpQuiet_val (by kernel_rfl) (.bool true) (fun v hv => rfl) ?_
  simp only [Act.put, List.setIfInBounds_toArray, List.set_cons_zero, List.set_cons_succ]
  refine wpQuiet_val (by kernel_rfl) (.int .i64 0) (fun v hv => rfl) ?_
  simp only [Act.put, List.setIfInBounds_toArray, List.set_cons_zero, List.set_cons_succ]
  refine wpQuiet_val (by kernel_rfl) (.bool true) (fun v hv => (xo_eqlT .i64 0 0 (by omega) rfl rfl rfl)) ?_
  simp only [Act.put, List.setIfInBounds_toArray, List.set_cons_zero, List.set_cons_succ]
  refine wpQuiet_val (by kernel_rfl) (.bool true) (fun v hv => rfl) ?_
  simp only [Act.put, List.setIfInBounds_toArray, List.set_cons_zero, List.set_cons_succ]
  refine wpQuiet_val (by kernel_rfl) (.bool true) (fun v hv => rfl) ?_
  simp only [Act.put, List.setIfInBounds_toArray, List.set_cons_zero, List.set_cons_succ]
  refine wpQuiet_val (by kernel_rfl) (.int .i64 120) (fun v hv => rfl) ?_
  simp only [Act.put, List.setIfInBounds_toArray, List.set_cons_zero, List.set_cons_succ]
  refine wpQuiet_val (by kernel_rfl) (.bool true) (fun v hv => (xo_eqlT .i64 120 120 (by omega) rfl rfl rfl)) ?_
  simp only [Act.put, List.setIfInBounds_toArray, List.set_cons_zero, List.set_cons_succ]
  refine wpQuiet_val (by kernel_rfl) (.bool true) (fun v hv => rfl) ?_
  simp only [Act.put, List.setIfInBounds_toArray, List.set_cons_zero, List.set_cons_succ]
  refine wpQuiet_val (by kernel_rfl) (.bool true) (fun v hv => rfl) ?_
  simp only [Act.put, List.setIfInBounds_toArray, List.set_cons_zero, List.set_cons_succ]
  refine wpQuiet_val (by kernel_rfl) (.int .i64 4) (fun v hv => rfl) ?_
  simp only [Act.put, List.setIfInBounds_toArray, List.set_cons_zero, List.set_cons_succ]
  refine wpQuiet_val (by kernel_rfl) (.bool true) (fun v hv => (xo_eqlT .i64 4 4 (by omega) rfl rfl rfl)) ?_
  simp only [Act.put, List.setIfInBounds_toArray, List.set_cons_zero, List.set_cons_succ]
  refine wpQuiet_val (by kernel_rfl) (.bool true) (fun v hv => rfl) ?_
  simp only [Act.put, List.setIfInBounds_toArray, List.set_cons_zero, List.set_cons_succ]
  refine wpQuiet_val (by kernel_rfl) (.bool true) (fun v hv => rfl) ?_
  simp only [Act.put, List.setIfInBounds_toArray, List.set_cons_zero, List.set_cons_succ]
  refine wpQuiet_val (by kernel_rfl) (.int .i64 1) (fun v hv => rfl) ?_
  simp only [Act.put, List.setIfInBounds_toArray, List.set_cons_zero, List.set_cons_succ]
  refine wpQuiet_val (by kernel_rfl) (.bool true) (fun v hv => (xo_eqlT .i64 1 1 (by omega) rfl rfl rfl)) ?_
  simp only [Act.put, List.setIfInBounds_toArray, List.set_cons_zero, List.set_cons_succ]
  refine wpQuiet_val (by kernel_rfl) (.bool true) (fun v hv => rfl) ?_
  simp only [Act.put, List.setIfInBounds_toArray, List.set_cons_zero, List.set_cons_succ]
  refine wpQuiet_val (by kernel_rfl) (.bool true) (fun v hv => rfl) ?_
  simp only [Act.put, List.setIfInBounds_toArray, List.set_cons_zero, List.set_cons_succ]
  refine wpQuiet_val (by kernel_rfl) (.slice Alv 1 clv) (fun v hv => rfl) ?_
  simp only [Act.put, List.setIfInBounds_toArray, List.set_cons_zero, List.set_cons_succ]
  have C20_22 := Lib.hid (bel_step B20.out B21.out)
  have C20_23 := Lib.hid (bel_step C20_22.out B22.out)
  have C20_24 := Lib.hid (bel_step C20_23.out B23.out)
  have C20_25 := Lib.hid (bel_step C20_24.out B24.out)
  have C20_26 := Lib.hid (bel_step C20_25.out B25.out)
  have C20_27 := Lib.hid (bel_step C20_26.out B26.out)
  have C20_28 := Lib.hid (bel_step C20_27.out B27.out)
  have C20_29 := Lib.hid (bel_step C20_28.out B28.out)
  have C20_30 := Lib.hid (bel_step C20_29.out B29.out)
  have C20_31 := Lib.hid (bel_step C20_30.out B30.out)
  have C20_32 := Lib.hid (bel_step C20_31.out B31.out)
  have C20_33 := Lib.hid (bel_step C20_32.out B32.out)
  have C20_34 := Lib.hid (bel_step C20_33.out B33.out)
  have C20_35 := Lib.hid (bel_step C20_34.out B34.out)
  have C20_36 := Lib.hid (bel_step C20_35.out B35.out)
  have C20_37 := Lib.hid (bel_step C20_36.out B36.out)
  have C20_38 := Lib.hid (bel_step C20_37.out B37.out)
  have C20_39 := Lib.hid (bel_step C20_38.out B38.out)
  have C20_40 := Lib.hid (bel_step C20_39.out B39.out)
  have C20_41 := Lib.hid (bel_step C20_40.out B40.out)
  have C20_42 := Lib.hid (bel_step C20_41.out B41.out)
  have C20_43 := Lib.hid (bel_step C20_42.out B42.out)
  have C20_44 := Lib.hid (bel_step C20_43.out B43.out)
  refine wpQuiet_val (by kernel_rfl) (.pointer (some (gad Alv (0 * 4)))) (fun v hv => (xg_idx .i64 ((HLv.out.keep C20_44.out).keep (laterF hv)) (show ([(Rd.mk 15 255 0 129)] : List Rd)[0]? = some (Rd.mk 15 255 0 129) from rfl) Tryd.underlying27 (by kernel_rfl) rfl rfl rfl)) ?_
  simp only [Act.put, List.setIfInBounds_toArray, List.set_cons_zero, List.set_cons_succ]
  refine wpQuiet_val (by kernel_rfl) (.agg #[.int .i64 15, .int .i64 255, .int .i64 0, .int .i64 129]) (fun v hv => (xg_loadE (E := rdC) ((HLv.out.keep C20_44.out).keep (laterF hv)) (show ([(Rd.mk 15 255 0 129)] : List Rd)[0]? = some (Rd.mk 15 255 0 129) from rfl) Tryd.underlying24 rfl (by kernel_rfl) rfl rfl)) ?_
  simp only [Act.put, List.setIfInBounds_toArray, List.set_cons_zero, List.set_cons_succ]
  have C2_44 := Lib.hid (bel_step C2_43.out B43.out)
  refine wpQuiet_val (by kernel_rfl) (.agg #[.int .i64 15, .int .i64 255, .int .i64 0, .int .i64 129]) (fun v hv => (xo_loadW b2 _ (heap_keep (heap_keep Fv6_2.out C2_44.out) (laterF hv)) Tryd.underlying24 rfl (by kernel_rfl) rfl rfl)) ?_
  simp only [Act.put, List.setIfInBounds_toArray, List.set_cons_zero, List.set_cons_succ]
  refine wpQuiet_val (by kernel_rfl) (.bool true) (fun v hv => (exec_eqRd (Rd.mk 15 255 0 129) rfl rfl rfl)) ?_
  simp only [Act.put, List.setIfInBounds_toArray, List.set_cons_zero, List.set_cons_succ]
  refine wpQuiet_val (by kernel_rfl) (.bool true) (fun v hv => rfl) ?_
  simp only [Act.put, List.setIfInBounds_toArray, List.set_cons_zero, List.set_cons_succ]
  refine wpQuiet_val (by kernel_rfl) (.bool true) (fun v hv => rfl) ?_
  simp only [Act.put, List.setIfInBounds_toArray, List.set_cons_zero, List.set_cons_succ]
  refine wpQuiet_val (by kernel_rfl) (.slice Ac 5 cc) (fun v hv => rfl) ?_
  simp only [Act.put, List.setIfInBounds_toArray, List.set_cons_zero, List.set_cons_succ]
  refine wpQuiet_val (by kernel_rfl) (.slice (some ⟨g137, 0, none⟩) 5 5) (fun v hv => rfl) ?_
  simp only [Act.put, List.setIfInBounds_toArray, List.set_cons_zero, List.set_cons_succ]
  refine wpQuiet_nil ?_
  refine wpF_call 26 Tryd.func26 (by kernel_rfl) (by kernel_rfl) _ _ #[.slice Ac 5 cc, .slice (some ⟨g137, 0, none⟩) 5 5] rfl (by kernel_rfl) (by kernel_rfl) HF44.out (fun V45 hb => ?_)
  have B44 := Lib.hid hb
  have HF45 := Lib.hid (HF44.out.ext hb)
  clear hb
  have C21_23 := Lib.hid (bel_step B21.out B22.out)
  have C21_24 := Lib.hid (bel_step C21_23.out B23.out)
  have C21_25 := Lib.hid (bel_step C21_24.out B24.out)
  have C21_26 := Lib.hid (bel_step C21_25.out B25.out)
  have C21_27 := Lib.hid (bel_step C21_26.out B26.out)
  have C21_28 := Lib.hid (bel_step C21_27.out B27.out)
  have C21_29 := Lib.hid (bel_step C21_28.out B28.out)
  have C21_30 := Lib.hid (bel_step C21_29.out B29.out)
  have C21_31 := Lib.hid (bel_step C21_30.out B30.out)
  have C21_32 := Lib.hid (bel_step C21_31.out B31.out)
  have C21_33 := Lib.hid (bel_step C21_32.out B32.out)
  have C21_34 := Lib.hid (bel_step C21_33.out B33.out)
  have C21_35 := Lib.hid (bel_step C21_34.out B34.out)
  have C21_36 := Lib.hid (bel_step C21_35.out B35.out)
  have C21_37 := Lib.hid (bel_step C21_36.out B36.out)
  have C21_38 := Lib.hid (bel_step C21_37.out B37.out)
  have C21_39 := Lib.hid (bel_step C21_38.out B38.out)
  have C21_40 := Lib.hid (bel_step C21_39.out B39.out)
  have C21_41 := Lib.hid (bel_step C21_40.out B40.out)
  have C21_42 := Lib.hid (bel_step C21_41.out B41.out)
  have C21_43 := Lib.hid (bel_step C21_42.out B42.out)
  have C21_44 := Lib.hid (bel_step C21_43.out B43.out)
  have C21_45 := Lib.hid (bel_step C21_44.out B44.out)
  have C40_44 := Lib.hid (bel_step C40_43.out B43.out)
  have C40_45 := Lib.hid (bel_step C40_44.out B44.out)
  have C35_44 := Lib.hid (bel_step C35_43.out B43.out)
  have C35_45 := Lib.hid (bel_step C35_44.out B44.out)
  have C36_44 := Lib.hid (bel_step C36_43.out B43.out)
  have C36_45 := Lib.hid (bel_step C36_44.out B44.out)
  have C37_44 := Lib.hid (bel_step C37_43.out B43.out)
  have C37_45 := Lib.hid (bel_step C37_44.out B44.out)
  have C38_44 := Lib.hid (bel_step C38_43.out B43.out)
  have C38_45 := Lib.hid (bel_step C38_44.out B44.out)
  have C39_44 := Lib.hid (bel_step C39_43.out B43.out)
  have C39_45 := Lib.hid (bel_step C39_44.out B44.out)
  refine (sameCols_yes Ac 5 cc hsc (some ⟨g137, 0, none⟩) 5 [(Hd.mk (some ⟨g132, 0, none⟩) 4 4), (Hd.mk (some ⟨g133, 0, none⟩) 4 4), (Hd.mk (some ⟨g134, 0, none⟩) 4 4), (Hd.mk (some ⟨g135, 0, none⟩) 4 4), (Hd.mk (some ⟨g136, 0, none⟩) 4 4)] [[1, 15, 0, 0], [2, 255, 0, 0], [3, 0, 0, 0], [4, 129, 0, 0], [0, 1, 0, 0]] V45 (HCc.out.keep C21_45.out) (Cols.of (RowG.sg (n := 5) (c := 5) (Fv356_137.out.keep C40_45.out) (show ([(Hd.mk (some ⟨g132, 0, none⟩) 4 4), (Hd.mk (some ⟨g133, 0, none⟩) 4 4), (Hd.mk (some ⟨g134, 0, none⟩) 4 4), (Hd.mk (some ⟨g135, 0, none⟩) 4 4), (Hd.mk (some ⟨g136, 0, none⟩) 4 4)]).length = 5 from rfl) (Nat.le_refl _) (by omega)) ⟨(RowG.sg (n := 4) (c := 4) (Fv236_132.out.keep C35_45.out) (show ([1, 15, 0, 0]).length = 4 from rfl) (Nat.le_refl _) (by omega)), (RowG.sg (n := 4) (c := 4) (Fv258_133.out.keep C36_45.out) (show ([2, 255, 0, 0]).length = 4 from rfl) (Nat.le_refl _) (by omega)), (RowG.sg (n := 4) (c := 4) (Fv281_134.out.keep C37_45.out) (show ([3, 0, 0, 0]).length = 4 from rfl) (Nat.le_refl _) (by omega)), (RowG.sg (n := 4) (c := 4) (Fv305_135.out.keep C38_45.out) (show ([4, 129, 0, 0]).length = 4 from rfl) (Nat.le_refl _) (by omega)), (RowG.sg (n := 4) (c := 4) (Fv330_136.out.keep C39_45.out) (show ([0, 1, 0, 0]).length = 4 from rfl) (Nat.le_refl _) (by omega)), trivial⟩)).mono ?_
  rintro e V46 ⟨rfl, hb⟩
  have B45 := Lib.hid hb
  have HF46 := Lib.hid (HF45.out.ext hb)
  refine ⟨_, rfl, hb, ?_⟩
  clear hb 
  simp only [Act.put, List.setIfInBounds_toArray, List.set_cons_zero, List.set_cons_succ]
  refine wpF_seg 8 (by kernel_rfl) ?_
  simp only [List.take_succ_cons, List.take_zero, List.drop_succ_cons, List.drop_zero]
  refine wpQuiet_val (by kernel_rfl) (.bool true) (fun v hv => rfl) ?_
  simp only [Act.put, List.setIfInBounds_toArray, List.set_cons_zero, List.set_cons_succ]
  refine wpQuiet_val (by kernel_rfl) (.bool true) (fun v hv => rfl) ?_
  simp only [Act.put, List.setIfInBounds_toArray, List.set_cons_zero, List.set_cons_succ]
  refine wpQuiet_val (by kernel_rfl) (.int .i64 0) (fun v hv => rfl) ?_
  simp only [Act.put, List.setIfInBounds_toArray, List.set_cons_zero, List.set_cons_succ]
  refine wpQuiet_val (by kernel_rfl) (.bool true) (fun v hv => (xo_eqlT .i64 0 0 (by omega) rfl rfl rfl)) ?_
  simp only [Act.put, List.setIfInBounds_toArray, List.set_cons_zero, List.set_cons_succ]
  refine wpQuiet_val (by kernel_rfl) (.bool true) (fun v hv => rfl) ?_
  simp only [Act.put, List.setIfInBounds_toArray, List.set_cons_zero, List.set_cons_succ]
  refine wpQuiet_val (by kernel_rfl) (.bool true) (fun v hv => rfl) ?_
  simp only [Act.put, List.setIfInBounds_toArray, List.set_cons_zero, List.set_cons_succ]
  refine wpQuiet_val (by kernel_rfl) (.slice Ab 24 cb) (fun v hv => rfl) ?_
  simp only [Act.put, List.setIfInBounds_toArray, List.set_cons_zero, List.set_cons_succ]
  refine wpQuiet_val (by kernel_rfl) (.slice (if cb = 16 then Ab else Ab.map (·.add (16 * 1))) 8 (cb - 16)) (fun v hv => (xo_cut .i64 .i64 Ab 24 cb 16 24 1 (by omega) (by omega) Tryd.underlying38 (by kernel_rfl) rfl rfl rfl rfl)) ?_
  simp only [Act.put, List.setIfInBounds_toArray, List.set_cons_zero, List.set_cons_succ]
  have C22_24 := Lib.hid (bel_step B22.out B23.out)
  have C22_25 := Lib.hid (bel_step C22_24.out B24.out)
  have C22_26 := Lib.hid (bel_step C22_25.out B25.out)
  have C22_27 := Lib.hid (bel_step C22_26.out B26.out)
  have C22_28 := Lib.hid (bel_step C22_27.out B27.out)
  have C22_29 := Lib.hid (bel_step C22_28.out B28.out)
  have C22_30 := Lib.hid (bel_step C22_29.out B29.out)
  have C22_31 := Lib.hid (bel_step C22_30.out B30.out)
  have C22_32 := Lib.hid (bel_step C22_31.out B31.out)
  have C22_33 := Lib.hid (bel_step C22_32.out B32.out)
  have C22_34 := Lib.hid (bel_step C22_33.out B33.out)
  have C22_35 := Lib.hid (bel_step C22_34.out B34.out)
  have C22_36 := Lib.hid (bel_step C22_35.out B35.out)
  have C22_37 := Lib.hid (bel_step C22_36.out B36.out)
  have C22_38 := Lib.hid (bel_step C22_37.out B37.out)
  have C22_39 := Lib.hid (bel_step C22_38.out B38.out)
  have C22_40 := Lib.hid (bel_step C22_39.out B39.out)
  have C22_41 := Lib.hid (bel_step C22_40.out B40.out)
  have C22_42 := Lib.hid (bel_step C22_41.out B41.out)
  have C22_43 := Lib.hid (bel_step C22_42.out B42.out)
  have C22_44 := Lib.hid (bel_step C22_43.out B43.out)
  have C22_45 := Lib.hid (bel_step C22_44.out B44.out)
  have C22_46 := Lib.hid (bel_step C22_45.out B45.out)
  have hcut : Cols V46 (if cb = 16 then Ab else Ab.map (·.add (16 * 1))) 8 (cb - 16) ((hsb.drop 16).take (24 - 16)) [[0, 1], [0, 0], [1, 0], [0, 0], [0, 0], [0, 0], [0, 0], [0, 1]] := Cols.cut (p := 16) (q := 24) (HBb.out.keep C22_46.out) (by omega) (by omega)
  have HCut := Lib.hid hcut
  clear hcut
  refine wpQuiet_nil ?_
  refine wpF_make (.cells ([0, 1].flatMap wdC).toArray 50, fun b => .slice (some ⟨b, 0, none⟩) 2 2) (by kernel_rfl) (by kernel_rfl) (by kernel_rfl) (fun V => xg_lit (E := wdC) (bytes := 8) (.int .u64 0) [.const (.int .u64 0), .const (.int .u64 1)] [0, 1] 2 Tryd.underlying48 (by kernel_rfl) rfl (by decide) (by decide) rfl rfl) (fun g201 V47 hb h0 hbz => ?_)
  have Ge442 : Hid (V44.heap.size ≤ g201) := Lib.hid hbz
  have B46 := Lib.hid hb
  have HF47 := Lib.hid (HF46.out.ext hb)
  have Fv443_201 : Hid (RowG wdC V47 g201 50 ([0, 1])) := Lib.hid (h0)
  have N444 : Hid (b1 ≠ g201) := Lib.hid (Nat.ne_of_lt (Nat.lt_of_lt_of_le (xp_lt (heap_keep Fv1_1.out C1_44.out)) hbz))
  have N445 : Hid (b2 ≠ g201) := Lib.hid (Nat.ne_of_lt (Nat.lt_of_lt_of_le (xp_lt (heap_keep Fv6_2.out C2_44.out)) hbz))
  have C4_44 := Lib.hid (bel_step C4_43.out B43.out)
  have N446 : Hid (g41 ≠ g201) := Lib.hid (Nat.ne_of_lt (Nat.lt_of_lt_of_le (xp_lt (Fv12_41.out.keep C4_44.out)) hbz))
  have N447 : Hid (b4 ≠ g201) := Lib.hid (Nat.ne_of_lt (Nat.lt_of_lt_of_le (xp_lt (heap_keep Fv18_4.out C6_44.out)) hbz))
  have C7_44 := Lib.hid (bel_step C7_43.out B43.out)
  have N448 : Hid (g46 ≠ g201) := Lib.hid (Nat.ne_of_lt (Nat.lt_of_lt_of_le (xp_lt (Fv26_46.out.keep C7_44.out)) hbz))
  have C9_44 := Lib.hid (bel_step C9_43.out B43.out)
  have N449 : Hid (b6 ≠ g201) := Lib.hid (Nat.ne_of_lt (Nat.lt_of_lt_of_le (xp_lt (heap_keep Fv34_6.out C9_44.out)) hbz))
  have C11_44 := Lib.hid (bel_step C11_43.out B43.out)
  have N450 : Hid (b8 ≠ g201) := Lib.hid (Nat.ne_of_lt (Nat.lt_of_lt_of_le (xp_lt (heap_keep Fv44_8.out C11_44.out)) hbz))
  have C13_44 := Lib.hid (bel_step C13_43.out B43.out)
  have N451 : Hid (b11 ≠ g201) := Lib.hid (Nat.ne_of_lt (Nat.lt_of_lt_of_le (xp_lt (heap_keep Fv56_11.out C13_44.out)) hbz))
  have C15_44 := Lib.hid (bel_step C15_43.out B43.out)
  have N452 : Hid (b13 ≠ g201) := Lib.hid (Nat.ne_of_lt (Nat.lt_of_lt_of_le (xp_lt (heap_keep Fv68_13.out C15_44.out)) hbz))
  have C17_44 := Lib.hid (bel_step C17_43.out B43.out)
  have N453 : Hid (b15 ≠ g201) := Lib.hid (Nat.ne_of_lt (Nat.lt_of_lt_of_le (xp_lt (heap_keep Fv81_15.out C17_44.out)) hbz))
  have C19_44 := Lib.hid (bel_step C19_43.out B43.out)
  have N454 : Hid (b17 ≠ g201) := Lib.hid (Nat.ne_of_lt (Nat.lt_of_lt_of_le (xp_lt (heap_keep Fv95_17.out C19_44.out)) hbz))
  have C25_44 := Lib.hid (bel_step C25_43.out B43.out)
  have N455 : Hid (g106 ≠ g201) := Lib.hid (Nat.ne_of_lt (Nat.lt_of_lt_of_le (xp_lt (Fv110_106.out.keep C25_44.out)) hbz))
  have C26_44 := Lib.hid (bel_step C26_43.out B43.out)
  have N456 : Hid (g107 ≠ g201) := Lib.hid (Nat.ne_of_lt (Nat.lt_of_lt_of_le (xp_lt (Fv125_107.out.keep C26_44.out)) hbz))
  have C27_44 := Lib.hid (bel_step C27_43.out B43.out)
  have N457 : Hid (g108 ≠ g201) := Lib.hid (Nat.ne_of_lt (Nat.lt_of_lt_of_le (xp_lt (Fv141_108.out.keep C27_44.out)) hbz))
  have C28_44 := Lib.hid (bel_step C28_43.out B43.out)
  have N458 : Hid (g109 ≠ g201) := Lib.hid (Nat.ne_of_lt (Nat.lt_of_lt_of_le (xp_lt (Fv158_109.out.keep C28_44.out)) hbz))
  have C31_44 := Lib.hid (bel_step C31_43.out B43.out)
  have N459 : Hid (g118 ≠ g201) := Lib.hid (Nat.ne_of_lt (Nat.lt_of_lt_of_le (xp_lt (Fv176_118.out.keep C31_44.out)) hbz))
  have C32_44 := Lib.hid (bel_step C32_43.out B43.out)
  have N460 : Hid (g119 ≠ g201) := Lib.hid (Nat.ne_of_lt (Nat.lt_of_lt_of_le (xp_lt (Fv195_119.out.keep C32_44.out)) hbz))
  have C33_44 := Lib.hid (bel_step C33_43.out B43.out)
  have N461 : Hid (g120 ≠ g201) := Lib.hid (Nat.ne_of_lt (Nat.lt_of_lt_of_le (xp_lt (Fv215_120.out.keep C33_44.out)) hbz))
  have N462 : Hid (g132 ≠ g201) := Lib.hid (Nat.ne_of_lt (Nat.lt_of_lt_of_le (xp_lt (Fv236_132.out.keep C35_44.out)) hbz))
  have N463 : Hid (g133 ≠ g201) := Lib.hid (Nat.ne_of_lt (Nat.lt_of_lt_of_le (xp_lt (Fv258_133.out.keep C36_44.out)) hbz))
  have N464 : Hid (g134 ≠ g201) := Lib.hid (Nat.ne_of_lt (Nat.lt_of_lt_of_le (xp_lt (Fv281_134.out.keep C37_44.out)) hbz))
  have N465 : Hid (g135 ≠ g201) := Lib.hid (Nat.ne_of_lt (Nat.lt_of_lt_of_le (xp_lt (Fv305_135.out.keep C38_44.out)) hbz))
  have N466 : Hid (g136 ≠ g201) := Lib.hid (Nat.ne_of_lt (Nat.lt_of_lt_of_le (xp_lt (Fv330_136.out.keep C39_44.out)) hbz))
  have N467 : Hid (g137 ≠ g201) := Lib.hid (Nat.ne_of_lt (Nat.lt_of_lt_of_le (xp_lt (Fv356_137.out.keep C40_44.out)) hbz))
  have C41_44 := Lib.hid (bel_step C41_43.out B43.out)
  have N468 : Hid (g138 ≠ g201) := Lib.hid (Nat.ne_of_lt (Nat.lt_of_lt_of_le (xp_lt (Fv383_138.out.keep C41_44.out)) hbz))
  have N469 : Hid (g139 ≠ g201) := Lib.hid (Nat.ne_of_lt (Nat.lt_of_lt_of_le (xp_lt (Fv411_139.out.keep C42_44.out)) hbz))
  have N470 : Hid (g142 ≠ g201) := Lib.hid (Nat.ne_of_lt (Nat.lt_of_lt_of_le (xp_lt Fv440_142.out) hbz))
  clear hb h0 hbz
  simp only [ptr, Act.put, List.setIfInBounds_toArray, List.set_cons_zero, List.set_cons_succ]
  refine wpF_make (.cells ([0, 0].flatMap wdC).toArray 50, fun b => .slice (some ⟨b, 0, none⟩) 2 2) (by kernel_rfl) (by kernel_rfl) (by kernel_rfl) (fun V => xg_lit (E := wdC) (bytes := 8) (.int .u64 0) [.const (.int .u64 0), .const (.int .u64 0)] [0, 0] 2 Tryd.underlying48 (by kernel_rfl) rfl (by decide) (by decide) rfl rfl) (fun g202 V48 hb h0 hbz => ?_)
  have Ge471 : Hid (V44.heap.size ≤ g202) := Lib.hid hbz
  have B47 := Lib.hid hb
  have HF48 := Lib.hid (HF47.out.ext hb)
  have Fv472_202 : Hid (RowG wdC V48 g202 50 ([0, 0])) := Lib.hid (h0)
  have N473 : Hid (b1 ≠ g202) := Lib.hid (Nat.ne_of_lt (Nat.lt_of_lt_of_le (xp_lt (heap_keep Fv1_1.out C1_44.out)) hbz))
  have N474 : Hid (b2 ≠ g202) := Lib.hid (Nat.ne_of_lt (Nat.lt_of_lt_of_le (xp_lt (heap_keep Fv6_2.out C2_44.out)) hbz))
  have N475 : Hid (g41 ≠ g202) := Lib.hid (Nat.ne_of_lt (Nat.lt_of_lt_of_le (xp_lt (Fv12_41.out.keep C4_44.out)) hbz))
  have N476 : Hid (b4 ≠ g202) := Lib.hid (Nat.ne_of_lt (Nat.lt_of_lt_of_le (xp_lt (heap_keep Fv18_4.out C6_44.out)) hbz))
  have N477 : Hid (g46 ≠ g202) := Lib.hid (Nat.ne_of_lt (Nat.lt_of_lt_of_le (xp_lt (Fv26_46.out.keep C7_44.out)) hbz))
  have N478 : Hid (b6 ≠ g202) := Lib.hid (Nat.ne_of_lt (Nat.lt_of_lt_of_le (xp_lt (heap_keep Fv34_6.out C9_44.out)) hbz))
  have N479 : Hid (b8 ≠ g202) := Lib.hid (Nat.ne_of_lt (Nat.lt_of_lt_of_le (xp_lt (heap_keep Fv44_8.out C11_44.out)) hbz))
  have N480 : Hid (b11 ≠ g202) := Lib.hid (Nat.ne_of_lt (Nat.lt_of_lt_of_le (xp_lt (heap_keep Fv56_11.out C13_44.out)) hbz))
  have N481 : Hid (b13 ≠ g202) := Lib.hid (Nat.ne_of_lt (Nat.lt_of_lt_of_le (xp_lt (heap_keep Fv68_13.out C15_44.out)) hbz))
  have N482 : Hid (b15 ≠ g202) := Lib.hid (Nat.ne_of_lt (Nat.lt_of_lt_of_le (xp_lt (heap_keep Fv81_15.out C17_44.out)) hbz))
  have N483 : Hid (b17 ≠ g202) := Lib.hid (Nat.ne_of_lt (Nat.lt_of_lt_of_le (xp_lt (heap_keep Fv95_17.out C19_44.out)) hbz))
  have N484 : Hid (g106 ≠ g202) := Lib.hid (Nat.ne_of_lt (Nat.lt_of_lt_of_le (xp_lt (Fv110_106.out.keep C25_44.out)) hbz))
  have N485 : Hid (g107 ≠ g202) := Lib.hid (Nat.ne_of_lt (Nat.lt_of_lt_of_le (xp_lt (Fv125_107.out.keep C26_44.out)) hbz))
  have N486 : Hid (g108 ≠ g202) := Lib.hid (Nat.ne_of_lt (Nat.lt_of_lt_of_le (xp_lt (Fv141_108.out.keep C27_44.out)) hbz))
  have N487 : Hid (g109 ≠ g202) := Lib.hid (Nat.ne_of_lt (Nat.lt_of_lt_of_le (xp_lt (Fv158_109.out.keep C28_44.out)) hbz))
  have N488 : Hid (g118 ≠ g202) := Lib.hid (Nat.ne_of_lt (Nat.lt_of_lt_of_le (xp_lt (Fv176_118.out.keep C31_44.out)) hbz))
  have N489 : Hid (g119 ≠ g202) := Lib.hid (Nat.ne_of_lt (Nat.lt_of_lt_of_le (xp_lt (Fv195_119.out.keep C32_44.out)) hbz))
  have N490 : Hid (g120 ≠ g202) := Lib.hid (Nat.ne_of_lt (Nat.lt_of_lt_of_le (xp_lt (Fv215_120.out.keep C33_44.out)) hbz))
  have N491 : Hid (g132 ≠ g202) := Lib.hid (Nat.ne_of_lt (Nat.lt_of_lt_of_le (xp_lt (Fv236_132.out.keep C35_44.out)) hbz))
  have N492 : Hid (g133 ≠ g202) := Lib.hid (Nat.ne_of_lt (Nat.lt_of_lt_of_le (xp_lt (Fv258_133.out.keep C36_44.out)) hbz))
  have N493 : Hid (g134 ≠ g202) := Lib.hid (Nat.ne_of_lt (Nat.lt_of_lt_of_le (xp_lt (Fv281_134.out.keep C37_44.out)) hbz))
  have N494 : Hid (g135 ≠ g202) := Lib.hid (Nat.ne_of_lt (Nat.lt_of_lt_of_le (xp_lt (Fv305_135.out.keep C38_44.out)) hbz))
  have N495 : Hid (g136 ≠ g202) := Lib.hid (Nat.ne_of_lt (Nat.lt_of_lt_of_le (xp_lt (Fv330_136.out.keep C39_44.out)) hbz))
  have N496 : Hid (g137 ≠ g202) := Lib.hid (Nat.ne_of_lt (Nat.lt_of_lt_of_le (xp_lt (Fv356_137.out.keep C40_44.out)) hbz))
  have N497 : Hid (g138 ≠ g202) := Lib.hid (Nat.ne_of_lt (Nat.lt_of_lt_of_le (xp_lt (Fv383_138.out.keep C41_44.out)) hbz))
  have N498 : Hid (g139 ≠ g202) := Lib.hid (Nat.ne_of_lt (Nat.lt_of_lt_of_le (xp_lt (Fv411_139.out.keep C42_44.out)) hbz))
  have N499 : Hid (g142 ≠ g202) := Lib.hid (Nat.ne_of_lt (Nat.lt_of_lt_of_le (xp_lt Fv440_142.out) hbz))
  clear hb h0 hbz
  simp only [ptr, Act.put, List.setIfInBounds_toArray, List.set_cons_zero, List.set_cons_succ]
  refine wpF_make (.cells ([1, 0].flatMap wdC).toArray 50, fun b => .slice (some ⟨b, 0, none⟩) 2 2) (by kernel_rfl) (by kernel_rfl) (by kernel_rfl) (fun V => xg_lit (E := wdC) (bytes := 8) (.int .u64 0) [.const (.int .u64 1), .const (.int .u64 0)] [1, 0] 2 Tryd.underlying48 (by kernel_rfl) rfl (by decide) (by decide) rfl rfl) (fun g203 V49 hb h0 hbz => ?_)
  have Ge501 : Hid (V44.heap.size ≤ g203) := Lib.hid hbz
  have B48 := Lib.hid hb
  have HF49 := Lib.hid (HF48.out.ext hb)
  have Fv502_203 : Hid (RowG wdC V49 g203 50 ([1, 0])) := Lib.hid (h0)
  have N503 : Hid (b1 ≠ g203) := Lib.hid (Nat.ne_of_lt (Nat.lt_of_lt_of_le (xp_lt (heap_keep Fv1_1.out C1_44.out)) hbz))
  have N504 : Hid (b2 ≠ g203) := Lib.hid (Nat.ne_of_lt (Nat.lt_of_lt_of_le (xp_lt (heap_keep Fv6_2.out C2_44.out)) hbz))
  have N505 : Hid (g41 ≠ g203) := Lib.hid (Nat.ne_of_lt (Nat.lt_of_lt_of_le (xp_lt (Fv12_41.out.keep C4_44.out)) hbz))
  have N506 : Hid (b4 ≠ g203) := Lib.hid (Nat.ne_of_lt (Nat.lt_of_lt_of_le (xp_lt (heap_keep Fv18_4.out C6_44.out)) hbz))
  have N507 : Hid (g46 ≠ g203) := Lib.hid (Nat.ne_of_lt (Nat.lt_of_lt_of_le (xp_lt (Fv26_46.out.keep C7_44.out)) hbz))
  have N508 : Hid (b6 ≠ g203) := Lib.hid (Nat.ne_of_lt (Nat.lt_of_lt_of_le (xp_lt (heap_keep Fv34_6.out C9_44.out)) hbz))
  have N509 : Hid (b8 ≠ g203) := Lib.hid (Nat.ne_of_lt (Nat.lt_of_lt_of_le (xp_lt (heap_keep Fv44_8.out C11_44.out)) hbz))
  have N510 : Hid (b11 ≠ g203) := Lib.hid (Nat.ne_of_lt (Nat.lt_of_lt_of_le (xp_lt (heap_keep Fv56_11.out C13_44.out)) hbz))
  have N511 : Hid (b13 ≠ g203) := Lib.hid (Nat.ne_of_lt (Nat.lt_of_lt_of_le (xp_lt (heap_keep Fv68_13.out C15_44.out)) hbz))
  have N512 : Hid (b15 ≠ g203) := Lib.hid (Nat.ne_of_lt (Nat.lt_of_lt_of_le (xp_lt (heap_keep Fv81_15.out C17_44.out)) hbz))
  have N513 : Hid (b17 ≠ g203) := Lib.hid (Nat.ne_of_lt (Nat.lt_of_lt_of_le (xp_lt (heap_keep Fv95_17.out C19_44.out)) hbz))
  have N514 : Hid (g106 ≠ g203) := Lib.hid (Nat.ne_of_lt (Nat.lt_of_lt_of_le (xp_lt (Fv110_106.out.keep C25_44.out)) hbz))
  have N515 : Hid (g107 ≠ g203) := Lib.hid (Nat.ne_of_lt (Nat.lt_of_lt_of_le (xp_lt (Fv125_107.out.keep C26_44.out)) hbz))
  have N516 : Hid (g108 ≠ g203) := Lib.hid (Nat.ne_of_lt (Nat.lt_of_lt_of_le (xp_lt (Fv141_108.out.keep C27_44.out)) hbz))
  have N517 : Hid (g109 ≠ g203) := Lib.hid (Nat.ne_of_lt (Nat.lt_of_lt_of_le (xp_lt (Fv158_109.out.keep C28_44.out)) hbz))
  have N518 : Hid (g118 ≠ g203) := Lib.hid (Nat.ne_of_lt (Nat.lt_of_lt_of_le (xp_lt (Fv176_118.out.keep C31_44.out)) hbz))
  have N519 : Hid (g119 ≠ g203) := Lib.hid (Nat.ne_of_lt (Nat.lt_of_lt_of_le (xp_lt (Fv195_119.out.keep C32_44.out)) hbz))
  have N520 : Hid (g120 ≠ g203) := Lib.hid (Nat.ne_of_lt (Nat.lt_of_lt_of_le (xp_lt (Fv215_120.out.keep C33_44.out)) hbz))
  have N521 : Hid (g132 ≠ g203) := Lib.hid (Nat.ne_of_lt (Nat.lt_of_lt_of_le (xp_lt (Fv236_132.out.keep C35_44.out)) hbz))
  have N522 : Hid (g133 ≠ g203) := Lib.hid (Nat.ne_of_lt (Nat.lt_of_lt_of_le (xp_lt (Fv258_133.out.keep C36_44.out)) hbz))
  have N523 : Hid (g134 ≠ g203) := Lib.hid (Nat.ne_of_lt (Nat.lt_of_lt_of_le (xp_lt (Fv281_134.out.keep C37_44.out)) hbz))
  have N524 : Hid (g135 ≠ g203) := Lib.hid (Nat.ne_of_lt (Nat.lt_of_lt_of_le (xp_lt (Fv305_135.out.keep C38_44.out)) hbz))
  have N525 : Hid (g136 ≠ g203) := Lib.hid (Nat.ne_of_lt (Nat.lt_of_lt_of_le (xp_lt (Fv330_136.out.keep C39_44.out)) hbz))
  have N526 : Hid (g137 ≠ g203) := Lib.hid (Nat.ne_of_lt (Nat.lt_of_lt_of_le (xp_lt (Fv356_137.out.keep C40_44.out)) hbz))
  have N527 : Hid (g138 ≠ g203) := Lib.hid (Nat.ne_of_lt (Nat.lt_of_lt_of_le (xp_lt (Fv383_138.out.keep C41_44.out)) hbz))
  have N528 : Hid (g139 ≠ g203) := Lib.hid (Nat.ne_of_lt (Nat.lt_of_lt_of_le (xp_lt (Fv411_139.out.keep C42_44.out)) hbz))
  have N529 : Hid (g142 ≠ g203) := Lib.hid (Nat.ne_of_lt (Nat.lt_of_lt_of_le (xp_lt Fv440_142.out) hbz))
  clear hb h0 hbz
  simp only [ptr, Act.put, List.setIfInBounds_toArray, List.set_cons_zero, List.set_cons_succ]
  refine wpF_make (.cells ([0, 0].flatMap wdC).toArray 50, fun b => .slice (some ⟨b, 0, none⟩) 2 2) (by kernel_rfl) (by kernel_rfl) (by kernel_rfl) (fun V => xg_lit (E := wdC) (bytes := 8) (.int .u64 0) [.const (.int .u64 0), .const (.int .u64 0)] [0, 0] 2 Tryd.underlying48 (by kernel_rfl) rfl (by decide) (by decide) rfl rfl) (fun g204 V50 hb h0 hbz => ?_)
  have Ge532 : Hid (V44.heap.size ≤ g204) := Lib.hid hbz
  have B49 := Lib.hid hb
  have HF50 := Lib.hid (HF49.out.ext hb)
  have Fv533_204 : Hid (RowG wdC V50 g204 50 ([0, 0])) := Lib.hid (h0)
  have N534 : Hid (b1 ≠ g204) := Lib.hid (Nat.ne_of_lt (Nat.lt_of_lt_of_le (xp_lt (heap_keep Fv1_1.out C1_44.out)) hbz))
  have N535 : Hid (b2 ≠ g204) := Lib.hid (Nat.ne_of_lt (Nat.lt_of_lt_of_le (xp_lt (heap_keep Fv6_2.out C2_44.out)) hbz))
  have N536 : Hid (g41 ≠ g204) := Lib.hid (Nat.ne_of_lt (Nat.lt_of_lt_of_le (xp_lt (Fv12_41.out.keep C4_44.out)) hbz))
  have N537 : Hid (b4 ≠ g204) := Lib.hid (Nat.ne_of_lt (Nat.lt_of_lt_of_le (xp_lt (heap_keep Fv18_4.out C6_44.out)) hbz))
  have N538 : Hid (g46 ≠ g204) := Lib.hid (Nat.ne_of_lt (Nat.lt_of_lt_of_le (xp_lt (Fv26_46.out.keep C7_44.out)) hbz))
  have N539 : Hid (b6 ≠ g204) := Lib.hid (Nat.ne_of_lt (Nat.lt_of_lt_of_le (xp_lt (heap_keep Fv34_6.out C9_44.out)) hbz))
  have N540 : Hid (b8 ≠ g204) := Lib.hid (Nat.ne_of_lt (Nat.lt_of_lt_of_le (xp_lt (heap_keep Fv44_8.out C11_44.out)) hbz))
  have N541 : Hid (b11 ≠ g204) := Lib.hid (Nat.ne_of_lt (Nat.lt_of_lt_of_le (xp_lt (heap_keep Fv56_11.out C13_44.out)) hbz))
  have N542 : Hid (b13 ≠ g204) := Lib.hid (Nat.ne_of_lt (Nat.lt_of_lt_of_le (xp_lt (heap_keep Fv68_13.out C15_44.out)) hbz))
  have N543 : Hid (b15 ≠ g204) := Lib.hid (Nat.ne_of_lt (Nat.lt_of_lt_of_le (xp_lt (heap_keep Fv81_15.out C17_44.out)) hbz))
  have N544 : Hid (b17 ≠ g204) := Lib.hid (Nat.ne_of_lt (Nat.lt_of_lt_of_le (xp_lt (heap_keep Fv95_17.out C19_44.out)) hbz))
  have N545 : Hid (g106 ≠ g204) := Lib.hid (Nat.ne_of_lt (Nat.lt_of_lt_of_le (xp_lt (Fv110_106.out.keep C25_44.out)) hbz))
  have N546 : Hid (g107 ≠ g204) := Lib.hid (Nat.ne_of_lt (Nat.lt_of_lt_of_le (xp_lt (Fv125_107.out.keep C26_44.out)) hbz))
  have N547 : Hid (g108 ≠ g204) := Lib.hid (Nat.ne_of_lt (Nat.lt_of_lt_of_le (xp_lt (Fv141_108.out.keep C27_44.out)) hbz))
  have N548 : Hid (g109 ≠ g204) := Lib.hid (Nat.ne_of_lt (Nat.lt_of_lt_of_le (xp_lt (Fv158_109.out.keep C28_44.out)) hbz))
  have N549 : Hid (g118 ≠ g204) := Lib.hid (Nat.ne_of_lt (Nat.lt_of_lt_of_le (xp_lt (Fv176_118.out.keep C31_44.out)) hbz))
  have N550 : Hid (g119 ≠ g204) := Lib.hid (Nat.ne_of_lt (Nat.lt_of_lt_of_le (xp_lt (Fv195_119.out.keep C32_44.out)) hbz))
  have N551 : Hid (g120 ≠ g204) := Lib.hid (Nat.ne_of_lt (Nat.lt_of_lt_of_le (xp_lt (Fv215_120.out.keep C33_44.out)) hbz))
  have N552 : Hid (g132 ≠ g204) := Lib.hid (Nat.ne_of_lt (Nat.lt_of_lt_of_le (xp_lt (Fv236_132.out.keep C35_44.out)) hbz))
  have N553 : Hid (g133 ≠ g204) := Lib.hid (Nat.ne_of_lt (Nat.lt_of_lt_of_le (xp_lt (Fv258_133.out.keep C36_44.out)) hbz))
  have N554 : Hid (g134 ≠ g204) := Lib.hid (Nat.ne_of_lt (Nat.lt_of_lt_of_le (xp_lt (Fv281_134.out.keep C37_44.out)) hbz))
  have N555 : Hid (g135 ≠ g204) := Lib.hid (Nat.ne_of_lt (Nat.lt_of_lt_of_le (xp_lt (Fv305_135.out.keep C38_44.out)) hbz))
  have N556 : Hid (g136 ≠ g204) := Lib.hid (Nat.ne_of_lt (Nat.lt_of_lt_of_le (xp_lt (Fv330_136.out.keep C39_44.out)) hbz))
  have N557 : Hid (g137 ≠ g204) := Lib.hid (Nat.ne_of_lt (Nat.lt_of_lt_of_le (xp_lt (Fv356_137.out.keep C40_44.out)) hbz))
  have N558 : Hid (g138 ≠ g204) := Lib.hid (Nat.ne_of_lt (Nat.lt_of_lt_of_le (xp_lt (Fv383_138.out.keep C41_44.out)) hbz))
  have N559 : Hid (g139 ≠ g204) := Lib.hid (Nat.ne_of_lt (Nat.lt_of_lt_of_le (xp_lt (Fv411_139.out.keep C42_44.out)) hbz))
  have N560 : Hid (g142 ≠ g204) := Lib.hid (Nat.ne_of_lt (Nat.lt_of_lt_of_le (xp_lt Fv440_142.out) hbz))
  clear hb h0 hbz
  simp only [ptr, Act.put, List.setIfInBounds_toArray, List.set_cons_zero, List.set_cons_succ]
  refine wpF_make (.cells ([0, 0].flatMap wdC).toArray 50, fun b => .slice (some ⟨b, 0, none⟩) 2 2) (by kernel_rfl) (by kernel_rfl) (by kernel_rfl) (fun V => xg_lit (E := wdC) (bytes := 8) (.int .u64 0) [.const (.int .u64 0), .const (.int .u64 0)] [0, 0] 2 Tryd.underlying48 (by kernel_rfl) rfl (by decide) (by decide) rfl rfl) (fun g205 V51 hb h0 hbz => ?_)
  have Ge564 : Hid (V44.heap.size ≤ g205) := Lib.hid hbz
  have B50 := Lib.hid hb
  have HF51 := Lib.hid (HF50.out.ext hb)
  have Fv565_205 : Hid (RowG wdC V51 g205 50 ([0, 0])) := Lib.hid (h0)
  have N566 : Hid (b1 ≠ g205) := Lib.hid (Nat.ne_of_lt (Nat.lt_of_lt_of_le (xp_lt (heap_keep Fv1_1.out C1_44.out)) hbz))
  have N567 : Hid (b2 ≠ g205) := Lib.hid (Nat.ne_of_lt (Nat.lt_of_lt_of_le (xp_lt (heap_keep Fv6_2.out C2_44.out)) hbz))
  have N568 : Hid (g41 ≠ g205) := Lib.hid (Nat.ne_of_lt (Nat.lt_of_lt_of_le (xp_lt (Fv12_41.out.keep C4_44.out)) hbz))
  have N569 : Hid (b4 ≠ g205) := Lib.hid (Nat.ne_of_lt (Nat.lt_of_lt_of_le (xp_lt (heap_keep Fv18_4.out C6_44.out)) hbz))
  have N570 : Hid (g46 ≠ g205) := Lib.hid (Nat.ne_of_lt (Nat.lt_of_lt_of_le (xp_lt (Fv26_46.out.keep C7_44.out)) hbz))
  have N571 : Hid (b6 ≠ g205) := Lib.hid (Nat.ne_of_lt (Nat.lt_of_lt_of_le (xp_lt (heap_keep Fv34_6.out C9_44.out)) hbz))
  have N572 : Hid (b8 ≠ g205) := Lib.hid (Nat.ne_of_lt (Nat.lt_of_lt_of_le (xp_lt (heap_keep Fv44_8.out C11_44.out)) hbz))
  have N573 : Hid (b11 ≠ g205) := Lib.hid (Nat.ne_of_lt (Nat.lt_of_lt_of_le (xp_lt (heap_keep Fv56_11.out C13_44.out)) hbz))
  have N574 : Hid (b13 ≠ g205) := Lib.hid (Nat.ne_of_lt (Nat.lt_of_lt_of_le (xp_lt (heap_keep Fv68_13.out C15_44.out)) hbz))
  have N575 : Hid (b15 ≠ g205) := Lib.hid (Nat.ne_of_lt (Nat.lt_of_lt_of_le (xp_lt (heap_keep Fv81_15.out C17_44.out)) hbz))
  have N576 : Hid (b17 ≠ g205) := Lib.hid (Nat.ne_of_lt (Nat.lt_of_lt_of_le (xp_lt (heap_keep Fv95_17.out C19_44.out)) hbz))
  have N577 : Hid (g106 ≠ g205) := Lib.hid (Nat.ne_of_lt (Nat.lt_of_lt_of_le (xp_lt (Fv110_106.out.keep C25_44.out)) hbz))
  have N578 : Hid (g107 ≠ g205) := Lib.hid (Nat.ne_of_lt (Nat.lt_of_lt_of_le (xp_lt (Fv125_107.out.keep C26_44.out)) hbz))
  have N579 : Hid (g108 ≠ g205) := Lib.hid (Nat.ne_of_lt (Nat.lt_of_lt_of_le (xp_lt (Fv141_108.out.keep C27_44.out)) hbz))
  have N580 : Hid (g109 ≠ g205) := Lib.hid (Nat.ne_of_lt (Nat.lt_of_lt_of_le (xp_lt (Fv158_109.out.keep C28_44.out)) hbz))
  have N581 : Hid (g118 ≠ g205) := Lib.hid (Nat.ne_of_lt (Nat.lt_of_lt_of_le (xp_lt (Fv176_118.out.keep C31_44.out)) hbz))
  have N582 : Hid (g119 ≠ g205) := Lib.hid (Nat.ne_of_lt (Nat.lt_of_lt_of_le (xp_lt (Fv195_119.out.keep C32_44.out)) hbz))
  have N583 : Hid (g120 ≠ g205) := Lib.hid (Nat.ne_of_lt (Nat.lt_of_lt_of_le (xp_lt (Fv215_120.out.keep C33_44.out)) hbz))
  have N584 : Hid (g132 ≠ g205) := Lib.hid (Nat.ne_of_lt (Nat.lt_of_lt_of_le (xp_lt (Fv236_132.out.keep C35_44.out)) hbz))
  have N585 : Hid (g133 ≠ g205) := Lib.hid (Nat.ne_of_lt (Nat.lt_of_lt_of_le (xp_lt (Fv258_133.out.keep C36_44.out)) hbz))
  have N586 : Hid (g134 ≠ g205) := Lib.hid (Nat.ne_of_lt (Nat.lt_of_lt_of_le (xp_lt (Fv281_134.out.keep C37_44.out)) hbz))
  have N587 : Hid (g135 ≠ g205) := Lib.hid (Nat.ne_of_lt (Nat.lt_of_lt_of_le (xp_lt (Fv305_135.out.keep C38_44.out)) hbz))
  have N588 : Hid (g136 ≠ g205) := Lib.hid (Nat.ne_of_lt (Nat.lt_of_lt_of_le (xp_lt (Fv330_136.out.keep C39_44.out)) hbz))
  have N589 : Hid (g137 ≠ g205) := Lib.hid (Nat.ne_of_lt (Nat.lt_of_lt_of_le (xp_lt (Fv356_137.out.keep C40_44.out)) hbz))
  have N590 : Hid (g138 ≠ g205) := Lib.hid (Nat.ne_of_lt (Nat.lt_of_lt_of_le (xp_lt (Fv383_138.out.keep C41_44.out)) hbz))
  have N591 : Hid (g139 ≠ g205) := Lib.hid (Nat.ne_of_lt (Nat.lt_of_lt_of_le (xp_lt (Fv411_139.out.keep C42_44.out)) hbz))
  have N592 : Hid (g142 ≠ g205) := Lib.hid (Nat.ne_of_lt (Nat.lt_of_lt_of_le (xp_lt Fv440_142.out) hbz))
  clear hb h0 hbz
  simp only [ptr, Act.put, List.setIfInBounds_toArray, List.set_cons_zero, List.set_cons_succ]
  refine wpF_make (.cells ([0, 0].flatMap wdC).toArray 50, fun b => .slice (some ⟨b, 0, none⟩) 2 2) (by kernel_rfl) (by kernel_rfl) (by kernel_rfl) (fun V => xg_lit (E := wdC) (bytes := 8) (.int .u64 0) [.const (.int .u64 0), .const (.int .u64 0)] [0, 0] 2 Tryd.underlying48 (by kernel_rfl) rfl (by decide) (by decide) rfl rfl) (fun g206 V52 hb h0 hbz => ?_)
  have Ge597 : Hid (V44.heap.size ≤ g206) := Lib.hid hbz
  have B51 := Lib.hid hb
  have HF52 := Lib.hid (HF51.out.ext hb)
  have Fv598_206 : Hid (RowG wdC V52 g206 50 ([0, 0])) := Lib.hid (h0)
  have N599 : Hid (b1 ≠ g206) := Lib.hid (Nat.ne_of_lt (Nat.lt_of_lt_of_le (xp_lt (heap_keep Fv1_1.out C1_44.out)) hbz))
  have N600 : Hid (b2 ≠ g206) := Lib.hid (Nat.ne_of_lt (Nat.lt_of_lt_of_le (xp_lt (heap_keep Fv6_2.out C2_44.out)) hbz))
  have N601 : Hid (g41 ≠ g206) := Lib.hid (Nat.ne_of_lt (Nat.lt_of_lt_of_le (xp_lt (Fv12_41.out.keep C4_44.out)) hbz))
  have N602 : Hid (b4 ≠ g206) := Lib.hid (Nat.ne_of_lt (Nat.lt_of_lt_of_le (xp_lt (heap_keep Fv18_4.out C6_44.out)) hbz))
  have N603 : Hid (g46 ≠ g206) := Lib.hid (Nat.ne_of_lt (Nat.lt_of_lt_of_le (xp_lt (Fv26_46.out.keep C7_44.out)) hbz))
  have N604 : Hid (b6 ≠ g206) := Lib.hid (Nat.ne_of_lt (Nat.lt_of_lt_of_le (xp_lt (heap_keep Fv34_6.out C9_44.out)) hbz))
  have N605 : Hid (b8 ≠ g206) := Lib.hid (Nat.ne_of_lt (Nat.lt_of_lt_of_le (xp_lt (heap_keep Fv44_8.out C11_44.out)) hbz))
  have N606 : Hid (b11 ≠ g206) := Lib.hid (Nat.ne_of_lt (Nat.lt_of_lt_of_le (xp_lt (heap_keep Fv56_11.out C13_44.out)) hbz))
  have N607 : Hid (b13 ≠ g206) := Lib.hid (Nat.ne_of_lt (Nat.lt_of_lt_of_le (xp_lt (heap_keep Fv68_13.out C15_44.out)) hbz))
  have N608 : Hid (b15 ≠ g206) := Lib.hid (Nat.ne_of_lt (Nat.lt_of_lt_of_le (xp_lt (heap_keep Fv81_15.out C17_44.out)) hbz))
  have N609 : Hid (b17 ≠ g206) := Lib.hid (Nat.ne_of_lt (Nat.lt_of_lt_of_le (xp_lt (heap_keep Fv95_17.out C19_44.out)) hbz))
  have N610 : Hid (g106 ≠ g206) := Lib.hid (Nat.ne_of_lt (Nat.lt_of_lt_of_le (xp_lt (Fv110_106.out.keep C25_44.out)) hbz))
  have N611 : Hid (g107 ≠ g206) := Lib.hid (Nat.ne_of_lt (Nat.lt_of_lt_of_le (xp_lt (Fv125_107.out.keep C26_44.out)) hbz))
  have N612 : Hid (g108 ≠ g206) := Lib.hid (Nat.ne_of_lt (Nat.lt_of_lt_of_le (xp_lt (Fv141_108.out.keep C27_44.out)) hbz))
  have N613 : Hid (g109 ≠ g206) := Lib.hid (Nat.ne_of_lt (Nat.lt_of_lt_of_le (xp_lt (Fv158_109.out.keep C28_44.out)) hbz))
  have N614 : Hid (g118 ≠ g206) := Lib.hid (Nat.ne_of_lt (Nat.lt_of_lt_of_le (xp_lt (Fv176_118.out.keep C31_44.out)) hbz))
  have N615 : Hid (g119 ≠ g206) := Lib.hid (Nat.ne_of_lt (Nat.lt_of_lt_of_le (xp_lt (Fv195_119.out.keep C32_44.out)) hbz))
  have N616 : Hid (g120 ≠ g206) := Lib.hid (Nat.ne_of_lt (Nat.lt_of_lt_of_le (xp_lt (Fv215_120.out.keep C33_44.out)) hbz))
  have N617 : Hid (g132 ≠ g206) := Lib.hid (Nat.ne_of_lt (Nat.lt_of_lt_of_le (xp_lt (Fv236_132.out.keep C35_44.out)) hbz))
  have N618 : Hid (g133 ≠ g206) := Lib.hid (Nat.ne_of_lt (Nat.lt_of_lt_of_le (xp_lt (Fv258_133.out.keep C36_44.out)) hbz))
  have N619 : Hid (g134 ≠ g206) := Lib.hid (Nat.ne_of_lt (Nat.lt_of_lt_of_le (xp_lt (Fv281_134.out.keep C37_44.out)) hbz))
  have N620 : Hid (g135 ≠ g206) := Lib.hid (Nat.ne_of_lt (Nat.lt_of_lt_of_le (xp_lt (Fv305_135.out.keep C38_44.out)) hbz))
  have N621 : Hid (g136 ≠ g206) := Lib.hid (Nat.ne_of_lt (Nat.lt_of_lt_of_le (xp_lt (Fv330_136.out.keep C39_44.out)) hbz))
  have N622 : Hid (g137 ≠ g206) := Lib.hid (Nat.ne_of_lt (Nat.lt_of_lt_of_le (xp_lt (Fv356_137.out.keep C40_44.out)) hbz))
  have N623 : Hid (g138 ≠ g206) := Lib.hid (Nat.ne_of_lt (Nat.lt_of_lt_of_le (xp_lt (Fv383_138.out.keep C41_44.out)) hbz))
  have N624 : Hid (g139 ≠ g206) := Lib.hid (Nat.ne_of_lt (Nat.lt_of_lt_of_le (xp_lt (Fv411_139.out.keep C42_44.out)) hbz))
  have N625 : Hid (g142 ≠ g206) := Lib.hid (Nat.ne_of_lt (Nat.lt_of_lt_of_le (xp_lt Fv440_142.out) hbz))
  clear hb h0 hbz
  simp only [ptr, Act.put, List.setIfInBounds_toArray, List.set_cons_zero, List.set_cons_succ]
  refine wpF_make (.cells ([0, 0].flatMap wdC).toArray 50, fun b => .slice (some ⟨b, 0, none⟩) 2 2) (by kernel_rfl) (by kernel_rfl) (by kernel_rfl) (fun V => xg_lit (E := wdC) (bytes := 8) (.int .u64 0) [.const (.int .u64 0), .const (.int .u64 0)] [0, 0] 2 Tryd.underlying48 (by kernel_rfl) rfl (by decide) (by decide) rfl rfl) (fun g207 V53 hb h0 hbz => ?_)
  have Ge631 : Hid (V44.heap.size ≤ g207) := Lib.hid hbz
  have B52 := Lib.hid hb
  have HF53 := Lib.hid (HF52.out.ext hb)
  have Fv632_207 : Hid (RowG wdC V53 g207 50 ([0, 0])) := Lib.hid (h0)
  have N633 : Hid (b1 ≠ g207) := Lib.hid (Nat.ne_of_lt (Nat.lt_of_lt_of_le (xp_lt (heap_keep Fv1_1.out C1_44.out)) hbz))
  have N634 : Hid (b2 ≠ g207) := Lib.hid (Nat.ne_of_lt (Nat.lt_of_lt_of_le (xp_lt (heap_keep Fv6_2.out C2_44.out)) hbz))
  have N635 : Hid (g41 ≠ g207) := Lib.hid (Nat.ne_of_lt (Nat.lt_of_lt_of_le (xp_lt (Fv12_41.out.keep C4_44.out)) hbz))
  have N636 : Hid (b4 ≠ g207) := Lib.hid (Nat.ne_of_lt (Nat.lt_of_lt_of_le (xp_lt (heap_keep Fv18_4.out C6_44.out)) hbz))
  have N637 : Hid (g46 ≠ g207) := Lib.hid (Nat.ne_of_lt (Nat.lt_of_lt_of_le (xp_lt (Fv26_46.out.keep C7_44.out)) hbz))
  have N638 : Hid (b6 ≠ g207) := Lib.hid (Nat.ne_of_lt (Nat.lt_of_lt_of_le (xp_lt (heap_keep Fv34_6.out C9_44.out)) hbz))
  have N639 : Hid (b8 ≠ g207) := Lib.hid (Nat.ne_of_lt (Nat.lt_of_lt_of_le (xp_lt (heap_keep Fv44_8.out C11_44.out)) hbz))
  have N640 : Hid (b11 ≠ g207) := Lib.hid (Nat.ne_of_lt (Nat.lt_of_lt_of_le (xp_lt (heap_keep Fv56_11.out C13_44.out)) hbz))
  have N641 : Hid (b13 ≠ g207) := Lib.hid (Nat.ne_of_lt (Nat.lt_of_lt_of_le (xp_lt (heap_keep Fv68_13.out C15_44.out)) hbz))
  have N642 : Hid (b15 ≠ g207) := Lib.hid (Nat.ne_of_lt (Nat.lt_of_lt_of_le (xp_lt (heap_keep Fv81_15.out C17_44.out)) hbz))
  have N643 : Hid (b17 ≠ g207) := Lib.hid (Nat.ne_of_lt (Nat.lt_of_lt_of_le (xp_lt (heap_keep Fv95_17.out C19_44.out)) hbz))
  have N644 : Hid (g106 ≠ g207) := Lib.hid (Nat.ne_of_lt (Nat.lt_of_lt_of_le (xp_lt (Fv110_106.out.keep C25_44.out)) hbz))
  have N645 : Hid (g107 ≠ g207) := Lib.hid (Nat.ne_of_lt (Nat.lt_of_lt_of_le (xp_lt (Fv125_107.out.keep C26_44.out)) hbz))
  have N646 : Hid (g108 ≠ g207) := Lib.hid (Nat.ne_of_lt (Nat.lt_of_lt_of_le (xp_lt (Fv141_108.out.keep C27_44.out)) hbz))
  have N647 : Hid (g109 ≠ g207) := Lib.hid (Nat.ne_of_lt (Nat.lt_of_lt_of_le (xp_lt (Fv158_109.out.keep C28_44.out)) hbz))
  have N648 : Hid (g118 ≠ g207) := Lib.hid (Nat.ne_of_lt (Nat.lt_of_lt_of_le (xp_lt (Fv176_118.out.keep C31_44.out)) hbz))
  have N649 : Hid (g119 ≠ g207) := Lib.hid (Nat.ne_of_lt (Nat.lt_of_lt_of_le (xp_lt (Fv195_119.out.keep C32_44.out)) hbz))
  have N650 : Hid (g120 ≠ g207) := Lib.hid (Nat.ne_of_lt (Nat.lt_of_lt_of_le (xp_lt (Fv215_120.out.keep C33_44.out)) hbz))
  have N651 : Hid (g132 ≠ g207) := Lib.hid (Nat.ne_of_lt (Nat.lt_of_lt_of_le (xp_lt (Fv236_132.out.keep C35_44.out)) hbz))
  have N652 : Hid (g133 ≠ g207) := Lib.hid (Nat.ne_of_lt (Nat.lt_of_lt_of_le (xp_lt (Fv258_133.out.keep C36_44.out)) hbz))
  have N653 : Hid (g134 ≠ g207) := Lib.hid (Nat.ne_of_lt (Nat.lt_of_lt_of_le (xp_lt (Fv281_134.out.keep C37_44.out)) hbz))
  have N654 : Hid (g135 ≠ g207) := Lib.hid (Nat.ne_of_lt (Nat.lt_of_lt_of_le (xp_lt (Fv305_135.out.keep C38_44.out)) hbz))
  have N655 : Hid (g136 ≠ g207) := Lib.hid (Nat.ne_of_lt (Nat.lt_of_lt_of_le (xp_lt (Fv330_136.out.keep C39_44.out)) hbz))
  have N656 : Hid (g137 ≠ g207) := Lib.hid (Nat.ne_of_lt (Nat.lt_of_lt_of_le (xp_lt (Fv356_137.out.keep C40_44.out)) hbz))
  have N657 : Hid (g138 ≠ g207) := Lib.hid (Nat.ne_of_lt (Nat.lt_of_lt_of_le (xp_lt (Fv383_138.out.keep C41_44.out)) hbz))
  have N658 : Hid (g139 ≠ g207) := Lib.hid (Nat.ne_of_lt (Nat.lt_of_lt_of_le (xp_lt (Fv411_139.out.keep C42_44.out)) hbz))
  have N659 : Hid (g142 ≠ g207) := Lib.hid (Nat.ne_of_lt (Nat.lt_of_lt_of_le (xp_lt Fv440_142.out) hbz))
  clear hb h0 hbz
  simp only [ptr, Act.put, List.setIfInBounds_toArray, List.set_cons_zero, List.set_cons_succ]
  refine wpF_make (.cells ([0, 1].flatMap wdC).toArray 50, fun b => .slice (some ⟨b, 0, none⟩) 2 2) (by kernel_rfl) (by kernel_rfl) (by kernel_rfl) (fun V => xg_lit (E := wdC) (bytes := 8) (.int .u64 0) [.const (.int .u64 0), .const (.int .u64 1)] [0, 1] 2 Tryd.underlying48 (by kernel_rfl) rfl (by decide) (by decide) rfl rfl) (fun g208 V54 hb h0 hbz => ?_)
  have Ge666 : Hid (V44.heap.size ≤ g208) := Lib.hid hbz
  have B53 := Lib.hid hb
  have HF54 := Lib.hid (HF53.out.ext hb)
  have Fv667_208 : Hid (RowG wdC V54 g208 50 ([0, 1])) := Lib.hid (h0)
  have N668 : Hid (b1 ≠ g208) := Lib.hid (Nat.ne_of_lt (Nat.lt_of_lt_of_le (xp_lt (heap_keep Fv1_1.out C1_44.out)) hbz))
  have N669 : Hid (b2 ≠ g208) := Lib.hid (Nat.ne_of_lt (Nat.lt_of_lt_of_le (xp_lt (heap_keep Fv6_2.out C2_44.out)) hbz))
  have N670 : Hid (g41 ≠ g208) := Lib.hid (Nat.ne_of_lt (Nat.lt_of_lt_of_le (xp_lt (Fv12_41.out.keep C4_44.out)) hbz))
  have N671 : Hid (b4 ≠ g208) := Lib.hid (Nat.ne_of_lt (Nat.lt_of_lt_of_le (xp_lt (heap_keep Fv18_4.out C6_44.out)) hbz))
  have N672 : Hid (g46 ≠ g208) := Lib.hid (Nat.ne_of_lt (Nat.lt_of_lt_of_le (xp_lt (Fv26_46.out.keep C7_44.out)) hbz))
  have N673 : Hid (b6 ≠ g208) := Lib.hid (Nat.ne_of_lt (Nat.lt_of_lt_of_le (xp_lt (heap_keep Fv34_6.out C9_44.out)) hbz))
  have N674 : Hid (b8 ≠ g208) := Lib.hid (Nat.ne_of_lt (Nat.lt_of_lt_of_le (xp_lt (heap_keep Fv44_8.out C11_44.out)) hbz))
  have N675 : Hid (b11 ≠ g208) := Lib.hid (Nat.ne_of_lt (Nat.lt_of_lt_of_le (xp_lt (heap_keep Fv56_11.out C13_44.out)) hbz))
  have N676 : Hid (b13 ≠ g208) := Lib.hid (Nat.ne_of_lt (Nat.lt_of_lt_of_le (xp_lt (heap_keep Fv68_13.out C15_44.out)) hbz))
  have N677 : Hid (b15 ≠ g208) := Lib.hid (Nat.ne_of_lt (Nat.lt_of_lt_of_le (xp_lt (heap_keep Fv81_15.out C17_44.out)) hbz))
  have N678 : Hid (b17 ≠ g208) := Lib.hid (Nat.ne_of_lt (Nat.lt_of_lt_of_le (xp_lt (heap_keep Fv95_17.out C19_44.out)) hbz))
  have N679 : Hid (g106 ≠ g208) := Lib.hid (Nat.ne_of_lt (Nat.lt_of_lt_of_le (xp_lt (Fv110_106.out.keep C25_44.out)) hbz))
  have N680 : Hid (g107 ≠ g208) := Lib.hid (Nat.ne_of_lt (Nat.lt_of_lt_of_le (xp_lt (Fv125_107.out.keep C26_44.out)) hbz))
  have N681 : Hid (g108 ≠ g208) := Lib.hid (Nat.ne_of_lt (Nat.lt_of_lt_of_le (xp_lt (Fv141_108.out.keep C27_44.out)) hbz))
  have N682 : Hid (g109 ≠ g208) := Lib.hid (Nat.ne_of_lt (Nat.lt_of_lt_of_le (xp_lt (Fv158_109.out.keep C28_44.out)) hbz))
  have N683 : Hid (g118 ≠ g208) := Lib.hid (Nat.ne_of_lt (Nat.lt_of_lt_of_le (xp_lt (Fv176_118.out.keep C31_44.out)) hbz))
  have N684 : Hid (g119 ≠ g208) := Lib.hid (Nat.ne_of_lt (Nat.lt_of_lt_of_le (xp_lt (Fv195_119.out.keep C32_44.out)) hbz))
  have N685 : Hid (g120 ≠ g208) := Lib.hid (Nat.ne_of_lt (Nat.lt_of_lt_of_le (xp_lt (Fv215_120.out.keep C33_44.out)) hbz))
  have N686 : Hid (g132 ≠ g208) := Lib.hid (Nat.ne_of_lt (Nat.lt_of_lt_of_le (xp_lt (Fv236_132.out.keep C35_44.out)) hbz))
  have N687 : Hid (g133 ≠ g208) := Lib.hid (Nat.ne_of_lt (Nat.lt_of_lt_of_le (xp_lt (Fv258_133.out.keep C36_44.out)) hbz))
  have N688 : Hid (g134 ≠ g208) := Lib.hid (Nat.ne_of_lt (Nat.lt_of_lt_of_le (xp_lt (Fv281_134.out.keep C37_44.out)) hbz))
  have N689 : Hid (g135 ≠ g208) := Lib.hid (Nat.ne_of_lt (Nat.lt_of_lt_of_le (xp_lt (Fv305_135.out.keep C38_44.out)) hbz))
  have N690 : Hid (g136 ≠ g208) := Lib.hid (Nat.ne_of_lt (Nat.lt_of_lt_of_le (xp_lt (Fv330_136.out.keep C39_44.out)) hbz))
  have N691 : Hid (g137 ≠ g208) := Lib.hid (Nat.ne_of_lt (Nat.lt_of_lt_of_le (xp_lt (Fv356_137.out.keep C40_44.out)) hbz))
  have N692 : Hid (g138 ≠ g208) := Lib.hid (Nat.ne_of_lt (Nat.lt_of_lt_of_le (xp_lt (Fv383_138.out.keep C41_44.out)) hbz))
  have N693 : Hid (g139 ≠ g208) := Lib.hid (Nat.ne_of_lt (Nat.lt_of_lt_of_le (xp_lt (Fv411_139.out.keep C42_44.out)) hbz))
  have N694 : Hid (g142 ≠ g208) := Lib.hid (Nat.ne_of_lt (Nat.lt_of_lt_of_le (xp_lt Fv440_142.out) hbz))
  clear hb h0 hbz
  simp only [ptr, Act.put, List.setIfInBounds_toArray, List.set_cons_zero, List.set_cons_succ]
  refine wpF_make (.cells ([(Hd.mk (some ⟨g201, 0, none⟩) 2 2), (Hd.mk (some ⟨g202, 0, none⟩) 2 2), (Hd.mk (some ⟨g203, 0, none⟩) 2 2), (Hd.mk (some ⟨g204, 0, none⟩) 2 2), (Hd.mk (some ⟨g205, 0, none⟩) 2 2), (Hd.mk (some ⟨g206, 0, none⟩) 2 2), (Hd.mk (some ⟨g207, 0, none⟩) 2 2), (Hd.mk (some ⟨g208, 0, none⟩) 2 2)].flatMap hdC).toArray 48, fun b => .slice (some ⟨b, 0, none⟩) 8 8) (by kernel_rfl) (by kernel_rfl) (by kernel_rfl) (fun V => xg_lit (E := hdC) (bytes := 24) (.slice none 0 0) [.tmp 201, .tmp 202, .tmp 203, .tmp 204, .tmp 205, .tmp 206, .tmp 207, .tmp 208] [(Hd.mk (some ⟨g201, 0, none⟩) 2 2), (Hd.mk (some ⟨g202, 0, none⟩) 2 2), (Hd.mk (some ⟨g203, 0, none⟩) 2 2), (Hd.mk (some ⟨g204, 0, none⟩) 2 2), (Hd.mk (some ⟨g205, 0, none⟩) 2 2), (Hd.mk (some ⟨g206, 0, none⟩) 2 2), (Hd.mk (some ⟨g207, 0, none⟩) 2 2), (Hd.mk (some ⟨g208, 0, none⟩) 2 2)] 8 Tryd.underlying38 (by kernel_rfl) rfl (by decide) (by decide) rfl rfl) (fun g209 V55 hb h0 hbz => ?_)
  have Ge702 : Hid (V44.heap.size ≤ g209) := Lib.hid hbz
  have B54 := Lib.hid hb
  have HF55 := Lib.hid (HF54.out.ext hb)
  have Fv703_209 : Hid (RowG hdC V55 g209 48 ([(Hd.mk (some ⟨g201, 0, none⟩) 2 2), (Hd.mk (some ⟨g202, 0, none⟩) 2 2), (Hd.mk (some ⟨g203, 0, none⟩) 2 2), (Hd.mk (some ⟨g204, 0, none⟩) 2 2), (Hd.mk (some ⟨g205, 0, none⟩) 2 2), (Hd.mk (some ⟨g206, 0, none⟩) 2 2), (Hd.mk (some ⟨g207, 0, none⟩) 2 2), (Hd.mk (some ⟨g208, 0, none⟩) 2 2)])) := Lib.hid (h0)
  have N704 : Hid (b1 ≠ g209) := Lib.hid (Nat.ne_of_lt (Nat.lt_of_lt_of_le (xp_lt (heap_keep Fv1_1.out C1_44.out)) hbz))
  have N705 : Hid (b2 ≠ g209) := Lib.hid (Nat.ne_of_lt (Nat.lt_of_lt_of_le (xp_lt (heap_keep Fv6_2.out C2_44.out)) hbz))
  have N706 : Hid (g41 ≠ g209) := Lib.hid (Nat.ne_of_lt (Nat.lt_of_lt_of_le (xp_lt (Fv12_41.out.keep C4_44.out)) hbz))
  have N707 : Hid (b4 ≠ g209) := Lib.hid (Nat.ne_of_lt (Nat.lt_of_lt_of_le (xp_lt (heap_keep Fv18_4.out C6_44.out)) hbz))
  have N708 : Hid (g46 ≠ g209) := Lib.hid (Nat.ne_of_lt (Nat.lt_of_lt_of_le (xp_lt (Fv26_46.out.keep C7_44.out)) hbz))
  have N709 : Hid (b6 ≠ g209) := Lib.hid (Nat.ne_of_lt (Nat.lt_of_lt_of_le (xp_lt (heap_keep Fv34_6.out C9_44.out)) hbz))
  have N710 : Hid (b8 ≠ g209) := Lib.hid (Nat.ne_of_lt (Nat.lt_of_lt_of_le (xp_lt (heap_keep Fv44_8.out C11_44.out)) hbz))
  have N711 : Hid (b11 ≠ g209) := Lib.hid (Nat.ne_of_lt (Nat.lt_of_lt_of_le (xp_lt (heap_keep Fv56_11.out C13_44.out)) hbz))
  have N712 : Hid (b13 ≠ g209) := Lib.hid (Nat.ne_of_lt (Nat.lt_of_lt_of_le (xp_lt (heap_keep Fv68_13.out C15_44.out)) hbz))
  have N713 : Hid (b15 ≠ g209) := Lib.hid (Nat.ne_of_lt (Nat.lt_of_lt_of_le (xp_lt (heap_keep Fv81_15.out C17_44.out)) hbz))
  have N714 : Hid (b17 ≠ g209) := Lib.hid (Nat.ne_of_lt (Nat.lt_of_lt_of_le (xp_lt (heap_keep Fv95_17.out C19_44.out)) hbz))
  have N715 : Hid (g106 ≠ g209) := Lib.hid (Nat.ne_of_lt (Nat.lt_of_lt_of_le (xp_lt (Fv110_106.out.keep C25_44.out)) hbz))
  have N716 : Hid (g107 ≠ g209) := Lib.hid (Nat.ne_of_lt (Nat.lt_of_lt_of_le (xp_lt (Fv125_107.out.keep C26_44.out)) hbz))
  have N717 : Hid (g108 ≠ g209) := Lib.hid (Nat.ne_of_lt (Nat.lt_of_lt_of_le (xp_lt (Fv141_108.out.keep C27_44.out)) hbz))
  have N718 : Hid (g109 ≠ g209) := Lib.hid (Nat.ne_of_lt (Nat.lt_of_lt_of_le (xp_lt (Fv158_109.out.keep C28_44.out)) hbz))
  have N719 : Hid (g118 ≠ g209) := Lib.hid (Nat.ne_of_lt (Nat.lt_of_lt_of_le (xp_lt (Fv176_118.out.keep C31_44.out)) hbz))
  have N720 : Hid (g119 ≠ g209) := Lib.hid (Nat.ne_of_lt (Nat.lt_of_lt_of_le (xp_lt (Fv195_119.out.keep C32_44.out)) hbz))
  have N721 : Hid (g120 ≠ g209) := Lib.hid (Nat.ne_of_lt (Nat.lt_of_lt_of_le (xp_lt (Fv215_120.out.keep C33_44.out)) hbz))
  have N722 : Hid (g132 ≠ g209) := Lib.hid (Nat.ne_of_lt (Nat.lt_of_lt_of_le (xp_lt (Fv236_132.out.keep C35_44.out)) hbz))
  have N723 : Hid (g133 ≠ g209) := Lib.hid (Nat.ne_of_lt (Nat.lt_of_lt_of_le (xp_lt (Fv258_133.out.keep C36_44.out)) hbz))
  have N724 : Hid (g134 ≠ g209) := Lib.hid (Nat.ne_of_lt (Nat.lt_of_lt_of_le (xp_lt (Fv281_134.out.keep C37_44.out)) hbz))
  have N725 : Hid (g135 ≠ g209) := Lib.hid (Nat.ne_of_lt (Nat.lt_of_lt_of_le (xp_lt (Fv305_135.out.keep C38_44.out)) hbz))
  have N726 : Hid (g136 ≠ g209) := Lib.hid (Nat.ne_of_lt (Nat.lt_of_lt_of_le (xp_lt (Fv330_136.out.keep C39_44.out)) hbz))
  have N727 : Hid (g137 ≠ g209) := Lib.hid (Nat.ne_of_lt (Nat.lt_of_lt_of_le (xp_lt (Fv356_137.out.keep C40_44.out)) hbz))
  have N728 : Hid (g138 ≠ g209) := Lib.hid (Nat.ne_of_lt (Nat.lt_of_lt_of_le (xp_lt (Fv383_138.out.keep C41_44.out)) hbz))
  have N729 : Hid (g139 ≠ g209) := Lib.hid (Nat.ne_of_lt (Nat.lt_of_lt_of_le (xp_lt (Fv411_139.out.keep C42_44.out)) hbz))
  have N730 : Hid (g142 ≠ g209) := Lib.hid (Nat.ne_of_lt (Nat.lt_of_lt_of_le (xp_lt Fv440_142.out) hbz))
  have C47_49 := Lib.hid (bel_step B47.out B48.out)
  have C47_50 := Lib.hid (bel_step C47_49.out B49.out)
  have C47_51 := Lib.hid (bel_step C47_50.out B50.out)
  have C47_52 := Lib.hid (bel_step C47_51.out B51.out)
  have C47_53 := Lib.hid (bel_step C47_52.out B52.out)
  have C47_54 := Lib.hid (bel_step C47_53.out B53.out)
  have C47_55 := Lib.hid (bel_step C47_54.out B54.out)
  have N731 : Hid (g201 ≠ g209) := Lib.hid (ne_types (Fv443_201.out.keep C47_55.out) Fv703_209.out (by decide))
  have C48_50 := Lib.hid (bel_step B48.out B49.out)
  have C48_51 := Lib.hid (bel_step C48_50.out B50.out)
  have C48_52 := Lib.hid (bel_step C48_51.out B51.out)
  have C48_53 := Lib.hid (bel_step C48_52.out B52.out)
  have C48_54 := Lib.hid (bel_step C48_53.out B53.out)
  have C48_55 := Lib.hid (bel_step C48_54.out B54.out)
  have N732 : Hid (g202 ≠ g209) := Lib.hid (ne_types (Fv472_202.out.keep C48_55.out) Fv703_209.out (by decide))
  have C49_51 := Lib.hid (bel_step B49.out B50.out)
  have C49_52 := Lib.hid (bel_step C49_51.out B51.out)
  have C49_53 := Lib.hid (bel_step C49_52.out B52.out)
  have C49_54 := Lib.hid (bel_step C49_53.out B53.out)
  have C49_55 := Lib.hid (bel_step C49_54.out B54.out)
  have N733 : Hid (g203 ≠ g209) := Lib.hid (ne_types (Fv502_203.out.keep C49_55.out) Fv703_209.out (by decide))
  have C50_52 := Lib.hid (bel_step B50.out B51.out)
  have C50_53 := Lib.hid (bel_step C50_52.out B52.out)
  have C50_54 := Lib.hid (bel_step C50_53.out B53.out)
  have C50_55 := Lib.hid (bel_step C50_54.out B54.out)
  have N734 : Hid (g204 ≠ g209) := Lib.hid (ne_types (Fv533_204.out.keep C50_55.out) Fv703_209.out (by decide))
  have C51_53 := Lib.hid (bel_step B51.out B52.out)
  have C51_54 := Lib.hid (bel_step C51_53.out B53.out)
  have C51_55 := Lib.hid (bel_step C51_54.out B54.out)
  have N735 : Hid (g205 ≠ g209) := Lib.hid (ne_types (Fv565_205.out.keep C51_55.out) Fv703_209.out (by decide))
  have C52_54 := Lib.hid (bel_step B52.out B53.out)
  have C52_55 := Lib.hid (bel_step C52_54.out B54.out)
  have N736 : Hid (g206 ≠ g209) := Lib.hid (ne_types (Fv598_206.out.keep C52_55.out) Fv703_209.out (by decide))
  have C53_55 := Lib.hid (bel_step B53.out B54.out)
  have N737 : Hid (g207 ≠ g209) := Lib.hid (ne_types (Fv632_207.out.keep C53_55.out) Fv703_209.out (by decide))
  have N738 : Hid (g208 ≠ g209) := Lib.hid (ne_types (Fv667_208.out.keep B54.out) Fv703_209.out (by decide))
  clear hb h0 hbz
  simp only [ptr, Act.put, List.setIfInBounds_toArray, List.set_cons_zero, List.set_cons_succ]
  refine wpF_call 26 Tryd.func26 (by kernel_rfl) (by kernel_rfl) _ _ #[.slice (if cb = 16 then Ab else Ab.map (·.add (16 * 1))) 8 (cb - 16), .slice (some ⟨g209, 0, none⟩) 8 8] rfl (by kernel_rfl) (by kernel_rfl) HF55.out (fun V56 hb => ?_)
  have B55 := Lib.hid hb
  have HF56 := Lib.hid (HF55.out.ext hb)
  clear hb
  have C46_48 := Lib.hid (bel_step B46.out B47.out)
  have C46_49 := Lib.hid (bel_step C46_48.out B48.out)
  have C46_50 := Lib.hid (bel_step C46_49.out B49.out)
  have C46_51 := Lib.hid (bel_step C46_50.out B50.out)
  have C46_52 := Lib.hid (bel_step C46_51.out B51.out)
  have C46_53 := Lib.hid (bel_step C46_52.out B52.out)
  have C46_54 := Lib.hid (bel_step C46_53.out B53.out)
  have C46_55 := Lib.hid (bel_step C46_54.out B54.out)
  have C46_56 := Lib.hid (bel_step C46_55.out B55.out)
  have C47_56 := Lib.hid (bel_step C47_55.out B55.out)
  have C48_56 := Lib.hid (bel_step C48_55.out B55.out)
  have C49_56 := Lib.hid (bel_step C49_55.out B55.out)
  have C50_56 := Lib.hid (bel_step C50_55.out B55.out)
  have C51_56 := Lib.hid (bel_step C51_55.out B55.out)
  have C52_56 := Lib.hid (bel_step C52_55.out B55.out)
  have C53_56 := Lib.hid (bel_step C53_55.out B55.out)
  have C54_56 := Lib.hid (bel_step B54.out B55.out)
  refine (sameCols_yes (if cb = 16 then Ab else Ab.map (·.add (16 * 1))) 8 (cb - 16) ((hsb.drop 16).take (24 - 16)) (some ⟨g209, 0, none⟩) 8 [(Hd.mk (some ⟨g201, 0, none⟩) 2 2), (Hd.mk (some ⟨g202, 0, none⟩) 2 2), (Hd.mk (some ⟨g203, 0, none⟩) 2 2), (Hd.mk (some ⟨g204, 0, none⟩) 2 2), (Hd.mk (some ⟨g205, 0, none⟩) 2 2), (Hd.mk (some ⟨g206, 0, none⟩) 2 2), (Hd.mk (some ⟨g207, 0, none⟩) 2 2), (Hd.mk (some ⟨g208, 0, none⟩) 2 2)] [[0, 1], [0, 0], [1, 0], [0, 0], [0, 0], [0, 0], [0, 0], [0, 1]] V56 (HCut.out.keep C46_56.out) (Cols.of (RowG.sg (n := 8) (c := 8) (Fv703_209.out.keep B55.out) (show ([(Hd.mk (some ⟨g201, 0, none⟩) 2 2), (Hd.mk (some ⟨g202, 0, none⟩) 2 2), (Hd.mk (some ⟨g203, 0, none⟩) 2 2), (Hd.mk (some ⟨g204, 0, none⟩) 2 2), (Hd.mk (some ⟨g205, 0, none⟩) 2 2), (Hd.mk (some ⟨g206, 0, none⟩) 2 2), (Hd.mk (some ⟨g207, 0, none⟩) 2 2), (Hd.mk (some ⟨g208, 0, none⟩) 2 2)]).length = 8 from rfl) (Nat.le_refl _) (by omega)) ⟨(RowG.sg (n := 2) (c := 2) (Fv443_201.out.keep C47_56.out) (show ([0, 1]).length = 2 from rfl) (Nat.le_refl _) (by omega)), (RowG.sg (n := 2) (c := 2) (Fv472_202.out.keep C48_56.out) (show ([0, 0]).length = 2 from rfl) (Nat.le_refl _) (by omega)), (RowG.sg (n := 2) (c := 2) (Fv502_203.out.keep C49_56.out) (show ([1, 0]).length = 2 from rfl) (Nat.le_refl _) (by omega)), (RowG.sg (n := 2) (c := 2) (Fv533_204.out.keep C50_56.out) (show ([0, 0]).length = 2 from rfl) (Nat.le_refl _) (by omega)), (RowG.sg (n := 2) (c := 2) (Fv565_205.out.keep C51_56.out) (show ([0, 0]).length = 2 from rfl) (Nat.le_refl _) (by omega)), (RowG.sg (n := 2) (c := 2) (Fv598_206.out.keep C52_56.out) (show ([0, 0]).length = 2 from rfl) (Nat.le_refl _) (by omega)), (RowG.sg (n := 2) (c := 2) (Fv632_207.out.keep C53_56.out) (show ([0, 0]).length = 2 from rfl) (Nat.le_refl _) (by omega)), (RowG.sg (n := 2) (c := 2) (Fv667_208.out.keep C54_56.out) (show ([0, 1]).length = 2 from rfl) (Nat.le_refl _) (by omega)), trivial⟩)).mono ?_
  rintro e V57 ⟨rfl, hb⟩
  have B56 := Lib.hid hb
  have HF57 := Lib.hid (HF56.out.ext hb)
  refine ⟨_, rfl, hb, ?_⟩
  clear hb 
  simp only [Act.put, List.setIfInBounds_toArray, List.set_cons_zero, List.set_cons_succ]
  refine wpF_seg 15 (by kernel_rfl) ?_
  simp only [List.take_succ_cons, List.take_zero, List.drop_succ_cons, List.drop_zero]
  refine wpQuiet_val (by kernel_rfl) (.bool true) (fun v hv => rfl) ?_
  simp only [Act.put, List.setIfInBounds_toArray, List.set_cons_zero, List.set_cons_succ]
  refine wpQuiet_val (by kernel_rfl) (.bool true) (fun v hv => rfl) ?_
  simp only [Act.put, List.setIfInBounds_toArray, List.set_cons_zero, List.set_cons_succ]
  refine wpQuiet_val (by kernel_rfl) (.int .i64 0) (fun v hv => rfl) ?_
  simp only [Act.put, List.setIfInBounds_toArray, List.set_cons_zero, List.set_cons_succ]
  refine wpQuiet_val (by kernel_rfl) (.bool true) (fun v hv => (xo_eqlT .i64 0 0 (by omega) rfl rfl rfl)) ?_
  simp only [Act.put, List.setIfInBounds_toArray, List.set_cons_zero, List.set_cons_succ]
  refine wpQuiet_val (by kernel_rfl) (.bool true) (fun v hv => rfl) ?_
  simp only [Act.put, List.setIfInBounds_toArray, List.set_cons_zero, List.set_cons_succ]
  refine wpQuiet_val (by kernel_rfl) (.bool true) (fun v hv => rfl) ?_
  simp only [Act.put, List.setIfInBounds_toArray, List.set_cons_zero, List.set_cons_succ]
  refine wpQuiet_val (by kernel_rfl) (.int .i64 2) (fun v hv => rfl) ?_
  simp only [Act.put, List.setIfInBounds_toArray, List.set_cons_zero, List.set_cons_succ]
  refine wpQuiet_val (by kernel_rfl) (.bool true) (fun v hv => (xo_eqlT .i64 2 2 (by omega) rfl rfl rfl)) ?_
  simp only [Act.put, List.setIfInBounds_toArray, List.set_cons_zero, List.set_cons_succ]
  refine wpQuiet_val (by kernel_rfl) (.bool true) (fun v hv => rfl) ?_
  simp only [Act.put, List.setIfInBounds_toArray, List.set_cons_zero, List.set_cons_succ]
  refine wpQuiet_val (by kernel_rfl) (.bool true) (fun v hv => rfl) ?_
  simp only [Act.put, List.setIfInBounds_toArray, List.set_cons_zero, List.set_cons_succ]
  refine wpQuiet_val (by kernel_rfl) (.int .i64 1) (fun v hv => rfl) ?_
  simp only [Act.put, List.setIfInBounds_toArray, List.set_cons_zero, List.set_cons_succ]
  refine wpQuiet_val (by kernel_rfl) (.bool true) (fun v hv => (xo_eqlT .i64 1 1 (by omega) rfl rfl rfl)) ?_
  simp only [Act.put, List.setIfInBounds_toArray, List.set_cons_zero, List.set_cons_succ]
  refine wpQuiet_val (by kernel_rfl) (.bool true) (fun v hv => rfl) ?_
  simp only [Act.put, List.setIfInBounds_toArray, List.set_cons_zero, List.set_cons_succ]
  refine wpQuiet_val (by kernel_rfl) (.bool true) (fun v hv => rfl) ?_
  simp only [Act.put, List.setIfInBounds_toArray, List.set_cons_zero, List.set_cons_succ]
  refine wpQuiet_val (by kernel_rfl) (.slice (some ⟨gT, 0, none⟩) 8 8) (fun v hv => rfl) ?_
  simp only [Act.put, List.setIfInBounds_toArray, List.set_cons_zero, List.set_cons_succ]
  refine wpQuiet_nil ?_
  refine wpF_make (.cells ([(Hd.mk (some ⟨gT, 0, none⟩) 8 8)].flatMap hdC).toArray 48, fun b => .slice (some ⟨b, 0, none⟩) 1 1) (by kernel_rfl) (by kernel_rfl) (by kernel_rfl) (fun V => xg_lit (E := hdC) (bytes := 24) (.slice none 0 0) [.tmp 225] [(Hd.mk (some ⟨gT, 0, none⟩) 8 8)] 1 Tryd.underlying38 (by kernel_rfl) rfl (by decide) (by decide) rfl rfl) (fun g226 V58 hb h0 hbz => ?_)
  have Ge739 : Hid (V44.heap.size ≤ g226) := Lib.hid hbz
  have B57 := Lib.hid hb
  have HF58 := Lib.hid (HF57.out.ext hb)
  have Fv740_226 : Hid (RowG hdC V58 g226 48 ([(Hd.mk (some ⟨gT, 0, none⟩) 8 8)])) := Lib.hid (h0)
  have N741 : Hid (b1 ≠ g226) := Lib.hid (Nat.ne_of_lt (Nat.lt_of_lt_of_le (xp_lt (heap_keep Fv1_1.out C1_44.out)) hbz))
  have N742 : Hid (b2 ≠ g226) := Lib.hid (Nat.ne_of_lt (Nat.lt_of_lt_of_le (xp_lt (heap_keep Fv6_2.out C2_44.out)) hbz))
  have N743 : Hid (g41 ≠ g226) := Lib.hid (Nat.ne_of_lt (Nat.lt_of_lt_of_le (xp_lt (Fv12_41.out.keep C4_44.out)) hbz))
  have N744 : Hid (b4 ≠ g226) := Lib.hid (Nat.ne_of_lt (Nat.lt_of_lt_of_le (xp_lt (heap_keep Fv18_4.out C6_44.out)) hbz))
  have N745 : Hid (g46 ≠ g226) := Lib.hid (Nat.ne_of_lt (Nat.lt_of_lt_of_le (xp_lt (Fv26_46.out.keep C7_44.out)) hbz))
  have N746 : Hid (b6 ≠ g226) := Lib.hid (Nat.ne_of_lt (Nat.lt_of_lt_of_le (xp_lt (heap_keep Fv34_6.out C9_44.out)) hbz))
  have N747 : Hid (b8 ≠ g226) := Lib.hid (Nat.ne_of_lt (Nat.lt_of_lt_of_le (xp_lt (heap_keep Fv44_8.out C11_44.out)) hbz))
  have N748 : Hid (b11 ≠ g226) := Lib.hid (Nat.ne_of_lt (Nat.lt_of_lt_of_le (xp_lt (heap_keep Fv56_11.out C13_44.out)) hbz))
  have N749 : Hid (b13 ≠ g226) := Lib.hid (Nat.ne_of_lt (Nat.lt_of_lt_of_le (xp_lt (heap_keep Fv68_13.out C15_44.out)) hbz))
  have N750 : Hid (b15 ≠ g226) := Lib.hid (Nat.ne_of_lt (Nat.lt_of_lt_of_le (xp_lt (heap_keep Fv81_15.out C17_44.out)) hbz))
  have N751 : Hid (b17 ≠ g226) := Lib.hid (Nat.ne_of_lt (Nat.lt_of_lt_of_le (xp_lt (heap_keep Fv95_17.out C19_44.out)) hbz))
  have N752 : Hid (g106 ≠ g226) := Lib.hid (Nat.ne_of_lt (Nat.lt_of_lt_of_le (xp_lt (Fv110_106.out.keep C25_44.out)) hbz))
  have N753 : Hid (g107 ≠ g226) := Lib.hid (Nat.ne_of_lt (Nat.lt_of_lt_of_le (xp_lt (Fv125_107.out.keep C26_44.out)) hbz))
  have N754 : Hid (g108 ≠ g226) := Lib.hid (Nat.ne_of_lt (Nat.lt_of_lt_of_le (xp_lt (Fv141_108.out.keep C27_44.out)) hbz))
  have N755 : Hid (g109 ≠ g226) := Lib.hid (Nat.ne_of_lt (Nat.lt_of_lt_of_le (xp_lt (Fv158_109.out.keep C28_44.out)) hbz))
  have N756 : Hid (g118 ≠ g226) := Lib.hid (Nat.ne_of_lt (Nat.lt_of_lt_of_le (xp_lt (Fv176_118.out.keep C31_44.out)) hbz))
  have N757 : Hid (g119 ≠ g226) := Lib.hid (Nat.ne_of_lt (Nat.lt_of_lt_of_le (xp_lt (Fv195_119.out.keep C32_44.out)) hbz))
  have N758 : Hid (g120 ≠ g226) := Lib.hid (Nat.ne_of_lt (Nat.lt_of_lt_of_le (xp_lt (Fv215_120.out.keep C33_44.out)) hbz))
  have N759 : Hid (g132 ≠ g226) := Lib.hid (Nat.ne_of_lt (Nat.lt_of_lt_of_le (xp_lt (Fv236_132.out.keep C35_44.out)) hbz))
  have N760 : Hid (g133 ≠ g226) := Lib.hid (Nat.ne_of_lt (Nat.lt_of_lt_of_le (xp_lt (Fv258_133.out.keep C36_44.out)) hbz))
  have N761 : Hid (g134 ≠ g226) := Lib.hid (Nat.ne_of_lt (Nat.lt_of_lt_of_le (xp_lt (Fv281_134.out.keep C37_44.out)) hbz))
  have N762 : Hid (g135 ≠ g226) := Lib.hid (Nat.ne_of_lt (Nat.lt_of_lt_of_le (xp_lt (Fv305_135.out.keep C38_44.out)) hbz))
  have N763 : Hid (g136 ≠ g226) := Lib.hid (Nat.ne_of_lt (Nat.lt_of_lt_of_le (xp_lt (Fv330_136.out.keep C39_44.out)) hbz))
  have N764 : Hid (g137 ≠ g226) := Lib.hid (Nat.ne_of_lt (Nat.lt_of_lt_of_le (xp_lt (Fv356_137.out.keep C40_44.out)) hbz))
  have N765 : Hid (g138 ≠ g226) := Lib.hid (Nat.ne_of_lt (Nat.lt_of_lt_of_le (xp_lt (Fv383_138.out.keep C41_44.out)) hbz))
  have N766 : Hid (g139 ≠ g226) := Lib.hid (Nat.ne_of_lt (Nat.lt_of_lt_of_le (xp_lt (Fv411_139.out.keep C42_44.out)) hbz))
  have N767 : Hid (g142 ≠ g226) := Lib.hid (Nat.ne_of_lt (Nat.lt_of_lt_of_le (xp_lt Fv440_142.out) hbz))
  have C47_57 := Lib.hid (bel_step C47_56.out B56.out)
  have C47_58 := Lib.hid (bel_step C47_57.out B57.out)
  have N768 : Hid (g201 ≠ g226) := Lib.hid (ne_types (Fv443_201.out.keep C47_58.out) Fv740_226.out (by decide))
  have C48_57 := Lib.hid (bel_step C48_56.out B56.out)
  have C48_58 := Lib.hid (bel_step C48_57.out B57.out)
  have N769 : Hid (g202 ≠ g226) := Lib.hid (ne_types (Fv472_202.out.keep C48_58.out) Fv740_226.out (by decide))
  have C49_57 := Lib.hid (bel_step C49_56.out B56.out)
  have C49_58 := Lib.hid (bel_step C49_57.out B57.out)
  have N770 : Hid (g203 ≠ g226) := Lib.hid (ne_types (Fv502_203.out.keep C49_58.out) Fv740_226.out (by decide))
  have C50_57 := Lib.hid (bel_step C50_56.out B56.out)
  have C50_58 := Lib.hid (bel_step C50_57.out B57.out)
  have N771 : Hid (g204 ≠ g226) := Lib.hid (ne_types (Fv533_204.out.keep C50_58.out) Fv740_226.out (by decide))
  have C51_57 := Lib.hid (bel_step C51_56.out B56.out)
  have C51_58 := Lib.hid (bel_step C51_57.out B57.out)
  have N772 : Hid (g205 ≠ g226) := Lib.hid (ne_types (Fv565_205.out.keep C51_58.out) Fv740_226.out (by decide))
  have C52_57 := Lib.hid (bel_step C52_56.out B56.out)
  have C52_58 := Lib.hid (bel_step C52_57.out B57.out)
  have N773 : Hid (g206 ≠ g226) := Lib.hid (ne_types (Fv598_206.out.keep C52_58.out) Fv740_226.out (by decide))
  have C53_57 := Lib.hid (bel_step C53_56.out B56.out)
  have C53_58 := Lib.hid (bel_step C53_57.out B57.out)
  have N774 : Hid (g207 ≠ g226) := Lib.hid (ne_types (Fv632_207.out.keep C53_58.out) Fv740_226.out (by decide))
  have C54_57 := Lib.hid (bel_step C54_56.out B56.out)
  have C54_58 := Lib.hid (bel_step C54_57.out B57.out)
  have N775 : Hid (g208 ≠ g226) := Lib.hid (ne_types (Fv667_208.out.keep C54_58.out) Fv740_226.out (by decide))
  clear hb h0 hbz
  simp only [ptr, Act.put, List.setIfInBounds_toArray, List.set_cons_zero, List.set_cons_succ]
  refine wpF_seg 1 (by kernel_rfl) ?_
  simp only [List.take_succ_cons, List.take_zero, List.drop_succ_cons, List.drop_zero]
  refine wpQuiet_val (by kernel_rfl) (.slice (some ⟨g139, 0, none⟩) 1 1) (fun v hv => rfl) ?_
  simp only [Act.put, List.setIfInBounds_toArray, List.set_cons_zero, List.set_cons_succ]
  refine wpQuiet_nil ?_
  refine wpF_call 26 Tryd.func26 (by kernel_rfl) (by kernel_rfl) _ _ #[.slice (some ⟨g226, 0, none⟩) 1 1, .slice (some ⟨g139, 0, none⟩) 1 1] rfl (by kernel_rfl) (by kernel_rfl) HF58.out (fun V59 hb => ?_)
  have B58 := Lib.hid hb
  have HF59 := Lib.hid (HF58.out.ext hb)
  clear hb
  have C29_31 := Lib.hid (bel_step B29.out B30.out)
  have C29_32 := Lib.hid (bel_step C29_31.out B31.out)
  have C29_33 := Lib.hid (bel_step C29_32.out B32.out)
  have C29_34 := Lib.hid (bel_step C29_33.out B33.out)
  have C29_35 := Lib.hid (bel_step C29_34.out B34.out)
  have C29_36 := Lib.hid (bel_step C29_35.out B35.out)
  have C29_37 := Lib.hid (bel_step C29_36.out B36.out)
  have C29_38 := Lib.hid (bel_step C29_37.out B37.out)
  have C29_39 := Lib.hid (bel_step C29_38.out B38.out)
  have C29_40 := Lib.hid (bel_step C29_39.out B39.out)
  have C29_41 := Lib.hid (bel_step C29_40.out B40.out)
  have C29_42 := Lib.hid (bel_step C29_41.out B41.out)
  have C29_43 := Lib.hid (bel_step C29_42.out B42.out)
  have C29_44 := Lib.hid (bel_step C29_43.out B43.out)
  have C29_45 := Lib.hid (bel_step C29_44.out B44.out)
  have C29_46 := Lib.hid (bel_step C29_45.out B45.out)
  have C29_47 := Lib.hid (bel_step C29_46.out B46.out)
  have C29_48 := Lib.hid (bel_step C29_47.out B47.out)
  have C29_49 := Lib.hid (bel_step C29_48.out B48.out)
  have C29_50 := Lib.hid (bel_step C29_49.out B49.out)
  have C29_51 := Lib.hid (bel_step C29_50.out B50.out)
  have C29_52 := Lib.hid (bel_step C29_51.out B51.out)
  have C29_53 := Lib.hid (bel_step C29_52.out B52.out)
  have C29_54 := Lib.hid (bel_step C29_53.out B53.out)
  have C29_55 := Lib.hid (bel_step C29_54.out B54.out)
  have C29_56 := Lib.hid (bel_step C29_55.out B55.out)
  have C29_57 := Lib.hid (bel_step C29_56.out B56.out)
  have C29_58 := Lib.hid (bel_step C29_57.out B57.out)
  have C29_59 := Lib.hid (bel_step C29_58.out B58.out)
  have C42_45 := Lib.hid (bel_step C42_44.out B44.out)
  have C42_46 := Lib.hid (bel_step C42_45.out B45.out)
  have C42_47 := Lib.hid (bel_step C42_46.out B46.out)
  have C42_48 := Lib.hid (bel_step C42_47.out B47.out)
  have C42_49 := Lib.hid (bel_step C42_48.out B48.out)
  have C42_50 := Lib.hid (bel_step C42_49.out B49.out)
  have C42_51 := Lib.hid (bel_step C42_50.out B50.out)
  have C42_52 := Lib.hid (bel_step C42_51.out B51.out)
  have C42_53 := Lib.hid (bel_step C42_52.out B52.out)
  have C42_54 := Lib.hid (bel_step C42_53.out B53.out)
  have C42_55 := Lib.hid (bel_step C42_54.out B54.out)
  have C42_56 := Lib.hid (bel_step C42_55.out B55.out)
  have C42_57 := Lib.hid (bel_step C42_56.out B56.out)
  have C42_58 := Lib.hid (bel_step C42_57.out B57.out)
  have C42_59 := Lib.hid (bel_step C42_58.out B58.out)
  have C41_45 := Lib.hid (bel_step C41_44.out B44.out)
  have C41_46 := Lib.hid (bel_step C41_45.out B45.out)
  have C41_47 := Lib.hid (bel_step C41_46.out B46.out)
  have C41_48 := Lib.hid (bel_step C41_47.out B47.out)
  have C41_49 := Lib.hid (bel_step C41_48.out B48.out)
  have C41_50 := Lib.hid (bel_step C41_49.out B49.out)
  have C41_51 := Lib.hid (bel_step C41_50.out B50.out)
  have C41_52 := Lib.hid (bel_step C41_51.out B51.out)
  have C41_53 := Lib.hid (bel_step C41_52.out B52.out)
  have C41_54 := Lib.hid (bel_step C41_53.out B53.out)
  have C41_55 := Lib.hid (bel_step C41_54.out B54.out)
  have C41_56 := Lib.hid (bel_step C41_55.out B55.out)
  have C41_57 := Lib.hid (bel_step C41_56.out B56.out)
  have C41_58 := Lib.hid (bel_step C41_57.out B57.out)
  have C41_59 := Lib.hid (bel_step C41_58.out B58.out)
  refine (sameCols_yes (some ⟨g226, 0, none⟩) 1 1 [(Hd.mk (some ⟨gT, 0, none⟩) 8 8)] (some ⟨g139, 0, none⟩) 1 [(Hd.mk (some ⟨g138, 0, none⟩) 8 8)] [[1, 3, 5, 0, 2, 4, 6, 0]] V59 (Cols.of (RowG.sg (n := 1) (c := 1) (Fv740_226.out.keep B58.out) (show ([(Hd.mk (some ⟨gT, 0, none⟩) 8 8)]).length = 1 from rfl) (Nat.le_refl _) (by omega)) ⟨(RowG.sg (n := 8) (c := 8) (HT.out.keep C29_59.out) (show ([1, 3, 5, 0, 2, 4, 6, 0] : List Nat).length = 8 from rfl) (Nat.le_refl _) (by omega)), trivial⟩) (Cols.of (RowG.sg (n := 1) (c := 1) (Fv411_139.out.keep C42_59.out) (show ([(Hd.mk (some ⟨g138, 0, none⟩) 8 8)]).length = 1 from rfl) (Nat.le_refl _) (by omega)) ⟨(RowG.sg (n := 8) (c := 8) (Fv383_138.out.keep C41_59.out) (show ([1, 3, 5, 0, 2, 4, 6, 0]).length = 8 from rfl) (Nat.le_refl _) (by omega)), trivial⟩)).mono ?_
  rintro e V60 ⟨rfl, hb⟩
  have B59 := Lib.hid hb
  have HF60 := Lib.hid (HF59.out.ext hb)
  refine ⟨_, rfl, hb, ?_⟩
  clear hb 
  simp only [Act.put, List.setIfInBounds_toArray, List.set_cons_zero, List.set_cons_succ]
  refine wpF_seg 15 (by kernel_rfl) ?_
  simp only [List.take_succ_cons, List.take_zero, List.drop_succ_cons, List.drop_zero]
  refine wpQuiet_val (by kernel_rfl) (.bool true) (fun v hv => rfl) ?_
  simp only [Act.put, List.setIfInBounds_toArray, List.set_cons_zero, List.set_cons_succ]
  refine wpQuiet_val (by kernel_rfl) (.bool true) (fun v hv => rfl) ?_
  simp only [Act.put, List.setIfInBounds_toArray, List.set_cons_zero, List.set_cons_succ]
  refine wpQuiet_val (by kernel_rfl) (.int .i64 0) (fun v hv => rfl) ?_
  simp only [Act.put, List.setIfInBounds_toArray, List.set_cons_zero, List.set_cons_succ]
  refine wpQuiet_val (by kernel_rfl) (.bool true) (fun v hv => (xo_eqlT .i64 0 0 (by omega) rfl rfl rfl)) ?_
  simp only [Act.put, List.setIfInBounds_toArray, List.set_cons_zero, List.set_cons_succ]
  refine wpQuiet_val (by kernel_rfl) (.bool true) (fun v hv => rfl) ?_
  simp only [Act.put, List.setIfInBounds_toArray, List.set_cons_zero, List.set_cons_succ]
  refine wpQuiet_val (by kernel_rfl) (.bool true) (fun v hv => rfl) ?_
  simp only [Act.put, List.setIfInBounds_toArray, List.set_cons_zero, List.set_cons_succ]
  refine wpQuiet_val (by kernel_rfl) (.int .i64 1) (fun v hv => rfl) ?_
  simp only [Act.put, List.setIfInBounds_toArray, List.set_cons_zero, List.set_cons_succ]
  refine wpQuiet_val (by kernel_rfl) (.bool true) (fun v hv => (xo_eqlT .i64 1 1 (by omega) rfl rfl rfl)) ?_
  simp only [Act.put, List.setIfInBounds_toArray, List.set_cons_zero, List.set_cons_succ]
  refine wpQuiet_val (by kernel_rfl) (.bool true) (fun v hv => rfl) ?_
  simp only [Act.put, List.setIfInBounds_toArray, List.set_cons_zero, List.set_cons_succ]
  refine wpQuiet_val (by kernel_rfl) (.bool true) (fun v hv => rfl) ?_
  simp only [Act.put, List.setIfInBounds_toArray, List.set_cons_zero, List.set_cons_succ]
  refine wpQuiet_val (by kernel_rfl) (.int .i64 1) (fun v hv => rfl) ?_
  simp only [Act.put, List.setIfInBounds_toArray, List.set_cons_zero, List.set_cons_succ]
  refine wpQuiet_val (by kernel_rfl) (.bool true) (fun v hv => (xo_eqlT .i64 1 1 (by omega) rfl rfl rfl)) ?_
  simp only [Act.put, List.setIfInBounds_toArray, List.set_cons_zero, List.set_cons_succ]
  refine wpQuiet_val (by kernel_rfl) (.bool true) (fun v hv => rfl) ?_
  simp only [Act.put, List.setIfInBounds_toArray, List.set_cons_zero, List.set_cons_succ]
  refine wpQuiet_val (by kernel_rfl) (.bool true) (fun v hv => rfl) ?_
  simp only [Act.put, List.setIfInBounds_toArray, List.set_cons_zero, List.set_cons_succ]
  refine wpQuiet_val (by kernel_rfl) (.agg #[.int .i64 15, .int .i64 255, .int .i64 0, .int .i64 129]) (fun v hv => (xo_loadW b2 _ (heap_keep (heap_keep Fv6_2.out C2_44.out) (laterF hv)) Tryd.underlying24 rfl (by kernel_rfl) rfl rfl)) ?_
  simp only [Act.put, List.setIfInBounds_toArray, List.set_cons_zero, List.set_cons_succ]
  refine wpQuiet_nil ?_
  refine wpF_call 17 Tryd.func17 (by kernel_rfl) (by kernel_rfl) _ _ #[.agg #[.int .i64 15, .int .i64 255, .int .i64 0, .int .i64 129]] rfl (by kernel_rfl) (by kernel_rfl) HF60.out (fun V61 hb => ?_)
  have B60 := Lib.hid hb
  have HF61 := Lib.hid (HF60.out.ext hb)
  clear hb
  have C0_22 := Lib.hid (bel_step C0_21.out B21.out)
  have C0_23 := Lib.hid (bel_step C0_22.out B22.out)
  have C0_24 := Lib.hid (bel_step C0_23.out B23.out)
  have C0_25 := Lib.hid (bel_step C0_24.out B24.out)
  have C0_26 := Lib.hid (bel_step C0_25.out B25.out)
  have C0_27 := Lib.hid (bel_step C0_26.out B26.out)
  have C0_28 := Lib.hid (bel_step C0_27.out B27.out)
  have C0_29 := Lib.hid (bel_step C0_28.out B28.out)
  have C0_30 := Lib.hid (bel_step C0_29.out B29.out)
  have C0_31 := Lib.hid (bel_step C0_30.out B30.out)
  have C0_32 := Lib.hid (bel_step C0_31.out B31.out)
  have C0_33 := Lib.hid (bel_step C0_32.out B32.out)
  have C0_34 := Lib.hid (bel_step C0_33.out B33.out)
  have C0_35 := Lib.hid (bel_step C0_34.out B34.out)
  have C0_36 := Lib.hid (bel_step C0_35.out B35.out)
  have C0_37 := Lib.hid (bel_step C0_36.out B36.out)
  have C0_38 := Lib.hid (bel_step C0_37.out B37.out)
  have C0_39 := Lib.hid (bel_step C0_38.out B38.out)
  have C0_40 := Lib.hid (bel_step C0_39.out B39.out)
  have C0_41 := Lib.hid (bel_step C0_40.out B40.out)
  have C0_42 := Lib.hid (bel_step C0_41.out B41.out)
  have C0_43 := Lib.hid (bel_step C0_42.out B42.out)
  have C0_44 := Lib.hid (bel_step C0_43.out B43.out)
  have C0_45 := Lib.hid (bel_step C0_44.out B44.out)
  have C0_46 := Lib.hid (bel_step C0_45.out B45.out)
  have C0_47 := Lib.hid (bel_step C0_46.out B46.out)
  have C0_48 := Lib.hid (bel_step C0_47.out B47.out)
  have C0_49 := Lib.hid (bel_step C0_48.out B48.out)
  have C0_50 := Lib.hid (bel_step C0_49.out B49.out)
  have C0_51 := Lib.hid (bel_step C0_50.out B50.out)
  have C0_52 := Lib.hid (bel_step C0_51.out B51.out)
  have C0_53 := Lib.hid (bel_step C0_52.out B52.out)
  have C0_54 := Lib.hid (bel_step C0_53.out B53.out)
  have C0_55 := Lib.hid (bel_step C0_54.out B54.out)
  have C0_56 := Lib.hid (bel_step C0_55.out B55.out)
  have C0_57 := Lib.hid (bel_step C0_56.out B56.out)
  have C0_58 := Lib.hid (bel_step C0_57.out B57.out)
  have C0_59 := Lib.hid (bel_step C0_58.out B58.out)
  have C0_60 := Lib.hid (bel_step C0_59.out B59.out)
  have C0_61 := Lib.hid (bel_step C0_60.out B60.out)
  refine (valid_as (Rd.mk 15 255 0 129) true (by decide) V61 (HW.out.keep C0_61.out)).mono ?_
  rintro e V62 ⟨rfl, hb⟩
  have B61 := Lib.hid hb
  have HF62 := Lib.hid (HF61.out.ext hb)
  refine ⟨_, rfl, hb, ?_⟩
  clear hb 
  simp only [Act.put, List.setIfInBounds_toArray, List.set_cons_zero, List.set_cons_succ]
  refine wpF_seg 3 (by kernel_rfl) ?_
  simp only [List.take_succ_cons, List.take_zero, List.drop_succ_cons, List.drop_zero]
  refine wpQuiet_val (by kernel_rfl) (.bool true) (fun v hv => rfl) ?_
  simp only [Act.put, List.setIfInBounds_toArray, List.set_cons_zero, List.set_cons_succ]
  refine wpQuiet_val (by kernel_rfl) (.bool true) (fun v hv => rfl) ?_
  simp only [Act.put, List.setIfInBounds_toArray, List.set_cons_zero, List.set_cons_succ]
  refine wpQuiet_val (by kernel_rfl) (.agg #[.int .i64 0, .int .i64 0, .int .i64 0, .int .i64 256]) (fun v hv => (by unfold execOp; go_simp)) ?_
  simp only [Act.put, List.setIfInBounds_toArray, List.set_cons_zero, List.set_cons_succ]
  refine wpQuiet_nil ?_
  refine wpF_call 17 Tryd.func17 (by kernel_rfl) (by kernel_rfl) _ _ #[.agg #[.int .i64 0, .int .i64 0, .int .i64 0, .int .i64 256]] rfl (by kernel_rfl) (by kernel_rfl) HF62.out (fun V63 hb => ?_)
  have B62 := Lib.hid hb
  have HF63 := Lib.hid (HF62.out.ext hb)
  clear hb
  have C0_62 := Lib.hid (bel_step C0_61.out B61.out)
  have C0_63 := Lib.hid (bel_step C0_62.out B62.out)
  refine (valid_as (Rd.mk 0 0 0 256) false (by decide) V63 (HW.out.keep C0_63.out)).mono ?_
  rintro e V64 ⟨rfl, hb⟩
  have B63 := Lib.hid hb
  have HF64 := Lib.hid (HF63.out.ext hb)
  refine ⟨_, rfl, hb, ?_⟩
  clear hb 
  simp only [Act.put, List.setIfInBounds_toArray, List.set_cons_zero, List.set_cons_succ]
  refine wpF_seg 3 (by kernel_rfl) ?_
  simp only [List.take_succ_cons, List.take_zero, List.drop_succ_cons, List.drop_zero]
  refine wpQuiet_val (by kernel_rfl) (.bool true) (fun v hv => rfl) ?_
  simp only [Act.put, List.setIfInBounds_toArray, List.set_cons_zero, List.set_cons_succ]
  refine wpQuiet_val (by kernel_rfl) (.bool true) (fun v hv => rfl) ?_
  simp only [Act.put, List.setIfInBounds_toArray, List.set_cons_zero, List.set_cons_succ]
  refine wpQuiet_val (by kernel_rfl) (.bool true) (fun v hv => rfl) ?_
  simp only [Act.put, List.setIfInBounds_toArray, List.set_cons_zero, List.set_cons_succ]
  refine wpQuiet_nil ?_
  refine wpF_nil (fun V65 hb => ?_)
  have B64 := Lib.hid hb
  clear hb
  clear HF44
  clear HF45
  clear HF46
  clear HF47
  clear HF48
  clear HF49
  clear HF50
  clear HF51
  clear HF52
  clear HF53
  clear HF54
  clear HF55
  clear HF56
  clear HF57
  clear HF58
  clear HF59
  clear HF60
  clear HF61
  clear HF62
  clear HF63
  clear HF64
  go_wp2_with fail
  go_ret
  have C0_64 := Lib.hid (bel_step C0_63.out B63.out)
  have C0_65 := Lib.hid (bel_step C0_64.out B64.out)
  exact ⟨rfl, C0_65.out⟩
end Go.Proofs.YtopicjdmajlndaaDoor

