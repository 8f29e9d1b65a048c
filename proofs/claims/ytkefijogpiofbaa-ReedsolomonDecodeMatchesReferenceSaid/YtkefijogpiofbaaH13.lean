/- Several texts in one: Su9. -/
import Derived.Test.YtkefijogpiofbaaH12
namespace Go.Proofs.Ytkefijogpiofbaa
set_option linter.unusedVariables false
set_option linter.unusedSimpArgs false
set_option linter.unusedSectionVars false
set_option maxRecDepth 8000
open Go.RowKit Go.Proofs.Ytkefijogpiofbaa.K
attribute [local irreducible] wpList wpQuiet
set_option maxRecDepth 100000 in
set_option maxHeartbeats 16000000 in
theorem sanity9_any (w : World) : Calls Try.prog 7 #[] w fun e w' => e = .returned (.bool true) ∧ Below w.heap.size w w' := by
  go_enter Try.func7, Try.ntmps7
  go_upto_region 1 with fail
  refine wp_region_lit ?_
  refine wpList_mk (by kernel_rfl) ([(5 : Gold.F)].flatMap feC).toArray 29 1 1 (xg_lit (E := feC) (bytes := 8) (.int .u64 0) [.const (.int .u64 5)] [(5 : Gold.F)] 1 Try.underlying22 (by kernel_rfl) rfl (by decide) (by decide) rfl rfl) ?_
  intro g28 V1 hge h0 hb
  have Ge0 : Hid (w.heap.size ≤ g28) := Lib.hid hge
  have B0 := Lib.hid hb
  have Fv1_28 : Hid (RowG feC V1 g28 29 ([(5 : Gold.F)])) := Lib.hid (h0)
  have Lt2 : Hid (g28 < V1.heap.size) := Lib.hid (xp_lt Fv1_28.out)
  clear hge h0 hb
  simp only [ptr, Act.put, List.setIfInBounds_toArray, List.set_cons_zero, List.set_cons_succ]
  refine wpList_call (by kernel_rfl) 9 Try.func9 (by kernel_rfl) (by kernel_rfl) _ _ #[.slice (some ⟨g28, 0, none⟩) 1 1, .int .i64 4] rfl (by kernel_rfl) ?_
  refine (encodeN (some ⟨g28, 0, none⟩) 1 1 [(5 : Gold.F)] 4 0 2 4 2 rfl rfl (by omega) (by omega) rfl (by omega) rfl V1 (RowG.sg (n := 1) (c := 1) Fv1_28.out (show ([(5 : Gold.F)]).length = 1 from rfl) (Nat.le_refl _) (by omega))).mono ?_
  rintro e V2 ⟨ge1, rfl, hs, hb⟩
  have B1 := Lib.hid hb
  rw [show Gold.cwF [(5 : Gold.F)] 2 = [5, 5, 5, 5] from Gold.cw_five] at hs
  have He1 := Lib.hid hs
  clear hb hs
  refine ⟨_, rfl, ?_⟩
  simp only [Act.put, List.setIfInBounds_toArray, List.set_cons_zero, List.set_cons_succ]
  refine wpList_run (by kernel_rfl) (.tuple #[.slice (some ⟨ge1, 0, none⟩) 4 4, .int .i64 0]) V2 rfl ?_
  simp only [Act.put, List.setIfInBounds_toArray, List.set_cons_zero, List.set_cons_succ]
  refine wpList_run (by kernel_rfl) (.slice (some ⟨ge1, 0, none⟩) 4 4) V2 rfl ?_
  simp only [Act.put, List.setIfInBounds_toArray, List.set_cons_zero, List.set_cons_succ]
  refine wpList_run (by kernel_rfl) (.int .i64 0) V2 rfl ?_
  simp only [Act.put, List.setIfInBounds_toArray, List.set_cons_zero, List.set_cons_succ]
  refine wpList_run (by kernel_rfl) (.slice (some ⟨ge1, 0, none⟩) 4 4) V2 rfl ?_
  simp only [Act.put, List.setIfInBounds_toArray, List.set_cons_zero, List.set_cons_succ]
  refine wpList_run (by kernel_rfl) (.int .i64 0) V2 rfl ?_
  simp only [Act.put, List.setIfInBounds_toArray, List.set_cons_zero, List.set_cons_succ]
  refine wpList_nil ?_
  go_upto_region 2 with fail
  refine wp_region_lit ?_
  refine wpList_mk (by kernel_rfl) ([(0 : Gold.F), (1 : Gold.F)].flatMap feC).toArray 29 2 2 (xg_lit (E := feC) (bytes := 8) (.int .u64 0) [.const (.int .u64 0), .const (.int .u64 1)] [(0 : Gold.F), (1 : Gold.F)] 2 Try.underlying22 (by kernel_rfl) rfl (by decide) (by decide) rfl rfl) ?_
  intro g33 V3 hge h0 hb
  have N3_0 : Hid (g28 ≠ g33) := Lib.hid (xp_lt0 (Fv1_28.out.keep B1.out) hge)
  have Ge4 : Hid (V2.heap.size ≤ g33) := Lib.hid hge
  have B2 := Lib.hid hb
  have Fv5_33 : Hid (RowG feC V3 g33 29 ([(0 : Gold.F), (1 : Gold.F)])) := Lib.hid (h0)
  have Lt6 : Hid (g33 < V3.heap.size) := Lib.hid (xp_lt Fv5_33.out)
  clear hge h0 hb
  simp only [ptr, Act.put, List.setIfInBounds_toArray, List.set_cons_zero, List.set_cons_succ]
  refine wpList_call (by kernel_rfl) 9 Try.func9 (by kernel_rfl) (by kernel_rfl) _ _ #[.slice (some ⟨g33, 0, none⟩) 2 2, .int .i64 2] rfl (by kernel_rfl) ?_
  refine (encodeN (some ⟨g33, 0, none⟩) 2 2 [(0 : Gold.F), (1 : Gold.F)] 2 1 1 4 2 rfl rfl (by omega) (by omega) rfl (by omega) rfl V3 (RowG.sg (n := 2) (c := 2) Fv5_33.out (show ([(0 : Gold.F), (1 : Gold.F)]).length = 2 from rfl) (Nat.le_refl _) (by omega))).mono ?_
  rintro e V4 ⟨ge2, rfl, hs, hb⟩
  have B3 := Lib.hid hb
  rw [show Gold.cwF [(0 : Gold.F), (1 : Gold.F)] 2 = [1, Gold.rootF 2, -1, -Gold.rootF 2] from Gold.cw_lin] at hs
  have He2 := Lib.hid hs
  clear hb hs
  refine ⟨_, rfl, ?_⟩
  simp only [Act.put, List.setIfInBounds_toArray, List.set_cons_zero, List.set_cons_succ]
  refine wpList_run (by kernel_rfl) (.tuple #[.slice (some ⟨ge2, 0, none⟩) 4 4, .int .i64 0]) V4 rfl ?_
  simp only [Act.put, List.setIfInBounds_toArray, List.set_cons_zero, List.set_cons_succ]
  refine wpList_run (by kernel_rfl) (.slice (some ⟨ge2, 0, none⟩) 4 4) V4 rfl ?_
  simp only [Act.put, List.setIfInBounds_toArray, List.set_cons_zero, List.set_cons_succ]
  refine wpList_run (by kernel_rfl) (.int .i64 0) V4 rfl ?_
  simp only [Act.put, List.setIfInBounds_toArray, List.set_cons_zero, List.set_cons_succ]
  refine wpList_run (by kernel_rfl) (.slice (some ⟨ge2, 0, none⟩) 4 4) V4 rfl ?_
  simp only [Act.put, List.setIfInBounds_toArray, List.set_cons_zero, List.set_cons_succ]
  refine wpList_run (by kernel_rfl) (.int .i64 0) V4 rfl ?_
  simp only [Act.put, List.setIfInBounds_toArray, List.set_cons_zero, List.set_cons_succ]
  refine wpList_nil ?_
  go_upto_region 3 with fail
  refine wp_region_lit ?_
  refine wpList_call (by kernel_rfl) 35 Try.func35 (by kernel_rfl) (by kernel_rfl) _ _ #[.int .i64 2] rfl (by kernel_rfl) ?_
  refine (J.ref_rootF 2 V4 (by omega)).mono ?_
  rintro e W1 ⟨rfl, hw1⟩
  rw [hw1]
  clear hw1 W1
  refine ⟨_, rfl, ?_⟩
  simp only [Act.put, List.setIfInBounds_toArray, List.set_cons_zero, List.set_cons_succ]
  refine wpList_run (by kernel_rfl) (.tuple #[.int .u64 (Gold.vF (Gold.rootF 2)), .int .i64 0]) V4 rfl ?_
  simp only [Act.put, List.setIfInBounds_toArray, List.set_cons_zero, List.set_cons_succ]
  refine wpList_run (by kernel_rfl) (.int .u64 (Gold.vF (Gold.rootF 2))) V4 rfl ?_
  simp only [Act.put, List.setIfInBounds_toArray, List.set_cons_zero, List.set_cons_succ]
  refine wpList_run (by kernel_rfl) (.int .i64 0) V4 rfl ?_
  simp only [Act.put, List.setIfInBounds_toArray, List.set_cons_zero, List.set_cons_succ]
  refine wpList_run (by kernel_rfl) (.int .u64 (Gold.vF (Gold.rootF 2))) V4 rfl ?_
  simp only [Act.put, List.setIfInBounds_toArray, List.set_cons_zero, List.set_cons_succ]
  refine wpList_run (by kernel_rfl) (.int .i64 0) V4 rfl ?_
  simp only [Act.put, List.setIfInBounds_toArray, List.set_cons_zero, List.set_cons_succ]
  refine wpList_nil ?_
  go_upto_region 4 with fail
  refine wp_region_lit ?_
  refine wpList_mk (by kernel_rfl) ([(5 : Gold.F), (5 : Gold.F), (7 : Gold.F), (5 : Gold.F)].flatMap feC).toArray 29 4 4 (xg_lit (E := feC) (bytes := 8) (.int .u64 0) [.const (.int .u64 5), .const (.int .u64 5), .const (.int .u64 7), .const (.int .u64 5)] [(5 : Gold.F), (5 : Gold.F), (7 : Gold.F), (5 : Gold.F)] 4 Try.underlying22 (by kernel_rfl) rfl (by decide) (by decide) rfl rfl) ?_
  intro g42 V5 hge h0 hb
  have C1_3 := Lib.hid (bel_step B1.out B2.out)
  have C1_4 := Lib.hid (bel_step C1_3.out B3.out)
  have N7_0 : Hid (g28 ≠ g42) := Lib.hid (xp_lt0 (Fv1_28.out.keep C1_4.out) hge)
  have N8_1 : Hid (g33 ≠ g42) := Lib.hid (xp_lt0 (Fv5_33.out.keep B3.out) hge)
  have Ge9 : Hid (V4.heap.size ≤ g42) := Lib.hid hge
  have B4 := Lib.hid hb
  have Fv10_42 : Hid (RowG feC V5 g42 29 ([(5 : Gold.F), (5 : Gold.F), (7 : Gold.F), (5 : Gold.F)])) := Lib.hid (h0)
  have Lt11 : Hid (g42 < V5.heap.size) := Lib.hid (xp_lt Fv10_42.out)
  clear hge h0 hb
  simp only [ptr, Act.put, List.setIfInBounds_toArray, List.set_cons_zero, List.set_cons_succ]
  refine wpList_call (by kernel_rfl) 25 Try.func25 (by kernel_rfl) (by kernel_rfl) _ _ #[.slice (some ⟨g42, 0, none⟩) 4 4, .int .i64 4] rfl (by kernel_rfl) ?_
  refine (decode_one (some ⟨g42, 0, none⟩) 4 V5 (RowG.sg (n := 4) (c := 4) Fv10_42.out (show ([(5 : Gold.F), (5 : Gold.F), (7 : Gold.F), (5 : Gold.F)]).length = 4 from rfl) (Nat.le_refl _) (by omega))).mono ?_
  rintro e V6 ⟨gd, rfl, hs, hb⟩
  have B5 := Lib.hid hb
  have HD := Lib.hid hs
  clear hb hs
  refine ⟨_, rfl, ?_⟩
  simp only [Act.put, List.setIfInBounds_toArray, List.set_cons_zero, List.set_cons_succ]
  refine wpList_run (by kernel_rfl) (.tuple #[.slice (some ⟨gd, 0, none⟩) 1 1, .int .i64 1, .int .i64 0]) V6 rfl ?_
  simp only [Act.put, List.setIfInBounds_toArray, List.set_cons_zero, List.set_cons_succ]
  refine wpList_run (by kernel_rfl) (.slice (some ⟨gd, 0, none⟩) 1 1) V6 rfl ?_
  simp only [Act.put, List.setIfInBounds_toArray, List.set_cons_zero, List.set_cons_succ]
  refine wpList_run (by kernel_rfl) (.int .i64 1) V6 rfl ?_
  simp only [Act.put, List.setIfInBounds_toArray, List.set_cons_zero, List.set_cons_succ]
  refine wpList_run (by kernel_rfl) (.int .i64 0) V6 rfl ?_
  simp only [Act.put, List.setIfInBounds_toArray, List.set_cons_zero, List.set_cons_succ]
  refine wpList_run (by kernel_rfl) (.slice (some ⟨gd, 0, none⟩) 1 1) V6 rfl ?_
  simp only [Act.put, List.setIfInBounds_toArray, List.set_cons_zero, List.set_cons_succ]
  refine wpList_run (by kernel_rfl) (.int .i64 1) V6 rfl ?_
  simp only [Act.put, List.setIfInBounds_toArray, List.set_cons_zero, List.set_cons_succ]
  refine wpList_run (by kernel_rfl) (.int .i64 0) V6 rfl ?_
  simp only [Act.put, List.setIfInBounds_toArray, List.set_cons_zero, List.set_cons_succ]
  refine wpList_nil ?_
  go_upto_region 5 with fail
  refine wp_region_lit ?_
  refine wpList_mk (by kernel_rfl) ([(5 : Gold.F), (5 : Gold.F), (7 : Gold.F), (7 : Gold.F)].flatMap feC).toArray 29 4 4 (xg_lit (E := feC) (bytes := 8) (.int .u64 0) [.const (.int .u64 5), .const (.int .u64 5), .const (.int .u64 7), .const (.int .u64 7)] [(5 : Gold.F), (5 : Gold.F), (7 : Gold.F), (7 : Gold.F)] 4 Try.underlying22 (by kernel_rfl) rfl (by decide) (by decide) rfl rfl) ?_
  intro g48 V7 hge h0 hb
  have C1_5 := Lib.hid (bel_step C1_4.out B4.out)
  have C1_6 := Lib.hid (bel_step C1_5.out B5.out)
  have N12_0 : Hid (g28 ≠ g48) := Lib.hid (xp_lt0 (Fv1_28.out.keep C1_6.out) hge)
  have C3_5 := Lib.hid (bel_step B3.out B4.out)
  have C3_6 := Lib.hid (bel_step C3_5.out B5.out)
  have N13_1 : Hid (g33 ≠ g48) := Lib.hid (xp_lt0 (Fv5_33.out.keep C3_6.out) hge)
  have N14_2 : Hid (g42 ≠ g48) := Lib.hid (xp_lt0 (Fv10_42.out.keep B5.out) hge)
  have Ge15 : Hid (V6.heap.size ≤ g48) := Lib.hid hge
  have B6 := Lib.hid hb
  have Fv16_48 : Hid (RowG feC V7 g48 29 ([(5 : Gold.F), (5 : Gold.F), (7 : Gold.F), (7 : Gold.F)])) := Lib.hid (h0)
  have Lt17 : Hid (g48 < V7.heap.size) := Lib.hid (xp_lt Fv16_48.out)
  clear hge h0 hb
  simp only [ptr, Act.put, List.setIfInBounds_toArray, List.set_cons_zero, List.set_cons_succ]
  refine wpList_call (by kernel_rfl) 25 Try.func25 (by kernel_rfl) (by kernel_rfl) _ _ #[.slice (some ⟨g48, 0, none⟩) 4 4, .int .i64 4] rfl (by kernel_rfl) ?_
  refine (decode_two (some ⟨g48, 0, none⟩) 4 V7 (RowG.sg (n := 4) (c := 4) Fv16_48.out (show ([(5 : Gold.F), (5 : Gold.F), (7 : Gold.F), (7 : Gold.F)]).length = 4 from rfl) (Nat.le_refl _) (by omega))).mono ?_
  rintro e V8 ⟨rfl, hb⟩
  have B7 := Lib.hid hb
  clear hb 
  refine ⟨_, rfl, ?_⟩
  simp only [Act.put, List.setIfInBounds_toArray, List.set_cons_zero, List.set_cons_succ]
  refine wpList_run (by kernel_rfl) (.tuple #[.slice none 0 0, .int .i64 0, .int .i64 4]) V8 rfl ?_
  simp only [Act.put, List.setIfInBounds_toArray, List.set_cons_zero, List.set_cons_succ]
  refine wpList_run (by kernel_rfl) (.slice none 0 0) V8 rfl ?_
  simp only [Act.put, List.setIfInBounds_toArray, List.set_cons_zero, List.set_cons_succ]
  refine wpList_run (by kernel_rfl) (.int .i64 0) V8 rfl ?_
  simp only [Act.put, List.setIfInBounds_toArray, List.set_cons_zero, List.set_cons_succ]
  refine wpList_run (by kernel_rfl) (.int .i64 4) V8 rfl ?_
  simp only [Act.put, List.setIfInBounds_toArray, List.set_cons_zero, List.set_cons_succ]
  refine wpList_run (by kernel_rfl) (.slice none 0 0) V8 rfl ?_
  simp only [Act.put, List.setIfInBounds_toArray, List.set_cons_zero, List.set_cons_succ]
  refine wpList_run (by kernel_rfl) (.int .i64 0) V8 rfl ?_
  simp only [Act.put, List.setIfInBounds_toArray, List.set_cons_zero, List.set_cons_succ]
  refine wpList_run (by kernel_rfl) (.int .i64 4) V8 rfl ?_
  simp only [Act.put, List.setIfInBounds_toArray, List.set_cons_zero, List.set_cons_succ]
  refine wpList_nil ?_
  go_upto_region 6 with fail
  refine wp_region_lit ?_
  refine wpList_mk (by kernel_rfl) ([(1 : Gold.F), (2 : Gold.F), (3 : Gold.F)].flatMap feC).toArray 29 3 3 (xg_lit (E := feC) (bytes := 8) (.int .u64 0) [.const (.int .u64 1), .const (.int .u64 2), .const (.int .u64 3)] [(1 : Gold.F), (2 : Gold.F), (3 : Gold.F)] 3 Try.underlying22 (by kernel_rfl) rfl (by decide) (by decide) rfl rfl) ?_
  intro g54 V9 hge h0 hb
  have C1_7 := Lib.hid (bel_step C1_6.out B6.out)
  have C1_8 := Lib.hid (bel_step C1_7.out B7.out)
  have N18_0 : Hid (g28 ≠ g54) := Lib.hid (xp_lt0 (Fv1_28.out.keep C1_8.out) hge)
  have C3_7 := Lib.hid (bel_step C3_6.out B6.out)
  have C3_8 := Lib.hid (bel_step C3_7.out B7.out)
  have N19_1 : Hid (g33 ≠ g54) := Lib.hid (xp_lt0 (Fv5_33.out.keep C3_8.out) hge)
  have C5_7 := Lib.hid (bel_step B5.out B6.out)
  have C5_8 := Lib.hid (bel_step C5_7.out B7.out)
  have N20_2 : Hid (g42 ≠ g54) := Lib.hid (xp_lt0 (Fv10_42.out.keep C5_8.out) hge)
  have N21_3 : Hid (g48 ≠ g54) := Lib.hid (xp_lt0 (Fv16_48.out.keep B7.out) hge)
  have Ge22 : Hid (V8.heap.size ≤ g54) := Lib.hid hge
  have B8 := Lib.hid hb
  have Fv23_54 : Hid (RowG feC V9 g54 29 ([(1 : Gold.F), (2 : Gold.F), (3 : Gold.F)])) := Lib.hid (h0)
  have Lt24 : Hid (g54 < V9.heap.size) := Lib.hid (xp_lt Fv23_54.out)
  clear hge h0 hb
  simp only [ptr, Act.put, List.setIfInBounds_toArray, List.set_cons_zero, List.set_cons_succ]
  refine wpList_call (by kernel_rfl) 9 Try.func9 (by kernel_rfl) (by kernel_rfl) _ _ #[.slice (some ⟨g54, 0, none⟩) 3 3, .int .i64 2] rfl (by kernel_rfl) ?_
  refine (encode_no (some ⟨g54, 0, none⟩) 3 3 [(1 : Gold.F), (2 : Gold.F), (3 : Gold.F)] 2 (by decide) (by omega) V9 (RowG.sg (n := 3) (c := 3) Fv23_54.out (show ([(1 : Gold.F), (2 : Gold.F), (3 : Gold.F)]).length = 3 from rfl) (Nat.le_refl _) (by omega))).mono ?_
  rintro e V10 ⟨rfl, hb⟩
  have B9 := Lib.hid hb
  clear hb 
  refine ⟨_, rfl, ?_⟩
  simp only [Act.put, List.setIfInBounds_toArray, List.set_cons_zero, List.set_cons_succ]
  refine wpList_run (by kernel_rfl) (.tuple #[.slice none 0 0, .int .i64 1]) V10 rfl ?_
  simp only [Act.put, List.setIfInBounds_toArray, List.set_cons_zero, List.set_cons_succ]
  refine wpList_run (by kernel_rfl) (.slice none 0 0) V10 rfl ?_
  simp only [Act.put, List.setIfInBounds_toArray, List.set_cons_zero, List.set_cons_succ]
  refine wpList_run (by kernel_rfl) (.int .i64 1) V10 rfl ?_
  simp only [Act.put, List.setIfInBounds_toArray, List.set_cons_zero, List.set_cons_succ]
  refine wpList_run (by kernel_rfl) (.slice none 0 0) V10 rfl ?_
  simp only [Act.put, List.setIfInBounds_toArray, List.set_cons_zero, List.set_cons_succ]
  refine wpList_run (by kernel_rfl) (.int .i64 1) V10 rfl ?_
  simp only [Act.put, List.setIfInBounds_toArray, List.set_cons_zero, List.set_cons_succ]
  refine wpList_nil ?_
  go_upto_region 7 with fail
  refine wp_region_lit ?_
  refine wpList_mk (by kernel_rfl) ([(1 : Gold.F)].flatMap feC).toArray 29 1 1 (xg_lit (E := feC) (bytes := 8) (.int .u64 0) [.const (.int .u64 1)] [(1 : Gold.F)] 1 Try.underlying22 (by kernel_rfl) rfl (by decide) (by decide) rfl rfl) ?_
  intro g59 V11 hge h0 hb
  have C1_9 := Lib.hid (bel_step C1_8.out B8.out)
  have C1_10 := Lib.hid (bel_step C1_9.out B9.out)
  have N25_0 : Hid (g28 ≠ g59) := Lib.hid (xp_lt0 (Fv1_28.out.keep C1_10.out) hge)
  have C3_9 := Lib.hid (bel_step C3_8.out B8.out)
  have C3_10 := Lib.hid (bel_step C3_9.out B9.out)
  have N26_1 : Hid (g33 ≠ g59) := Lib.hid (xp_lt0 (Fv5_33.out.keep C3_10.out) hge)
  have C5_9 := Lib.hid (bel_step C5_8.out B8.out)
  have C5_10 := Lib.hid (bel_step C5_9.out B9.out)
  have N27_2 : Hid (g42 ≠ g59) := Lib.hid (xp_lt0 (Fv10_42.out.keep C5_10.out) hge)
  have C7_9 := Lib.hid (bel_step B7.out B8.out)
  have C7_10 := Lib.hid (bel_step C7_9.out B9.out)
  have N28_3 : Hid (g48 ≠ g59) := Lib.hid (xp_lt0 (Fv16_48.out.keep C7_10.out) hge)
  have N29_4 : Hid (g54 ≠ g59) := Lib.hid (xp_lt0 (Fv23_54.out.keep B9.out) hge)
  have Ge30 : Hid (V10.heap.size ≤ g59) := Lib.hid hge
  have B10 := Lib.hid hb
  have Fv31_59 : Hid (RowG feC V11 g59 29 ([(1 : Gold.F)])) := Lib.hid (h0)
  have Lt32 : Hid (g59 < V11.heap.size) := Lib.hid (xp_lt Fv31_59.out)
  clear hge h0 hb
  simp only [ptr, Act.put, List.setIfInBounds_toArray, List.set_cons_zero, List.set_cons_succ]
  refine wpList_call (by kernel_rfl) 9 Try.func9 (by kernel_rfl) (by kernel_rfl) _ _ #[.slice (some ⟨g59, 0, none⟩) 1 1, .int .i64 3] rfl (by kernel_rfl) ?_
  refine (encode_no (some ⟨g59, 0, none⟩) 1 1 [(1 : Gold.F)] 3 (by decide) (by omega) V11 (RowG.sg (n := 1) (c := 1) Fv31_59.out (show ([(1 : Gold.F)]).length = 1 from rfl) (Nat.le_refl _) (by omega))).mono ?_
  rintro e V12 ⟨rfl, hb⟩
  have B11 := Lib.hid hb
  clear hb 
  refine ⟨_, rfl, ?_⟩
  simp only [Act.put, List.setIfInBounds_toArray, List.set_cons_zero, List.set_cons_succ]
  refine wpList_run (by kernel_rfl) (.tuple #[.slice none 0 0, .int .i64 1]) V12 rfl ?_
  simp only [Act.put, List.setIfInBounds_toArray, List.set_cons_zero, List.set_cons_succ]
  refine wpList_run (by kernel_rfl) (.slice none 0 0) V12 rfl ?_
  simp only [Act.put, List.setIfInBounds_toArray, List.set_cons_zero, List.set_cons_succ]
  refine wpList_run (by kernel_rfl) (.int .i64 1) V12 rfl ?_
  simp only [Act.put, List.setIfInBounds_toArray, List.set_cons_zero, List.set_cons_succ]
  refine wpList_run (by kernel_rfl) (.slice none 0 0) V12 rfl ?_
  simp only [Act.put, List.setIfInBounds_toArray, List.set_cons_zero, List.set_cons_succ]
  refine wpList_run (by kernel_rfl) (.int .i64 1) V12 rfl ?_
  simp only [Act.put, List.setIfInBounds_toArray, List.set_cons_zero, List.set_cons_succ]
  refine wpList_nil ?_
  go_upto_region 8 with fail
  refine wp_region_lit ?_
  refine wpList_mk (by kernel_rfl) ([(5 : Gold.F), (5 : Gold.F), (5 : Gold.F), (5 : Gold.F)].flatMap feC).toArray 29 4 4 (xg_lit (E := feC) (bytes := 8) (.int .u64 0) [.const (.int .u64 5), .const (.int .u64 5), .const (.int .u64 5), .const (.int .u64 5)] [(5 : Gold.F), (5 : Gold.F), (5 : Gold.F), (5 : Gold.F)] 4 Try.underlying22 (by kernel_rfl) rfl (by decide) (by decide) rfl rfl) ?_
  intro g64 V13 hge h0 hb
  have C1_11 := Lib.hid (bel_step C1_10.out B10.out)
  have C1_12 := Lib.hid (bel_step C1_11.out B11.out)
  have N33_0 : Hid (g28 ≠ g64) := Lib.hid (xp_lt0 (Fv1_28.out.keep C1_12.out) hge)
  have C3_11 := Lib.hid (bel_step C3_10.out B10.out)
  have C3_12 := Lib.hid (bel_step C3_11.out B11.out)
  have N34_1 : Hid (g33 ≠ g64) := Lib.hid (xp_lt0 (Fv5_33.out.keep C3_12.out) hge)
  have C5_11 := Lib.hid (bel_step C5_10.out B10.out)
  have C5_12 := Lib.hid (bel_step C5_11.out B11.out)
  have N35_2 : Hid (g42 ≠ g64) := Lib.hid (xp_lt0 (Fv10_42.out.keep C5_12.out) hge)
  have C7_11 := Lib.hid (bel_step C7_10.out B10.out)
  have C7_12 := Lib.hid (bel_step C7_11.out B11.out)
  have N36_3 : Hid (g48 ≠ g64) := Lib.hid (xp_lt0 (Fv16_48.out.keep C7_12.out) hge)
  have C9_11 := Lib.hid (bel_step B9.out B10.out)
  have C9_12 := Lib.hid (bel_step C9_11.out B11.out)
  have N37_4 : Hid (g54 ≠ g64) := Lib.hid (xp_lt0 (Fv23_54.out.keep C9_12.out) hge)
  have N38_5 : Hid (g59 ≠ g64) := Lib.hid (xp_lt0 (Fv31_59.out.keep B11.out) hge)
  have Ge39 : Hid (V12.heap.size ≤ g64) := Lib.hid hge
  have B12 := Lib.hid hb
  have Fv40_64 : Hid (RowG feC V13 g64 29 ([(5 : Gold.F), (5 : Gold.F), (5 : Gold.F), (5 : Gold.F)])) := Lib.hid (h0)
  have Lt41 : Hid (g64 < V13.heap.size) := Lib.hid (xp_lt Fv40_64.out)
  clear hge h0 hb
  simp only [ptr, Act.put, List.setIfInBounds_toArray, List.set_cons_zero, List.set_cons_succ]
  refine wpList_call (by kernel_rfl) 15 Try.func15 (by kernel_rfl) (by kernel_rfl) _ _ #[.slice (some ⟨g64, 0, none⟩) 4 4, .int .i64 4] rfl (by kernel_rfl) ?_
  refine (is_yes (some ⟨g64, 0, none⟩) 4 4 [(5 : Gold.F), (5 : Gold.F), (5 : Gold.F), (5 : Gold.F)] 4 2 2 rfl rfl (by omega) (by omega) (by omega) (by omega) V13 (RowG.sg (n := 4) (c := 4) Fv40_64.out (show ([(5 : Gold.F), (5 : Gold.F), (5 : Gold.F), (5 : Gold.F)]).length = 4 from rfl) (Nat.le_refl _) (by omega))).mono ?_
  rintro e V14 ⟨rfl, hb⟩
  have B13 := Lib.hid hb
  rw [show decide ((Gold.inF [(5 : Gold.F), (5 : Gold.F), (5 : Gold.F), (5 : Gold.F)] 2).length ≤ 4 / 4) = true from decide_eq_true Gold.is_five]
  clear hb 
  refine ⟨_, rfl, ?_⟩
  simp only [Act.put, List.setIfInBounds_toArray, List.set_cons_zero, List.set_cons_succ]
  refine wpList_run (by kernel_rfl) (.tuple #[.bool true, .int .i64 0]) V14 rfl ?_
  simp only [Act.put, List.setIfInBounds_toArray, List.set_cons_zero, List.set_cons_succ]
  refine wpList_run (by kernel_rfl) (.bool true) V14 rfl ?_
  simp only [Act.put, List.setIfInBounds_toArray, List.set_cons_zero, List.set_cons_succ]
  refine wpList_run (by kernel_rfl) (.int .i64 0) V14 rfl ?_
  simp only [Act.put, List.setIfInBounds_toArray, List.set_cons_zero, List.set_cons_succ]
  refine wpList_run (by kernel_rfl) (.bool true) V14 rfl ?_
  simp only [Act.put, List.setIfInBounds_toArray, List.set_cons_zero, List.set_cons_succ]
  refine wpList_run (by kernel_rfl) (.int .i64 0) V14 rfl ?_
  simp only [Act.put, List.setIfInBounds_toArray, List.set_cons_zero, List.set_cons_succ]
  refine wpList_nil ?_
  go_upto_region 9 with fail
  refine wp_region_lit ?_
  refine wpList_mk (by kernel_rfl) ([(5 : Gold.F), (5 : Gold.F), (5 : Gold.F), (6 : Gold.F)].flatMap feC).toArray 29 4 4 (xg_lit (E := feC) (bytes := 8) (.int .u64 0) [.const (.int .u64 5), .const (.int .u64 5), .const (.int .u64 5), .const (.int .u64 6)] [(5 : Gold.F), (5 : Gold.F), (5 : Gold.F), (6 : Gold.F)] 4 Try.underlying22 (by kernel_rfl) rfl (by decide) (by decide) rfl rfl) ?_
  intro g69 V15 hge h0 hb
  have C1_13 := Lib.hid (bel_step C1_12.out B12.out)
  have C1_14 := Lib.hid (bel_step C1_13.out B13.out)
  have N42_0 : Hid (g28 ≠ g69) := Lib.hid (xp_lt0 (Fv1_28.out.keep C1_14.out) hge)
  have C3_13 := Lib.hid (bel_step C3_12.out B12.out)
  have C3_14 := Lib.hid (bel_step C3_13.out B13.out)
  have N43_1 : Hid (g33 ≠ g69) := Lib.hid (xp_lt0 (Fv5_33.out.keep C3_14.out) hge)
  have C5_13 := Lib.hid (bel_step C5_12.out B12.out)
  have C5_14 := Lib.hid (bel_step C5_13.out B13.out)
  have N44_2 : Hid (g42 ≠ g69) := Lib.hid (xp_lt0 (Fv10_42.out.keep C5_14.out) hge)
  have C7_13 := Lib.hid (bel_step C7_12.out B12.out)
  have C7_14 := Lib.hid (bel_step C7_13.out B13.out)
  have N45_3 : Hid (g48 ≠ g69) := Lib.hid (xp_lt0 (Fv16_48.out.keep C7_14.out) hge)
  have C9_13 := Lib.hid (bel_step C9_12.out B12.out)
  have C9_14 := Lib.hid (bel_step C9_13.out B13.out)
  have N46_4 : Hid (g54 ≠ g69) := Lib.hid (xp_lt0 (Fv23_54.out.keep C9_14.out) hge)
  have C11_13 := Lib.hid (bel_step B11.out B12.out)
  have C11_14 := Lib.hid (bel_step C11_13.out B13.out)
  have N47_5 : Hid (g59 ≠ g69) := Lib.hid (xp_lt0 (Fv31_59.out.keep C11_14.out) hge)
  have N48_6 : Hid (g64 ≠ g69) := Lib.hid (xp_lt0 (Fv40_64.out.keep B13.out) hge)
  have Ge49 : Hid (V14.heap.size ≤ g69) := Lib.hid hge
  have B14 := Lib.hid hb
  have Fv50_69 : Hid (RowG feC V15 g69 29 ([(5 : Gold.F), (5 : Gold.F), (5 : Gold.F), (6 : Gold.F)])) := Lib.hid (h0)
  have Lt51 : Hid (g69 < V15.heap.size) := Lib.hid (xp_lt Fv50_69.out)
  clear hge h0 hb
  simp only [ptr, Act.put, List.setIfInBounds_toArray, List.set_cons_zero, List.set_cons_succ]
  refine wpList_call (by kernel_rfl) 15 Try.func15 (by kernel_rfl) (by kernel_rfl) _ _ #[.slice (some ⟨g69, 0, none⟩) 4 4, .int .i64 4] rfl (by kernel_rfl) ?_
  refine (is_yes (some ⟨g69, 0, none⟩) 4 4 [(5 : Gold.F), (5 : Gold.F), (5 : Gold.F), (6 : Gold.F)] 4 2 2 rfl rfl (by omega) (by omega) (by omega) (by omega) V15 (RowG.sg (n := 4) (c := 4) Fv50_69.out (show ([(5 : Gold.F), (5 : Gold.F), (5 : Gold.F), (6 : Gold.F)]).length = 4 from rfl) (Nat.le_refl _) (by omega))).mono ?_
  rintro e V16 ⟨rfl, hb⟩
  have B15 := Lib.hid hb
  rw [show decide ((Gold.inF [(5 : Gold.F), (5 : Gold.F), (5 : Gold.F), (6 : Gold.F)] 2).length ≤ 4 / 4) = false from decide_eq_false Gold.is_not]
  clear hb 
  refine ⟨_, rfl, ?_⟩
  simp only [Act.put, List.setIfInBounds_toArray, List.set_cons_zero, List.set_cons_succ]
  refine wpList_run (by kernel_rfl) (.tuple #[.bool false, .int .i64 0]) V16 rfl ?_
  simp only [Act.put, List.setIfInBounds_toArray, List.set_cons_zero, List.set_cons_succ]
  refine wpList_run (by kernel_rfl) (.bool false) V16 rfl ?_
  simp only [Act.put, List.setIfInBounds_toArray, List.set_cons_zero, List.set_cons_succ]
  refine wpList_run (by kernel_rfl) (.int .i64 0) V16 rfl ?_
  simp only [Act.put, List.setIfInBounds_toArray, List.set_cons_zero, List.set_cons_succ]
  refine wpList_run (by kernel_rfl) (.bool false) V16 rfl ?_
  simp only [Act.put, List.setIfInBounds_toArray, List.set_cons_zero, List.set_cons_succ]
  refine wpList_run (by kernel_rfl) (.int .i64 0) V16 rfl ?_
  simp only [Act.put, List.setIfInBounds_toArray, List.set_cons_zero, List.set_cons_succ]
  refine wpList_nil ?_
  go_upto_region 10 with fail
  refine wp_region_lit ?_
  refine wpList_mk (by kernel_rfl) ([(5 : Gold.F)].flatMap feC).toArray 29 1 1 (xg_lit (E := feC) (bytes := 8) (.int .u64 0) [.const (.int .u64 5)] [(5 : Gold.F)] 1 Try.underlying22 (by kernel_rfl) rfl (by decide) (by decide) rfl rfl) ?_
  intro g74 V17 hge h0 hb
  have C1_15 := Lib.hid (bel_step C1_14.out B14.out)
  have C1_16 := Lib.hid (bel_step C1_15.out B15.out)
  have N52_0 : Hid (g28 ≠ g74) := Lib.hid (xp_lt0 (Fv1_28.out.keep C1_16.out) hge)
  have C3_15 := Lib.hid (bel_step C3_14.out B14.out)
  have C3_16 := Lib.hid (bel_step C3_15.out B15.out)
  have N53_1 : Hid (g33 ≠ g74) := Lib.hid (xp_lt0 (Fv5_33.out.keep C3_16.out) hge)
  have C5_15 := Lib.hid (bel_step C5_14.out B14.out)
  have C5_16 := Lib.hid (bel_step C5_15.out B15.out)
  have N54_2 : Hid (g42 ≠ g74) := Lib.hid (xp_lt0 (Fv10_42.out.keep C5_16.out) hge)
  have C7_15 := Lib.hid (bel_step C7_14.out B14.out)
  have C7_16 := Lib.hid (bel_step C7_15.out B15.out)
  have N55_3 : Hid (g48 ≠ g74) := Lib.hid (xp_lt0 (Fv16_48.out.keep C7_16.out) hge)
  have C9_15 := Lib.hid (bel_step C9_14.out B14.out)
  have C9_16 := Lib.hid (bel_step C9_15.out B15.out)
  have N56_4 : Hid (g54 ≠ g74) := Lib.hid (xp_lt0 (Fv23_54.out.keep C9_16.out) hge)
  have C11_15 := Lib.hid (bel_step C11_14.out B14.out)
  have C11_16 := Lib.hid (bel_step C11_15.out B15.out)
  have N57_5 : Hid (g59 ≠ g74) := Lib.hid (xp_lt0 (Fv31_59.out.keep C11_16.out) hge)
  have C13_15 := Lib.hid (bel_step B13.out B14.out)
  have C13_16 := Lib.hid (bel_step C13_15.out B15.out)
  have N58_6 : Hid (g64 ≠ g74) := Lib.hid (xp_lt0 (Fv40_64.out.keep C13_16.out) hge)
  have N59_7 : Hid (g69 ≠ g74) := Lib.hid (xp_lt0 (Fv50_69.out.keep B15.out) hge)
  have Ge60 : Hid (V16.heap.size ≤ g74) := Lib.hid hge
  have B16 := Lib.hid hb
  have Fv61_74 : Hid (RowG feC V17 g74 29 ([(5 : Gold.F)])) := Lib.hid (h0)
  have Lt62 : Hid (g74 < V17.heap.size) := Lib.hid (xp_lt Fv61_74.out)
  clear hge h0 hb
  simp only [ptr, Act.put, List.setIfInBounds_toArray, List.set_cons_zero, List.set_cons_succ]
  refine wpList_call (by kernel_rfl) 15 Try.func15 (by kernel_rfl) (by kernel_rfl) _ _ #[.slice (some ⟨g74, 0, none⟩) 1 1, .int .i64 4] rfl (by kernel_rfl) ?_
  refine (is_no (some ⟨g74, 0, none⟩) 1 1 [(5 : Gold.F)] 4 (by decide) (by omega) V17 (RowG.sg (n := 1) (c := 1) Fv61_74.out (show ([(5 : Gold.F)]).length = 1 from rfl) (Nat.le_refl _) (by omega))).mono ?_
  rintro e V18 ⟨rfl, hb⟩
  have B17 := Lib.hid hb
  clear hb 
  refine ⟨_, rfl, ?_⟩
  simp only [Act.put, List.setIfInBounds_toArray, List.set_cons_zero, List.set_cons_succ]
  refine wpList_run (by kernel_rfl) (.tuple #[.bool false, .int .i64 1]) V18 rfl ?_
  simp only [Act.put, List.setIfInBounds_toArray, List.set_cons_zero, List.set_cons_succ]
  refine wpList_run (by kernel_rfl) (.bool false) V18 rfl ?_
  simp only [Act.put, List.setIfInBounds_toArray, List.set_cons_zero, List.set_cons_succ]
  refine wpList_run (by kernel_rfl) (.int .i64 1) V18 rfl ?_
  simp only [Act.put, List.setIfInBounds_toArray, List.set_cons_zero, List.set_cons_succ]
  refine wpList_run (by kernel_rfl) (.bool false) V18 rfl ?_
  simp only [Act.put, List.setIfInBounds_toArray, List.set_cons_zero, List.set_cons_succ]
  refine wpList_run (by kernel_rfl) (.int .i64 1) V18 rfl ?_
  simp only [Act.put, List.setIfInBounds_toArray, List.set_cons_zero, List.set_cons_succ]
  refine wpList_nil ?_
  go_upto_region 11 with fail
  refine wp_region_lit ?_
  refine wpList_run (by kernel_rfl) (.agg #[.int .u64 0, .int .u64 0]) V18 (by unfold execOp; go_simp) ?_
  simp only [Act.put, List.setIfInBounds_toArray, List.set_cons_zero, List.set_cons_succ]
  refine wpList_run (by kernel_rfl) (.agg #[.int .u64 1, .int .u64 3]) V18 (by unfold execOp; go_simp) ?_
  simp only [Act.put, List.setIfInBounds_toArray, List.set_cons_zero, List.set_cons_succ]
  refine wpList_mk (by kernel_rfl) ([(⟨(0 : Gold.F), (0 : Gold.F)⟩ : Gold.E2), (⟨(1 : Gold.F), (3 : Gold.F)⟩ : Gold.E2)].flatMap exC).toArray 31 2 2 (xg_lit (E := exC) (bytes := 16) (.agg #[.int .u64 0, .int .u64 0]) [.tmp 79, .tmp 80] [(⟨(0 : Gold.F), (0 : Gold.F)⟩ : Gold.E2), (⟨(1 : Gold.F), (3 : Gold.F)⟩ : Gold.E2)] 2 Try.underlying28 (by kernel_rfl) rfl (by decide) (by decide) rfl rfl) ?_
  intro g81 V19 hge h0 hb
  have C1_17 := Lib.hid (bel_step C1_16.out B16.out)
  have C1_18 := Lib.hid (bel_step C1_17.out B17.out)
  have N63_0 : Hid (g28 ≠ g81) := Lib.hid (xp_lt0 (Fv1_28.out.keep C1_18.out) hge)
  have C3_17 := Lib.hid (bel_step C3_16.out B16.out)
  have C3_18 := Lib.hid (bel_step C3_17.out B17.out)
  have N64_1 : Hid (g33 ≠ g81) := Lib.hid (xp_lt0 (Fv5_33.out.keep C3_18.out) hge)
  have C5_17 := Lib.hid (bel_step C5_16.out B16.out)
  have C5_18 := Lib.hid (bel_step C5_17.out B17.out)
  have N65_2 : Hid (g42 ≠ g81) := Lib.hid (xp_lt0 (Fv10_42.out.keep C5_18.out) hge)
  have C7_17 := Lib.hid (bel_step C7_16.out B16.out)
  have C7_18 := Lib.hid (bel_step C7_17.out B17.out)
  have N66_3 : Hid (g48 ≠ g81) := Lib.hid (xp_lt0 (Fv16_48.out.keep C7_18.out) hge)
  have C9_17 := Lib.hid (bel_step C9_16.out B16.out)
  have C9_18 := Lib.hid (bel_step C9_17.out B17.out)
  have N67_4 : Hid (g54 ≠ g81) := Lib.hid (xp_lt0 (Fv23_54.out.keep C9_18.out) hge)
  have C11_17 := Lib.hid (bel_step C11_16.out B16.out)
  have C11_18 := Lib.hid (bel_step C11_17.out B17.out)
  have N68_5 : Hid (g59 ≠ g81) := Lib.hid (xp_lt0 (Fv31_59.out.keep C11_18.out) hge)
  have C13_17 := Lib.hid (bel_step C13_16.out B16.out)
  have C13_18 := Lib.hid (bel_step C13_17.out B17.out)
  have N69_6 : Hid (g64 ≠ g81) := Lib.hid (xp_lt0 (Fv40_64.out.keep C13_18.out) hge)
  have C15_17 := Lib.hid (bel_step B15.out B16.out)
  have C15_18 := Lib.hid (bel_step C15_17.out B17.out)
  have N70_7 : Hid (g69 ≠ g81) := Lib.hid (xp_lt0 (Fv50_69.out.keep C15_18.out) hge)
  have N71_8 : Hid (g74 ≠ g81) := Lib.hid (xp_lt0 (Fv61_74.out.keep B17.out) hge)
  have Ge72 : Hid (V18.heap.size ≤ g81) := Lib.hid hge
  have B18 := Lib.hid hb
  have Fv73_81 : Hid (RowG exC V19 g81 31 ([(⟨(0 : Gold.F), (0 : Gold.F)⟩ : Gold.E2), (⟨(1 : Gold.F), (3 : Gold.F)⟩ : Gold.E2)])) := Lib.hid (h0)
  have Lt74 : Hid (g81 < V19.heap.size) := Lib.hid (xp_lt Fv73_81.out)
  clear hge h0 hb
  simp only [ptr, Act.put, List.setIfInBounds_toArray, List.set_cons_zero, List.set_cons_succ]
  refine wpList_call (by kernel_rfl) 13 Try.func13 (by kernel_rfl) (by kernel_rfl) _ _ #[.slice (some ⟨g81, 0, none⟩) 2 2, .int .i64 2, .int .i64 2] rfl (by kernel_rfl) ?_
  refine (at_yes (some ⟨g81, 0, none⟩) 2 2 [Gold.E2.zero, ⟨1, 3⟩] 2 1 1 rfl rfl (by omega) (by omega) (by omega) 2 (by decide) V19 (slOf (RowG.sg (n := 2) (c := 2) Fv73_81.out (show ([(⟨(0 : Gold.F), (0 : Gold.F)⟩ : Gold.E2), (⟨(1 : Gold.F), (3 : Gold.F)⟩ : Gold.E2)]).length = 2 from rfl) (Nat.le_refl _) (by omega)))).mono ?_
  rintro e V20 ⟨rfl, hb⟩
  have B19 := Lib.hid hb
  rw [show Gold.evE [Gold.E2.zero, ⟨1, 3⟩] (Gold.E2.ofF (Gold.ptF (1 + 1) 2)) = -(⟨1, 3⟩ : Gold.E2) from Gold.at_neg]
  clear hb 
  refine ⟨_, rfl, ?_⟩
  simp only [Act.put, List.setIfInBounds_toArray, List.set_cons_zero, List.set_cons_succ]
  refine wpList_run (by kernel_rfl) (.tuple #[.agg #[.int .u64 (Gold.vF (-(⟨1, 3⟩ : Gold.E2)).A), .int .u64 (Gold.vF (-(⟨1, 3⟩ : Gold.E2)).B)], .int .i64 0]) V20 rfl ?_
  simp only [Act.put, List.setIfInBounds_toArray, List.set_cons_zero, List.set_cons_succ]
  refine wpList_run (by kernel_rfl) (.agg #[.int .u64 (Gold.vF (-(⟨1, 3⟩ : Gold.E2)).A), .int .u64 (Gold.vF (-(⟨1, 3⟩ : Gold.E2)).B)]) V20 rfl ?_
  simp only [Act.put, List.setIfInBounds_toArray, List.set_cons_zero, List.set_cons_succ]
  refine wpList_run (by kernel_rfl) (.int .i64 0) V20 rfl ?_
  simp only [Act.put, List.setIfInBounds_toArray, List.set_cons_zero, List.set_cons_succ]
  refine wpList_new #[.int .u64 0, .int .u64 0] 31 (by kernel_rfl) (xo_alloc #[.int .u64 0, .int .u64 0] (by kernel_rfl) rfl) ?_
  intro b23 V21 hge h0 hb
  have C1_19 := Lib.hid (bel_step C1_18.out B18.out)
  have C1_20 := Lib.hid (bel_step C1_19.out B19.out)
  have N75_0 : Hid (g28 ≠ b23) := Lib.hid (xp_lt0 (Fv1_28.out.keep C1_20.out) hge)
  have C3_19 := Lib.hid (bel_step C3_18.out B18.out)
  have C3_20 := Lib.hid (bel_step C3_19.out B19.out)
  have N76_1 : Hid (g33 ≠ b23) := Lib.hid (xp_lt0 (Fv5_33.out.keep C3_20.out) hge)
  have C5_19 := Lib.hid (bel_step C5_18.out B18.out)
  have C5_20 := Lib.hid (bel_step C5_19.out B19.out)
  have N77_2 : Hid (g42 ≠ b23) := Lib.hid (xp_lt0 (Fv10_42.out.keep C5_20.out) hge)
  have C7_19 := Lib.hid (bel_step C7_18.out B18.out)
  have C7_20 := Lib.hid (bel_step C7_19.out B19.out)
  have N78_3 : Hid (g48 ≠ b23) := Lib.hid (xp_lt0 (Fv16_48.out.keep C7_20.out) hge)
  have C9_19 := Lib.hid (bel_step C9_18.out B18.out)
  have C9_20 := Lib.hid (bel_step C9_19.out B19.out)
  have N79_4 : Hid (g54 ≠ b23) := Lib.hid (xp_lt0 (Fv23_54.out.keep C9_20.out) hge)
  have C11_19 := Lib.hid (bel_step C11_18.out B18.out)
  have C11_20 := Lib.hid (bel_step C11_19.out B19.out)
  have N80_5 : Hid (g59 ≠ b23) := Lib.hid (xp_lt0 (Fv31_59.out.keep C11_20.out) hge)
  have C13_19 := Lib.hid (bel_step C13_18.out B18.out)
  have C13_20 := Lib.hid (bel_step C13_19.out B19.out)
  have N81_6 : Hid (g64 ≠ b23) := Lib.hid (xp_lt0 (Fv40_64.out.keep C13_20.out) hge)
  have C15_19 := Lib.hid (bel_step C15_18.out B18.out)
  have C15_20 := Lib.hid (bel_step C15_19.out B19.out)
  have N82_7 : Hid (g69 ≠ b23) := Lib.hid (xp_lt0 (Fv50_69.out.keep C15_20.out) hge)
  have C17_19 := Lib.hid (bel_step B17.out B18.out)
  have C17_20 := Lib.hid (bel_step C17_19.out B19.out)
  have N83_8 : Hid (g74 ≠ b23) := Lib.hid (xp_lt0 (Fv61_74.out.keep C17_20.out) hge)
  have N84_9 : Hid (g81 ≠ b23) := Lib.hid (xp_lt0 (Fv73_81.out.keep B19.out) hge)
  have Ge85 : Hid (V20.heap.size ≤ b23) := Lib.hid hge
  have B20 := Lib.hid hb
  have Fv86_23 : Hid (V21.heap[b23]? = some (.cells #[.int .u64 0, .int .u64 0] 31 (0, 0))) := Lib.hid (h0)
  have Lt87 : Hid (b23 < V21.heap.size) := Lib.hid (xp_lt Fv86_23.out)
  clear hge h0 hb
  simp only [ptr, Act.put, List.setIfInBounds_toArray, List.set_cons_zero, List.set_cons_succ]
  refine wpList_storeW b23 #[.int .u64 0, .int .u64 0] #[.int .u64 (Gold.vF (-(⟨1, 3⟩ : Gold.E2)).A), .int .u64 (Gold.vF (-(⟨1, 3⟩ : Gold.E2)).B)] 31 (by kernel_rfl) Fv86_23.out (xo_storeW b23 #[.int .u64 0, .int .u64 0] #[.int .u64 (Gold.vF (-(⟨1, 3⟩ : Gold.E2)).A), .int .u64 (Gold.vF (-(⟨1, 3⟩ : Gold.E2)).B)] Fv86_23.out (by kernel_rfl) rfl (by simp [Value.oneCell']) rfl rfl rfl) ?_
  intro X21_88 h1 hfar hbel hsz
  have hbr := hbel _ _ Ge85.out B20.out
  clear B20
  have B20 := Lib.hid hbr
  clear hbr
  clear Fv86_23
  have Fv86_23 : Hid (X21_88.heap[b23]? = some (.cells #[.int .u64 (Gold.vF (-(⟨1, 3⟩ : Gold.E2)).A), .int .u64 (Gold.vF (-(⟨1, 3⟩ : Gold.E2)).B)] 31 (0, 0))) := Lib.hid (h1)
  have HszX21_88 := Lib.hid hsz
  clear h1 hfar hbel hsz
  simp only [ptr, Act.put, List.setIfInBounds_toArray, List.set_cons_zero, List.set_cons_succ]
  refine wpList_run (by kernel_rfl) (.int .i64 0) X21_88 rfl ?_
  simp only [Act.put, List.setIfInBounds_toArray, List.set_cons_zero, List.set_cons_succ]
  refine wpList_nil ?_
  go_upto_region 12 with fail
  refine wp_region_lit ?_
  refine wpList_run (by kernel_rfl) (.agg #[.int .u64 0, .int .u64 0]) X21_88 (by unfold execOp; go_simp) ?_
  simp only [Act.put, List.setIfInBounds_toArray, List.set_cons_zero, List.set_cons_succ]
  refine wpList_run (by kernel_rfl) (.agg #[.int .u64 1, .int .u64 0]) X21_88 (by unfold execOp; go_simp) ?_
  simp only [Act.put, List.setIfInBounds_toArray, List.set_cons_zero, List.set_cons_succ]
  refine wpList_mk (by kernel_rfl) ([(⟨(0 : Gold.F), (0 : Gold.F)⟩ : Gold.E2), (⟨(1 : Gold.F), (0 : Gold.F)⟩ : Gold.E2)].flatMap exC).toArray 31 2 2 (xg_lit (E := exC) (bytes := 16) (.agg #[.int .u64 0, .int .u64 0]) [.tmp 86, .tmp 87] [(⟨(0 : Gold.F), (0 : Gold.F)⟩ : Gold.E2), (⟨(1 : Gold.F), (0 : Gold.F)⟩ : Gold.E2)] 2 Try.underlying28 (by kernel_rfl) rfl (by decide) (by decide) rfl rfl) ?_
  intro g88 V22 hge h0 hb
  have C1_21 := Lib.hid (bel_step C1_20.out B20.out)
  have N89_0 : Hid (g28 ≠ g88) := Lib.hid (xp_lt0 (Fv1_28.out.keep C1_21.out) hge)
  have C3_21 := Lib.hid (bel_step C3_20.out B20.out)
  have N90_1 : Hid (g33 ≠ g88) := Lib.hid (xp_lt0 (Fv5_33.out.keep C3_21.out) hge)
  have C5_21 := Lib.hid (bel_step C5_20.out B20.out)
  have N91_2 : Hid (g42 ≠ g88) := Lib.hid (xp_lt0 (Fv10_42.out.keep C5_21.out) hge)
  have C7_21 := Lib.hid (bel_step C7_20.out B20.out)
  have N92_3 : Hid (g48 ≠ g88) := Lib.hid (xp_lt0 (Fv16_48.out.keep C7_21.out) hge)
  have C9_21 := Lib.hid (bel_step C9_20.out B20.out)
  have N93_4 : Hid (g54 ≠ g88) := Lib.hid (xp_lt0 (Fv23_54.out.keep C9_21.out) hge)
  have C11_21 := Lib.hid (bel_step C11_20.out B20.out)
  have N94_5 : Hid (g59 ≠ g88) := Lib.hid (xp_lt0 (Fv31_59.out.keep C11_21.out) hge)
  have C13_21 := Lib.hid (bel_step C13_20.out B20.out)
  have N95_6 : Hid (g64 ≠ g88) := Lib.hid (xp_lt0 (Fv40_64.out.keep C13_21.out) hge)
  have C15_21 := Lib.hid (bel_step C15_20.out B20.out)
  have N96_7 : Hid (g69 ≠ g88) := Lib.hid (xp_lt0 (Fv50_69.out.keep C15_21.out) hge)
  have C17_21 := Lib.hid (bel_step C17_20.out B20.out)
  have N97_8 : Hid (g74 ≠ g88) := Lib.hid (xp_lt0 (Fv61_74.out.keep C17_21.out) hge)
  have C19_21 := Lib.hid (bel_step B19.out B20.out)
  have N98_9 : Hid (g81 ≠ g88) := Lib.hid (xp_lt0 (Fv73_81.out.keep C19_21.out) hge)
  have N99_10 : Hid (b23 ≠ g88) := Lib.hid (xp_lt0 Fv86_23.out hge)
  have Ge100 : Hid (X21_88.heap.size ≤ g88) := Lib.hid hge
  have B21 := Lib.hid hb
  have Fv101_88 : Hid (RowG exC V22 g88 31 ([(⟨(0 : Gold.F), (0 : Gold.F)⟩ : Gold.E2), (⟨(1 : Gold.F), (0 : Gold.F)⟩ : Gold.E2)])) := Lib.hid (h0)
  have Lt102 : Hid (g88 < V22.heap.size) := Lib.hid (xp_lt Fv101_88.out)
  clear hge h0 hb
  simp only [ptr, Act.put, List.setIfInBounds_toArray, List.set_cons_zero, List.set_cons_succ]
  refine wpList_call (by kernel_rfl) 13 Try.func13 (by kernel_rfl) (by kernel_rfl) _ _ #[.slice (some ⟨g88, 0, none⟩) 2 2, .int .i64 2, .int .i64 4] rfl (by kernel_rfl) ?_
  refine (at_no2 (some ⟨g88, 0, none⟩) 2 2 [(⟨(0 : Gold.F), (0 : Gold.F)⟩ : Gold.E2), (⟨(1 : Gold.F), (0 : Gold.F)⟩ : Gold.E2)] 2 1 1 rfl rfl (by omega) (by omega) (by omega) 4 (.inr (by decide)) V22 (slOf (RowG.sg (n := 2) (c := 2) Fv101_88.out (show ([(⟨(0 : Gold.F), (0 : Gold.F)⟩ : Gold.E2), (⟨(1 : Gold.F), (0 : Gold.F)⟩ : Gold.E2)]).length = 2 from rfl) (Nat.le_refl _) (by omega)))).mono ?_
  rintro e V23 ⟨rfl, hb⟩
  have B22 := Lib.hid hb
  clear hb 
  refine ⟨_, rfl, ?_⟩
  simp only [Act.put, List.setIfInBounds_toArray, List.set_cons_zero, List.set_cons_succ]
  refine wpList_run (by kernel_rfl) (.tuple #[.agg #[.int .u64 0, .int .u64 0], .int .i64 1]) V23 rfl ?_
  simp only [Act.put, List.setIfInBounds_toArray, List.set_cons_zero, List.set_cons_succ]
  refine wpList_run (by kernel_rfl) (.agg #[.int .u64 0, .int .u64 0]) V23 rfl ?_
  simp only [Act.put, List.setIfInBounds_toArray, List.set_cons_zero, List.set_cons_succ]
  refine wpList_run (by kernel_rfl) (.int .i64 1) V23 rfl ?_
  simp only [Act.put, List.setIfInBounds_toArray, List.set_cons_zero, List.set_cons_succ]
  refine wpList_new #[.int .u64 0, .int .u64 0] 31 (by kernel_rfl) (xo_alloc #[.int .u64 0, .int .u64 0] (by kernel_rfl) rfl) ?_
  intro b25 V24 hge h0 hb
  have C1_22 := Lib.hid (bel_step C1_21.out B21.out)
  have C1_23 := Lib.hid (bel_step C1_22.out B22.out)
  have N103_0 : Hid (g28 ≠ b25) := Lib.hid (xp_lt0 (Fv1_28.out.keep C1_23.out) hge)
  have C3_22 := Lib.hid (bel_step C3_21.out B21.out)
  have C3_23 := Lib.hid (bel_step C3_22.out B22.out)
  have N104_1 : Hid (g33 ≠ b25) := Lib.hid (xp_lt0 (Fv5_33.out.keep C3_23.out) hge)
  have C5_22 := Lib.hid (bel_step C5_21.out B21.out)
  have C5_23 := Lib.hid (bel_step C5_22.out B22.out)
  have N105_2 : Hid (g42 ≠ b25) := Lib.hid (xp_lt0 (Fv10_42.out.keep C5_23.out) hge)
  have C7_22 := Lib.hid (bel_step C7_21.out B21.out)
  have C7_23 := Lib.hid (bel_step C7_22.out B22.out)
  have N106_3 : Hid (g48 ≠ b25) := Lib.hid (xp_lt0 (Fv16_48.out.keep C7_23.out) hge)
  have C9_22 := Lib.hid (bel_step C9_21.out B21.out)
  have C9_23 := Lib.hid (bel_step C9_22.out B22.out)
  have N107_4 : Hid (g54 ≠ b25) := Lib.hid (xp_lt0 (Fv23_54.out.keep C9_23.out) hge)
  have C11_22 := Lib.hid (bel_step C11_21.out B21.out)
  have C11_23 := Lib.hid (bel_step C11_22.out B22.out)
  have N108_5 : Hid (g59 ≠ b25) := Lib.hid (xp_lt0 (Fv31_59.out.keep C11_23.out) hge)
  have C13_22 := Lib.hid (bel_step C13_21.out B21.out)
  have C13_23 := Lib.hid (bel_step C13_22.out B22.out)
  have N109_6 : Hid (g64 ≠ b25) := Lib.hid (xp_lt0 (Fv40_64.out.keep C13_23.out) hge)
  have C15_22 := Lib.hid (bel_step C15_21.out B21.out)
  have C15_23 := Lib.hid (bel_step C15_22.out B22.out)
  have N110_7 : Hid (g69 ≠ b25) := Lib.hid (xp_lt0 (Fv50_69.out.keep C15_23.out) hge)
  have C17_22 := Lib.hid (bel_step C17_21.out B21.out)
  have C17_23 := Lib.hid (bel_step C17_22.out B22.out)
  have N111_8 : Hid (g74 ≠ b25) := Lib.hid (xp_lt0 (Fv61_74.out.keep C17_23.out) hge)
  have C19_22 := Lib.hid (bel_step C19_21.out B21.out)
  have C19_23 := Lib.hid (bel_step C19_22.out B22.out)
  have N112_9 : Hid (g81 ≠ b25) := Lib.hid (xp_lt0 (Fv73_81.out.keep C19_23.out) hge)
  have C21_23 := Lib.hid (bel_step B21.out B22.out)
  have N113_10 : Hid (b23 ≠ b25) := Lib.hid (xp_lt0 (heap_keep Fv86_23.out C21_23.out) hge)
  have N114_11 : Hid (g88 ≠ b25) := Lib.hid (xp_lt0 (Fv101_88.out.keep B22.out) hge)
  have Ge115 : Hid (V23.heap.size ≤ b25) := Lib.hid hge
  have B23 := Lib.hid hb
  have Fv116_25 : Hid (V24.heap[b25]? = some (.cells #[.int .u64 0, .int .u64 0] 31 (0, 0))) := Lib.hid (h0)
  have Lt117 : Hid (b25 < V24.heap.size) := Lib.hid (xp_lt Fv116_25.out)
  clear hge h0 hb
  simp only [ptr, Act.put, List.setIfInBounds_toArray, List.set_cons_zero, List.set_cons_succ]
  refine wpList_storeW b25 #[.int .u64 0, .int .u64 0] #[.int .u64 0, .int .u64 0] 31 (by kernel_rfl) Fv116_25.out (xo_storeW b25 #[.int .u64 0, .int .u64 0] #[.int .u64 0, .int .u64 0] Fv116_25.out (by kernel_rfl) rfl (by simp [Value.oneCell']) rfl rfl rfl) ?_
  intro X24_118 h1 hfar hbel hsz
  have hbr := hbel _ _ Ge115.out B23.out
  clear B23
  have B23 := Lib.hid hbr
  clear hbr
  clear Fv116_25
  have Fv116_25 : Hid (X24_118.heap[b25]? = some (.cells #[.int .u64 0, .int .u64 0] 31 (0, 0))) := Lib.hid (h1)
  have HszX24_118 := Lib.hid hsz
  clear h1 hfar hbel hsz
  simp only [ptr, Act.put, List.setIfInBounds_toArray, List.set_cons_zero, List.set_cons_succ]
  refine wpList_run (by kernel_rfl) (.int .i64 1) X24_118 rfl ?_
  simp only [Act.put, List.setIfInBounds_toArray, List.set_cons_zero, List.set_cons_succ]
  refine wpList_nil ?_
  go_upto_region 13 with fail
  try simp only [List.append_eq, List.cons_append, List.nil_append]
  refine wp_floatP [0, 1, 2, 3, 4, 5, 6, 7, 8, 9, 10, 11, 12, 13, 14, 15, 16, 17, 18, 19, 20, 21, 22, 23, 24, 25, 26, 27, 28, 29, 30, 31, 32, 33, 34, 35, 36, 37, 38, 39, 40, 41, 42, 43, 44, 45, 46, 47, 48, 49, 50, 51, 52, 53, 54, 55, 56, 57, 58, 59, 60, 61, 62, 63, 64, 65, 66, 67, 68, 69, 70, 71, 72, 73, 74, 75, 76, 77, 78, 79, 80, 81, 82, 83, 84] (l' := [_, _, _, _, _, _, _, _, _, _, _, _, _, _, _, _, _, _, _, _, _, _, _, _, _, _, _, _, _, _, _, _, _, _, _, _, _, _, _, _, _, _, _, _, _, _, _, _, _, _, _, _, _, _, _, _, _, _, _, _, _, _, _, _, _, _, _, _, _, _, _, _, _, _, _, _, _, _, _, _, _, _, _, _, _]) (by kernel_rfl) (lexOK_of (by kernel_rfl) (by kernel_rfl)) (ordOK_of (by kernel_rfl) (by kernel_rfl)) rfl rfl ?_
  simp only [List.getElem_toArray, List.getElem_cons_succ, List.getElem_cons_zero]
  intro V25 hb hSW
  have B24 := Lib.hid hb
  have HF25 := Lib.hid hSW
  clear hb hSW
  refine wpF_seg 1 (by kernel_rfl) ?_
  simp only [List.take_succ_cons, List.take_zero, List.drop_succ_cons, List.drop_zero]
  refine wpQuiet_val (by kernel_rfl) (.slice (some ⟨ge1, 0, none⟩) 4 4) (fun v hv => rfl) ?_
  simp only [Act.put, List.setIfInBounds_toArray, List.set_cons_zero, List.set_cons_succ]
  refine wpQuiet_nil ?_
  refine wpF_make (.cells ([(5 : Gold.F), (5 : Gold.F), (5 : Gold.F), (5 : Gold.F)].flatMap feC).toArray 29, fun b => .slice (some ⟨b, 0, none⟩) 4 4) (by kernel_rfl) (by kernel_rfl) (by kernel_rfl) (fun V => xg_lit (E := feC) (bytes := 8) (.int .u64 0) [.const (.int .u64 5), .const (.int .u64 5), .const (.int .u64 5), .const (.int .u64 5)] [(5 : Gold.F), (5 : Gold.F), (5 : Gold.F), (5 : Gold.F)] 4 Try.underlying22 (by kernel_rfl) rfl (by decide) (by decide) rfl rfl) (fun g93 V26 hb h0 hbz => ?_)
  have Ge119 : Hid (X24_118.heap.size ≤ g93) := Lib.hid hbz
  have B25 := Lib.hid hb
  have HF26 := Lib.hid (HF25.out.ext hb)
  have Fv120_93 : Hid (RowG feC V26 g93 29 ([(5 : Gold.F), (5 : Gold.F), (5 : Gold.F), (5 : Gold.F)])) := Lib.hid (h0)
  have C1_24 := Lib.hid (bel_step C1_23.out B23.out)
  have N121 : Hid (g28 ≠ g93) := Lib.hid (Nat.ne_of_lt (Nat.lt_of_lt_of_le (xp_lt (Fv1_28.out.keep C1_24.out)) hbz))
  have C3_24 := Lib.hid (bel_step C3_23.out B23.out)
  have N122 : Hid (g33 ≠ g93) := Lib.hid (Nat.ne_of_lt (Nat.lt_of_lt_of_le (xp_lt (Fv5_33.out.keep C3_24.out)) hbz))
  have C5_24 := Lib.hid (bel_step C5_23.out B23.out)
  have N123 : Hid (g42 ≠ g93) := Lib.hid (Nat.ne_of_lt (Nat.lt_of_lt_of_le (xp_lt (Fv10_42.out.keep C5_24.out)) hbz))
  have C7_24 := Lib.hid (bel_step C7_23.out B23.out)
  have N124 : Hid (g48 ≠ g93) := Lib.hid (Nat.ne_of_lt (Nat.lt_of_lt_of_le (xp_lt (Fv16_48.out.keep C7_24.out)) hbz))
  have C9_24 := Lib.hid (bel_step C9_23.out B23.out)
  have N125 : Hid (g54 ≠ g93) := Lib.hid (Nat.ne_of_lt (Nat.lt_of_lt_of_le (xp_lt (Fv23_54.out.keep C9_24.out)) hbz))
  have C11_24 := Lib.hid (bel_step C11_23.out B23.out)
  have N126 : Hid (g59 ≠ g93) := Lib.hid (Nat.ne_of_lt (Nat.lt_of_lt_of_le (xp_lt (Fv31_59.out.keep C11_24.out)) hbz))
  have C13_24 := Lib.hid (bel_step C13_23.out B23.out)
  have N127 : Hid (g64 ≠ g93) := Lib.hid (Nat.ne_of_lt (Nat.lt_of_lt_of_le (xp_lt (Fv40_64.out.keep C13_24.out)) hbz))
  have C15_24 := Lib.hid (bel_step C15_23.out B23.out)
  have N128 : Hid (g69 ≠ g93) := Lib.hid (Nat.ne_of_lt (Nat.lt_of_lt_of_le (xp_lt (Fv50_69.out.keep C15_24.out)) hbz))
  have C17_24 := Lib.hid (bel_step C17_23.out B23.out)
  have N129 : Hid (g74 ≠ g93) := Lib.hid (Nat.ne_of_lt (Nat.lt_of_lt_of_le (xp_lt (Fv61_74.out.keep C17_24.out)) hbz))
  have C19_24 := Lib.hid (bel_step C19_23.out B23.out)
  have N130 : Hid (g81 ≠ g93) := Lib.hid (Nat.ne_of_lt (Nat.lt_of_lt_of_le (xp_lt (Fv73_81.out.keep C19_24.out)) hbz))
  have C21_24 := Lib.hid (bel_step C21_23.out B23.out)
  have N131 : Hid (b23 ≠ g93) := Lib.hid (Nat.ne_of_lt (Nat.lt_of_lt_of_le (xp_lt (heap_keep Fv86_23.out C21_24.out)) hbz))
  have C22_24 := Lib.hid (bel_step B22.out B23.out)
  have N132 : Hid (g88 ≠ g93) := Lib.hid (Nat.ne_of_lt (Nat.lt_of_lt_of_le (xp_lt (Fv101_88.out.keep C22_24.out)) hbz))
  have N133 : Hid (b25 ≠ g93) := Lib.hid (Nat.ne_of_lt (Nat.lt_of_lt_of_le (xp_lt Fv116_25.out) hbz))
  clear hb h0 hbz
  simp only [ptr, Act.put, List.setIfInBounds_toArray, List.set_cons_zero, List.set_cons_succ]
  refine wpF_call 17 Try.func17 (by kernel_rfl) (by kernel_rfl) _ _ #[.slice (some ⟨ge1, 0, none⟩) 4 4, .slice (some ⟨g93, 0, none⟩) 4 4] rfl (by kernel_rfl) (by kernel_rfl) HF26.out (fun V27 hb => ?_)
  have B26 := Lib.hid hb
  have HF27 := Lib.hid (HF26.out.ext hb)
  clear hb
  have C2_4 := Lib.hid (bel_step B2.out B3.out)
  have C2_5 := Lib.hid (bel_step C2_4.out B4.out)
  have C2_6 := Lib.hid (bel_step C2_5.out B5.out)
  have C2_7 := Lib.hid (bel_step C2_6.out B6.out)
  have C2_8 := Lib.hid (bel_step C2_7.out B7.out)
  have C2_9 := Lib.hid (bel_step C2_8.out B8.out)
  have C2_10 := Lib.hid (bel_step C2_9.out B9.out)
  have C2_11 := Lib.hid (bel_step C2_10.out B10.out)
  have C2_12 := Lib.hid (bel_step C2_11.out B11.out)
  have C2_13 := Lib.hid (bel_step C2_12.out B12.out)
  have C2_14 := Lib.hid (bel_step C2_13.out B13.out)
  have C2_15 := Lib.hid (bel_step C2_14.out B14.out)
  have C2_16 := Lib.hid (bel_step C2_15.out B15.out)
  have C2_17 := Lib.hid (bel_step C2_16.out B16.out)
  have C2_18 := Lib.hid (bel_step C2_17.out B17.out)
  have C2_19 := Lib.hid (bel_step C2_18.out B18.out)
  have C2_20 := Lib.hid (bel_step C2_19.out B19.out)
  have C2_21 := Lib.hid (bel_step C2_20.out B20.out)
  have C2_22 := Lib.hid (bel_step C2_21.out B21.out)
  have C2_23 := Lib.hid (bel_step C2_22.out B22.out)
  have C2_24 := Lib.hid (bel_step C2_23.out B23.out)
  have C2_25 := Lib.hid (bel_step C2_24.out B24.out)
  have C2_26 := Lib.hid (bel_step C2_25.out B25.out)
  have C2_27 := Lib.hid (bel_step C2_26.out B26.out)
  refine (rsame_any (some ⟨ge1, 0, none⟩) 4 4 [5, 5, 5, 5] (some ⟨g93, 0, none⟩) 4 4 [(5 : Gold.F), (5 : Gold.F), (5 : Gold.F), (5 : Gold.F)] (by omega) (by omega) V27 (He1.out.keep C2_27.out) (RowG.sg (n := 4) (c := 4) (Fv120_93.out.keep B26.out) (show ([(5 : Gold.F), (5 : Gold.F), (5 : Gold.F), (5 : Gold.F)]).length = 4 from rfl) (Nat.le_refl _) (by omega))).mono ?_
  rintro e V28 ⟨rfl, hb⟩
  have B27 := Lib.hid hb
  have HF28 := Lib.hid (HF27.out.ext hb)
  rw [show decide ([5, 5, 5, 5] = [(5 : Gold.F), (5 : Gold.F), (5 : Gold.F), (5 : Gold.F)]) = true from decide_eq_true rfl]
  refine ⟨_, rfl, hb, ?_⟩
  clear hb 
  simp only [Act.put, List.setIfInBounds_toArray, List.set_cons_zero, List.set_cons_succ]
  refine wpF_seg 7 (by kernel_rfl) ?_
  simp only [List.take_succ_cons, List.take_zero, List.drop_succ_cons, List.drop_zero]
  refine wpQuiet_val (by kernel_rfl) (.bool true) (fun v hv => rfl) ?_
  simp only [Act.put, List.setIfInBounds_toArray, List.set_cons_zero, List.set_cons_succ]
  refine wpQuiet_val (by kernel_rfl) (.int .i64 0) (fun v hv => rfl) ?_
  simp only [Act.put, List.setIfInBounds_toArray, List.set_cons_zero, List.set_cons_succ]
  refine wpQuiet_val (by kernel_rfl) (.bool true) (fun v hv => (xo_eqlT .i64 0 0 (by omega) rfl rfl rfl)) ?_
  simp only [Act.put, List.setIfInBounds_toArray, List.set_cons_zero, List.set_cons_succ]
  refine wpQuiet_val (by kernel_rfl) (.bool true) (fun v hv => rfl) ?_
  simp only [Act.put, List.setIfInBounds_toArray, List.set_cons_zero, List.set_cons_succ]
  refine wpQuiet_val (by kernel_rfl) (.bool true) (fun v hv => rfl) ?_
  simp only [Act.put, List.setIfInBounds_toArray, List.set_cons_zero, List.set_cons_succ]
  refine wpQuiet_val (by kernel_rfl) (.slice (some ⟨ge2, 0, none⟩) 4 4) (fun v hv => rfl) ?_
  simp only [Act.put, List.setIfInBounds_toArray, List.set_cons_zero, List.set_cons_succ]
  refine wpQuiet_val (by kernel_rfl) (.int .u64 (Gold.vF (Gold.rootF 2))) (fun v hv => rfl) ?_
  simp only [Act.put, List.setIfInBounds_toArray, List.set_cons_zero, List.set_cons_succ]
  refine wpQuiet_nil ?_
  refine wpF_call 30 Try.func30 (by kernel_rfl) (by kernel_rfl) _ _ #[.int .u64 1] rfl (by kernel_rfl) (by kernel_rfl) HF28.out (fun V29 hb => ?_)
  have B28 := Lib.hid hb
  have HF29 := Lib.hid (HF28.out.ext hb)
  clear hb
  refine (J.rnegF 1 V29).mono ?_
  rintro e _ ⟨rfl, rfl⟩
  refine ⟨_, rfl, Below.refl _ _, ?_⟩
  simp only [Act.put, List.setIfInBounds_toArray, List.set_cons_zero, List.set_cons_succ]
  refine wpF_seg 1 (by kernel_rfl) ?_
  simp only [List.take_succ_cons, List.take_zero, List.drop_succ_cons, List.drop_zero]
  refine wpQuiet_val (by kernel_rfl) (.int .u64 (Gold.vF (Gold.rootF 2))) (fun v hv => rfl) ?_
  simp only [Act.put, List.setIfInBounds_toArray, List.set_cons_zero, List.set_cons_succ]
  refine wpQuiet_nil ?_
  refine wpF_call 30 Try.func30 (by kernel_rfl) (by kernel_rfl) _ _ #[.int .u64 (Gold.vF (Gold.rootF 2))] rfl (by kernel_rfl) (by kernel_rfl) HF29.out (fun V30 hb => ?_)
  have B29 := Lib.hid hb
  have HF30 := Lib.hid (HF29.out.ext hb)
  clear hb
  refine (J.rnegF (Gold.rootF 2) V30).mono ?_
  rintro e _ ⟨rfl, rfl⟩
  refine ⟨_, rfl, Below.refl _ _, ?_⟩
  simp only [Act.put, List.setIfInBounds_toArray, List.set_cons_zero, List.set_cons_succ]
  refine wpF_make (.cells ([(1 : Gold.F), (Gold.rootF 2), (-1), (-(Gold.rootF 2))].flatMap feC).toArray 29, fun b => .slice (some ⟨b, 0, none⟩) 4 4) (by kernel_rfl) (by kernel_rfl) (by kernel_rfl) (fun V => xg_lit (E := feC) (bytes := 8) (.int .u64 0) [.const (.int .u64 1), .tmp 101, .tmp 102, .tmp 104] [(1 : Gold.F), (Gold.rootF 2), (-1), (-(Gold.rootF 2))] 4 Try.underlying22 (by kernel_rfl) rfl (by decide) (by decide) rfl rfl) (fun g105 V31 hb h0 hbz => ?_)
  have Ge134 : Hid (X24_118.heap.size ≤ g105) := Lib.hid hbz
  have B30 := Lib.hid hb
  have HF31 := Lib.hid (HF30.out.ext hb)
  have Fv135_105 : Hid (RowG feC V31 g105 29 ([(1 : Gold.F), (Gold.rootF 2), (-1), (-(Gold.rootF 2))])) := Lib.hid (h0)
  have N136 : Hid (g28 ≠ g105) := Lib.hid (Nat.ne_of_lt (Nat.lt_of_lt_of_le (xp_lt (Fv1_28.out.keep C1_24.out)) hbz))
  have N137 : Hid (g33 ≠ g105) := Lib.hid (Nat.ne_of_lt (Nat.lt_of_lt_of_le (xp_lt (Fv5_33.out.keep C3_24.out)) hbz))
  have N138 : Hid (g42 ≠ g105) := Lib.hid (Nat.ne_of_lt (Nat.lt_of_lt_of_le (xp_lt (Fv10_42.out.keep C5_24.out)) hbz))
  have N139 : Hid (g48 ≠ g105) := Lib.hid (Nat.ne_of_lt (Nat.lt_of_lt_of_le (xp_lt (Fv16_48.out.keep C7_24.out)) hbz))
  have N140 : Hid (g54 ≠ g105) := Lib.hid (Nat.ne_of_lt (Nat.lt_of_lt_of_le (xp_lt (Fv23_54.out.keep C9_24.out)) hbz))
  have N141 : Hid (g59 ≠ g105) := Lib.hid (Nat.ne_of_lt (Nat.lt_of_lt_of_le (xp_lt (Fv31_59.out.keep C11_24.out)) hbz))
  have N142 : Hid (g64 ≠ g105) := Lib.hid (Nat.ne_of_lt (Nat.lt_of_lt_of_le (xp_lt (Fv40_64.out.keep C13_24.out)) hbz))
  have N143 : Hid (g69 ≠ g105) := Lib.hid (Nat.ne_of_lt (Nat.lt_of_lt_of_le (xp_lt (Fv50_69.out.keep C15_24.out)) hbz))
  have N144 : Hid (g74 ≠ g105) := Lib.hid (Nat.ne_of_lt (Nat.lt_of_lt_of_le (xp_lt (Fv61_74.out.keep C17_24.out)) hbz))
  have N145 : Hid (g81 ≠ g105) := Lib.hid (Nat.ne_of_lt (Nat.lt_of_lt_of_le (xp_lt (Fv73_81.out.keep C19_24.out)) hbz))
  have N146 : Hid (b23 ≠ g105) := Lib.hid (Nat.ne_of_lt (Nat.lt_of_lt_of_le (xp_lt (heap_keep Fv86_23.out C21_24.out)) hbz))
  have N147 : Hid (g88 ≠ g105) := Lib.hid (Nat.ne_of_lt (Nat.lt_of_lt_of_le (xp_lt (Fv101_88.out.keep C22_24.out)) hbz))
  have N148 : Hid (b25 ≠ g105) := Lib.hid (Nat.ne_of_lt (Nat.lt_of_lt_of_le (xp_lt Fv116_25.out) hbz))
  clear hb h0 hbz
  simp only [ptr, Act.put, List.setIfInBounds_toArray, List.set_cons_zero, List.set_cons_succ]
  refine wpF_call 17 Try.func17 (by kernel_rfl) (by kernel_rfl) _ _ #[.slice (some ⟨ge2, 0, none⟩) 4 4, .slice (some ⟨g105, 0, none⟩) 4 4] rfl (by kernel_rfl) (by kernel_rfl) HF31.out (fun V32 hb => ?_)
  have B31 := Lib.hid hb
  have HF32 := Lib.hid (HF31.out.ext hb)
  clear hb
  have C4_6 := Lib.hid (bel_step B4.out B5.out)
  have C4_7 := Lib.hid (bel_step C4_6.out B6.out)
  have C4_8 := Lib.hid (bel_step C4_7.out B7.out)
  have C4_9 := Lib.hid (bel_step C4_8.out B8.out)
  have C4_10 := Lib.hid (bel_step C4_9.out B9.out)
  have C4_11 := Lib.hid (bel_step C4_10.out B10.out)
  have C4_12 := Lib.hid (bel_step C4_11.out B11.out)
  have C4_13 := Lib.hid (bel_step C4_12.out B12.out)
  have C4_14 := Lib.hid (bel_step C4_13.out B13.out)
  have C4_15 := Lib.hid (bel_step C4_14.out B14.out)
  have C4_16 := Lib.hid (bel_step C4_15.out B15.out)
  have C4_17 := Lib.hid (bel_step C4_16.out B16.out)
  have C4_18 := Lib.hid (bel_step C4_17.out B17.out)
  have C4_19 := Lib.hid (bel_step C4_18.out B18.out)
  have C4_20 := Lib.hid (bel_step C4_19.out B19.out)
  have C4_21 := Lib.hid (bel_step C4_20.out B20.out)
  have C4_22 := Lib.hid (bel_step C4_21.out B21.out)
  have C4_23 := Lib.hid (bel_step C4_22.out B22.out)
  have C4_24 := Lib.hid (bel_step C4_23.out B23.out)
  have C4_25 := Lib.hid (bel_step C4_24.out B24.out)
  have C4_26 := Lib.hid (bel_step C4_25.out B25.out)
  have C4_27 := Lib.hid (bel_step C4_26.out B26.out)
  have C4_28 := Lib.hid (bel_step C4_27.out B27.out)
  have C4_29 := Lib.hid (bel_step C4_28.out B28.out)
  have C4_30 := Lib.hid (bel_step C4_29.out B29.out)
  have C4_31 := Lib.hid (bel_step C4_30.out B30.out)
  have C4_32 := Lib.hid (bel_step C4_31.out B31.out)
  refine (rsame_any (some ⟨ge2, 0, none⟩) 4 4 [1, Gold.rootF 2, -1, -Gold.rootF 2] (some ⟨g105, 0, none⟩) 4 4 [(1 : Gold.F), (Gold.rootF 2), (-1), (-(Gold.rootF 2))] (by omega) (by omega) V32 (He2.out.keep C4_32.out) (RowG.sg (n := 4) (c := 4) (Fv135_105.out.keep B31.out) (show ([(1 : Gold.F), (Gold.rootF 2), (-1), (-(Gold.rootF 2))]).length = 4 from rfl) (Nat.le_refl _) (by omega))).mono ?_
  rintro e V33 ⟨rfl, hb⟩
  have B32 := Lib.hid hb
  have HF33 := Lib.hid (HF32.out.ext hb)
  rw [show decide ([1, Gold.rootF 2, -1, -Gold.rootF 2] = [(1 : Gold.F), (Gold.rootF 2), (-1), (-(Gold.rootF 2))]) = true from decide_eq_true rfl]
  refine ⟨_, rfl, hb, ?_⟩
  clear hb 
  simp only [Act.put, List.setIfInBounds_toArray, List.set_cons_zero, List.set_cons_succ]
  refine wpF_seg 7 (by kernel_rfl) ?_
  simp only [List.take_succ_cons, List.take_zero, List.drop_succ_cons, List.drop_zero]
  refine wpQuiet_val (by kernel_rfl) (.bool true) (fun v hv => rfl) ?_
  simp only [Act.put, List.setIfInBounds_toArray, List.set_cons_zero, List.set_cons_succ]
  refine wpQuiet_val (by kernel_rfl) (.bool true) (fun v hv => rfl) ?_
  simp only [Act.put, List.setIfInBounds_toArray, List.set_cons_zero, List.set_cons_succ]
  refine wpQuiet_val (by kernel_rfl) (.int .i64 0) (fun v hv => rfl) ?_
  simp only [Act.put, List.setIfInBounds_toArray, List.set_cons_zero, List.set_cons_succ]
  refine wpQuiet_val (by kernel_rfl) (.bool true) (fun v hv => (xo_eqlT .i64 0 0 (by omega) rfl rfl rfl)) ?_
  simp only [Act.put, List.setIfInBounds_toArray, List.set_cons_zero, List.set_cons_succ]
  refine wpQuiet_val (by kernel_rfl) (.bool true) (fun v hv => rfl) ?_
  simp only [Act.put, List.setIfInBounds_toArray, List.set_cons_zero, List.set_cons_succ]
  refine wpQuiet_val (by kernel_rfl) (.bool true) (fun v hv => rfl) ?_
  simp only [Act.put, List.setIfInBounds_toArray, List.set_cons_zero, List.set_cons_succ]
  refine wpQuiet_val (by kernel_rfl) (.slice (some ⟨gd, 0, none⟩) 1 1) (fun v hv => rfl) ?_
  simp only [Act.put, List.setIfInBounds_toArray, List.set_cons_zero, List.set_cons_succ]
  refine wpQuiet_nil ?_
  refine wpF_make (.cells ([(5 : Gold.F)].flatMap feC).toArray 29, fun b => .slice (some ⟨b, 0, none⟩) 1 1) (by kernel_rfl) (by kernel_rfl) (by kernel_rfl) (fun V => xg_lit (E := feC) (bytes := 8) (.int .u64 0) [.const (.int .u64 5)] [(5 : Gold.F)] 1 Try.underlying22 (by kernel_rfl) rfl (by decide) (by decide) rfl rfl) (fun g114 V34 hb h0 hbz => ?_)
  have Ge150 : Hid (X24_118.heap.size ≤ g114) := Lib.hid hbz
  have B33 := Lib.hid hb
  have HF34 := Lib.hid (HF33.out.ext hb)
  have Fv151_114 : Hid (RowG feC V34 g114 29 ([(5 : Gold.F)])) := Lib.hid (h0)
  have N152 : Hid (g28 ≠ g114) := Lib.hid (Nat.ne_of_lt (Nat.lt_of_lt_of_le (xp_lt (Fv1_28.out.keep C1_24.out)) hbz))
  have N153 : Hid (g33 ≠ g114) := Lib.hid (Nat.ne_of_lt (Nat.lt_of_lt_of_le (xp_lt (Fv5_33.out.keep C3_24.out)) hbz))
  have N154 : Hid (g42 ≠ g114) := Lib.hid (Nat.ne_of_lt (Nat.lt_of_lt_of_le (xp_lt (Fv10_42.out.keep C5_24.out)) hbz))
  have N155 : Hid (g48 ≠ g114) := Lib.hid (Nat.ne_of_lt (Nat.lt_of_lt_of_le (xp_lt (Fv16_48.out.keep C7_24.out)) hbz))
  have N156 : Hid (g54 ≠ g114) := Lib.hid (Nat.ne_of_lt (Nat.lt_of_lt_of_le (xp_lt (Fv23_54.out.keep C9_24.out)) hbz))
  have N157 : Hid (g59 ≠ g114) := Lib.hid (Nat.ne_of_lt (Nat.lt_of_lt_of_le (xp_lt (Fv31_59.out.keep C11_24.out)) hbz))
  have N158 : Hid (g64 ≠ g114) := Lib.hid (Nat.ne_of_lt (Nat.lt_of_lt_of_le (xp_lt (Fv40_64.out.keep C13_24.out)) hbz))
  have N159 : Hid (g69 ≠ g114) := Lib.hid (Nat.ne_of_lt (Nat.lt_of_lt_of_le (xp_lt (Fv50_69.out.keep C15_24.out)) hbz))
  have N160 : Hid (g74 ≠ g114) := Lib.hid (Nat.ne_of_lt (Nat.lt_of_lt_of_le (xp_lt (Fv61_74.out.keep C17_24.out)) hbz))
  have N161 : Hid (g81 ≠ g114) := Lib.hid (Nat.ne_of_lt (Nat.lt_of_lt_of_le (xp_lt (Fv73_81.out.keep C19_24.out)) hbz))
  have N162 : Hid (b23 ≠ g114) := Lib.hid (Nat.ne_of_lt (Nat.lt_of_lt_of_le (xp_lt (heap_keep Fv86_23.out C21_24.out)) hbz))
  have N163 : Hid (g88 ≠ g114) := Lib.hid (Nat.ne_of_lt (Nat.lt_of_lt_of_le (xp_lt (Fv101_88.out.keep C22_24.out)) hbz))
  have N164 : Hid (b25 ≠ g114) := Lib.hid (Nat.ne_of_lt (Nat.lt_of_lt_of_le (xp_lt Fv116_25.out) hbz))
  clear hb h0 hbz
  simp only [ptr, Act.put, List.setIfInBounds_toArray, List.set_cons_zero, List.set_cons_succ]
  refine wpF_call 17 Try.func17 (by kernel_rfl) (by kernel_rfl) _ _ #[.slice (some ⟨gd, 0, none⟩) 1 1, .slice (some ⟨g114, 0, none⟩) 1 1] rfl (by kernel_rfl) (by kernel_rfl) HF34.out (fun V35 hb => ?_)
  have B34 := Lib.hid hb
  have HF35 := Lib.hid (HF34.out.ext hb)
  clear hb
  have C6_8 := Lib.hid (bel_step B6.out B7.out)
  have C6_9 := Lib.hid (bel_step C6_8.out B8.out)
  have C6_10 := Lib.hid (bel_step C6_9.out B9.out)
  have C6_11 := Lib.hid (bel_step C6_10.out B10.out)
  have C6_12 := Lib.hid (bel_step C6_11.out B11.out)
  have C6_13 := Lib.hid (bel_step C6_12.out B12.out)
  have C6_14 := Lib.hid (bel_step C6_13.out B13.out)
  have C6_15 := Lib.hid (bel_step C6_14.out B14.out)
  have C6_16 := Lib.hid (bel_step C6_15.out B15.out)
  have C6_17 := Lib.hid (bel_step C6_16.out B16.out)
  have C6_18 := Lib.hid (bel_step C6_17.out B17.out)
  have C6_19 := Lib.hid (bel_step C6_18.out B18.out)
  have C6_20 := Lib.hid (bel_step C6_19.out B19.out)
  have C6_21 := Lib.hid (bel_step C6_20.out B20.out)
  have C6_22 := Lib.hid (bel_step C6_21.out B21.out)
  have C6_23 := Lib.hid (bel_step C6_22.out B22.out)
  have C6_24 := Lib.hid (bel_step C6_23.out B23.out)
  have C6_25 := Lib.hid (bel_step C6_24.out B24.out)
  have C6_26 := Lib.hid (bel_step C6_25.out B25.out)
  have C6_27 := Lib.hid (bel_step C6_26.out B26.out)
  have C6_28 := Lib.hid (bel_step C6_27.out B27.out)
  have C6_29 := Lib.hid (bel_step C6_28.out B28.out)
  have C6_30 := Lib.hid (bel_step C6_29.out B29.out)
  have C6_31 := Lib.hid (bel_step C6_30.out B30.out)
  have C6_32 := Lib.hid (bel_step C6_31.out B31.out)
  have C6_33 := Lib.hid (bel_step C6_32.out B32.out)
  have C6_34 := Lib.hid (bel_step C6_33.out B33.out)
  have C6_35 := Lib.hid (bel_step C6_34.out B34.out)
  refine (rsame_any (some ⟨gd, 0, none⟩) 1 1 [5] (some ⟨g114, 0, none⟩) 1 1 [(5 : Gold.F)] (by omega) (by omega) V35 (HD.out.keep C6_35.out) (RowG.sg (n := 1) (c := 1) (Fv151_114.out.keep B34.out) (show ([(5 : Gold.F)]).length = 1 from rfl) (Nat.le_refl _) (by omega))).mono ?_
  rintro e V36 ⟨rfl, hb⟩
  have B35 := Lib.hid hb
  have HF36 := Lib.hid (HF35.out.ext hb)
  rw [show decide ([5] = [(5 : Gold.F)]) = true from decide_eq_true rfl]
  refine ⟨_, rfl, hb, ?_⟩
  clear hb 
  simp only [Act.put, List.setIfInBounds_toArray, List.set_cons_zero, List.set_cons_succ]
  refine wpF_seg 39 (by kernel_rfl) ?_
  simp only [List.take_succ_cons, List.take_zero, List.drop_succ_cons, List.drop_zero]
  refine wpQuiet_val (by kernel_rfl) (.bool true) (fun v hv => rfl) ?_
  simp only [Act.put, List.setIfInBounds_toArray, List.set_cons_zero, List.set_cons_succ]
  refine wpQuiet_val (by kernel_rfl) (.bool true) (fun v hv => rfl) ?_
  simp only [Act.put, List.setIfInBounds_toArray, List.set_cons_zero, List.set_cons_succ]
  refine wpQuiet_val (by kernel_rfl) (.int .i64 1) (fun v hv => rfl) ?_
  simp only [Act.put, List.setIfInBounds_toArray, List.set_cons_zero, List.set_cons_succ]
  refine wpQuiet_val (by kernel_rfl) (.bool true) (fun v hv => (xo_eqlT .i64 1 1 (by omega) rfl rfl rfl)) ?_
  simp only [Act.put, List.setIfInBounds_toArray, List.set_cons_zero, List.set_cons_succ]
  refine wpQuiet_val (by kernel_rfl) (.bool true) (fun v hv => rfl) ?_
  simp only [Act.put, List.setIfInBounds_toArray, List.set_cons_zero, List.set_cons_succ]
  refine wpQuiet_val (by kernel_rfl) (.bool true) (fun v hv => rfl) ?_
  simp only [Act.put, List.setIfInBounds_toArray, List.set_cons_zero, List.set_cons_succ]
  refine wpQuiet_val (by kernel_rfl) (.int .i64 0) (fun v hv => rfl) ?_
  simp only [Act.put, List.setIfInBounds_toArray, List.set_cons_zero, List.set_cons_succ]
  refine wpQuiet_val (by kernel_rfl) (.bool true) (fun v hv => (xo_eqlT .i64 0 0 (by omega) rfl rfl rfl)) ?_
  simp only [Act.put, List.setIfInBounds_toArray, List.set_cons_zero, List.set_cons_succ]
  refine wpQuiet_val (by kernel_rfl) (.bool true) (fun v hv => rfl) ?_
  simp only [Act.put, List.setIfInBounds_toArray, List.set_cons_zero, List.set_cons_succ]
  refine wpQuiet_val (by kernel_rfl) (.bool true) (fun v hv => rfl) ?_
  simp only [Act.put, List.setIfInBounds_toArray, List.set_cons_zero, List.set_cons_succ]
  refine wpQuiet_val (by kernel_rfl) (.int .i64 4) (fun v hv => rfl) ?_
  simp only [Act.put, List.setIfInBounds_toArray, List.set_cons_zero, List.set_cons_succ]
  refine wpQuiet_val (by kernel_rfl) (.bool true) (fun v hv => (xo_eqlT .i64 4 4 (by omega) rfl rfl rfl)) ?_
  simp only [Act.put, List.setIfInBounds_toArray, List.set_cons_zero, List.set_cons_succ]
  refine wpQuiet_val (by kernel_rfl) (.bool true) (fun v hv => rfl) ?_
  simp only [Act.put, List.setIfInBounds_toArray, List.set_cons_zero, List.set_cons_succ]
  refine wpQuiet_val (by kernel_rfl) (.bool true) (fun v hv => rfl) ?_
  simp only [Act.put, List.setIfInBounds_toArray, List.set_cons_zero, List.set_cons_succ]
  refine wpQuiet_val (by kernel_rfl) (.int .i64 1) (fun v hv => rfl) ?_
  simp only [Act.put, List.setIfInBounds_toArray, List.set_cons_zero, List.set_cons_succ]
  refine wpQuiet_val (by kernel_rfl) (.bool true) (fun v hv => (xo_eqlT .i64 1 1 (by omega) rfl rfl rfl)) ?_
  simp only [Act.put, List.setIfInBounds_toArray, List.set_cons_zero, List.set_cons_succ]
  refine wpQuiet_val (by kernel_rfl) (.bool true) (fun v hv => rfl) ?_
  simp only [Act.put, List.setIfInBounds_toArray, List.set_cons_zero, List.set_cons_succ]
  refine wpQuiet_val (by kernel_rfl) (.bool true) (fun v hv => rfl) ?_
  simp only [Act.put, List.setIfInBounds_toArray, List.set_cons_zero, List.set_cons_succ]
  refine wpQuiet_val (by kernel_rfl) (.int .i64 1) (fun v hv => rfl) ?_
  simp only [Act.put, List.setIfInBounds_toArray, List.set_cons_zero, List.set_cons_succ]
  refine wpQuiet_val (by kernel_rfl) (.bool true) (fun v hv => (xo_eqlT .i64 1 1 (by omega) rfl rfl rfl)) ?_
  simp only [Act.put, List.setIfInBounds_toArray, List.set_cons_zero, List.set_cons_succ]
  refine wpQuiet_val (by kernel_rfl) (.bool true) (fun v hv => rfl) ?_
  simp only [Act.put, List.setIfInBounds_toArray, List.set_cons_zero, List.set_cons_succ]
  refine wpQuiet_val (by kernel_rfl) (.bool true) (fun v hv => rfl) ?_
  simp only [Act.put, List.setIfInBounds_toArray, List.set_cons_zero, List.set_cons_succ]
  refine wpQuiet_val (by kernel_rfl) (.bool true) (fun v hv => rfl) ?_
  simp only [Act.put, List.setIfInBounds_toArray, List.set_cons_zero, List.set_cons_succ]
  refine wpQuiet_val (by kernel_rfl) (.bool true) (fun v hv => rfl) ?_
  simp only [Act.put, List.setIfInBounds_toArray, List.set_cons_zero, List.set_cons_succ]
  refine wpQuiet_val (by kernel_rfl) (.bool true) (fun v hv => rfl) ?_
  simp only [Act.put, List.setIfInBounds_toArray, List.set_cons_zero, List.set_cons_succ]
  refine wpQuiet_val (by kernel_rfl) (.int .i64 0) (fun v hv => rfl) ?_
  simp only [Act.put, List.setIfInBounds_toArray, List.set_cons_zero, List.set_cons_succ]
  refine wpQuiet_val (by kernel_rfl) (.bool true) (fun v hv => (xo_eqlT .i64 0 0 (by omega) rfl rfl rfl)) ?_
  simp only [Act.put, List.setIfInBounds_toArray, List.set_cons_zero, List.set_cons_succ]
  refine wpQuiet_val (by kernel_rfl) (.bool true) (fun v hv => rfl) ?_
  simp only [Act.put, List.setIfInBounds_toArray, List.set_cons_zero, List.set_cons_succ]
  refine wpQuiet_val (by kernel_rfl) (.bool true) (fun v hv => rfl) ?_
  simp only [Act.put, List.setIfInBounds_toArray, List.set_cons_zero, List.set_cons_succ]
  refine wpQuiet_val (by kernel_rfl) (.bool false) (fun v hv => rfl) ?_
  simp only [Act.put, List.setIfInBounds_toArray, List.set_cons_zero, List.set_cons_succ]
  refine wpQuiet_val (by kernel_rfl) (.bool true) (fun v hv => rfl) ?_
  simp only [Act.put, List.setIfInBounds_toArray, List.set_cons_zero, List.set_cons_succ]
  refine wpQuiet_val (by kernel_rfl) (.bool true) (fun v hv => rfl) ?_
  simp only [Act.put, List.setIfInBounds_toArray, List.set_cons_zero, List.set_cons_succ]
  refine wpQuiet_val (by kernel_rfl) (.bool true) (fun v hv => rfl) ?_
  simp only [Act.put, List.setIfInBounds_toArray, List.set_cons_zero, List.set_cons_succ]
  refine wpQuiet_val (by kernel_rfl) (.int .i64 1) (fun v hv => rfl) ?_
  simp only [Act.put, List.setIfInBounds_toArray, List.set_cons_zero, List.set_cons_succ]
  refine wpQuiet_val (by kernel_rfl) (.bool true) (fun v hv => (xo_eqlT .i64 1 1 (by omega) rfl rfl rfl)) ?_
  simp only [Act.put, List.setIfInBounds_toArray, List.set_cons_zero, List.set_cons_succ]
  refine wpQuiet_val (by kernel_rfl) (.bool true) (fun v hv => rfl) ?_
  simp only [Act.put, List.setIfInBounds_toArray, List.set_cons_zero, List.set_cons_succ]
  refine wpQuiet_val (by kernel_rfl) (.bool true) (fun v hv => rfl) ?_
  simp only [Act.put, List.setIfInBounds_toArray, List.set_cons_zero, List.set_cons_succ]
  refine wpQuiet_val (by kernel_rfl) (.agg #[.int .u64 (Gold.vF (-(⟨1, 3⟩ : Gold.E2)).A), .int .u64 (Gold.vF (-(⟨1, 3⟩ : Gold.E2)).B)]) (fun v hv => (xo_loadW b23 _ (heap_keep (heap_keep Fv86_23.out C21_24.out) (laterF hv)) Try.underlying31 rfl (by kernel_rfl) rfl rfl)) ?_
  simp only [Act.put, List.setIfInBounds_toArray, List.set_cons_zero, List.set_cons_succ]
  refine wpQuiet_val (by kernel_rfl) (.agg #[.int .u64 1, .int .u64 3]) (fun v hv => (by unfold execOp; go_simp)) ?_
  simp only [Act.put, List.setIfInBounds_toArray, List.set_cons_zero, List.set_cons_succ]
  refine wpQuiet_nil ?_
  refine wpF_call 36 Try.func36 (by kernel_rfl) (by kernel_rfl) _ _ #[.agg #[.int .u64 1, .int .u64 3]] rfl (by kernel_rfl) (by kernel_rfl) HF36.out (fun V37 hb => ?_)
  have B36 := Lib.hid hb
  have HF37 := Lib.hid (HF36.out.ext hb)
  clear hb
  refine (J.rNeg_any ⟨1, 3⟩ V37).mono ?_
  rintro e V38 ⟨rfl, hb⟩
  have B37 := Lib.hid hb
  have HF38 := Lib.hid (HF37.out.ext hb)
  refine ⟨_, rfl, hb, ?_⟩
  clear hb 
  simp only [Act.put, List.setIfInBounds_toArray, List.set_cons_zero, List.set_cons_succ]
  refine wpF_seg 11 (by kernel_rfl) ?_
  simp only [List.take_succ_cons, List.take_zero, List.drop_succ_cons, List.drop_zero]
  refine wpQuiet_val (by kernel_rfl) (.bool true) (fun v hv => (exec_eqXt _ _ rfl rfl rfl)) ?_
  simp only [Act.put, List.setIfInBounds_toArray, List.set_cons_zero, List.set_cons_succ]
  refine wpQuiet_val (by kernel_rfl) (.bool true) (fun v hv => rfl) ?_
  simp only [Act.put, List.setIfInBounds_toArray, List.set_cons_zero, List.set_cons_succ]
  refine wpQuiet_val (by kernel_rfl) (.bool true) (fun v hv => rfl) ?_
  simp only [Act.put, List.setIfInBounds_toArray, List.set_cons_zero, List.set_cons_succ]
  refine wpQuiet_val (by kernel_rfl) (.int .i64 0) (fun v hv => rfl) ?_
  simp only [Act.put, List.setIfInBounds_toArray, List.set_cons_zero, List.set_cons_succ]
  refine wpQuiet_val (by kernel_rfl) (.bool true) (fun v hv => (xo_eqlT .i64 0 0 (by omega) rfl rfl rfl)) ?_
  simp only [Act.put, List.setIfInBounds_toArray, List.set_cons_zero, List.set_cons_succ]
  refine wpQuiet_val (by kernel_rfl) (.bool true) (fun v hv => rfl) ?_
  simp only [Act.put, List.setIfInBounds_toArray, List.set_cons_zero, List.set_cons_succ]
  refine wpQuiet_val (by kernel_rfl) (.bool true) (fun v hv => rfl) ?_
  simp only [Act.put, List.setIfInBounds_toArray, List.set_cons_zero, List.set_cons_succ]
  refine wpQuiet_val (by kernel_rfl) (.int .i64 1) (fun v hv => rfl) ?_
  simp only [Act.put, List.setIfInBounds_toArray, List.set_cons_zero, List.set_cons_succ]
  refine wpQuiet_val (by kernel_rfl) (.bool true) (fun v hv => (xo_eqlT .i64 1 1 (by omega) rfl rfl rfl)) ?_
  simp only [Act.put, List.setIfInBounds_toArray, List.set_cons_zero, List.set_cons_succ]
  refine wpQuiet_val (by kernel_rfl) (.bool true) (fun v hv => rfl) ?_
  simp only [Act.put, List.setIfInBounds_toArray, List.set_cons_zero, List.set_cons_succ]
  refine wpQuiet_val (by kernel_rfl) (.bool true) (fun v hv => rfl) ?_
  simp only [Act.put, List.setIfInBounds_toArray, List.set_cons_zero, List.set_cons_succ]
  refine wpQuiet_nil ?_
  refine wpF_call 33 Try.func33 (by kernel_rfl) (by kernel_rfl) _ _ #[.int .i64 4, .int .i64 4] rfl (by kernel_rfl) (by kernel_rfl) HF38.out (fun V39 hb => ?_)
  have B38 := Lib.hid hb
  have HF39 := Lib.hid (HF38.out.ext hb)
  clear hb
  refine (minDistance_any 4 4 (by omega) (by omega) V39).mono ?_
  rintro e V40 ⟨rfl, hb⟩
  have B39 := Lib.hid hb
  have HF40 := Lib.hid (HF39.out.ext hb)
  refine ⟨_, rfl, hb, ?_⟩
  clear hb 
  simp only [Act.put, List.setIfInBounds_toArray, List.set_cons_zero, List.set_cons_succ]
  refine wpF_seg 3 (by kernel_rfl) ?_
  simp only [List.take_succ_cons, List.take_zero, List.drop_succ_cons, List.drop_zero]
  refine wpQuiet_val (by kernel_rfl) (.bool true) (fun v hv => (xo_eqlT .i64 13 13 (by omega) rfl rfl rfl)) ?_
  simp only [Act.put, List.setIfInBounds_toArray, List.set_cons_zero, List.set_cons_succ]
  refine wpQuiet_val (by kernel_rfl) (.bool true) (fun v hv => rfl) ?_
  simp only [Act.put, List.setIfInBounds_toArray, List.set_cons_zero, List.set_cons_succ]
  refine wpQuiet_val (by kernel_rfl) (.bool true) (fun v hv => rfl) ?_
  simp only [Act.put, List.setIfInBounds_toArray, List.set_cons_zero, List.set_cons_succ]
  refine wpQuiet_nil ?_
  refine wpF_make (.cells ([(1 : Gold.F), (2 : Gold.F), (3 : Gold.F)].flatMap feC).toArray 29, fun b => .slice (some ⟨b, 0, none⟩) 3 3) (by kernel_rfl) (by kernel_rfl) (by kernel_rfl) (fun V => xg_lit (E := feC) (bytes := 8) (.int .u64 0) [.const (.int .u64 1), .const (.int .u64 2), .const (.int .u64 3)] [(1 : Gold.F), (2 : Gold.F), (3 : Gold.F)] 3 Try.underlying22 (by kernel_rfl) rfl (by decide) (by decide) rfl rfl) (fun g171 V41 hb h0 hbz => ?_)
  have Ge167 : Hid (X24_118.heap.size ≤ g171) := Lib.hid hbz
  have B40 := Lib.hid hb
  have HF41 := Lib.hid (HF40.out.ext hb)
  have Fv168_171 : Hid (RowG feC V41 g171 29 ([(1 : Gold.F), (2 : Gold.F), (3 : Gold.F)])) := Lib.hid (h0)
  have N169 : Hid (g28 ≠ g171) := Lib.hid (Nat.ne_of_lt (Nat.lt_of_lt_of_le (xp_lt (Fv1_28.out.keep C1_24.out)) hbz))
  have N170 : Hid (g33 ≠ g171) := Lib.hid (Nat.ne_of_lt (Nat.lt_of_lt_of_le (xp_lt (Fv5_33.out.keep C3_24.out)) hbz))
  have N171 : Hid (g42 ≠ g171) := Lib.hid (Nat.ne_of_lt (Nat.lt_of_lt_of_le (xp_lt (Fv10_42.out.keep C5_24.out)) hbz))
  have N172 : Hid (g48 ≠ g171) := Lib.hid (Nat.ne_of_lt (Nat.lt_of_lt_of_le (xp_lt (Fv16_48.out.keep C7_24.out)) hbz))
  have N173 : Hid (g54 ≠ g171) := Lib.hid (Nat.ne_of_lt (Nat.lt_of_lt_of_le (xp_lt (Fv23_54.out.keep C9_24.out)) hbz))
  have N174 : Hid (g59 ≠ g171) := Lib.hid (Nat.ne_of_lt (Nat.lt_of_lt_of_le (xp_lt (Fv31_59.out.keep C11_24.out)) hbz))
  have N175 : Hid (g64 ≠ g171) := Lib.hid (Nat.ne_of_lt (Nat.lt_of_lt_of_le (xp_lt (Fv40_64.out.keep C13_24.out)) hbz))
  have N176 : Hid (g69 ≠ g171) := Lib.hid (Nat.ne_of_lt (Nat.lt_of_lt_of_le (xp_lt (Fv50_69.out.keep C15_24.out)) hbz))
  have N177 : Hid (g74 ≠ g171) := Lib.hid (Nat.ne_of_lt (Nat.lt_of_lt_of_le (xp_lt (Fv61_74.out.keep C17_24.out)) hbz))
  have N178 : Hid (g81 ≠ g171) := Lib.hid (Nat.ne_of_lt (Nat.lt_of_lt_of_le (xp_lt (Fv73_81.out.keep C19_24.out)) hbz))
  have N179 : Hid (b23 ≠ g171) := Lib.hid (Nat.ne_of_lt (Nat.lt_of_lt_of_le (xp_lt (heap_keep Fv86_23.out C21_24.out)) hbz))
  have N180 : Hid (g88 ≠ g171) := Lib.hid (Nat.ne_of_lt (Nat.lt_of_lt_of_le (xp_lt (Fv101_88.out.keep C22_24.out)) hbz))
  have N181 : Hid (b25 ≠ g171) := Lib.hid (Nat.ne_of_lt (Nat.lt_of_lt_of_le (xp_lt Fv116_25.out) hbz))
  clear hb h0 hbz
  simp only [ptr, Act.put, List.setIfInBounds_toArray, List.set_cons_zero, List.set_cons_succ]
  refine wpF_make (.cells ([(1 : Gold.F), (4 : Gold.F)].flatMap feC).toArray 29, fun b => .slice (some ⟨b, 0, none⟩) 2 2) (by kernel_rfl) (by kernel_rfl) (by kernel_rfl) (fun V => xg_lit (E := feC) (bytes := 8) (.int .u64 0) [.const (.int .u64 1), .const (.int .u64 4)] [(1 : Gold.F), (4 : Gold.F)] 2 Try.underlying22 (by kernel_rfl) rfl (by decide) (by decide) rfl rfl) (fun g172 V42 hb h0 hbz => ?_)
  have Ge185 : Hid (X24_118.heap.size ≤ g172) := Lib.hid hbz
  have B41 := Lib.hid hb
  have HF42 := Lib.hid (HF41.out.ext hb)
  have Fv186_172 : Hid (RowG feC V42 g172 29 ([(1 : Gold.F), (4 : Gold.F)])) := Lib.hid (h0)
  have N187 : Hid (g28 ≠ g172) := Lib.hid (Nat.ne_of_lt (Nat.lt_of_lt_of_le (xp_lt (Fv1_28.out.keep C1_24.out)) hbz))
  have N188 : Hid (g33 ≠ g172) := Lib.hid (Nat.ne_of_lt (Nat.lt_of_lt_of_le (xp_lt (Fv5_33.out.keep C3_24.out)) hbz))
  have N189 : Hid (g42 ≠ g172) := Lib.hid (Nat.ne_of_lt (Nat.lt_of_lt_of_le (xp_lt (Fv10_42.out.keep C5_24.out)) hbz))
  have N190 : Hid (g48 ≠ g172) := Lib.hid (Nat.ne_of_lt (Nat.lt_of_lt_of_le (xp_lt (Fv16_48.out.keep C7_24.out)) hbz))
  have N191 : Hid (g54 ≠ g172) := Lib.hid (Nat.ne_of_lt (Nat.lt_of_lt_of_le (xp_lt (Fv23_54.out.keep C9_24.out)) hbz))
  have N192 : Hid (g59 ≠ g172) := Lib.hid (Nat.ne_of_lt (Nat.lt_of_lt_of_le (xp_lt (Fv31_59.out.keep C11_24.out)) hbz))
  have N193 : Hid (g64 ≠ g172) := Lib.hid (Nat.ne_of_lt (Nat.lt_of_lt_of_le (xp_lt (Fv40_64.out.keep C13_24.out)) hbz))
  have N194 : Hid (g69 ≠ g172) := Lib.hid (Nat.ne_of_lt (Nat.lt_of_lt_of_le (xp_lt (Fv50_69.out.keep C15_24.out)) hbz))
  have N195 : Hid (g74 ≠ g172) := Lib.hid (Nat.ne_of_lt (Nat.lt_of_lt_of_le (xp_lt (Fv61_74.out.keep C17_24.out)) hbz))
  have N196 : Hid (g81 ≠ g172) := Lib.hid (Nat.ne_of_lt (Nat.lt_of_lt_of_le (xp_lt (Fv73_81.out.keep C19_24.out)) hbz))
  have N197 : Hid (b23 ≠ g172) := Lib.hid (Nat.ne_of_lt (Nat.lt_of_lt_of_le (xp_lt (heap_keep Fv86_23.out C21_24.out)) hbz))
  have N198 : Hid (g88 ≠ g172) := Lib.hid (Nat.ne_of_lt (Nat.lt_of_lt_of_le (xp_lt (Fv101_88.out.keep C22_24.out)) hbz))
  have N199 : Hid (b25 ≠ g172) := Lib.hid (Nat.ne_of_lt (Nat.lt_of_lt_of_le (xp_lt Fv116_25.out) hbz))
  clear hb h0 hbz
  simp only [ptr, Act.put, List.setIfInBounds_toArray, List.set_cons_zero, List.set_cons_succ]
  refine wpF_call 19 Try.func19 (by kernel_rfl) (by kernel_rfl) _ _ #[.slice (some ⟨g171, 0, none⟩) 3 3, .slice (some ⟨g172, 0, none⟩) 2 2] rfl (by kernel_rfl) (by kernel_rfl) HF42.out (fun V43 hb => ?_)
  have B42 := Lib.hid hb
  have HF43 := Lib.hid (HF42.out.ext hb)
  clear hb
  have C41_43 := Lib.hid (bel_step B41.out B42.out)
  refine (distance_any (some ⟨g171, 0, none⟩) 3 3 [(1 : Gold.F), (2 : Gold.F), (3 : Gold.F)] (some ⟨g172, 0, none⟩) 2 2 [(1 : Gold.F), (4 : Gold.F)] (by omega) (by omega) V43 (RowG.sg (n := 3) (c := 3) (Fv168_171.out.keep C41_43.out) (show ([(1 : Gold.F), (2 : Gold.F), (3 : Gold.F)]).length = 3 from rfl) (Nat.le_refl _) (by omega)) (RowG.sg (n := 2) (c := 2) (Fv186_172.out.keep B42.out) (show ([(1 : Gold.F), (4 : Gold.F)]).length = 2 from rfl) (Nat.le_refl _) (by omega))).mono ?_
  rintro e V44 ⟨rfl, hb⟩
  have B43 := Lib.hid hb
  have HF44 := Lib.hid (HF43.out.ext hb)
  rw [show dstF [(1 : Gold.F), (2 : Gold.F), (3 : Gold.F)] [(1 : Gold.F), (4 : Gold.F)] = 2 by decide]
  refine ⟨_, rfl, hb, ?_⟩
  clear hb 
  simp only [Act.put, List.setIfInBounds_toArray, List.set_cons_zero, List.set_cons_succ]
  refine wpF_seg 3 (by kernel_rfl) ?_
  simp only [List.take_succ_cons, List.take_zero, List.drop_succ_cons, List.drop_zero]
  refine wpQuiet_val (by kernel_rfl) (.bool true) (fun v hv => (xo_eqlT .i64 2 2 (by omega) rfl rfl rfl)) ?_
  simp only [Act.put, List.setIfInBounds_toArray, List.set_cons_zero, List.set_cons_succ]
  refine wpQuiet_val (by kernel_rfl) (.bool true) (fun v hv => rfl) ?_
  simp only [Act.put, List.setIfInBounds_toArray, List.set_cons_zero, List.set_cons_succ]
  refine wpQuiet_val (by kernel_rfl) (.bool true) (fun v hv => rfl) ?_
  simp only [Act.put, List.setIfInBounds_toArray, List.set_cons_zero, List.set_cons_succ]
  refine wpQuiet_nil ?_
  refine wpF_nil (fun V45 hb => ?_)
  have B44 := Lib.hid hb
  clear hb
  clear HF25
  clear HF26
  clear HF27
  clear HF28
  clear HF29
  clear HF30
  clear HF31
  clear HF32
  clear HF33
  clear HF34
  clear HF35
  clear HF36
  clear HF37
  clear HF38
  clear HF39
  clear HF40
  clear HF41
  clear HF42
  clear HF43
  clear HF44
  go_wp2_with fail
  go_ret
  have C0_2 := Lib.hid (bel_step B0.out B1.out)
  have C0_3 := Lib.hid (bel_step C0_2.out B2.out)
  have C0_4 := Lib.hid (bel_step C0_3.out B3.out)
  have C0_5 := Lib.hid (bel_step C0_4.out B4.out)
  have C0_6 := Lib.hid (bel_step C0_5.out B5.out)
  have C0_7 := Lib.hid (bel_step C0_6.out B6.out)
  have C0_8 := Lib.hid (bel_step C0_7.out B7.out)
  have C0_9 := Lib.hid (bel_step C0_8.out B8.out)
  have C0_10 := Lib.hid (bel_step C0_9.out B9.out)
  have C0_11 := Lib.hid (bel_step C0_10.out B10.out)
  have C0_12 := Lib.hid (bel_step C0_11.out B11.out)
  have C0_13 := Lib.hid (bel_step C0_12.out B12.out)
  have C0_14 := Lib.hid (bel_step C0_13.out B13.out)
  have C0_15 := Lib.hid (bel_step C0_14.out B14.out)
  have C0_16 := Lib.hid (bel_step C0_15.out B15.out)
  have C0_17 := Lib.hid (bel_step C0_16.out B16.out)
  have C0_18 := Lib.hid (bel_step C0_17.out B17.out)
  have C0_19 := Lib.hid (bel_step C0_18.out B18.out)
  have C0_20 := Lib.hid (bel_step C0_19.out B19.out)
  have C0_21 := Lib.hid (bel_step C0_20.out B20.out)
  have C0_22 := Lib.hid (bel_step C0_21.out B21.out)
  have C0_23 := Lib.hid (bel_step C0_22.out B22.out)
  have C0_24 := Lib.hid (bel_step C0_23.out B23.out)
  have C0_25 := Lib.hid (bel_step C0_24.out B24.out)
  have C0_26 := Lib.hid (bel_step C0_25.out B25.out)
  have C0_27 := Lib.hid (bel_step C0_26.out B26.out)
  have C0_28 := Lib.hid (bel_step C0_27.out B27.out)
  have C0_29 := Lib.hid (bel_step C0_28.out B28.out)
  have C0_30 := Lib.hid (bel_step C0_29.out B29.out)
  have C0_31 := Lib.hid (bel_step C0_30.out B30.out)
  have C0_32 := Lib.hid (bel_step C0_31.out B31.out)
  have C0_33 := Lib.hid (bel_step C0_32.out B32.out)
  have C0_34 := Lib.hid (bel_step C0_33.out B33.out)
  have C0_35 := Lib.hid (bel_step C0_34.out B34.out)
  have C0_36 := Lib.hid (bel_step C0_35.out B35.out)
  have C0_37 := Lib.hid (bel_step C0_36.out B36.out)
  have C0_38 := Lib.hid (bel_step C0_37.out B37.out)
  have C0_39 := Lib.hid (bel_step C0_38.out B38.out)
  have C0_40 := Lib.hid (bel_step C0_39.out B39.out)
  have C0_41 := Lib.hid (bel_step C0_40.out B40.out)
  have C0_42 := Lib.hid (bel_step C0_41.out B41.out)
  have C0_43 := Lib.hid (bel_step C0_42.out B42.out)
  have C0_44 := Lib.hid (bel_step C0_43.out B43.out)
  have C0_45 := Lib.hid (bel_step C0_44.out B44.out)
  exact ⟨rfl, C0_45.out⟩
end Go.Proofs.Ytkefijogpiofbaa

