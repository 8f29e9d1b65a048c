/- Several texts in one: Ycv. -/
import Derived.Test.YtbecajihgbbgjaaDoorG05
import Derived.Test.YtbecajihgbbgjaaDoorG10
set_option linter.unusedVariables false
set_option linter.unusedSimpArgs false
set_option linter.unusedSectionVars false
namespace Go.Proofs.YtbecajihgbbgjaaDoor
set_option maxRecDepth 8000
open Go.RowKit Go.Proofs.YtbecajihgbbgjaaDoor.K
attribute [local irreducible] wpList wpQuiet
theorem sgE {α : Type} {E : α → List Value} {k : Nat} (w : World) (A : Option Addr) : Sg E k w A 0 0 ([] : List α) := ⟨rfl, Nat.le_refl _, by omega, fun _ => rfl, fun i x h => by simp at h⟩
set_option maxRecDepth 100000 in
set_option maxHeartbeats 16000000 in
theorem simple_as (kd col k : Int) (w : World) : Calls Tryd.prog 28 #[.int .i64 kd, .int .i64 col, .int .i64 k] w fun e w' => ∃ g A, e = .returned (.agg #[.int .i64 kd, .int .i64 col, .int .i64 k, .slice (some ⟨g, 0, none⟩) 1 1]) ∧ w.heap.size ≤ g ∧ RowG hdC w' g 44 [Hd.mk A 0 0] ∧ Below w.heap.size w w' := by
 go_enter Tryd.func28, Tryd.ntmps28
 go_upto_region 1 with fail
 refine wp_named1 (fun V1 hb g0 hlt => ?_)
 have B0 := zh hb
 have Fv0_6 : Hid (V1.heap[w.heap.size]? = some (.cells #[.int .i64 0, .int .i64 0, .int .i64 0, .slice none 0 0] 24 (0, 0))) := zh (g0)
 have Gb0 : Hid (w.heap.size ≤ w.heap.size) := zh (by omega)
 clear hb g0 hlt
 have Lt0 : Hid (w.heap.size < V1.heap.size) := zh (xp_lt Fv0_6.out)
 refine wp_region_lit ?_
 refine zr (.int .i64 kd) V1 rfl ?_
 simp only [Act.put, zA]
 refine zr (.int .i64 col) V1 rfl ?_
 simp only [Act.put, zA]
 refine zr (.int .i64 k) V1 rfl ?_
 simp only [Act.put, zA]
 refine wpList_mk (by kernel_rfl) #[] 49 0 0 (xo_empty (size := 3) Tryd.underlying44 (by kernel_rfl) rfl V1) ?_
 intro g10 V2 hge h0 hb
 have N1_0 : Hid (w.heap.size ≠ g10) := zh (xp_lt0 Fv0_6.out hge)
 have Ge2 : Hid (V1.heap.size ≤ g10) := zh hge
 have B1 := zh hb
 have Fv3_10 : Hid (RowG ciC V2 g10 49 ([])) := zh (h0)
 have Lt4 : Hid (g10 < V2.heap.size) := zh (xp_lt Fv3_10.out)
 clear hge h0 hb
 simp only [ptr, Act.put, zA]
 refine wpList_mk (by kernel_rfl) ([(Hd.mk (some ⟨g10, 0, none⟩) 0 0)].flatMap hdC).toArray 44 1 1 (xg_lit (E := hdC) (bytes := 24) (.slice none 0 0) [.tmp 10] [(Hd.mk (some ⟨g10, 0, none⟩) 0 0)] 1 Tryd.underlying22 (by kernel_rfl) rfl (by decide) (by decide) rfl rfl) ?_
 intro g11 V3 hge h0 hb
 have N5_0 : Hid (w.heap.size ≠ g11) := zh (xp_lt0 (heap_keep Fv0_6.out B1.out) hge)
 have N6_1 : Hid (g10 ≠ g11) := zh (xp_lt0 Fv3_10.out hge)
 have Ge7 : Hid (V2.heap.size ≤ g11) := zh hge
 have B2 := zh hb
 have Fv8_11 : Hid (RowG hdC V3 g11 44 ([(Hd.mk (some ⟨g10, 0, none⟩) 0 0)])) := zh (h0)
 have Lt9 : Hid (g11 < V3.heap.size) := zh (xp_lt Fv8_11.out)
 clear hge h0 hb
 simp only [ptr, Act.put, zA]
 refine zr (.agg #[.int .i64 kd, .int .i64 col, .int .i64 k, .slice (some ⟨g11, 0, none⟩) 1 1]) V3 (by unfold execOp; go_simp <;> rfl) ?_
 simp only [Act.put, zA]
 have C1_3 := zb B1 B2
 refine wpList_storeW w.heap.size #[.int .i64 0, .int .i64 0, .int .i64 0, .slice none 0 0] #[.int .i64 kd, .int .i64 col, .int .i64 k, .slice (some ⟨g11, 0, none⟩) 1 1] 24 (by kernel_rfl) (heap_keep Fv0_6.out C1_3.out) (xo_storeW w.heap.size #[.int .i64 0, .int .i64 0, .int .i64 0, .slice none 0 0] #[.int .i64 kd, .int .i64 col, .int .i64 k, .slice (some ⟨g11, 0, none⟩) 1 1] (heap_keep Fv0_6.out C1_3.out) (by kernel_rfl) rfl (by simp [Value.oneCell']) rfl rfl rfl) ?_
 intro X3_10 h1 hfar hbel hsz
 have YFv3_10 : RowG ciC X3_10 g10 49 ([]) := hfar _ _ (Ne.symm N1_0.out) (Fv3_10.out.keep B2.out)
 have YFv8_11 : RowG hdC X3_10 g11 44 ([(Hd.mk (some ⟨g10, 0, none⟩) 0 0)]) := hfar _ _ (Ne.symm N5_0.out) Fv8_11.out
 have Gs11 : Hid (w.heap.size ≤ g10) := zh (Nat.le_trans B0.out.size Ge2.out)
 have C0_2 := zb B0 B1
 have Gs12 : Hid (w.heap.size ≤ g11) := zh (Nat.le_trans C0_2.out.size Ge7.out)
 have C0_3 := zb C0_2 B2
 have hbr := hbel _ _ Gb0.out C0_3.out
 clear B0
 have B0 := zh hbr
 clear hbr
 clear Fv3_10
 have Fv3_10 : Hid (RowG ciC X3_10 g10 49 ([])) := zh YFv3_10
 clear YFv3_10
 clear Fv8_11
 have Fv8_11 : Hid (RowG hdC X3_10 g11 44 ([(Hd.mk (some ⟨g10, 0, none⟩) 0 0)])) := zh YFv8_11
 clear YFv8_11
 clear Fv0_6
 have Fv0_6 : Hid (X3_10.heap[w.heap.size]? = some (.cells #[.int .i64 kd, .int .i64 col, .int .i64 k, .slice (some ⟨g11, 0, none⟩) 1 1] 24 (0, 0))) := zh (h1)
 have HszX3_10 := zh hsz
 clear h1 hfar hbel hsz
 simp only [ptr, Act.put, zA]
 refine wpList_nil ?_
 have hbf := B0.out
 have hge := Gs12.out
 have hrw := Fv8_11.out
 go_wp2_with fail
 refine bodyPost_ret (v := .agg #[.int .i64 kd, .int .i64 col, .int .i64 k, .slice (some ⟨g11, 0, none⟩) 1 1]) ?_ rfl ⟨g11, _, rfl, hge, hrw, hbf⟩
 exact results_cell_row rfl _ _ w.heap.size 24 _ (0, 0) _ rfl Fv0_6.out Tryd.underlying24 rfl (by kernel_rfl)
set_option maxRecDepth 100000 in
set_option maxHeartbeats 64000000 in
theorem sanity14_as (w : World) (hG : Gw5 w) (hC : Gc w) : Calls Tryd.prog 10 #[] w fun e w' => e = .returned (.bool true) ∧ Below w.heap.size w w' := by
 have HG := zh hG
 have HGC := zh hC
 clear hG hC
 go_enter Tryd.func10, Tryd.ntmps10
 go_upto_region 1 with fail
 refine wp_region_lit ?_
 refine wpList_call (by kernel_rfl) 28 Tryd.func28 (by kernel_rfl) (by kernel_rfl) _ _ #[.int .i64 2, .int .i64 3, .int .i64 0] rfl (by kernel_rfl) ?_
 refine (simple_as 2 3 0 w).mono ?_
 rintro e V1 ⟨q0g, q0A, rfl, hge, hrw, hb⟩
 have Ge0 : Hid (w.heap.size ≤ q0g) := zh hge
 have B0 := zh hb
 have Fv1_x : Hid (RowG hdC V1 q0g 44 ([Hd.mk q0A 0 0])) := zh (hrw)
 have Lt2 : Hid (q0g < V1.heap.size) := zh (xp_lt Fv1_x.out)
 clear hge hrw hb
 refine ⟨_, rfl, ?_⟩
 simp only [Act.put, zA]
 refine wpList_call (by kernel_rfl) 11 Tryd.func11 (by kernel_rfl) (by kernel_rfl) _ _ #[.agg #[.int .i64 2, .int .i64 3, .int .i64 0, .slice (some ⟨q0g, 0, none⟩) 1 1], .int .i64 100] rfl (by kernel_rfl) ?_
 refine (check_ok 2 3 0 (some ⟨q0g, 0, none⟩) 1 1 [Hd.mk q0A 0 0] [[]] ⟨by decide, by decide, fun _ => by decide, fun h => absurd h (by decide), fun h => by revert h; decide, fun h => by revert h; decide, rfl, fun l hl => by simp only [List.mem_cons, List.not_mem_nil, or_false] at hl; subst hl; exact ⟨by decide, fun c hc => by simp at hc <;> (subst hc; exact ⟨by decide, by decide, by decide⟩)⟩⟩ 100 (by decide) ([25500], 0) (by decide +kernel) V1 (fsR1 (RowG.sg (n := 1) (c := 1) Fv1_x.out (show ([Hd.mk q0A 0 0]).length = 1 from rfl) (Nat.le_refl _) (by omega)) (sgE V1 _)) (HG.out.keep B0.out) (HGC.out.keep B0.out)).mono ?_
 rintro e V2 ⟨rA0, rn0, rc0, rfl, hsg, hb⟩
 have B1 := zh hb
 have HS0 := zh hsg
 clear hb hsg
 refine ⟨_, rfl, ?_⟩
 simp only [Act.put, zA]
 refine zr (.tuple #[.agg #[.slice rA0 rn0 rc0], .int .i64 0]) V2 rfl ?_
 simp only [Act.put, zA]
 refine zr (.agg #[.slice rA0 rn0 rc0]) V2 rfl ?_
 simp only [Act.put, zA]
 refine zr (.int .i64 0) V2 rfl ?_
 simp only [Act.put, zA]
 refine wpList_new #[.slice none 0 0] 29 (by kernel_rfl) (xo_alloc #[.slice none 0 0] (by kernel_rfl) rfl) ?_
 intro b1 V3 hge h0 hb
 have N3_0 : Hid (q0g ≠ b1) := zh (xp_lt0 (Fv1_x.out.keep B1.out) hge)
 have Ge4 : Hid (V2.heap.size ≤ b1) := zh hge
 have B2 := zh hb
 have Fv5_1 : Hid (V3.heap[b1]? = some (.cells #[.slice none 0 0] 29 (0, 0))) := zh (h0)
 have Lt6 : Hid (b1 < V3.heap.size) := zh (xp_lt Fv5_1.out)
 clear hge h0 hb
 simp only [ptr, Act.put, zA]
 refine wpList_storeW b1 #[.slice none 0 0] #[.slice rA0 rn0 rc0] 29 (by kernel_rfl) Fv5_1.out (xo_storeW b1 #[.slice none 0 0] #[.slice rA0 rn0 rc0] Fv5_1.out (by kernel_rfl) rfl (by simp [Value.oneCell']) rfl rfl rfl) ?_
 intro X3_7 h1 hfar hbel hsz
 have hbr := hbel _ _ Ge4.out B2.out
 clear B2
 have B2 := zh hbr
 clear hbr
 clear Fv5_1
 have Fv5_1 : Hid (X3_7.heap[b1]? = some (.cells #[.slice rA0 rn0 rc0] 29 (0, 0))) := zh (h1)
 have HszX3_7 := zh hsz
 clear h1 hfar hbel hsz
 simp only [ptr, Act.put, zA]
 refine zr (.int .i64 0) X3_7 rfl ?_
 simp only [Act.put, zA]
 refine wpList_nil ?_
 go_upto_region 2 with fail
 refine wp_region_lit ?_
 refine wpList_call (by kernel_rfl) 28 Tryd.func28 (by kernel_rfl) (by kernel_rfl) _ _ #[.int .i64 2, .int .i64 3, .int .i64 0] rfl (by kernel_rfl) ?_
 refine (simple_as 2 3 0 X3_7).mono ?_
 rintro e V4 ⟨q1g, q1A, rfl, hge, hrw, hb⟩
 have C1_3 := zb B1 B2
 have N8_0 : Hid (q0g ≠ q1g) := zh (xp_lt0 (Fv1_x.out.keep C1_3.out) hge)
 have N9_1 : Hid (b1 ≠ q1g) := zh (xp_lt0 Fv5_1.out hge)
 have Ge10 : Hid (X3_7.heap.size ≤ q1g) := zh hge
 have B3 := zh hb
 have Fv11_x : Hid (RowG hdC V4 q1g 44 ([Hd.mk q1A 0 0])) := zh (hrw)
 have Lt12 : Hid (q1g < V4.heap.size) := zh (xp_lt Fv11_x.out)
 clear hge hrw hb
 refine ⟨_, rfl, ?_⟩
 simp only [Act.put, zA]
 refine wpList_new #[.int .i64 0, .int .i64 0, .int .i64 0, .slice none 0 0] 24 (by kernel_rfl) (xo_alloc #[.int .i64 0, .int .i64 0, .int .i64 0, .slice none 0 0] (by kernel_rfl) rfl) ?_
 intro b3 V5 hge h0 hb
 have C1_4 := zb C1_3 B3
 have N13_0 : Hid (q0g ≠ b3) := zh (xp_lt0 (Fv1_x.out.keep C1_4.out) hge)
 have N14_1 : Hid (b1 ≠ b3) := zh (xp_lt0 (heap_keep Fv5_1.out B3.out) hge)
 have N15_2 : Hid (q1g ≠ b3) := zh (xp_lt0 Fv11_x.out hge)
 have Ge16 : Hid (V4.heap.size ≤ b3) := zh hge
 have B4 := zh hb
 have Fv17_3 : Hid (V5.heap[b3]? = some (.cells #[.int .i64 0, .int .i64 0, .int .i64 0, .slice none 0 0] 24 (0, 0))) := zh (h0)
 have Lt18 : Hid (b3 < V5.heap.size) := zh (xp_lt Fv17_3.out)
 clear hge h0 hb
 simp only [ptr, Act.put, zA]
 refine wpList_storeW b3 #[.int .i64 0, .int .i64 0, .int .i64 0, .slice none 0 0] #[.int .i64 2, .int .i64 3, .int .i64 0, .slice (some ⟨q1g, 0, none⟩) 1 1] 24 (by kernel_rfl) Fv17_3.out (xo_storeW b3 #[.int .i64 0, .int .i64 0, .int .i64 0, .slice none 0 0] #[.int .i64 2, .int .i64 3, .int .i64 0, .slice (some ⟨q1g, 0, none⟩) 1 1] Fv17_3.out (by kernel_rfl) rfl (by simp [Value.oneCell']) rfl rfl rfl) ?_
 intro X5_19 h1 hfar hbel hsz
 have hbr := hbel _ _ Ge16.out B4.out
 clear B4
 have B4 := zh hbr
 clear hbr
 clear Fv17_3
 have Fv17_3 : Hid (X5_19.heap[b3]? = some (.cells #[.int .i64 2, .int .i64 3, .int .i64 0, .slice (some ⟨q1g, 0, none⟩) 1 1] 24 (0, 0))) := zh (h1)
 have HszX5_19 := zh hsz
 clear h1 hfar hbel hsz
 simp only [ptr, Act.put, zA]
 refine wpList_nil ?_
 go_upto_region 3 with fail
 refine wp_region_lit ?_
 refine zr (.pointer (some ⟨b3, 3, none⟩)) X5_19 (xo_fld0 3 b3 3 (by kernel_rfl) rfl rfl) ?_
 simp only [Act.put, zA]
 refine zr (.slice (some ⟨q1g, 0, none⟩) 1 1) X5_19 (xo_load1 ⟨b3, 3, none⟩ _ (cells_at Fv17_3.out 3 rfl) Tryd.underlying22 rfl rfl rfl) ?_
 simp only [Act.put, zA]
 refine zr (.agg #[.int .i64 3, .int .i64 3, .int .i64 9]) X5_19 (by unfold execOp; go_simp <;> rfl) ?_
 simp only [Act.put, zA]
 refine wpList_mk (by kernel_rfl) ([(Qu.Ci.mk 3 3 9)].flatMap ciC).toArray 49 1 1 (xg_lit (E := ciC) (bytes := 24) (.agg #[.int .i64 0, .int .i64 0, .int .i64 0]) [.tmp 27] [(Qu.Ci.mk 3 3 9)] 1 Tryd.underlying44 (by kernel_rfl) rfl (by decide) (by decide) rfl rfl) ?_
 intro g28 V6 hge h0 hb
 have C1_5 := zb C1_4 B4
 have N20_0 : Hid (q0g ≠ g28) := zh (xp_lt0 (Fv1_x.out.keep C1_5.out) hge)
 have C3_5 := zb B3 B4
 have N21_1 : Hid (b1 ≠ g28) := zh (xp_lt0 (heap_keep Fv5_1.out C3_5.out) hge)
 have N22_2 : Hid (q1g ≠ g28) := zh (xp_lt0 (Fv11_x.out.keep B4.out) hge)
 have N23_3 : Hid (b3 ≠ g28) := zh (xp_lt0 Fv17_3.out hge)
 have Ge24 : Hid (X5_19.heap.size ≤ g28) := zh hge
 have B5 := zh hb
 have Fv25_28 : Hid (RowG ciC V6 g28 49 ([(Qu.Ci.mk 3 3 9)])) := zh (h0)
 have Lt26 : Hid (g28 < V6.heap.size) := zh (xp_lt Fv25_28.out)
 clear hge h0 hb
 simp only [ptr, Act.put, zA]
 have C4_6 := zb B4 B5
 refine zr (.pointer (some (gad (some ⟨q1g, 0, none⟩) (0 * 1)))) V6 (xg_idx .i64 (RowG.sg (n := 1) (c := 1) (Fv11_x.out.keep C4_6.out) (show ([Hd.mk q1A 0 0]).length = 1 from rfl) (Nat.le_refl _) (by omega)) (show ([Hd.mk q1A 0 0] : List Hd)[0]? = some _ from rfl) Tryd.underlying22 (by kernel_rfl) rfl rfl rfl) ?_
 simp only [Act.put, zA]
 refine wpList_storeW q1g _ _ 44 (by kernel_rfl) (RowG.h (Fv11_x.out.keep C4_6.out)) (xg_store (Fv11_x.out.keep C4_6.out) (List.getElem?_eq_some_iff.1 (show ([Hd.mk q1A 0 0] : List Hd)[0]? = some _ from rfl)).1 (Hd.mk (some ⟨g28, 0, none⟩) 1 1) (by kernel_rfl) rfl rfl rfl) ?_
 intro X6_27 h1 hfar hbel hsz
 have YFv17_3 : X6_27.heap[b3]? = some (.cells #[.int .i64 2, .int .i64 3, .int .i64 0, .slice (some ⟨q1g, 0, none⟩) 1 1] 24 (0, 0)) := hfar _ _ (Ne.symm N15_2.out) (heap_keep Fv17_3.out B5.out)
 have YFv25_28 : RowG ciC X6_27 g28 49 ([(Qu.Ci.mk 3 3 9)]) := hfar _ _ (Ne.symm N22_2.out) Fv25_28.out
 have Gs28 : Hid (X3_7.heap.size ≤ b3) := zh (Nat.le_trans B3.out.size Ge16.out)
 have Gs29 : Hid (X3_7.heap.size ≤ g28) := zh (Nat.le_trans C3_5.out.size Ge24.out)
 have C3_6 := zb C3_5 B5
 have hbr := hbel _ _ Ge10.out C3_6.out
 clear B3
 have B3 := zh hbr
 clear hbr
 clear Fv17_3
 have Fv17_3 : Hid (X6_27.heap[b3]? = some (.cells #[.int .i64 2, .int .i64 3, .int .i64 0, .slice (some ⟨q1g, 0, none⟩) 1 1] 24 (0, 0))) := zh YFv17_3
 clear YFv17_3
 clear Fv25_28
 have Fv25_28 : Hid (RowG ciC X6_27 g28 49 ([(Qu.Ci.mk 3 3 9)])) := zh YFv25_28
 clear YFv25_28
 clear Fv11_x
 have Fv11_x : Hid (RowG hdC X6_27 q1g 44 (([Hd.mk q1A 0 0]).set 0 (Hd.mk (some ⟨g28, 0, none⟩) 1 1))) := zh (h1)
 have HszX6_27 := zh hsz
 clear h1 hfar hbel hsz
 simp only [ptr, Act.put, zA]
 refine wpList_nil ?_
 have hz : RowG hdC X6_27 q1g 44 ([Hd.mk (some ⟨g28, 0, none⟩) 1 1]) := Fv11_x.out
 clear Fv11_x
 have Fv11_x := zh hz
 clear hz
 go_upto_region 4 with fail
 refine wp_region_lit ?_
 refine zr (.agg #[.int .i64 2, .int .i64 3, .int .i64 0, .slice (some ⟨q1g, 0, none⟩) 1 1]) X6_27 (xo_loadW b3 _ Fv17_3.out Tryd.underlying24 rfl (by kernel_rfl) rfl rfl) ?_
 simp only [Act.put, zA]
 have C0_2 := zb B0 B1
 have C0_3 := zb C0_2 B2
 have C0_4 := zb C0_3 B3
 refine wpList_call (by kernel_rfl) 11 Tryd.func11 (by kernel_rfl) (by kernel_rfl) _ _ #[.agg #[.int .i64 2, .int .i64 3, .int .i64 0, .slice (some ⟨q1g, 0, none⟩) 1 1], .int .i64 100] rfl (by kernel_rfl) ?_
 refine (check_ok 2 3 0 (some ⟨q1g, 0, none⟩) 1 1 [Hd.mk (some ⟨g28, 0, none⟩) 1 1] [[Qu.Cd.mk 3 3 9]] ⟨by decide, by decide, fun _ => by decide, fun h => absurd h (by decide), fun h => by revert h; decide, fun h => by revert h; decide, rfl, fun l hl => by simp only [List.mem_cons, List.not_mem_nil, or_false] at hl; subst hl; exact ⟨by decide, fun c hc => by simp at hc <;> (subst hc; exact ⟨by decide, by decide, by decide⟩)⟩⟩ 100 (by decide) ([900], 0) (by decide +kernel) X6_27 (fsR1 (RowG.sg (n := 1) (c := 1) Fv11_x.out (show ([Hd.mk (some ⟨g28, 0, none⟩) 1 1]).length = 1 from rfl) (Nat.le_refl _) (by omega)) (RowG.sg (n := 1) (c := 1) Fv25_28.out (show ([(Qu.Ci.mk 3 3 9)]).length = 1 from rfl) (Nat.le_refl _) (by omega))) (HG.out.keep C0_4.out) (HGC.out.keep C0_4.out)).mono ?_
 rintro e V5 ⟨rA1, rn1, rc1, rfl, hsg, hb⟩
 have B4 := zh hb
 have HS1 := zh hsg
 clear hb hsg
 refine ⟨_, rfl, ?_⟩
 simp only [Act.put, zA]
 refine zr (.tuple #[.agg #[.slice rA1 rn1 rc1], .int .i64 0]) V5 rfl ?_
 simp only [Act.put, zA]
 refine zr (.agg #[.slice rA1 rn1 rc1]) V5 rfl ?_
 simp only [Act.put, zA]
 refine zr (.int .i64 0) V5 rfl ?_
 simp only [Act.put, zA]
 refine wpList_new #[.slice none 0 0] 29 (by kernel_rfl) (xo_alloc #[.slice none 0 0] (by kernel_rfl) rfl) ?_
 intro b4 V6 hge h0 hb
 have C1_4 := zb C1_3 B3
 have C1_5 := zb C1_4 B4
 have N30_0 : Hid (q0g ≠ b4) := zh (xp_lt0 (Fv1_x.out.keep C1_5.out) hge)
 have C3_5 := zb B3 B4
 have N31_1 : Hid (b1 ≠ b4) := zh (xp_lt0 (heap_keep Fv5_1.out C3_5.out) hge)
 have N32_2 : Hid (q1g ≠ b4) := zh (xp_lt0 (Fv11_x.out.keep B4.out) hge)
 have N33_3 : Hid (b3 ≠ b4) := zh (xp_lt0 (heap_keep Fv17_3.out B4.out) hge)
 have N34_4 : Hid (g28 ≠ b4) := zh (xp_lt0 (heap_keep Fv25_28.out B4.out) hge)
 have Ge35 : Hid (V5.heap.size ≤ b4) := zh hge
 have B5 := zh hb
 have Fv36_4 : Hid (V6.heap[b4]? = some (.cells #[.slice none 0 0] 29 (0, 0))) := zh (h0)
 have Lt37 : Hid (b4 < V6.heap.size) := zh (xp_lt Fv36_4.out)
 clear hge h0 hb
 simp only [ptr, Act.put, zA]
 refine wpList_storeW b4 #[.slice none 0 0] #[.slice rA1 rn1 rc1] 29 (by kernel_rfl) Fv36_4.out (xo_storeW b4 #[.slice none 0 0] #[.slice rA1 rn1 rc1] Fv36_4.out (by kernel_rfl) rfl (by simp [Value.oneCell']) rfl rfl rfl) ?_
 intro X6_38 h1 hfar hbel hsz
 have hbr := hbel _ _ Ge35.out B5.out
 clear B5
 have B5 := zh hbr
 clear hbr
 clear Fv36_4
 have Fv36_4 : Hid (X6_38.heap[b4]? = some (.cells #[.slice rA1 rn1 rc1] 29 (0, 0))) := zh (h1)
 have HszX6_38 := zh hsz
 clear h1 hfar hbel hsz
 simp only [ptr, Act.put, zA]
 refine zr (.int .i64 0) X6_38 rfl ?_
 simp only [Act.put, zA]
 refine wpList_nil ?_
 go_upto_region 5 with fail
 refine wp_region_lit ?_
 refine wpList_call (by kernel_rfl) 28 Tryd.func28 (by kernel_rfl) (by kernel_rfl) _ _ #[.int .i64 3, .int .i64 3, .int .i64 6] rfl (by kernel_rfl) ?_
 refine (simple_as 3 3 6 X6_38).mono ?_
 rintro e V7 ⟨q2g, q2A, rfl, hge, hrw, hb⟩
 have C1_6 := zb C1_5 B5
 have N39_0 : Hid (q0g ≠ q2g) := zh (xp_lt0 (Fv1_x.out.keep C1_6.out) hge)
 have C3_6 := zb C3_5 B5
 have N40_1 : Hid (b1 ≠ q2g) := zh (xp_lt0 (heap_keep Fv5_1.out C3_6.out) hge)
 have C4_6 := zb B4 B5
 have N41_2 : Hid (q1g ≠ q2g) := zh (xp_lt0 (Fv11_x.out.keep C4_6.out) hge)
 have N42_3 : Hid (b3 ≠ q2g) := zh (xp_lt0 (heap_keep Fv17_3.out C4_6.out) hge)
 have N43_4 : Hid (g28 ≠ q2g) := zh (xp_lt0 (heap_keep Fv25_28.out C4_6.out) hge)
 have N44_5 : Hid (b4 ≠ q2g) := zh (xp_lt0 Fv36_4.out hge)
 have Ge45 : Hid (X6_38.heap.size ≤ q2g) := zh hge
 have B6 := zh hb
 have Fv46_x : Hid (RowG hdC V7 q2g 44 ([Hd.mk q2A 0 0])) := zh (hrw)
 have Lt47 : Hid (q2g < V7.heap.size) := zh (xp_lt Fv46_x.out)
 clear hge hrw hb
 refine ⟨_, rfl, ?_⟩
 simp only [Act.put, zA]
 have C0_5 := zb C0_4 B4
 have C0_6 := zb C0_5 B5
 have C0_7 := zb C0_6 B6
 refine wpList_call (by kernel_rfl) 11 Tryd.func11 (by kernel_rfl) (by kernel_rfl) _ _ #[.agg #[.int .i64 3, .int .i64 3, .int .i64 6, .slice (some ⟨q2g, 0, none⟩) 1 1], .int .i64 100] rfl (by kernel_rfl) ?_
 refine (check_ok 3 3 6 (some ⟨q2g, 0, none⟩) 1 1 [Hd.mk q2A 0 0] [[]] ⟨by decide, by decide, fun _ => by decide, fun h => absurd h (by decide), fun h => by revert h; decide, fun h => by revert h; decide, rfl, fun l hl => by simp only [List.mem_cons, List.not_mem_nil, or_false] at hl; subst hl; exact ⟨by decide, fun c hc => by simp at hc <;> (subst hc; exact ⟨by decide, by decide, by decide⟩)⟩⟩ 100 (by decide) ([27494199689062500], 0) (by decide +kernel) V7 (fsR1 (RowG.sg (n := 1) (c := 1) Fv46_x.out (show ([Hd.mk q2A 0 0]).length = 1 from rfl) (Nat.le_refl _) (by omega)) (sgE V7 _)) (HG.out.keep C0_7.out) (HGC.out.keep C0_7.out)).mono ?_
 rintro e V8 ⟨rA2, rn2, rc2, rfl, hsg, hb⟩
 have B7 := zh hb
 have HS2 := zh hsg
 clear hb hsg
 refine ⟨_, rfl, ?_⟩
 simp only [Act.put, zA]
 refine zr (.tuple #[.agg #[.slice rA2 rn2 rc2], .int .i64 0]) V8 rfl ?_
 simp only [Act.put, zA]
 refine zr (.agg #[.slice rA2 rn2 rc2]) V8 rfl ?_
 simp only [Act.put, zA]
 refine zr (.int .i64 0) V8 rfl ?_
 simp only [Act.put, zA]
 refine wpList_new #[.slice none 0 0] 29 (by kernel_rfl) (xo_alloc #[.slice none 0 0] (by kernel_rfl) rfl) ?_
 intro b6 V9 hge h0 hb
 have C1_7 := zb C1_6 B6
 have C1_8 := zb C1_7 B7
 have N48_0 : Hid (q0g ≠ b6) := zh (xp_lt0 (Fv1_x.out.keep C1_8.out) hge)
 have C3_7 := zb C3_6 B6
 have C3_8 := zb C3_7 B7
 have N49_1 : Hid (b1 ≠ b6) := zh (xp_lt0 (heap_keep Fv5_1.out C3_8.out) hge)
 have C4_7 := zb C4_6 B6
 have C4_8 := zb C4_7 B7
 have N50_2 : Hid (q1g ≠ b6) := zh (xp_lt0 (Fv11_x.out.keep C4_8.out) hge)
 have N51_3 : Hid (b3 ≠ b6) := zh (xp_lt0 (heap_keep Fv17_3.out C4_8.out) hge)
 have N52_4 : Hid (g28 ≠ b6) := zh (xp_lt0 (heap_keep Fv25_28.out C4_8.out) hge)
 have C6_8 := zb B6 B7
 have N53_5 : Hid (b4 ≠ b6) := zh (xp_lt0 (heap_keep Fv36_4.out C6_8.out) hge)
 have N54_6 : Hid (q2g ≠ b6) := zh (xp_lt0 (Fv46_x.out.keep B7.out) hge)
 have Ge55 : Hid (V8.heap.size ≤ b6) := zh hge
 have B8 := zh hb
 have Fv56_6 : Hid (V9.heap[b6]? = some (.cells #[.slice none 0 0] 29 (0, 0))) := zh (h0)
 have Lt57 : Hid (b6 < V9.heap.size) := zh (xp_lt Fv56_6.out)
 clear hge h0 hb
 simp only [ptr, Act.put, zA]
 refine wpList_storeW b6 #[.slice none 0 0] #[.slice rA2 rn2 rc2] 29 (by kernel_rfl) Fv56_6.out (xo_storeW b6 #[.slice none 0 0] #[.slice rA2 rn2 rc2] Fv56_6.out (by kernel_rfl) rfl (by simp [Value.oneCell']) rfl rfl rfl) ?_
 intro X9_58 h1 hfar hbel hsz
 have hbr := hbel _ _ Ge55.out B8.out
 clear B8
 have B8 := zh hbr
 clear hbr
 clear Fv56_6
 have Fv56_6 : Hid (X9_58.heap[b6]? = some (.cells #[.slice rA2 rn2 rc2] 29 (0, 0))) := zh (h1)
 have HszX9_58 := zh hsz
 clear h1 hfar hbel hsz
 simp only [ptr, Act.put, zA]
 refine zr (.int .i64 0) X9_58 rfl ?_
 simp only [Act.put, zA]
 refine wpList_nil ?_
 go_upto_region 6 with fail
 refine wp_region_lit ?_
 refine wpList_call (by kernel_rfl) 28 Tryd.func28 (by kernel_rfl) (by kernel_rfl) _ _ #[.int .i64 3, .int .i64 3, .int .i64 6] rfl (by kernel_rfl) ?_
 refine (simple_as 3 3 6 X9_58).mono ?_
 rintro e V10 ⟨q3g, q3A, rfl, hge, hrw, hb⟩
 have C1_9 := zb C1_8 B8
 have N59_0 : Hid (q0g ≠ q3g) := zh (xp_lt0 (Fv1_x.out.keep C1_9.out) hge)
 have C3_9 := zb C3_8 B8
 have N60_1 : Hid (b1 ≠ q3g) := zh (xp_lt0 (heap_keep Fv5_1.out C3_9.out) hge)
 have C4_9 := zb C4_8 B8
 have N61_2 : Hid (q1g ≠ q3g) := zh (xp_lt0 (Fv11_x.out.keep C4_9.out) hge)
 have N62_3 : Hid (b3 ≠ q3g) := zh (xp_lt0 (heap_keep Fv17_3.out C4_9.out) hge)
 have N63_4 : Hid (g28 ≠ q3g) := zh (xp_lt0 (heap_keep Fv25_28.out C4_9.out) hge)
 have C6_9 := zb C6_8 B8
 have N64_5 : Hid (b4 ≠ q3g) := zh (xp_lt0 (heap_keep Fv36_4.out C6_9.out) hge)
 have C7_9 := zb B7 B8
 have N65_6 : Hid (q2g ≠ q3g) := zh (xp_lt0 (Fv46_x.out.keep C7_9.out) hge)
 have N66_7 : Hid (b6 ≠ q3g) := zh (xp_lt0 Fv56_6.out hge)
 have Ge67 : Hid (X9_58.heap.size ≤ q3g) := zh hge
 have B9 := zh hb
 have Fv68_x : Hid (RowG hdC V10 q3g 44 ([Hd.mk q3A 0 0])) := zh (hrw)
 have Lt69 : Hid (q3g < V10.heap.size) := zh (xp_lt Fv68_x.out)
 clear hge hrw hb
 refine ⟨_, rfl, ?_⟩
 simp only [Act.put, zA]
 have C0_8 := zb C0_7 B7
 have C0_9 := zb C0_8 B8
 have C0_10 := zb C0_9 B9
 refine wpList_call (by kernel_rfl) 11 Tryd.func11 (by kernel_rfl) (by kernel_rfl) _ _ #[.agg #[.int .i64 3, .int .i64 3, .int .i64 6, .slice (some ⟨q3g, 0, none⟩) 1 1], .int .i64 65536] rfl (by kernel_rfl) ?_
 refine (check_ok 3 3 6 (some ⟨q3g, 0, none⟩) 1 1 [Hd.mk q3A 0 0] [[]] ⟨by decide, by decide, fun _ => by decide, fun h => absurd h (by decide), fun h => by revert h; decide, fun h => by revert h; decide, rfl, fun l hl => by simp only [List.mem_cons, List.not_mem_nil, or_false] at hl; subst hl; exact ⟨by decide, fun c hc => by simp at hc <;> (subst hc; exact ⟨by decide, by decide, by decide⟩)⟩⟩ 65536 (by decide) ([], 141) (by decide +kernel) V10 (fsR1 (RowG.sg (n := 1) (c := 1) Fv68_x.out (show ([Hd.mk q3A 0 0]).length = 1 from rfl) (Nat.le_refl _) (by omega)) (sgE V10 _)) (HG.out.keep C0_10.out) (HGC.out.keep C0_10.out)).mono ?_
 rintro e V11 ⟨rA3, rn3, rc3, rfl, hsg, hb⟩
 have B10 := zh hb
 have HS3 := zh hsg
 clear hb hsg
 refine ⟨_, rfl, ?_⟩
 simp only [Act.put, zA]
 refine zr (.tuple #[.agg #[.slice rA3 rn3 rc3], .int .i64 141]) V11 rfl ?_
 simp only [Act.put, zA]
 refine zr (.agg #[.slice rA3 rn3 rc3]) V11 rfl ?_
 simp only [Act.put, zA]
 refine zr (.int .i64 141) V11 rfl ?_
 simp only [Act.put, zA]
 refine wpList_new #[.slice none 0 0] 29 (by kernel_rfl) (xo_alloc #[.slice none 0 0] (by kernel_rfl) rfl) ?_
 intro b8 V12 hge h0 hb
 have C1_10 := zb C1_9 B9
 have C1_11 := zb C1_10 B10
 have N70_0 : Hid (q0g ≠ b8) := zh (xp_lt0 (Fv1_x.out.keep C1_11.out) hge)
 have C3_10 := zb C3_9 B9
 have C3_11 := zb C3_10 B10
 have N71_1 : Hid (b1 ≠ b8) := zh (xp_lt0 (heap_keep Fv5_1.out C3_11.out) hge)
 have C4_10 := zb C4_9 B9
 have C4_11 := zb C4_10 B10
 have N72_2 : Hid (q1g ≠ b8) := zh (xp_lt0 (Fv11_x.out.keep C4_11.out) hge)
 have N73_3 : Hid (b3 ≠ b8) := zh (xp_lt0 (heap_keep Fv17_3.out C4_11.out) hge)
 have N74_4 : Hid (g28 ≠ b8) := zh (xp_lt0 (heap_keep Fv25_28.out C4_11.out) hge)
 have C6_10 := zb C6_9 B9
 have C6_11 := zb C6_10 B10
 have N75_5 : Hid (b4 ≠ b8) := zh (xp_lt0 (heap_keep Fv36_4.out C6_11.out) hge)
 have C7_10 := zb C7_9 B9
 have C7_11 := zb C7_10 B10
 have N76_6 : Hid (q2g ≠ b8) := zh (xp_lt0 (Fv46_x.out.keep C7_11.out) hge)
 have C9_11 := zb B9 B10
 have N77_7 : Hid (b6 ≠ b8) := zh (xp_lt0 (heap_keep Fv56_6.out C9_11.out) hge)
 have N78_8 : Hid (q3g ≠ b8) := zh (xp_lt0 (Fv68_x.out.keep B10.out) hge)
 have Ge79 : Hid (V11.heap.size ≤ b8) := zh hge
 have B11 := zh hb
 have Fv80_8 : Hid (V12.heap[b8]? = some (.cells #[.slice none 0 0] 29 (0, 0))) := zh (h0)
 have Lt81 : Hid (b8 < V12.heap.size) := zh (xp_lt Fv80_8.out)
 clear hge h0 hb
 simp only [ptr, Act.put, zA]
 refine wpList_storeW b8 #[.slice none 0 0] #[.slice rA3 rn3 rc3] 29 (by kernel_rfl) Fv80_8.out (xo_storeW b8 #[.slice none 0 0] #[.slice rA3 rn3 rc3] Fv80_8.out (by kernel_rfl) rfl (by simp [Value.oneCell']) rfl rfl rfl) ?_
 intro X12_82 h1 hfar hbel hsz
 have hbr := hbel _ _ Ge79.out B11.out
 clear B11
 have B11 := zh hbr
 clear hbr
 clear Fv80_8
 have Fv80_8 : Hid (X12_82.heap[b8]? = some (.cells #[.slice rA3 rn3 rc3] 29 (0, 0))) := zh (h1)
 have HszX12_82 := zh hsz
 clear h1 hfar hbel hsz
 simp only [ptr, Act.put, zA]
 refine zr (.int .i64 141) X12_82 rfl ?_
 simp only [Act.put, zA]
 refine wpList_nil ?_
 go_upto_region 7 with fail
 refine wp_region_lit ?_
 refine wpList_call (by kernel_rfl) 28 Tryd.func28 (by kernel_rfl) (by kernel_rfl) _ _ #[.int .i64 4, .int .i64 1, .int .i64 0] rfl (by kernel_rfl) ?_
 refine (simple_as 4 1 0 X12_82).mono ?_
 rintro e V13 ⟨q4g, q4A, rfl, hge, hrw, hb⟩
 have C1_12 := zb C1_11 B11
 have N83_0 : Hid (q0g ≠ q4g) := zh (xp_lt0 (Fv1_x.out.keep C1_12.out) hge)
 have C3_12 := zb C3_11 B11
 have N84_1 : Hid (b1 ≠ q4g) := zh (xp_lt0 (heap_keep Fv5_1.out C3_12.out) hge)
 have C4_12 := zb C4_11 B11
 have N85_2 : Hid (q1g ≠ q4g) := zh (xp_lt0 (Fv11_x.out.keep C4_12.out) hge)
 have N86_3 : Hid (b3 ≠ q4g) := zh (xp_lt0 (heap_keep Fv17_3.out C4_12.out) hge)
 have N87_4 : Hid (g28 ≠ q4g) := zh (xp_lt0 (heap_keep Fv25_28.out C4_12.out) hge)
 have C6_12 := zb C6_11 B11
 have N88_5 : Hid (b4 ≠ q4g) := zh (xp_lt0 (heap_keep Fv36_4.out C6_12.out) hge)
 have C7_12 := zb C7_11 B11
 have N89_6 : Hid (q2g ≠ q4g) := zh (xp_lt0 (Fv46_x.out.keep C7_12.out) hge)
 have C9_12 := zb C9_11 B11
 have N90_7 : Hid (b6 ≠ q4g) := zh (xp_lt0 (heap_keep Fv56_6.out C9_12.out) hge)
 have C10_12 := zb B10 B11
 have N91_8 : Hid (q3g ≠ q4g) := zh (xp_lt0 (Fv68_x.out.keep C10_12.out) hge)
 have N92_9 : Hid (b8 ≠ q4g) := zh (xp_lt0 Fv80_8.out hge)
 have Ge93 : Hid (X12_82.heap.size ≤ q4g) := zh hge
 have B12 := zh hb
 have Fv94_x : Hid (RowG hdC V13 q4g 44 ([Hd.mk q4A 0 0])) := zh (hrw)
 have Lt95 : Hid (q4g < V13.heap.size) := zh (xp_lt Fv94_x.out)
 clear hge hrw hb
 refine ⟨_, rfl, ?_⟩
 simp only [Act.put, zA]
 have C0_11 := zb C0_10 B10
 have C0_12 := zb C0_11 B11
 have C0_13 := zb C0_12 B12
 refine wpList_call (by kernel_rfl) 11 Tryd.func11 (by kernel_rfl) (by kernel_rfl) _ _ #[.agg #[.int .i64 4, .int .i64 1, .int .i64 0, .slice (some ⟨q4g, 0, none⟩) 1 1], .int .i64 1] rfl (by kernel_rfl) ?_
 refine (check_ok 4 1 0 (some ⟨q4g, 0, none⟩) 1 1 [Hd.mk q4A 0 0] [[]] ⟨by decide, by decide, fun _ => by decide, fun h => absurd h (by decide), fun h => by revert h; decide, fun h => by revert h; decide, rfl, fun l hl => by simp only [List.mem_cons, List.not_mem_nil, or_false] at hl; subst hl; exact ⟨by decide, fun c hc => by simp at hc <;> (subst hc; exact ⟨by decide, by decide, by decide⟩)⟩⟩ 1 (by decide) ([], 140) (by decide +kernel) V13 (fsR1 (RowG.sg (n := 1) (c := 1) Fv94_x.out (show ([Hd.mk q4A 0 0]).length = 1 from rfl) (Nat.le_refl _) (by omega)) (sgE V13 _)) (HG.out.keep C0_13.out) (HGC.out.keep C0_13.out)).mono ?_
 rintro e V14 ⟨rA4, rn4, rc4, rfl, hsg, hb⟩
 have B13 := zh hb
 have HS4 := zh hsg
 clear hb hsg
 refine ⟨_, rfl, ?_⟩
 simp only [Act.put, zA]
 refine zr (.tuple #[.agg #[.slice rA4 rn4 rc4], .int .i64 140]) V14 rfl ?_
 simp only [Act.put, zA]
 refine zr (.agg #[.slice rA4 rn4 rc4]) V14 rfl ?_
 simp only [Act.put, zA]
 refine zr (.int .i64 140) V14 rfl ?_
 simp only [Act.put, zA]
 refine wpList_new #[.slice none 0 0] 29 (by kernel_rfl) (xo_alloc #[.slice none 0 0] (by kernel_rfl) rfl) ?_
 intro b10 V15 hge h0 hb
 have C1_13 := zb C1_12 B12
 have C1_14 := zb C1_13 B13
 have N96_0 : Hid (q0g ≠ b10) := zh (xp_lt0 (Fv1_x.out.keep C1_14.out) hge)
 have C3_13 := zb C3_12 B12
 have C3_14 := zb C3_13 B13
 have N97_1 : Hid (b1 ≠ b10) := zh (xp_lt0 (heap_keep Fv5_1.out C3_14.out) hge)
 have C4_13 := zb C4_12 B12
 have C4_14 := zb C4_13 B13
 have N98_2 : Hid (q1g ≠ b10) := zh (xp_lt0 (Fv11_x.out.keep C4_14.out) hge)
 have N99_3 : Hid (b3 ≠ b10) := zh (xp_lt0 (heap_keep Fv17_3.out C4_14.out) hge)
 have N100_4 : Hid (g28 ≠ b10) := zh (xp_lt0 (heap_keep Fv25_28.out C4_14.out) hge)
 have C6_13 := zb C6_12 B12
 have C6_14 := zb C6_13 B13
 have N101_5 : Hid (b4 ≠ b10) := zh (xp_lt0 (heap_keep Fv36_4.out C6_14.out) hge)
 have C7_13 := zb C7_12 B12
 have C7_14 := zb C7_13 B13
 have N102_6 : Hid (q2g ≠ b10) := zh (xp_lt0 (Fv46_x.out.keep C7_14.out) hge)
 have C9_13 := zb C9_12 B12
 have C9_14 := zb C9_13 B13
 have N103_7 : Hid (b6 ≠ b10) := zh (xp_lt0 (heap_keep Fv56_6.out C9_14.out) hge)
 have C10_13 := zb C10_12 B12
 have C10_14 := zb C10_13 B13
 have N104_8 : Hid (q3g ≠ b10) := zh (xp_lt0 (Fv68_x.out.keep C10_14.out) hge)
 have C12_14 := zb B12 B13
 have N105_9 : Hid (b8 ≠ b10) := zh (xp_lt0 (heap_keep Fv80_8.out C12_14.out) hge)
 have N106_10 : Hid (q4g ≠ b10) := zh (xp_lt0 (Fv94_x.out.keep B13.out) hge)
 have Ge107 : Hid (V14.heap.size ≤ b10) := zh hge
 have B14 := zh hb
 have Fv108_10 : Hid (V15.heap[b10]? = some (.cells #[.slice none 0 0] 29 (0, 0))) := zh (h0)
 have Lt109 : Hid (b10 < V15.heap.size) := zh (xp_lt Fv108_10.out)
 clear hge h0 hb
 simp only [ptr, Act.put, zA]
 refine wpList_storeW b10 #[.slice none 0 0] #[.slice rA4 rn4 rc4] 29 (by kernel_rfl) Fv108_10.out (xo_storeW b10 #[.slice none 0 0] #[.slice rA4 rn4 rc4] Fv108_10.out (by kernel_rfl) rfl (by simp [Value.oneCell']) rfl rfl rfl) ?_
 intro X15_110 h1 hfar hbel hsz
 have hbr := hbel _ _ Ge107.out B14.out
 clear B14
 have B14 := zh hbr
 clear hbr
 clear Fv108_10
 have Fv108_10 : Hid (X15_110.heap[b10]? = some (.cells #[.slice rA4 rn4 rc4] 29 (0, 0))) := zh (h1)
 have HszX15_110 := zh hsz
 clear h1 hfar hbel hsz
 simp only [ptr, Act.put, zA]
 refine zr (.int .i64 140) X15_110 rfl ?_
 simp only [Act.put, zA]
 refine wpList_nil ?_
 go_upto_region 8 with fail
 refine wp_region_lit ?_
 refine wpList_call (by kernel_rfl) 28 Tryd.func28 (by kernel_rfl) (by kernel_rfl) _ _ #[.int .i64 1, .int .i64 0, .int .i64 0] rfl (by kernel_rfl) ?_
 refine (simple_as 1 0 0 X15_110).mono ?_
 rintro e V16 ⟨q5g, q5A, rfl, hge, hrw, hb⟩
 have C1_15 := zb C1_14 B14
 have N111_0 : Hid (q0g ≠ q5g) := zh (xp_lt0 (Fv1_x.out.keep C1_15.out) hge)
 have C3_15 := zb C3_14 B14
 have N112_1 : Hid (b1 ≠ q5g) := zh (xp_lt0 (heap_keep Fv5_1.out C3_15.out) hge)
 have C4_15 := zb C4_14 B14
 have N113_2 : Hid (q1g ≠ q5g) := zh (xp_lt0 (Fv11_x.out.keep C4_15.out) hge)
 have N114_3 : Hid (b3 ≠ q5g) := zh (xp_lt0 (heap_keep Fv17_3.out C4_15.out) hge)
 have N115_4 : Hid (g28 ≠ q5g) := zh (xp_lt0 (heap_keep Fv25_28.out C4_15.out) hge)
 have C6_15 := zb C6_14 B14
 have N116_5 : Hid (b4 ≠ q5g) := zh (xp_lt0 (heap_keep Fv36_4.out C6_15.out) hge)
 have C7_15 := zb C7_14 B14
 have N117_6 : Hid (q2g ≠ q5g) := zh (xp_lt0 (Fv46_x.out.keep C7_15.out) hge)
 have C9_15 := zb C9_14 B14
 have N118_7 : Hid (b6 ≠ q5g) := zh (xp_lt0 (heap_keep Fv56_6.out C9_15.out) hge)
 have C10_15 := zb C10_14 B14
 have N119_8 : Hid (q3g ≠ q5g) := zh (xp_lt0 (Fv68_x.out.keep C10_15.out) hge)
 have C12_15 := zb C12_14 B14
 have N120_9 : Hid (b8 ≠ q5g) := zh (xp_lt0 (heap_keep Fv80_8.out C12_15.out) hge)
 have C13_15 := zb B13 B14
 have N121_10 : Hid (q4g ≠ q5g) := zh (xp_lt0 (Fv94_x.out.keep C13_15.out) hge)
 have N122_11 : Hid (b10 ≠ q5g) := zh (xp_lt0 Fv108_10.out hge)
 have Ge123 : Hid (X15_110.heap.size ≤ q5g) := zh hge
 have B15 := zh hb
 have Fv124_x : Hid (RowG hdC V16 q5g 44 ([Hd.mk q5A 0 0])) := zh (hrw)
 have Lt125 : Hid (q5g < V16.heap.size) := zh (xp_lt Fv124_x.out)
 clear hge hrw hb
 refine ⟨_, rfl, ?_⟩
 simp only [Act.put, zA]
 have C0_14 := zb C0_13 B13
 have C0_15 := zb C0_14 B14
 have C0_16 := zb C0_15 B15
 refine wpList_call (by kernel_rfl) 11 Tryd.func11 (by kernel_rfl) (by kernel_rfl) _ _ #[.agg #[.int .i64 1, .int .i64 0, .int .i64 0, .slice (some ⟨q5g, 0, none⟩) 1 1], .int .i64 65537] rfl (by kernel_rfl) ?_
 refine (check_bad 1 0 0 (some ⟨q5g, 0, none⟩) 1 1 [Hd.mk q5A 0 0] [[]] 65537 (by decide) V16 (fsR1 (RowG.sg (n := 1) (c := 1) Fv124_x.out (show ([Hd.mk q5A 0 0]).length = 1 from rfl) (Nat.le_refl _) (by omega)) (sgE V16 _)) (HGC.out.keep C0_16.out)).mono ?_
 rintro e V17 ⟨rfl, hb⟩
 have B16 := zh hb
 clear hb 
 refine ⟨_, rfl, ?_⟩
 simp only [Act.put, zA]
 refine zr (.tuple #[.agg #[.slice none 0 0], .int .i64 1]) V17 rfl ?_
 simp only [Act.put, zA]
 refine zr (.agg #[.slice none 0 0]) V17 rfl ?_
 simp only [Act.put, zA]
 refine zr (.int .i64 1) V17 rfl ?_
 simp only [Act.put, zA]
 refine wpList_new #[.slice none 0 0] 29 (by kernel_rfl) (xo_alloc #[.slice none 0 0] (by kernel_rfl) rfl) ?_
 intro b12 V18 hge h0 hb
 have C1_16 := zb C1_15 B15
 have C1_17 := zb C1_16 B16
 have N126_0 : Hid (q0g ≠ b12) := zh (xp_lt0 (Fv1_x.out.keep C1_17.out) hge)
 have C3_16 := zb C3_15 B15
 have C3_17 := zb C3_16 B16
 have N127_1 : Hid (b1 ≠ b12) := zh (xp_lt0 (heap_keep Fv5_1.out C3_17.out) hge)
 have C4_16 := zb C4_15 B15
 have C4_17 := zb C4_16 B16
 have N128_2 : Hid (q1g ≠ b12) := zh (xp_lt0 (Fv11_x.out.keep C4_17.out) hge)
 have N129_3 : Hid (b3 ≠ b12) := zh (xp_lt0 (heap_keep Fv17_3.out C4_17.out) hge)
 have N130_4 : Hid (g28 ≠ b12) := zh (xp_lt0 (heap_keep Fv25_28.out C4_17.out) hge)
 have C6_16 := zb C6_15 B15
 have C6_17 := zb C6_16 B16
 have N131_5 : Hid (b4 ≠ b12) := zh (xp_lt0 (heap_keep Fv36_4.out C6_17.out) hge)
 have C7_16 := zb C7_15 B15
 have C7_17 := zb C7_16 B16
 have N132_6 : Hid (q2g ≠ b12) := zh (xp_lt0 (Fv46_x.out.keep C7_17.out) hge)
 have C9_16 := zb C9_15 B15
 have C9_17 := zb C9_16 B16
 have N133_7 : Hid (b6 ≠ b12) := zh (xp_lt0 (heap_keep Fv56_6.out C9_17.out) hge)
 have C10_16 := zb C10_15 B15
 have C10_17 := zb C10_16 B16
 have N134_8 : Hid (q3g ≠ b12) := zh (xp_lt0 (Fv68_x.out.keep C10_17.out) hge)
 have C12_16 := zb C12_15 B15
 have C12_17 := zb C12_16 B16
 have N135_9 : Hid (b8 ≠ b12) := zh (xp_lt0 (heap_keep Fv80_8.out C12_17.out) hge)
 have C13_16 := zb C13_15 B15
 have C13_17 := zb C13_16 B16
 have N136_10 : Hid (q4g ≠ b12) := zh (xp_lt0 (Fv94_x.out.keep C13_17.out) hge)
 have C15_17 := zb B15 B16
 have N137_11 : Hid (b10 ≠ b12) := zh (xp_lt0 (heap_keep Fv108_10.out C15_17.out) hge)
 have N138_12 : Hid (q5g ≠ b12) := zh (xp_lt0 (Fv124_x.out.keep B16.out) hge)
 have Ge139 : Hid (V17.heap.size ≤ b12) := zh hge
 have B17 := zh hb
 have Fv140_12 : Hid (V18.heap[b12]? = some (.cells #[.slice none 0 0] 29 (0, 0))) := zh (h0)
 have Lt141 : Hid (b12 < V18.heap.size) := zh (xp_lt Fv140_12.out)
 clear hge h0 hb
 simp only [ptr, Act.put, zA]
 refine wpList_storeW b12 #[.slice none 0 0] #[.slice none 0 0] 29 (by kernel_rfl) Fv140_12.out (xo_storeW b12 #[.slice none 0 0] #[.slice none 0 0] Fv140_12.out (by kernel_rfl) rfl (by simp [Value.oneCell']) rfl rfl rfl) ?_
 intro X18_142 h1 hfar hbel hsz
 have hbr := hbel _ _ Ge139.out B17.out
 clear B17
 have B17 := zh hbr
 clear hbr
 clear Fv140_12
 have Fv140_12 : Hid (X18_142.heap[b12]? = some (.cells #[.slice none 0 0] 29 (0, 0))) := zh (h1)
 have HszX18_142 := zh hsz
 clear h1 hfar hbel hsz
 simp only [ptr, Act.put, zA]
 refine zr (.int .i64 1) X18_142 rfl ?_
 simp only [Act.put, zA]
 refine wpList_nil ?_
 go_upto_region 9 with fail
 refine wp_region_lit ?_
 refine wpList_call (by kernel_rfl) 28 Tryd.func28 (by kernel_rfl) (by kernel_rfl) _ _ #[.int .i64 9, .int .i64 0, .int .i64 0] rfl (by kernel_rfl) ?_
 refine (simple_as 9 0 0 X18_142).mono ?_
 rintro e V19 ⟨q6g, q6A, rfl, hge, hrw, hb⟩
 have C1_18 := zb C1_17 B17
 have N143_0 : Hid (q0g ≠ q6g) := zh (xp_lt0 (Fv1_x.out.keep C1_18.out) hge)
 have C3_18 := zb C3_17 B17
 have N144_1 : Hid (b1 ≠ q6g) := zh (xp_lt0 (heap_keep Fv5_1.out C3_18.out) hge)
 have C4_18 := zb C4_17 B17
 have N145_2 : Hid (q1g ≠ q6g) := zh (xp_lt0 (Fv11_x.out.keep C4_18.out) hge)
 have N146_3 : Hid (b3 ≠ q6g) := zh (xp_lt0 (heap_keep Fv17_3.out C4_18.out) hge)
 have N147_4 : Hid (g28 ≠ q6g) := zh (xp_lt0 (heap_keep Fv25_28.out C4_18.out) hge)
 have C6_18 := zb C6_17 B17
 have N148_5 : Hid (b4 ≠ q6g) := zh (xp_lt0 (heap_keep Fv36_4.out C6_18.out) hge)
 have C7_18 := zb C7_17 B17
 have N149_6 : Hid (q2g ≠ q6g) := zh (xp_lt0 (Fv46_x.out.keep C7_18.out) hge)
 have C9_18 := zb C9_17 B17
 have N150_7 : Hid (b6 ≠ q6g) := zh (xp_lt0 (heap_keep Fv56_6.out C9_18.out) hge)
 have C10_18 := zb C10_17 B17
 have N151_8 : Hid (q3g ≠ q6g) := zh (xp_lt0 (Fv68_x.out.keep C10_18.out) hge)
 have C12_18 := zb C12_17 B17
 have N152_9 : Hid (b8 ≠ q6g) := zh (xp_lt0 (heap_keep Fv80_8.out C12_18.out) hge)
 have C13_18 := zb C13_17 B17
 have N153_10 : Hid (q4g ≠ q6g) := zh (xp_lt0 (Fv94_x.out.keep C13_18.out) hge)
 have C15_18 := zb C15_17 B17
 have N154_11 : Hid (b10 ≠ q6g) := zh (xp_lt0 (heap_keep Fv108_10.out C15_18.out) hge)
 have C16_18 := zb B16 B17
 have N155_12 : Hid (q5g ≠ q6g) := zh (xp_lt0 (Fv124_x.out.keep C16_18.out) hge)
 have N156_13 : Hid (b12 ≠ q6g) := zh (xp_lt0 Fv140_12.out hge)
 have Ge157 : Hid (X18_142.heap.size ≤ q6g) := zh hge
 have B18 := zh hb
 have Fv158_x : Hid (RowG hdC V19 q6g 44 ([Hd.mk q6A 0 0])) := zh (hrw)
 have Lt159 : Hid (q6g < V19.heap.size) := zh (xp_lt Fv158_x.out)
 clear hge hrw hb
 refine ⟨_, rfl, ?_⟩
 simp only [Act.put, zA]
 have C0_17 := zb C0_16 B16
 have C0_18 := zb C0_17 B17
 have C0_19 := zb C0_18 B18
 refine wpList_call (by kernel_rfl) 11 Tryd.func11 (by kernel_rfl) (by kernel_rfl) _ _ #[.agg #[.int .i64 9, .int .i64 0, .int .i64 0, .slice (some ⟨q6g, 0, none⟩) 1 1], .int .i64 1] rfl (by kernel_rfl) ?_
 refine (check_bad 9 0 0 (some ⟨q6g, 0, none⟩) 1 1 [Hd.mk q6A 0 0] [[]] 1 (by decide) V19 (fsR1 (RowG.sg (n := 1) (c := 1) Fv158_x.out (show ([Hd.mk q6A 0 0]).length = 1 from rfl) (Nat.le_refl _) (by omega)) (sgE V19 _)) (HGC.out.keep C0_19.out)).mono ?_
 rintro e V20 ⟨rfl, hb⟩
 have B19 := zh hb
 clear hb 
 refine ⟨_, rfl, ?_⟩
 simp only [Act.put, zA]
 refine zr (.tuple #[.agg #[.slice none 0 0], .int .i64 1]) V20 rfl ?_
 simp only [Act.put, zA]
 refine zr (.agg #[.slice none 0 0]) V20 rfl ?_
 simp only [Act.put, zA]
 refine zr (.int .i64 1) V20 rfl ?_
 simp only [Act.put, zA]
 refine wpList_new #[.slice none 0 0] 29 (by kernel_rfl) (xo_alloc #[.slice none 0 0] (by kernel_rfl) rfl) ?_
 intro b14 V21 hge h0 hb
 have C1_19 := zb C1_18 B18
 have C1_20 := zb C1_19 B19
 have N160_0 : Hid (q0g ≠ b14) := zh (xp_lt0 (Fv1_x.out.keep C1_20.out) hge)
 have C3_19 := zb C3_18 B18
 have C3_20 := zb C3_19 B19
 have N161_1 : Hid (b1 ≠ b14) := zh (xp_lt0 (heap_keep Fv5_1.out C3_20.out) hge)
 have C4_19 := zb C4_18 B18
 have C4_20 := zb C4_19 B19
 have N162_2 : Hid (q1g ≠ b14) := zh (xp_lt0 (Fv11_x.out.keep C4_20.out) hge)
 have N163_3 : Hid (b3 ≠ b14) := zh (xp_lt0 (heap_keep Fv17_3.out C4_20.out) hge)
 have N164_4 : Hid (g28 ≠ b14) := zh (xp_lt0 (heap_keep Fv25_28.out C4_20.out) hge)
 have C6_19 := zb C6_18 B18
 have C6_20 := zb C6_19 B19
 have N165_5 : Hid (b4 ≠ b14) := zh (xp_lt0 (heap_keep Fv36_4.out C6_20.out) hge)
 have C7_19 := zb C7_18 B18
 have C7_20 := zb C7_19 B19
 have N166_6 : Hid (q2g ≠ b14) := zh (xp_lt0 (Fv46_x.out.keep C7_20.out) hge)
 have C9_19 := zb C9_18 B18
 have C9_20 := zb C9_19 B19
 have N167_7 : Hid (b6 ≠ b14) := zh (xp_lt0 (heap_keep Fv56_6.out C9_20.out) hge)
 have C10_19 := zb C10_18 B18
 have C10_20 := zb C10_19 B19
 have N168_8 : Hid (q3g ≠ b14) := zh (xp_lt0 (Fv68_x.out.keep C10_20.out) hge)
 have C12_19 := zb C12_18 B18
 have C12_20 := zb C12_19 B19
 have N169_9 : Hid (b8 ≠ b14) := zh (xp_lt0 (heap_keep Fv80_8.out C12_20.out) hge)
 have C13_19 := zb C13_18 B18
 have C13_20 := zb C13_19 B19
 have N170_10 : Hid (q4g ≠ b14) := zh (xp_lt0 (Fv94_x.out.keep C13_20.out) hge)
 have C15_19 := zb C15_18 B18
 have C15_20 := zb C15_19 B19
 have N171_11 : Hid (b10 ≠ b14) := zh (xp_lt0 (heap_keep Fv108_10.out C15_20.out) hge)
 have C16_19 := zb C16_18 B18
 have C16_20 := zb C16_19 B19
 have N172_12 : Hid (q5g ≠ b14) := zh (xp_lt0 (Fv124_x.out.keep C16_20.out) hge)
 have C18_20 := zb B18 B19
 have N173_13 : Hid (b12 ≠ b14) := zh (xp_lt0 (heap_keep Fv140_12.out C18_20.out) hge)
 have N174_14 : Hid (q6g ≠ b14) := zh (xp_lt0 (Fv158_x.out.keep B19.out) hge)
 have Ge175 : Hid (V20.heap.size ≤ b14) := zh hge
 have B20 := zh hb
 have Fv176_14 : Hid (V21.heap[b14]? = some (.cells #[.slice none 0 0] 29 (0, 0))) := zh (h0)
 have Lt177 : Hid (b14 < V21.heap.size) := zh (xp_lt Fv176_14.out)
 clear hge h0 hb
 simp only [ptr, Act.put, zA]
 refine wpList_storeW b14 #[.slice none 0 0] #[.slice none 0 0] 29 (by kernel_rfl) Fv176_14.out (xo_storeW b14 #[.slice none 0 0] #[.slice none 0 0] Fv176_14.out (by kernel_rfl) rfl (by simp [Value.oneCell']) rfl rfl rfl) ?_
 intro X21_178 h1 hfar hbel hsz
 have hbr := hbel _ _ Ge175.out B20.out
 clear B20
 have B20 := zh hbr
 clear hbr
 clear Fv176_14
 have Fv176_14 : Hid (X21_178.heap[b14]? = some (.cells #[.slice none 0 0] 29 (0, 0))) := zh (h1)
 have HszX21_178 := zh hsz
 clear h1 hfar hbel hsz
 simp only [ptr, Act.put, zA]
 refine zr (.int .i64 1) X21_178 rfl ?_
 simp only [Act.put, zA]
 refine wpList_nil ?_
 go_upto_region 10 with fail
 refine wp_region_lit ?_
 refine wpList_call (by kernel_rfl) 28 Tryd.func28 (by kernel_rfl) (by kernel_rfl) _ _ #[.int .i64 4, .int .i64 0, .int .i64 0] rfl (by kernel_rfl) ?_
 refine (simple_as 4 0 0 X21_178).mono ?_
 rintro e V22 ⟨q7g, q7A, rfl, hge, hrw, hb⟩
 have C1_21 := zb C1_20 B20
 have N179_0 : Hid (q0g ≠ q7g) := zh (xp_lt0 (Fv1_x.out.keep C1_21.out) hge)
 have C3_21 := zb C3_20 B20
 have N180_1 : Hid (b1 ≠ q7g) := zh (xp_lt0 (heap_keep Fv5_1.out C3_21.out) hge)
 have C4_21 := zb C4_20 B20
 have N181_2 : Hid (q1g ≠ q7g) := zh (xp_lt0 (Fv11_x.out.keep C4_21.out) hge)
 have N182_3 : Hid (b3 ≠ q7g) := zh (xp_lt0 (heap_keep Fv17_3.out C4_21.out) hge)
 have N183_4 : Hid (g28 ≠ q7g) := zh (xp_lt0 (heap_keep Fv25_28.out C4_21.out) hge)
 have C6_21 := zb C6_20 B20
 have N184_5 : Hid (b4 ≠ q7g) := zh (xp_lt0 (heap_keep Fv36_4.out C6_21.out) hge)
 have C7_21 := zb C7_20 B20
 have N185_6 : Hid (q2g ≠ q7g) := zh (xp_lt0 (Fv46_x.out.keep C7_21.out) hge)
 have C9_21 := zb C9_20 B20
 have N186_7 : Hid (b6 ≠ q7g) := zh (xp_lt0 (heap_keep Fv56_6.out C9_21.out) hge)
 have C10_21 := zb C10_20 B20
 have N187_8 : Hid (q3g ≠ q7g) := zh (xp_lt0 (Fv68_x.out.keep C10_21.out) hge)
 have C12_21 := zb C12_20 B20
 have N188_9 : Hid (b8 ≠ q7g) := zh (xp_lt0 (heap_keep Fv80_8.out C12_21.out) hge)
 have C13_21 := zb C13_20 B20
 have N189_10 : Hid (q4g ≠ q7g) := zh (xp_lt0 (Fv94_x.out.keep C13_21.out) hge)
 have C15_21 := zb C15_20 B20
 have N190_11 : Hid (b10 ≠ q7g) := zh (xp_lt0 (heap_keep Fv108_10.out C15_21.out) hge)
 have C16_21 := zb C16_20 B20
 have N191_12 : Hid (q5g ≠ q7g) := zh (xp_lt0 (Fv124_x.out.keep C16_21.out) hge)
 have C18_21 := zb C18_20 B20
 have N192_13 : Hid (b12 ≠ q7g) := zh (xp_lt0 (heap_keep Fv140_12.out C18_21.out) hge)
 have C19_21 := zb B19 B20
 have N193_14 : Hid (q6g ≠ q7g) := zh (xp_lt0 (Fv158_x.out.keep C19_21.out) hge)
 have N194_15 : Hid (b14 ≠ q7g) := zh (xp_lt0 Fv176_14.out hge)
 have Ge195 : Hid (X21_178.heap.size ≤ q7g) := zh hge
 have B21 := zh hb
 have Fv196_x : Hid (RowG hdC V22 q7g 44 ([Hd.mk q7A 0 0])) := zh (hrw)
 have Lt197 : Hid (q7g < V22.heap.size) := zh (xp_lt Fv196_x.out)
 clear hge hrw hb
 refine ⟨_, rfl, ?_⟩
 simp only [Act.put, zA]
 refine wpList_new #[.int .i64 0, .int .i64 0, .int .i64 0, .slice none 0 0] 24 (by kernel_rfl) (xo_alloc #[.int .i64 0, .int .i64 0, .int .i64 0, .slice none 0 0] (by kernel_rfl) rfl) ?_
 intro b16 V23 hge h0 hb
 have C1_22 := zb C1_21 B21
 have N198_0 : Hid (q0g ≠ b16) := zh (xp_lt0 (Fv1_x.out.keep C1_22.out) hge)
 have C3_22 := zb C3_21 B21
 have N199_1 : Hid (b1 ≠ b16) := zh (xp_lt0 (heap_keep Fv5_1.out C3_22.out) hge)
 have C4_22 := zb C4_21 B21
 have N200_2 : Hid (q1g ≠ b16) := zh (xp_lt0 (Fv11_x.out.keep C4_22.out) hge)
 have N201_3 : Hid (b3 ≠ b16) := zh (xp_lt0 (heap_keep Fv17_3.out C4_22.out) hge)
 have N202_4 : Hid (g28 ≠ b16) := zh (xp_lt0 (heap_keep Fv25_28.out C4_22.out) hge)
 have C6_22 := zb C6_21 B21
 have N203_5 : Hid (b4 ≠ b16) := zh (xp_lt0 (heap_keep Fv36_4.out C6_22.out) hge)
 have C7_22 := zb C7_21 B21
 have N204_6 : Hid (q2g ≠ b16) := zh (xp_lt0 (Fv46_x.out.keep C7_22.out) hge)
 have C9_22 := zb C9_21 B21
 have N205_7 : Hid (b6 ≠ b16) := zh (xp_lt0 (heap_keep Fv56_6.out C9_22.out) hge)
 have C10_22 := zb C10_21 B21
 have N206_8 : Hid (q3g ≠ b16) := zh (xp_lt0 (Fv68_x.out.keep C10_22.out) hge)
 have C12_22 := zb C12_21 B21
 have N207_9 : Hid (b8 ≠ b16) := zh (xp_lt0 (heap_keep Fv80_8.out C12_22.out) hge)
 have C13_22 := zb C13_21 B21
 have N208_10 : Hid (q4g ≠ b16) := zh (xp_lt0 (Fv94_x.out.keep C13_22.out) hge)
 have C15_22 := zb C15_21 B21
 have N209_11 : Hid (b10 ≠ b16) := zh (xp_lt0 (heap_keep Fv108_10.out C15_22.out) hge)
 have C16_22 := zb C16_21 B21
 have N210_12 : Hid (q5g ≠ b16) := zh (xp_lt0 (Fv124_x.out.keep C16_22.out) hge)
 have C18_22 := zb C18_21 B21
 have N211_13 : Hid (b12 ≠ b16) := zh (xp_lt0 (heap_keep Fv140_12.out C18_22.out) hge)
 have C19_22 := zb C19_21 B21
 have N212_14 : Hid (q6g ≠ b16) := zh (xp_lt0 (Fv158_x.out.keep C19_22.out) hge)
 have N213_15 : Hid (b14 ≠ b16) := zh (xp_lt0 (heap_keep Fv176_14.out B21.out) hge)
 have N214_16 : Hid (q7g ≠ b16) := zh (xp_lt0 Fv196_x.out hge)
 have Ge215 : Hid (V22.heap.size ≤ b16) := zh hge
 have B22 := zh hb
 have Fv216_16 : Hid (V23.heap[b16]? = some (.cells #[.int .i64 0, .int .i64 0, .int .i64 0, .slice none 0 0] 24 (0, 0))) := zh (h0)
 have Lt217 : Hid (b16 < V23.heap.size) := zh (xp_lt Fv216_16.out)
 clear hge h0 hb
 simp only [ptr, Act.put, zA]
 refine wpList_storeW b16 #[.int .i64 0, .int .i64 0, .int .i64 0, .slice none 0 0] #[.int .i64 4, .int .i64 0, .int .i64 0, .slice (some ⟨q7g, 0, none⟩) 1 1] 24 (by kernel_rfl) Fv216_16.out (xo_storeW b16 #[.int .i64 0, .int .i64 0, .int .i64 0, .slice none 0 0] #[.int .i64 4, .int .i64 0, .int .i64 0, .slice (some ⟨q7g, 0, none⟩) 1 1] Fv216_16.out (by kernel_rfl) rfl (by simp [Value.oneCell']) rfl rfl rfl) ?_
 intro X23_218 h1 hfar hbel hsz
 have hbr := hbel _ _ Ge215.out B22.out
 clear B22
 have B22 := zh hbr
 clear hbr
 clear Fv216_16
 have Fv216_16 : Hid (X23_218.heap[b16]? = some (.cells #[.int .i64 4, .int .i64 0, .int .i64 0, .slice (some ⟨q7g, 0, none⟩) 1 1] 24 (0, 0))) := zh (h1)
 have HszX23_218 := zh hsz
 clear h1 hfar hbel hsz
 simp only [ptr, Act.put, zA]
 refine wpList_nil ?_
 go_upto_region 11 with fail
 refine wp_region_lit ?_
 refine zr (.pointer (some ⟨b16, 3, none⟩)) X23_218 (xo_fld0 3 b16 3 (by kernel_rfl) rfl rfl) ?_
 simp only [Act.put, zA]
 refine zr (.slice (some ⟨q7g, 0, none⟩) 1 1) X23_218 (xo_load1 ⟨b16, 3, none⟩ _ (cells_at Fv216_16.out 3 rfl) Tryd.underlying22 rfl rfl rfl) ?_
 simp only [Act.put, zA]
 refine zr (.agg #[.int .i64 0, .int .i64 2, .int .i64 3]) X23_218 (by unfold execOp; go_simp <;> rfl) ?_
 simp only [Act.put, zA]
 refine wpList_mk (by kernel_rfl) ([(Qu.Ci.mk 0 2 3)].flatMap ciC).toArray 49 1 1 (xg_lit (E := ciC) (bytes := 24) (.agg #[.int .i64 0, .int .i64 0, .int .i64 0]) [.tmp 63] [(Qu.Ci.mk 0 2 3)] 1 Tryd.underlying44 (by kernel_rfl) rfl (by decide) (by decide) rfl rfl) ?_
 intro g64 V24 hge h0 hb
 have C1_23 := zb C1_22 B22
 have N219_0 : Hid (q0g ≠ g64) := zh (xp_lt0 (Fv1_x.out.keep C1_23.out) hge)
 have C3_23 := zb C3_22 B22
 have N220_1 : Hid (b1 ≠ g64) := zh (xp_lt0 (heap_keep Fv5_1.out C3_23.out) hge)
 have C4_23 := zb C4_22 B22
 have N221_2 : Hid (q1g ≠ g64) := zh (xp_lt0 (Fv11_x.out.keep C4_23.out) hge)
 have N222_3 : Hid (b3 ≠ g64) := zh (xp_lt0 (heap_keep Fv17_3.out C4_23.out) hge)
 have N223_4 : Hid (g28 ≠ g64) := zh (xp_lt0 (heap_keep Fv25_28.out C4_23.out) hge)
 have C6_23 := zb C6_22 B22
 have N224_5 : Hid (b4 ≠ g64) := zh (xp_lt0 (heap_keep Fv36_4.out C6_23.out) hge)
 have C7_23 := zb C7_22 B22
 have N225_6 : Hid (q2g ≠ g64) := zh (xp_lt0 (Fv46_x.out.keep C7_23.out) hge)
 have C9_23 := zb C9_22 B22
 have N226_7 : Hid (b6 ≠ g64) := zh (xp_lt0 (heap_keep Fv56_6.out C9_23.out) hge)
 have C10_23 := zb C10_22 B22
 have N227_8 : Hid (q3g ≠ g64) := zh (xp_lt0 (Fv68_x.out.keep C10_23.out) hge)
 have C12_23 := zb C12_22 B22
 have N228_9 : Hid (b8 ≠ g64) := zh (xp_lt0 (heap_keep Fv80_8.out C12_23.out) hge)
 have C13_23 := zb C13_22 B22
 have N229_10 : Hid (q4g ≠ g64) := zh (xp_lt0 (Fv94_x.out.keep C13_23.out) hge)
 have C15_23 := zb C15_22 B22
 have N230_11 : Hid (b10 ≠ g64) := zh (xp_lt0 (heap_keep Fv108_10.out C15_23.out) hge)
 have C16_23 := zb C16_22 B22
 have N231_12 : Hid (q5g ≠ g64) := zh (xp_lt0 (Fv124_x.out.keep C16_23.out) hge)
 have C18_23 := zb C18_22 B22
 have N232_13 : Hid (b12 ≠ g64) := zh (xp_lt0 (heap_keep Fv140_12.out C18_23.out) hge)
 have C19_23 := zb C19_22 B22
 have N233_14 : Hid (q6g ≠ g64) := zh (xp_lt0 (Fv158_x.out.keep C19_23.out) hge)
 have C21_23 := zb B21 B22
 have N234_15 : Hid (b14 ≠ g64) := zh (xp_lt0 (heap_keep Fv176_14.out C21_23.out) hge)
 have N235_16 : Hid (q7g ≠ g64) := zh (xp_lt0 (Fv196_x.out.keep B22.out) hge)
 have N236_17 : Hid (b16 ≠ g64) := zh (xp_lt0 Fv216_16.out hge)
 have Ge237 : Hid (X23_218.heap.size ≤ g64) := zh hge
 have B23 := zh hb
 have Fv238_64 : Hid (RowG ciC V24 g64 49 ([(Qu.Ci.mk 0 2 3)])) := zh (h0)
 have Lt239 : Hid (g64 < V24.heap.size) := zh (xp_lt Fv238_64.out)
 clear hge h0 hb
 simp only [ptr, Act.put, zA]
 have C22_24 := zb B22 B23
 refine zr (.pointer (some (gad (some ⟨q7g, 0, none⟩) (0 * 1)))) V24 (xg_idx .i64 (RowG.sg (n := 1) (c := 1) (Fv196_x.out.keep C22_24.out) (show ([Hd.mk q7A 0 0]).length = 1 from rfl) (Nat.le_refl _) (by omega)) (show ([Hd.mk q7A 0 0] : List Hd)[0]? = some _ from rfl) Tryd.underlying22 (by kernel_rfl) rfl rfl rfl) ?_
 simp only [Act.put, zA]
 refine wpList_storeW q7g _ _ 44 (by kernel_rfl) (RowG.h (Fv196_x.out.keep C22_24.out)) (xg_store (Fv196_x.out.keep C22_24.out) (List.getElem?_eq_some_iff.1 (show ([Hd.mk q7A 0 0] : List Hd)[0]? = some _ from rfl)).1 (Hd.mk (some ⟨g64, 0, none⟩) 1 1) (by kernel_rfl) rfl rfl rfl) ?_
 intro X24_240 h1 hfar hbel hsz
 have YFv216_16 : X24_240.heap[b16]? = some (.cells #[.int .i64 4, .int .i64 0, .int .i64 0, .slice (some ⟨q7g, 0, none⟩) 1 1] 24 (0, 0)) := hfar _ _ (Ne.symm N214_16.out) (heap_keep Fv216_16.out B23.out)
 have YFv238_64 : RowG ciC X24_240 g64 49 ([(Qu.Ci.mk 0 2 3)]) := hfar _ _ (Ne.symm N235_16.out) Fv238_64.out
 have Gs241 : Hid (X21_178.heap.size ≤ b16) := zh (Nat.le_trans B21.out.size Ge215.out)
 have Gs242 : Hid (X21_178.heap.size ≤ g64) := zh (Nat.le_trans C21_23.out.size Ge237.out)
 have C21_24 := zb C21_23 B23
 have hbr := hbel _ _ Ge195.out C21_24.out
 clear B21
 have B21 := zh hbr
 clear hbr
 clear Fv216_16
 have Fv216_16 : Hid (X24_240.heap[b16]? = some (.cells #[.int .i64 4, .int .i64 0, .int .i64 0, .slice (some ⟨q7g, 0, none⟩) 1 1] 24 (0, 0))) := zh YFv216_16
 clear YFv216_16
 clear Fv238_64
 have Fv238_64 : Hid (RowG ciC X24_240 g64 49 ([(Qu.Ci.mk 0 2 3)])) := zh YFv238_64
 clear YFv238_64
 clear Fv196_x
 have Fv196_x : Hid (RowG hdC X24_240 q7g 44 (([Hd.mk q7A 0 0]).set 0 (Hd.mk (some ⟨g64, 0, none⟩) 1 1))) := zh (h1)
 have HszX24_240 := zh hsz
 clear h1 hfar hbel hsz
 simp only [ptr, Act.put, zA]
 refine wpList_nil ?_
 have hz : RowG hdC X24_240 q7g 44 ([Hd.mk (some ⟨g64, 0, none⟩) 1 1]) := Fv196_x.out
 clear Fv196_x
 have Fv196_x := zh hz
 clear hz
 go_upto_region 12 with fail
 refine wp_region_lit ?_
 refine zr (.agg #[.int .i64 4, .int .i64 0, .int .i64 0, .slice (some ⟨q7g, 0, none⟩) 1 1]) X24_240 (xo_loadW b16 _ Fv216_16.out Tryd.underlying24 rfl (by kernel_rfl) rfl rfl) ?_
 simp only [Act.put, zA]
 have C0_20 := zb C0_19 B19
 have C0_21 := zb C0_20 B20
 have C0_22 := zb C0_21 B21
 refine wpList_call (by kernel_rfl) 11 Tryd.func11 (by kernel_rfl) (by kernel_rfl) _ _ #[.agg #[.int .i64 4, .int .i64 0, .int .i64 0, .slice (some ⟨q7g, 0, none⟩) 1 1], .int .i64 5] rfl (by kernel_rfl) ?_
 refine (check_ok 4 0 0 (some ⟨q7g, 0, none⟩) 1 1 [Hd.mk (some ⟨g64, 0, none⟩) 1 1] [[Qu.Cd.mk 0 2 3]] ⟨by decide, by decide, fun _ => by decide, fun h => absurd h (by decide), fun h => by revert h; decide, fun h => by revert h; decide, rfl, fun l hl => by simp only [List.mem_cons, List.not_mem_nil, or_false] at hl; subst hl; exact ⟨by decide, fun c hc => by simp at hc <;> (subst hc; exact ⟨by decide, by decide, by decide⟩)⟩⟩ 5 (by decide) ([0, 0, 5, 5, 0, 0, 0, 0, 0, 0, 0, 0, 0, 0, 0, 0], 0) (by decide +kernel) X24_240 (fsR1 (RowG.sg (n := 1) (c := 1) Fv196_x.out (show ([Hd.mk (some ⟨g64, 0, none⟩) 1 1]).length = 1 from rfl) (Nat.le_refl _) (by omega)) (RowG.sg (n := 1) (c := 1) Fv238_64.out (show ([(Qu.Ci.mk 0 2 3)]).length = 1 from rfl) (Nat.le_refl _) (by omega))) (HG.out.keep C0_22.out) (HGC.out.keep C0_22.out)).mono ?_
 rintro e V23 ⟨rA7, rn7, rc7, rfl, hsg, hb⟩
 have B22 := zh hb
 have HS7 := zh hsg
 clear hb hsg
 refine ⟨_, rfl, ?_⟩
 simp only [Act.put, zA]
 refine zr (.tuple #[.agg #[.slice rA7 rn7 rc7], .int .i64 0]) V23 rfl ?_
 simp only [Act.put, zA]
 refine zr (.agg #[.slice rA7 rn7 rc7]) V23 rfl ?_
 simp only [Act.put, zA]
 refine zr (.int .i64 0) V23 rfl ?_
 simp only [Act.put, zA]
 refine wpList_new #[.slice none 0 0] 29 (by kernel_rfl) (xo_alloc #[.slice none 0 0] (by kernel_rfl) rfl) ?_
 intro b17 V24 hge h0 hb
 have C1_22 := zb C1_21 B21
 have C1_23 := zb C1_22 B22
 have N243_0 : Hid (q0g ≠ b17) := zh (xp_lt0 (Fv1_x.out.keep C1_23.out) hge)
 have C3_22 := zb C3_21 B21
 have C3_23 := zb C3_22 B22
 have N244_1 : Hid (b1 ≠ b17) := zh (xp_lt0 (heap_keep Fv5_1.out C3_23.out) hge)
 have C4_22 := zb C4_21 B21
 have C4_23 := zb C4_22 B22
 have N245_2 : Hid (q1g ≠ b17) := zh (xp_lt0 (Fv11_x.out.keep C4_23.out) hge)
 have N246_3 : Hid (b3 ≠ b17) := zh (xp_lt0 (heap_keep Fv17_3.out C4_23.out) hge)
 have N247_4 : Hid (g28 ≠ b17) := zh (xp_lt0 (heap_keep Fv25_28.out C4_23.out) hge)
 have C6_22 := zb C6_21 B21
 have C6_23 := zb C6_22 B22
 have N248_5 : Hid (b4 ≠ b17) := zh (xp_lt0 (heap_keep Fv36_4.out C6_23.out) hge)
 have C7_22 := zb C7_21 B21
 have C7_23 := zb C7_22 B22
 have N249_6 : Hid (q2g ≠ b17) := zh (xp_lt0 (Fv46_x.out.keep C7_23.out) hge)
 have C9_22 := zb C9_21 B21
 have C9_23 := zb C9_22 B22
 have N250_7 : Hid (b6 ≠ b17) := zh (xp_lt0 (heap_keep Fv56_6.out C9_23.out) hge)
 have C10_22 := zb C10_21 B21
 have C10_23 := zb C10_22 B22
 have N251_8 : Hid (q3g ≠ b17) := zh (xp_lt0 (Fv68_x.out.keep C10_23.out) hge)
 have C12_22 := zb C12_21 B21
 have C12_23 := zb C12_22 B22
 have N252_9 : Hid (b8 ≠ b17) := zh (xp_lt0 (heap_keep Fv80_8.out C12_23.out) hge)
 have C13_22 := zb C13_21 B21
 have C13_23 := zb C13_22 B22
 have N253_10 : Hid (q4g ≠ b17) := zh (xp_lt0 (Fv94_x.out.keep C13_23.out) hge)
 have C15_22 := zb C15_21 B21
 have C15_23 := zb C15_22 B22
 have N254_11 : Hid (b10 ≠ b17) := zh (xp_lt0 (heap_keep Fv108_10.out C15_23.out) hge)
 have C16_22 := zb C16_21 B21
 have C16_23 := zb C16_22 B22
 have N255_12 : Hid (q5g ≠ b17) := zh (xp_lt0 (Fv124_x.out.keep C16_23.out) hge)
 have C18_22 := zb C18_21 B21
 have C18_23 := zb C18_22 B22
 have N256_13 : Hid (b12 ≠ b17) := zh (xp_lt0 (heap_keep Fv140_12.out C18_23.out) hge)
 have C19_22 := zb C19_21 B21
 have C19_23 := zb C19_22 B22
 have N257_14 : Hid (q6g ≠ b17) := zh (xp_lt0 (Fv158_x.out.keep C19_23.out) hge)
 have C21_23 := zb B21 B22
 have N258_15 : Hid (b14 ≠ b17) := zh (xp_lt0 (heap_keep Fv176_14.out C21_23.out) hge)
 have N259_16 : Hid (q7g ≠ b17) := zh (xp_lt0 (Fv196_x.out.keep B22.out) hge)
 have N260_17 : Hid (b16 ≠ b17) := zh (xp_lt0 (heap_keep Fv216_16.out B22.out) hge)
 have N261_18 : Hid (g64 ≠ b17) := zh (xp_lt0 (heap_keep Fv238_64.out B22.out) hge)
 have Ge262 : Hid (V23.heap.size ≤ b17) := zh hge
 have B23 := zh hb
 have Fv263_17 : Hid (V24.heap[b17]? = some (.cells #[.slice none 0 0] 29 (0, 0))) := zh (h0)
 have Lt264 : Hid (b17 < V24.heap.size) := zh (xp_lt Fv263_17.out)
 clear hge h0 hb
 simp only [ptr, Act.put, zA]
 refine wpList_storeW b17 #[.slice none 0 0] #[.slice rA7 rn7 rc7] 29 (by kernel_rfl) Fv263_17.out (xo_storeW b17 #[.slice none 0 0] #[.slice rA7 rn7 rc7] Fv263_17.out (by kernel_rfl) rfl (by simp [Value.oneCell']) rfl rfl rfl) ?_
 intro X24_265 h1 hfar hbel hsz
 have hbr := hbel _ _ Ge262.out B23.out
 clear B23
 have B23 := zh hbr
 clear hbr
 clear Fv263_17
 have Fv263_17 : Hid (X24_265.heap[b17]? = some (.cells #[.slice rA7 rn7 rc7] 29 (0, 0))) := zh (h1)
 have HszX24_265 := zh hsz
 clear h1 hfar hbel hsz
 simp only [ptr, Act.put, zA]
 refine zr (.int .i64 0) X24_265 rfl ?_
 simp only [Act.put, zA]
 refine wpList_nil ?_
 have hn7 := zh HS7.out.len
 obtain rfl : rn7 = 16 := hn7.out.symm
 go_upto_region 13 with fail
 refine wp_region_lit ?_
 refine zr (.pointer (some ⟨b17, 0, none⟩)) X24_265 (xo_fld0 0 b17 0 (by kernel_rfl) rfl rfl) ?_
 simp only [Act.put, zA]
 refine zr (.slice rA7 16 rc7) X24_265 (xo_load1 ⟨b17, 0, none⟩ _ (cells_at Fv263_17.out 0 rfl) Tryd.underlying27 rfl rfl rfl) ?_
 simp only [Act.put, zA]
 refine zr (.int .i64 16) X24_265 (xo_len rA7 16 rc7 Tryd.underlying27 rfl rfl) ?_
 simp only [Act.put, zA]
 refine zr (.bool false) X24_265 (xo_neqF .i64 16 16 (by omega) rfl rfl rfl) ?_
 simp only [Act.put, zA]
 refine wpList_nil ?_
 go_upto_region 15 with fail
 refine wp_region_lit ?_
 try simp only [List.append_eq, List.cons_append, List.nil_append]
 refine zr (.int .i64 0) X24_265 rfl ?_
 simp only [Act.put, zA]
 refine zr (.bool true) X24_265 (xo_eqlT .i64 0 0 (by omega) rfl rfl rfl) ?_
 simp only [Act.put, zA]
 refine zr (.bool true) X24_265 rfl ?_
 simp only [Act.put, zA]
 have C3_24 := zb C3_23 B23
 refine zr (.agg #[.slice rA0 rn0 rc0]) X24_265 (xo_loadW b1 _ (heap_keep Fv5_1.out C3_24.out) Tryd.underlying29 rfl (by kernel_rfl) rfl rfl) ?_
 simp only [Act.put, zA]
 have C2_4 := zb B2 B3
 have C2_5 := zb C2_4 B4
 have C2_6 := zb C2_5 B5
 have C2_7 := zb C2_6 B6
 have C2_8 := zb C2_7 B7
 have C2_9 := zb C2_8 B8
 have C2_10 := zb C2_9 B9
 have C2_11 := zb C2_10 B10
 have C2_12 := zb C2_11 B11
 have C2_13 := zb C2_12 B12
 have C2_14 := zb C2_13 B13
 have C2_15 := zb C2_14 B14
 have C2_16 := zb C2_15 B15
 have C2_17 := zb C2_16 B16
 have C2_18 := zb C2_17 B17
 have C2_19 := zb C2_18 B18
 have C2_20 := zb C2_19 B19
 have C2_21 := zb C2_20 B20
 have C2_22 := zb C2_21 B21
 have C2_23 := zb C2_22 B22
 have C2_24 := zb C2_23 B23
 refine wpList_call (by kernel_rfl) 29 Tryd.func29 (by kernel_rfl) (by kernel_rfl) _ _ #[.agg #[.slice rA0 rn0 rc0]] rfl (by kernel_rfl) ?_
 refine (first_as rA0 rn0 rc0 (Ty.zs [25500]) 25500 rfl X24_265 (HS0.out.keep C2_24.out)).mono ?_
 rintro e V25 ⟨rfl, hb⟩
 have B24 := zh hb
 clear hb 
 refine ⟨_, rfl, ?_⟩
 simp only [Act.put, zA]
 refine zr (.bool true) V25 (xo_eqlT .i64 25500 25500 (by omega) rfl rfl rfl) ?_
 simp only [Act.put, zA]
 refine zr (.bool true) V25 rfl ?_
 simp only [Act.put, zA]
 refine zr (.bool true) V25 rfl ?_
 simp only [Act.put, zA]
 refine zr (.int .i64 0) V25 rfl ?_
 simp only [Act.put, zA]
 refine zr (.bool true) V25 (xo_eqlT .i64 0 0 (by omega) rfl rfl rfl) ?_
 simp only [Act.put, zA]
 refine zr (.bool true) V25 rfl ?_
 simp only [Act.put, zA]
 refine zr (.bool true) V25 rfl ?_
 simp only [Act.put, zA]
 have C6_24 := zb C6_23 B23
 have C6_25 := zb C6_24 B24
 refine zr (.agg #[.slice rA1 rn1 rc1]) V25 (xo_loadW b4 _ (heap_keep Fv36_4.out C6_25.out) Tryd.underlying29 rfl (by kernel_rfl) rfl rfl) ?_
 simp only [Act.put, zA]
 have C5_7 := zb B5 B6
 have C5_8 := zb C5_7 B7
 have C5_9 := zb C5_8 B8
 have C5_10 := zb C5_9 B9
 have C5_11 := zb C5_10 B10
 have C5_12 := zb C5_11 B11
 have C5_13 := zb C5_12 B12
 have C5_14 := zb C5_13 B13
 have C5_15 := zb C5_14 B14
 have C5_16 := zb C5_15 B15
 have C5_17 := zb C5_16 B16
 have C5_18 := zb C5_17 B17
 have C5_19 := zb C5_18 B18
 have C5_20 := zb C5_19 B19
 have C5_21 := zb C5_20 B20
 have C5_22 := zb C5_21 B21
 have C5_23 := zb C5_22 B22
 have C5_24 := zb C5_23 B23
 have C5_25 := zb C5_24 B24
 refine wpList_call (by kernel_rfl) 29 Tryd.func29 (by kernel_rfl) (by kernel_rfl) _ _ #[.agg #[.slice rA1 rn1 rc1]] rfl (by kernel_rfl) ?_
 refine (first_as rA1 rn1 rc1 (Ty.zs [900]) 900 rfl V25 (HS1.out.keep C5_25.out)).mono ?_
 rintro e V26 ⟨rfl, hb⟩
 have B25 := zh hb
 clear hb 
 refine ⟨_, rfl, ?_⟩
 simp only [Act.put, zA]
 refine zr (.bool true) V26 (xo_eqlT .i64 900 900 (by omega) rfl rfl rfl) ?_
 simp only [Act.put, zA]
 refine zr (.bool true) V26 rfl ?_
 simp only [Act.put, zA]
 refine zr (.bool true) V26 rfl ?_
 simp only [Act.put, zA]
 refine zr (.int .i64 0) V26 rfl ?_
 simp only [Act.put, zA]
 refine zr (.bool true) V26 (xo_eqlT .i64 0 0 (by omega) rfl rfl rfl) ?_
 simp only [Act.put, zA]
 refine zr (.bool true) V26 rfl ?_
 simp only [Act.put, zA]
 refine zr (.bool true) V26 rfl ?_
 simp only [Act.put, zA]
 have C9_24 := zb C9_23 B23
 have C9_25 := zb C9_24 B24
 have C9_26 := zb C9_25 B25
 refine zr (.agg #[.slice rA2 rn2 rc2]) V26 (xo_loadW b6 _ (heap_keep Fv56_6.out C9_26.out) Tryd.underlying29 rfl (by kernel_rfl) rfl rfl) ?_
 simp only [Act.put, zA]
 have C8_10 := zb B8 B9
 have C8_11 := zb C8_10 B10
 have C8_12 := zb C8_11 B11
 have C8_13 := zb C8_12 B12
 have C8_14 := zb C8_13 B13
 have C8_15 := zb C8_14 B14
 have C8_16 := zb C8_15 B15
 have C8_17 := zb C8_16 B16
 have C8_18 := zb C8_17 B17
 have C8_19 := zb C8_18 B18
 have C8_20 := zb C8_19 B19
 have C8_21 := zb C8_20 B20
 have C8_22 := zb C8_21 B21
 have C8_23 := zb C8_22 B22
 have C8_24 := zb C8_23 B23
 have C8_25 := zb C8_24 B24
 have C8_26 := zb C8_25 B25
 refine wpList_call (by kernel_rfl) 29 Tryd.func29 (by kernel_rfl) (by kernel_rfl) _ _ #[.agg #[.slice rA2 rn2 rc2]] rfl (by kernel_rfl) ?_
 refine (first_as rA2 rn2 rc2 (Ty.zs [27494199689062500]) 27494199689062500 rfl V26 (HS2.out.keep C8_26.out)).mono ?_
 rintro e V27 ⟨rfl, hb⟩
 have B26 := zh hb
 clear hb 
 refine ⟨_, rfl, ?_⟩
 simp only [Act.put, zA]
 refine zr (.bool true) V27 (xo_eqlT .i64 27494199689062500 27494199689062500 (by omega) rfl rfl rfl) ?_
 simp only [Act.put, zA]
 refine zr (.bool true) V27 rfl ?_
 simp only [Act.put, zA]
 refine zr (.bool true) V27 rfl ?_
 simp only [Act.put, zA]
 refine zr (.int .i64 141) V27 rfl ?_
 simp only [Act.put, zA]
 refine zr (.bool true) V27 (xo_eqlT .i64 141 141 (by omega) rfl rfl rfl) ?_
 simp only [Act.put, zA]
 refine zr (.bool true) V27 rfl ?_
 simp only [Act.put, zA]
 refine zr (.bool true) V27 rfl ?_
 simp only [Act.put, zA]
 refine zr (.int .i64 140) V27 rfl ?_
 simp only [Act.put, zA]
 refine zr (.bool true) V27 (xo_eqlT .i64 140 140 (by omega) rfl rfl rfl) ?_
 simp only [Act.put, zA]
 refine zr (.bool true) V27 rfl ?_
 simp only [Act.put, zA]
 refine zr (.bool true) V27 rfl ?_
 simp only [Act.put, zA]
 refine zr (.int .i64 1) V27 rfl ?_
 simp only [Act.put, zA]
 refine zr (.bool true) V27 (xo_eqlT .i64 1 1 (by omega) rfl rfl rfl) ?_
 simp only [Act.put, zA]
 refine zr (.bool true) V27 rfl ?_
 simp only [Act.put, zA]
 refine zr (.bool true) V27 rfl ?_
 simp only [Act.put, zA]
 refine zr (.int .i64 1) V27 rfl ?_
 simp only [Act.put, zA]
 refine zr (.bool true) V27 (xo_eqlT .i64 1 1 (by omega) rfl rfl rfl) ?_
 simp only [Act.put, zA]
 refine zr (.bool true) V27 rfl ?_
 simp only [Act.put, zA]
 refine zr (.bool true) V27 rfl ?_
 simp only [Act.put, zA]
 refine zr (.int .i64 0) V27 rfl ?_
 simp only [Act.put, zA]
 refine zr (.bool true) V27 (xo_eqlT .i64 0 0 (by omega) rfl rfl rfl) ?_
 simp only [Act.put, zA]
 refine zr (.bool true) V27 rfl ?_
 simp only [Act.put, zA]
 refine zr (.bool true) V27 rfl ?_
 simp only [Act.put, zA]
 refine zr (.pointer (some ⟨b17, 0, none⟩)) V27 (xo_fld0 0 b17 0 (by kernel_rfl) rfl rfl) ?_
 simp only [Act.put, zA]
 have C24_26 := zb B24 B25
 have C24_27 := zb C24_26 B26
 refine zr (.slice rA7 16 rc7) V27 (xo_load1 ⟨b17, 0, none⟩ _ (cells_at (heap_keep Fv263_17.out C24_27.out) 0 rfl) Tryd.underlying27 rfl rfl rfl) ?_
 simp only [Act.put, zA]
 have C23_25 := zb B23 B24
 have C23_26 := zb C23_25 B25
 have C23_27 := zb C23_26 B26
 refine zr (.pointer (some (gad rA7 (1 * 1)))) V27 (xg_idx .i64 (HS7.out.keep C23_27.out) (show (Ty.zs [0, 0, 5, 5, 0, 0, 0, 0, 0, 0, 0, 0, 0, 0, 0, 0])[1]? = some (0 : Int) from rfl) Tryd.underlying27 (by kernel_rfl) rfl rfl rfl) ?_
 simp only [Act.put, zA]
 refine zr (.int .i64 0) V27 (xg_load1 (E := zzC) (i := 1) (j := 0) (HS7.out.keep C23_27.out) (show (Ty.zs [0, 0, 5, 5, 0, 0, 0, 0, 0, 0, 0, 0, 0, 0, 0, 0])[1]? = some (0 : Int) from rfl) rfl rfl Tryd.underlying2 rfl rfl rfl) ?_
 simp only [Act.put, zA]
 refine zr (.bool true) V27 (xo_eqlT .i64 0 0 (by omega) rfl rfl rfl) ?_
 simp only [Act.put, zA]
 refine zr (.bool true) V27 rfl ?_
 simp only [Act.put, zA]
 refine zr (.bool true) V27 rfl ?_
 simp only [Act.put, zA]
 refine zr (.pointer (some ⟨b17, 0, none⟩)) V27 (xo_fld0 0 b17 0 (by kernel_rfl) rfl rfl) ?_
 simp only [Act.put, zA]
 refine zr (.slice rA7 16 rc7) V27 (xo_load1 ⟨b17, 0, none⟩ _ (cells_at (heap_keep Fv263_17.out C24_27.out) 0 rfl) Tryd.underlying27 rfl rfl rfl) ?_
 simp only [Act.put, zA]
 refine zr (.pointer (some (gad rA7 (2 * 1)))) V27 (xg_idx .i64 (HS7.out.keep C23_27.out) (show (Ty.zs [0, 0, 5, 5, 0, 0, 0, 0, 0, 0, 0, 0, 0, 0, 0, 0])[2]? = some (5 : Int) from rfl) Tryd.underlying27 (by kernel_rfl) rfl rfl rfl) ?_
 simp only [Act.put, zA]
 refine zr (.int .i64 5) V27 (xg_load1 (E := zzC) (i := 2) (j := 0) (HS7.out.keep C23_27.out) (show (Ty.zs [0, 0, 5, 5, 0, 0, 0, 0, 0, 0, 0, 0, 0, 0, 0, 0])[2]? = some (5 : Int) from rfl) rfl rfl Tryd.underlying2 rfl rfl rfl) ?_
 simp only [Act.put, zA]
 refine zr (.bool true) V27 (xo_eqlT .i64 5 5 (by omega) rfl rfl rfl) ?_
 simp only [Act.put, zA]
 refine zr (.bool true) V27 rfl ?_
 simp only [Act.put, zA]
 refine zr (.bool true) V27 rfl ?_
 simp only [Act.put, zA]
 refine zr (.pointer (some ⟨b17, 0, none⟩)) V27 (xo_fld0 0 b17 0 (by kernel_rfl) rfl rfl) ?_
 simp only [Act.put, zA]
 refine zr (.slice rA7 16 rc7) V27 (xo_load1 ⟨b17, 0, none⟩ _ (cells_at (heap_keep Fv263_17.out C24_27.out) 0 rfl) Tryd.underlying27 rfl rfl rfl) ?_
 simp only [Act.put, zA]
 refine zr (.pointer (some (gad rA7 (3 * 1)))) V27 (xg_idx .i64 (HS7.out.keep C23_27.out) (show (Ty.zs [0, 0, 5, 5, 0, 0, 0, 0, 0, 0, 0, 0, 0, 0, 0, 0])[3]? = some (5 : Int) from rfl) Tryd.underlying27 (by kernel_rfl) rfl rfl rfl) ?_
 simp only [Act.put, zA]
 refine zr (.int .i64 5) V27 (xg_load1 (E := zzC) (i := 3) (j := 0) (HS7.out.keep C23_27.out) (show (Ty.zs [0, 0, 5, 5, 0, 0, 0, 0, 0, 0, 0, 0, 0, 0, 0, 0])[3]? = some (5 : Int) from rfl) rfl rfl Tryd.underlying2 rfl rfl rfl) ?_
 simp only [Act.put, zA]
 refine zr (.bool true) V27 (xo_eqlT .i64 5 5 (by omega) rfl rfl rfl) ?_
 simp only [Act.put, zA]
 refine zr (.bool true) V27 rfl ?_
 simp only [Act.put, zA]
 refine zr (.bool true) V27 rfl ?_
 simp only [Act.put, zA]
 refine zr (.pointer (some ⟨b17, 0, none⟩)) V27 (xo_fld0 0 b17 0 (by kernel_rfl) rfl rfl) ?_
 simp only [Act.put, zA]
 refine zr (.slice rA7 16 rc7) V27 (xo_load1 ⟨b17, 0, none⟩ _ (cells_at (heap_keep Fv263_17.out C24_27.out) 0 rfl) Tryd.underlying27 rfl rfl rfl) ?_
 simp only [Act.put, zA]
 refine zr (.pointer (some (gad rA7 (4 * 1)))) V27 (xg_idx .i64 (HS7.out.keep C23_27.out) (show (Ty.zs [0, 0, 5, 5, 0, 0, 0, 0, 0, 0, 0, 0, 0, 0, 0, 0])[4]? = some (0 : Int) from rfl) Tryd.underlying27 (by kernel_rfl) rfl rfl rfl) ?_
 simp only [Act.put, zA]
 refine zr (.int .i64 0) V27 (xg_load1 (E := zzC) (i := 4) (j := 0) (HS7.out.keep C23_27.out) (show (Ty.zs [0, 0, 5, 5, 0, 0, 0, 0, 0, 0, 0, 0, 0, 0, 0, 0])[4]? = some (0 : Int) from rfl) rfl rfl Tryd.underlying2 rfl rfl rfl) ?_
 simp only [Act.put, zA]
 refine zr (.bool true) V27 (xo_eqlT .i64 0 0 (by omega) rfl rfl rfl) ?_
 simp only [Act.put, zA]
 refine zr (.bool true) V27 rfl ?_
 simp only [Act.put, zA]
 refine zr (.bool true) V27 rfl ?_
 simp only [Act.put, zA]
 refine zr (.agg #[.int .i64 7, .int .i64 0, .int .i64 0, .slice none 0 0]) V27 (by unfold execOp; go_simp <;> rfl) ?_
 simp only [Act.put, zA]
 refine wpList_call (by kernel_rfl) 15 Tryd.func15 (by kernel_rfl) (by kernel_rfl) _ _ #[.agg #[.int .i64 7, .int .i64 0, .int .i64 0, .slice none 0 0]] rfl (by kernel_rfl) ?_
 refine (sums_as 7 0 0 none 0 0 32 rfl V27).mono ?_
 rintro e V28 ⟨rfl, hb⟩
 have B27 := zh hb
 clear hb 
 refine ⟨_, rfl, ?_⟩
 simp only [Act.put, zA]
 refine zr (.bool true) V28 (xo_eqlT .i64 32 32 (by omega) rfl rfl rfl) ?_
 simp only [Act.put, zA]
 refine zr (.bool true) V28 rfl ?_
 simp only [Act.put, zA]
 refine zr (.bool true) V28 rfl ?_
 simp only [Act.put, zA]
 refine zr (.agg #[.int .i64 0, .int .i64 0, .int .i64 0, .slice none 0 0]) V28 (by unfold execOp; go_simp <;> rfl) ?_
 simp only [Act.put, zA]
 refine wpList_call (by kernel_rfl) 15 Tryd.func15 (by kernel_rfl) (by kernel_rfl) _ _ #[.agg #[.int .i64 0, .int .i64 0, .int .i64 0, .slice none 0 0]] rfl (by kernel_rfl) ?_
 refine (sums_as 0 0 0 none 0 0 0 rfl V28).mono ?_
 rintro e V29 ⟨rfl, hb⟩
 have B28 := zh hb
 clear hb 
 refine ⟨_, rfl, ?_⟩
 simp only [Act.put, zA]
 refine zr (.bool true) V29 (xo_eqlT .i64 0 0 (by omega) rfl rfl rfl) ?_
 simp only [Act.put, zA]
 refine zr (.bool true) V29 rfl ?_
 simp only [Act.put, zA]
 refine zr (.bool true) V29 rfl ?_
 simp only [Act.put, zA]
 have C0_23 := zb C0_22 B22
 have C0_24 := zb C0_23 B23
 have C0_25 := zb C0_24 B24
 have C0_26 := zb C0_25 B25
 have C0_27 := zb C0_26 B26
 have C0_28 := zb C0_27 B27
 have C0_29 := zb C0_28 B28
 refine wpList_call (by kernel_rfl) 17 Tryd.func17 (by kernel_rfl) (by kernel_rfl) _ _ #[.int .i64 1] rfl (by kernel_rfl) ?_
 refine (bits_as 1 8 rfl V29 (HG.out.keep C0_29.out)).mono ?_
 rintro e W1 ⟨rfl, hw1⟩
 rw [hw1]
 clear hw1 W1
 refine ⟨_, rfl, ?_⟩
 simp only [Act.put, zA]
 refine zr (.bool true) V29 (xo_eqlT .i64 8 8 (by omega) rfl rfl rfl) ?_
 simp only [Act.put, zA]
 refine zr (.bool true) V29 rfl ?_
 simp only [Act.put, zA]
 refine zr (.bool true) V29 rfl ?_
 simp only [Act.put, zA]
 refine wpList_call (by kernel_rfl) 17 Tryd.func17 (by kernel_rfl) (by kernel_rfl) _ _ #[.int .i64 4] rfl (by kernel_rfl) ?_
 refine (bits_as 4 1 rfl V29 (HG.out.keep C0_29.out)).mono ?_
 rintro e W1 ⟨rfl, hw1⟩
 rw [hw1]
 clear hw1 W1
 refine ⟨_, rfl, ?_⟩
 simp only [Act.put, zA]
 refine zr (.bool true) V29 (xo_eqlT .i64 1 1 (by omega) rfl rfl rfl) ?_
 simp only [Act.put, zA]
 refine zr (.bool true) V29 rfl ?_
 simp only [Act.put, zA]
 refine zr (.bool true) V29 rfl ?_
 simp only [Act.put, zA]
 refine wpList_call (by kernel_rfl) 17 Tryd.func17 (by kernel_rfl) (by kernel_rfl) _ _ #[.int .i64 5] rfl (by kernel_rfl) ?_
 refine (bits_as 5 0 rfl V29 (HG.out.keep C0_29.out)).mono ?_
 rintro e W1 ⟨rfl, hw1⟩
 rw [hw1]
 clear hw1 W1
 refine ⟨_, rfl, ?_⟩
 simp only [Act.put, zA]
 refine zr (.bool true) V29 (xo_eqlT .i64 0 0 (by omega) rfl rfl rfl) ?_
 simp only [Act.put, zA]
 refine zr (.bool true) V29 rfl ?_
 simp only [Act.put, zA]
 refine zr (.bool true) V29 rfl ?_
 simp only [Act.put, zA]
 refine wpList_nil ?_
 have hbf := C0_29.out
 go_wp2_with fail
 go_ret
 exact ⟨rfl, hbf⟩
end Go.Proofs.YtbecajihgbbgjaaDoor

