/- A law of stage 12: ReadingEncoding. -/
import Derived.Test.YtopicjdmajlndaaDoorH18
namespace Go.Proofs.YtopicjdmajlndaaDoor
set_option linter.unusedVariables false
set_option linter.unusedSimpArgs false
set_option linter.unusedSectionVars false
set_option maxRecDepth 8000
open Go.RowKit Go.Proofs.YtopicjdmajlndaaDoor.K
attribute [local irreducible] wpList wpQuiet
theorem decode_back (A : Option Addr) (c p q s t : Nat) (hp : p < 16) (hq : q < 256) (hs : s < 16) (ht : t < 256) (w : World) (h : Sg byC 1 w A 3 c [p + s * 16, q, t]) : Calls Tryd.prog 23 #[.slice A 3 c] w fun e w' => e = .returned (.tuple #[.agg #[.int .i64 (p : Int), .int .i64 (q : Int), .int .i64 (s : Int), .int .i64 (t : Int)], .int .i64 0]) ∧ Below w.heap.size w w' := by
  have hd := decode_yes A c (p + s * 16) q t (by omega) hq ht w h
  rwa [show decR (p + s * 16) q t = Rd.mk (p : Int) (q : Int) (s : Int) (t : Int) by
    unfold decR
    rw [show (p + s * 16) % 16 = p by omega, show (p + s * 16) / 16 = s by omega]] at hd
set_option maxRecDepth 100000 in
set_option maxHeartbeats 16000000 in
theorem rEncoding_any (x y z : Nat) (hx : x < 256) (hy : y < 256) (hz : z < 256) (a b k d : Int) (A : Option Addr) (n c : Nat) (xs : List Nat) (w : World) (hM : Sg byC 1 w A n c xs) (hW : Gw w) :
    Calls Tryd.prog 9 #[.agg #[.int .u8 (x : Int), .int .u8 (y : Int), .int .u8 (z : Int)], .agg #[.int .i64 a, .int .i64 b, .int .i64 k, .int .i64 d], .slice A n c] w fun e w' => e = .returned (.bool true) ∧ Below w.heap.size w w' := by
  have HW := Lib.hid hW
  have HM := Lib.hid hM
  have hcap := hM.cap
  have htop := hM.top
  clear hW hM
  go_enter Tryd.func9, Tryd.ntmps9
  go_upto_region 1 with fail
  refine wp_named2 (fun V1 hb g0 g1 hlt => ?_)
  have B0 := Lib.hid hb
  have Fv0_3 : Hid (V1.heap[w.heap.size]? = some (.cells #[.int .u8 (x : Int), .int .u8 (y : Int), .int .u8 (z : Int)] 44 (0, 0))) := Lib.hid (g0)
  have Fv1_4 : Hid (V1.heap[(w.heap.size + 1)]? = some (.cells #[.int .i64 a, .int .i64 b, .int .i64 k, .int .i64 d] 24 (0, 0))) := Lib.hid (g1)
  have Nb0_1 : Hid (w.heap.size ≠ (w.heap.size + 1)) := Lib.hid (by omega)
  have Gb0 : Hid (w.heap.size ≤ w.heap.size) := Lib.hid (by omega)
  have Gb1 : Hid (w.heap.size ≤ (w.heap.size + 1)) := Lib.hid (by omega)
  clear hb g0 g1 hlt
  have Lt0 : Hid (w.heap.size < V1.heap.size) := Lib.hid (xp_lt Fv0_3.out)
  have Lt1 : Hid ((w.heap.size + 1) < V1.heap.size) := Lib.hid (xp_lt Fv1_4.out)
  refine wp_region_lit ?_
  refine wpList_call (by kernel_rfl) 10 Tryd.func10 (by kernel_rfl) (by kernel_rfl) _ _ #[] rfl (by kernel_rfl) ?_
  refine (sanity12_any V1 (HW.out.keep B0.out)).mono ?_
  rintro e V2 ⟨rfl, hb⟩
  have B1 := Lib.hid hb
  clear hb 
  refine ⟨_, rfl, ?_⟩
  simp only [Act.put, List.setIfInBounds_toArray, List.set_cons_zero, List.set_cons_succ]
  refine wpList_run (by kernel_rfl) (.bool true) V2 rfl ?_
  simp only [Act.put, List.setIfInBounds_toArray, List.set_cons_zero, List.set_cons_succ]
  refine wpList_nil ?_
  go_upto_region 2 with fail
  refine wp_region_lit ?_
  refine wpList_run (by kernel_rfl) (.pointer (some ⟨w.heap.size, 0, none⟩)) V2 (by unfold execOp; go_simp) ?_
  simp only [Act.put, List.setIfInBounds_toArray, List.set_cons_zero, List.set_cons_succ]
  refine wpList_run (by kernel_rfl) (.int .u8 (x : Int)) V2 (xo_load1 ⟨w.heap.size, 0, none⟩ _ (cells_at (heap_keep Fv0_3.out B1.out) 0 rfl) Tryd.underlying5 rfl rfl rfl) ?_
  simp only [Act.put, List.setIfInBounds_toArray, List.set_cons_zero, List.set_cons_succ]
  refine wpList_run (by kernel_rfl) (.pointer (some ⟨w.heap.size, 1, none⟩)) V2 (by unfold execOp; go_simp) ?_
  simp only [Act.put, List.setIfInBounds_toArray, List.set_cons_zero, List.set_cons_succ]
  refine wpList_run (by kernel_rfl) (.int .u8 (y : Int)) V2 (xo_load1 ⟨w.heap.size, 1, none⟩ _ (cells_at (heap_keep Fv0_3.out B1.out) 1 rfl) Tryd.underlying5 rfl rfl rfl) ?_
  simp only [Act.put, List.setIfInBounds_toArray, List.set_cons_zero, List.set_cons_succ]
  refine wpList_run (by kernel_rfl) (.pointer (some ⟨w.heap.size, 2, none⟩)) V2 (by unfold execOp; go_simp) ?_
  simp only [Act.put, List.setIfInBounds_toArray, List.set_cons_zero, List.set_cons_succ]
  refine wpList_run (by kernel_rfl) (.int .u8 (z : Int)) V2 (xo_load1 ⟨w.heap.size, 2, none⟩ _ (cells_at (heap_keep Fv0_3.out B1.out) 2 rfl) Tryd.underlying5 rfl rfl rfl) ?_
  simp only [Act.put, List.setIfInBounds_toArray, List.set_cons_zero, List.set_cons_succ]
  refine wpList_mk (by kernel_rfl) ([x, y, z].flatMap byC).toArray 5 3 3 (xg_lit (E := byC) (bytes := 1) (.int .u8 0) [.tmp 17, .tmp 19, .tmp 21] [x, y, z] 3 Tryd.underlying25 (by kernel_rfl) rfl (by decide) (by decide) rfl rfl) ?_
  intro g22 V3 hge h0 hb
  have N2_0 : Hid (w.heap.size ≠ g22) := Lib.hid (xp_lt0 (heap_keep Fv0_3.out B1.out) hge)
  have N3_1 : Hid ((w.heap.size + 1) ≠ g22) := Lib.hid (xp_lt0 (heap_keep Fv1_4.out B1.out) hge)
  have Ge4 : Hid (V2.heap.size ≤ g22) := Lib.hid hge
  have B2 := Lib.hid hb
  have Fv5_22 : Hid (RowG byC V3 g22 5 ([x, y, z])) := Lib.hid (h0)
  have Lt6 : Hid (g22 < V3.heap.size) := Lib.hid (xp_lt Fv5_22.out)
  clear hge h0 hb
  simp only [ptr, Act.put, List.setIfInBounds_toArray, List.set_cons_zero, List.set_cons_succ]
  refine wpList_call (by kernel_rfl) 23 Tryd.func23 (by kernel_rfl) (by kernel_rfl) _ _ #[.slice (some ⟨g22, 0, none⟩) 3 3] rfl (by kernel_rfl) ?_
  refine (decode_yes (some ⟨g22, 0, none⟩) 3 x y z hx hy hz V3 (RowG.sg (n := 3) (c := 3) Fv5_22.out (show ([x, y, z]).length = 3 from rfl) (Nat.le_refl _) (by omega))).mono ?_
  rintro e V4 ⟨rfl, hb⟩
  have B3 := Lib.hid hb
  clear hb 
  refine ⟨_, rfl, ?_⟩
  simp only [Act.put, List.setIfInBounds_toArray, List.set_cons_zero, List.set_cons_succ]
  refine wpList_run (by kernel_rfl) (.tuple #[.agg #[.int .i64 ((decR x y z).who), .int .i64 ((decR x y z).when_), .int .i64 ((decR x y z).kind), .int .i64 ((decR x y z).value)], .int .i64 0]) V4 rfl ?_
  simp only [Act.put, List.setIfInBounds_toArray, List.set_cons_zero, List.set_cons_succ]
  refine wpList_run (by kernel_rfl) (.agg #[.int .i64 ((decR x y z).who), .int .i64 ((decR x y z).when_), .int .i64 ((decR x y z).kind), .int .i64 ((decR x y z).value)]) V4 rfl ?_
  simp only [Act.put, List.setIfInBounds_toArray, List.set_cons_zero, List.set_cons_succ]
  refine wpList_run (by kernel_rfl) (.int .i64 0) V4 rfl ?_
  simp only [Act.put, List.setIfInBounds_toArray, List.set_cons_zero, List.set_cons_succ]
  refine wpList_new #[.int .i64 0, .int .i64 0, .int .i64 0, .int .i64 0] 24 (by kernel_rfl) (xo_alloc #[.int .i64 0, .int .i64 0, .int .i64 0, .int .i64 0] (by kernel_rfl) rfl) ?_
  intro b8 V5 hge h0 hb
  have C1_3 := Lib.hid (bel_step B1.out B2.out)
  have C1_4 := Lib.hid (bel_step C1_3.out B3.out)
  have N7_0 : Hid (w.heap.size ≠ b8) := Lib.hid (xp_lt0 (heap_keep Fv0_3.out C1_4.out) hge)
  have N8_1 : Hid ((w.heap.size + 1) ≠ b8) := Lib.hid (xp_lt0 (heap_keep Fv1_4.out C1_4.out) hge)
  have N9_2 : Hid (g22 ≠ b8) := Lib.hid (xp_lt0 (Fv5_22.out.keep B3.out) hge)
  have Ge10 : Hid (V4.heap.size ≤ b8) := Lib.hid hge
  have B4 := Lib.hid hb
  have Fv11_8 : Hid (V5.heap[b8]? = some (.cells #[.int .i64 0, .int .i64 0, .int .i64 0, .int .i64 0] 24 (0, 0))) := Lib.hid (h0)
  have Lt12 : Hid (b8 < V5.heap.size) := Lib.hid (xp_lt Fv11_8.out)
  clear hge h0 hb
  simp only [ptr, Act.put, List.setIfInBounds_toArray, List.set_cons_zero, List.set_cons_succ]
  refine wpList_storeW b8 #[.int .i64 0, .int .i64 0, .int .i64 0, .int .i64 0] #[.int .i64 ((decR x y z).who), .int .i64 ((decR x y z).when_), .int .i64 ((decR x y z).kind), .int .i64 ((decR x y z).value)] 24 (by kernel_rfl) Fv11_8.out (xo_storeW b8 #[.int .i64 0, .int .i64 0, .int .i64 0, .int .i64 0] #[.int .i64 ((decR x y z).who), .int .i64 ((decR x y z).when_), .int .i64 ((decR x y z).kind), .int .i64 ((decR x y z).value)] Fv11_8.out (by kernel_rfl) rfl (by simp [Value.oneCell']) rfl rfl rfl) ?_
  intro X5_13 h1 hfar hbel hsz
  have hbr := hbel _ _ Ge10.out B4.out
  clear B4
  have B4 := Lib.hid hbr
  clear hbr
  clear Fv11_8
  have Fv11_8 : Hid (X5_13.heap[b8]? = some (.cells #[.int .i64 ((decR x y z).who), .int .i64 ((decR x y z).when_), .int .i64 ((decR x y z).kind), .int .i64 ((decR x y z).value)] 24 (0, 0))) := Lib.hid (h1)
  have HszX5_13 := Lib.hid hsz
  clear h1 hfar hbel hsz
  simp only [ptr, Act.put, List.setIfInBounds_toArray, List.set_cons_zero, List.set_cons_succ]
  refine wpList_run (by kernel_rfl) (.int .i64 0) X5_13 rfl ?_
  simp only [Act.put, List.setIfInBounds_toArray, List.set_cons_zero, List.set_cons_succ]
  refine wpList_nil ?_
  go_upto_region 3 with fail
  try simp only [List.append_eq, List.cons_append, List.nil_append]
  refine wp_ordX (.q 0 (.q 1 (.q 2 (.q 3 (.one 4 (.q 5 (.q 6 (.q 7 (.q 8 (.q 11 (.q 12 (.q 13 (.q 14 (.q 15 (.q 16 (.fork 9 (.q 10 (.one 17 (.q 18 (.q 19 (.q 20 .nil))))) 17 (.q 18 (.one 9 (.q 10 (.q 19 (.q 20 .nil))))))))))))))))))))) (by kernel_rfl) (by kernel_rfl) (fun _ _ dt _ _ h => by first | exact h.elim | (cases dt <;> exact h)) (by kernel_rfl) (by kernel_rfl) (fun V6 hb => ?_)
  have B5 := Lib.hid hb
  clear hb
  refine wpX_q (.int .i64 0) rfl (by kernel_rfl) (fun v hW => rfl) ?_
  simp only [ptr, Act.put, List.setIfInBounds_toArray, List.set_cons_zero, List.set_cons_succ]
  refine wpX_q (.bool false) rfl (by kernel_rfl) (fun v hW => (xo_neqF .i64 0 0 (by omega) rfl rfl rfl)) ?_
  simp only [ptr, Act.put, List.setIfInBounds_toArray, List.set_cons_zero, List.set_cons_succ]
  refine wpX_q (.bool false) rfl (by kernel_rfl) (fun v hW => rfl) ?_
  simp only [ptr, Act.put, List.setIfInBounds_toArray, List.set_cons_zero, List.set_cons_succ]
  refine wpX_q (.agg #[.int .i64 ((decR x y z).who), .int .i64 ((decR x y z).when_), .int .i64 ((decR x y z).kind), .int .i64 ((decR x y z).value)]) rfl (by kernel_rfl) (fun v hW => (xo_loadW b8 _ (heap_keep (heap_keep Fv11_8.out B5.out) hW) Tryd.underlying24 rfl (by kernel_rfl) rfl rfl)) ?_
  simp only [ptr, Act.put, List.setIfInBounds_toArray, List.set_cons_zero, List.set_cons_succ]
  refine wpX_one rfl (by kernel_rfl) ?_
  have C0_2 := Lib.hid (bel_step B0.out B1.out)
  have C0_3 := Lib.hid (bel_step C0_2.out B2.out)
  have C0_4 := Lib.hid (bel_step C0_3.out B3.out)
  have C0_5 := Lib.hid (bel_step C0_4.out B4.out)
  have C0_6 := Lib.hid (bel_step C0_5.out B5.out)
  refine hOp_call 17 Tryd.func17 (by kernel_rfl) (by kernel_rfl) _ _ #[.agg #[.int .i64 ((decR x y z).who), .int .i64 ((decR x y z).when_), .int .i64 ((decR x y z).kind), .int .i64 ((decR x y z).value)]] rfl (by kernel_rfl) ?_
  refine (valid_as (decR x y z) true (vR_dec hx hy hz) V6 (HW.out.keep C0_6.out)).mono ?_
  rintro e V7 ⟨rfl, hb⟩
  have B6 := Lib.hid hb
  clear hb 
  refine ⟨_, rfl, B6.out, ?_⟩
  simp only [ptr, Act.put, List.setIfInBounds_toArray, List.set_cons_zero, List.set_cons_succ]
  refine wpX_q (.bool false) rfl (by kernel_rfl) (fun v hW => rfl) ?_
  simp only [ptr, Act.put, List.setIfInBounds_toArray, List.set_cons_zero, List.set_cons_succ]
  refine wpX_q (.bool false) rfl (by kernel_rfl) (fun v hW => rfl) ?_
  simp only [ptr, Act.put, List.setIfInBounds_toArray, List.set_cons_zero, List.set_cons_succ]
  refine wpX_q (.bool false) rfl (by kernel_rfl) (fun v hW => rfl) ?_
  simp only [ptr, Act.put, List.setIfInBounds_toArray, List.set_cons_zero, List.set_cons_succ]
  have C5_7 := Lib.hid (bel_step B5.out B6.out)
  refine wpX_q (.agg #[.int .i64 ((decR x y z).who), .int .i64 ((decR x y z).when_), .int .i64 ((decR x y z).kind), .int .i64 ((decR x y z).value)]) rfl (by kernel_rfl) (fun v hW => (xo_loadW b8 _ (heap_keep (heap_keep Fv11_8.out C5_7.out) hW) Tryd.underlying24 rfl (by kernel_rfl) rfl rfl)) ?_
  simp only [ptr, Act.put, List.setIfInBounds_toArray, List.set_cons_zero, List.set_cons_succ]
  refine wpX_q (.pointer (some ⟨w.heap.size, 0, none⟩)) rfl (by kernel_rfl) (fun v hW => (by unfold execOp; go_simp)) ?_
  simp only [ptr, Act.put, List.setIfInBounds_toArray, List.set_cons_zero, List.set_cons_succ]
  have C1_5 := Lib.hid (bel_step C1_4.out B4.out)
  have C1_6 := Lib.hid (bel_step C1_5.out B5.out)
  have C1_7 := Lib.hid (bel_step C1_6.out B6.out)
  refine wpX_q (.int .u8 (x : Int)) rfl (by kernel_rfl) (fun v hW => (xo_load1 ⟨w.heap.size, 0, none⟩ _ (cells_at (heap_keep (heap_keep Fv0_3.out C1_7.out) hW) 0 rfl) Tryd.underlying5 rfl rfl rfl)) ?_
  simp only [ptr, Act.put, List.setIfInBounds_toArray, List.set_cons_zero, List.set_cons_succ]
  refine wpX_q (.pointer (some ⟨w.heap.size, 1, none⟩)) rfl (by kernel_rfl) (fun v hW => (by unfold execOp; go_simp)) ?_
  simp only [ptr, Act.put, List.setIfInBounds_toArray, List.set_cons_zero, List.set_cons_succ]
  refine wpX_q (.int .u8 (y : Int)) rfl (by kernel_rfl) (fun v hW => (xo_load1 ⟨w.heap.size, 1, none⟩ _ (cells_at (heap_keep (heap_keep Fv0_3.out C1_7.out) hW) 1 rfl) Tryd.underlying5 rfl rfl rfl)) ?_
  simp only [ptr, Act.put, List.setIfInBounds_toArray, List.set_cons_zero, List.set_cons_succ]
  refine wpX_q (.pointer (some ⟨w.heap.size, 2, none⟩)) rfl (by kernel_rfl) (fun v hW => (by unfold execOp; go_simp)) ?_
  simp only [ptr, Act.put, List.setIfInBounds_toArray, List.set_cons_zero, List.set_cons_succ]
  refine wpX_q (.int .u8 (z : Int)) rfl (by kernel_rfl) (fun v hW => (xo_load1 ⟨w.heap.size, 2, none⟩ _ (cells_at (heap_keep (heap_keep Fv0_3.out C1_7.out) hW) 2 rfl) Tryd.underlying5 rfl rfl rfl)) ?_
  simp only [ptr, Act.put, List.setIfInBounds_toArray, List.set_cons_zero, List.set_cons_succ]
  refine wpX_fork ?_ ?_
  · refine wpX_one rfl (by kernel_rfl) ?_
    refine hOp_call 27 Tryd.func27 (by kernel_rfl) (by kernel_rfl) _ _ #[.agg #[.int .i64 ((decR x y z).who), .int .i64 ((decR x y z).when_), .int .i64 ((decR x y z).kind), .int .i64 ((decR x y z).value)]] rfl (by kernel_rfl) ?_
    refine (encode_any (x % 16) y (x / 16) z (by omega) hy (by omega) hz V7).mono ?_
    rintro e V8 ⟨Ae, ce, rfl, hs, hb⟩
    have B7 := Lib.hid hb
    rw [show x % 16 + x / 16 * 16 = x by omega] at hs
    have HEn := Lib.hid hs
    clear hb hs
    refine ⟨_, rfl, B7.out, ?_⟩
    simp only [ptr, Act.put, List.setIfInBounds_toArray, List.set_cons_zero, List.set_cons_succ]
    refine wpX_q (.string (strB ([x, y, z]))) rfl (by kernel_rfl) (fun v hW => (xg_str (xs := [x, y, z]) (HEn.out.keep hW) (by decide) Tryd.underlying25 Tryd.underlying5 Tryd.underlying9 rfl rfl)) ?_
    simp only [ptr, Act.put, List.setIfInBounds_toArray, List.set_cons_zero, List.set_cons_succ]
    refine wpX_one rfl (by kernel_rfl) ?_
    refine hOp_mk ([x, y, z].flatMap byC).toArray 5 3 3 (xg_lit (E := byC) (bytes := 1) (.int .u8 0) [.tmp 38, .tmp 40, .tmp 42] [x, y, z] 3 Tryd.underlying25 (by kernel_rfl) rfl (by decide) (by decide) rfl rfl) ?_
    intro g43 V9 hge h0 hb
    have C1_8 := Lib.hid (bel_step C1_7.out B7.out)
    have N14_0 : Hid (w.heap.size ≠ g43) := Lib.hid (xp_lt0 (heap_keep Fv0_3.out C1_8.out) hge)
    have N15_1 : Hid ((w.heap.size + 1) ≠ g43) := Lib.hid (xp_lt0 (heap_keep Fv1_4.out C1_8.out) hge)
    have C3_5 := Lib.hid (bel_step B3.out B4.out)
    have C3_6 := Lib.hid (bel_step C3_5.out B5.out)
    have C3_7 := Lib.hid (bel_step C3_6.out B6.out)
    have C3_8 := Lib.hid (bel_step C3_7.out B7.out)
    have N16_2 : Hid (g22 ≠ g43) := Lib.hid (xp_lt0 (Fv5_22.out.keep C3_8.out) hge)
    have C5_8 := Lib.hid (bel_step C5_7.out B7.out)
    have N17_3 : Hid (b8 ≠ g43) := Lib.hid (xp_lt0 (heap_keep Fv11_8.out C5_8.out) hge)
    have Ge18 : Hid (V8.heap.size ≤ g43) := Lib.hid hge
    have B8 := Lib.hid hb
    have Fv19_43 : Hid (RowG byC V9 g43 5 ([x, y, z])) := Lib.hid (h0)
    have Lt20 : Hid (g43 < V9.heap.size) := Lib.hid (xp_lt Fv19_43.out)
    clear hge h0 hb
    refine ⟨B8.out, ?_⟩
    simp only [ptr, Act.put, List.setIfInBounds_toArray, List.set_cons_zero, List.set_cons_succ]
    refine wpX_q (.string (strB ([x, y, z]))) rfl (by kernel_rfl) (fun v hW => (xg_str (xs := [x, y, z]) (RowG.sg (n := 3) (c := 3) (Fv19_43.out.keep hW) (show ([x, y, z]).length = 3 from rfl) (Nat.le_refl _) (by omega)) (by decide) Tryd.underlying25 Tryd.underlying5 Tryd.underlying9 rfl rfl)) ?_
    simp only [ptr, Act.put, List.setIfInBounds_toArray, List.set_cons_zero, List.set_cons_succ]
    refine wpX_q (.bool false) rfl (by kernel_rfl) (fun v hW => (xo_neS (strB ([x, y, z])) Tryd.underlying9 rfl rfl rfl)) ?_
    simp only [ptr, Act.put, List.setIfInBounds_toArray, List.set_cons_zero, List.set_cons_succ]
    refine wpX_q (.bool false) rfl (by kernel_rfl) (fun v hW => rfl) ?_
    simp only [ptr, Act.put, List.setIfInBounds_toArray, List.set_cons_zero, List.set_cons_succ]
    refine wpX_nil ?_
    by_cases hn3 : n = 3
    · have hci21 : ¬ ((n : Int) ≠ 3) := by omega
      go_upto_region 5 with fail
      refine wp_region_lit ?_
      refine wpList_run (by kernel_rfl) (.slice A n c) V9 rfl ?_
      simp only [Act.put, List.setIfInBounds_toArray, List.set_cons_zero, List.set_cons_succ]
      refine wpList_run (by kernel_rfl) (.int .i64 (n : Int)) V9 (xo_len A n c Tryd.underlying25 rfl rfl) ?_
      simp only [Act.put, List.setIfInBounds_toArray, List.set_cons_zero, List.set_cons_succ]
      refine wpList_run (by kernel_rfl) (.bool false) V9 (xo_neqF .i64 (n : Int) 3 (by omega) rfl rfl rfl) ?_
      simp only [Act.put, List.setIfInBounds_toArray, List.set_cons_zero, List.set_cons_succ]
      refine wpList_run (by kernel_rfl) (.bool false) V9 rfl ?_
      simp only [Act.put, List.setIfInBounds_toArray, List.set_cons_zero, List.set_cons_succ]
      refine wpList_skip (by kernel_rfl) ?_
      try simp only [Act.put, List.setIfInBounds_toArray, List.set_cons_zero, List.set_cons_succ]
      refine wpList_skip (by kernel_rfl) ?_
      try simp only [Act.put, List.setIfInBounds_toArray, List.set_cons_zero, List.set_cons_succ]
      refine wpList_skip (by kernel_rfl) ?_
      try simp only [Act.put, List.setIfInBounds_toArray, List.set_cons_zero, List.set_cons_succ]
      refine wpList_run (by kernel_rfl) (.bool false) V9 rfl ?_
      simp only [Act.put, List.setIfInBounds_toArray, List.set_cons_zero, List.set_cons_succ]
      refine wpList_nil ?_
      cases hv : vR (Rd.mk a b k d) with
      | false =>
        go_upto_region 9 with fail
        refine wp_region_lit ?_
        have C1_9 := Lib.hid (bel_step C1_8.out B8.out)
        refine wpList_run (by kernel_rfl) (.agg #[.int .i64 a, .int .i64 b, .int .i64 k, .int .i64 d]) V9 (xo_loadW (w.heap.size + 1) _ (heap_keep Fv1_4.out C1_9.out) Tryd.underlying24 rfl (by kernel_rfl) rfl rfl) ?_
        simp only [Act.put, List.setIfInBounds_toArray, List.set_cons_zero, List.set_cons_succ]
        have C0_7 := Lib.hid (bel_step C0_6.out B6.out)
        have C0_8 := Lib.hid (bel_step C0_7.out B7.out)
        have C0_9 := Lib.hid (bel_step C0_8.out B8.out)
        refine wpList_call (by kernel_rfl) 17 Tryd.func17 (by kernel_rfl) (by kernel_rfl) _ _ #[.agg #[.int .i64 a, .int .i64 b, .int .i64 k, .int .i64 d]] rfl (by kernel_rfl) ?_
        refine (valid_as (Rd.mk a b k d) false hv V9 (HW.out.keep C0_9.out)).mono ?_
        rintro e V10 ⟨rfl, hb⟩
        have B9 := Lib.hid hb
        clear hb 
        refine ⟨_, rfl, ?_⟩
        simp only [Act.put, List.setIfInBounds_toArray, List.set_cons_zero, List.set_cons_succ]
        refine wpList_run (by kernel_rfl) (.bool true) V10 rfl ?_
        simp only [Act.put, List.setIfInBounds_toArray, List.set_cons_zero, List.set_cons_succ]
        refine wpList_nil ?_
        go_upto_region 10 with fail
        refine wp_region_lit ?_
        refine wpList_run (by kernel_rfl) (.bool true) V10 rfl ?_
        simp only [Act.put, List.setIfInBounds_toArray, List.set_cons_zero, List.set_cons_succ]
        refine wpList_run (by kernel_rfl) (.bool true) V10 rfl ?_
        simp only [Act.put, List.setIfInBounds_toArray, List.set_cons_zero, List.set_cons_succ]
        refine wpList_nil ?_
        go_wp2_with fail
        go_ret
        have C0_10 := Lib.hid (bel_step C0_9.out B9.out)
        exact ⟨rfl, C0_10.out⟩
      | true =>
        go_upto_region 9 with fail
        refine wp_region_lit ?_
        have C1_9 := Lib.hid (bel_step C1_8.out B8.out)
        refine wpList_run (by kernel_rfl) (.agg #[.int .i64 a, .int .i64 b, .int .i64 k, .int .i64 d]) V9 (xo_loadW (w.heap.size + 1) _ (heap_keep Fv1_4.out C1_9.out) Tryd.underlying24 rfl (by kernel_rfl) rfl rfl) ?_
        simp only [Act.put, List.setIfInBounds_toArray, List.set_cons_zero, List.set_cons_succ]
        have C0_7 := Lib.hid (bel_step C0_6.out B6.out)
        have C0_8 := Lib.hid (bel_step C0_7.out B7.out)
        have C0_9 := Lib.hid (bel_step C0_8.out B8.out)
        refine wpList_call (by kernel_rfl) 17 Tryd.func17 (by kernel_rfl) (by kernel_rfl) _ _ #[.agg #[.int .i64 a, .int .i64 b, .int .i64 k, .int .i64 d]] rfl (by kernel_rfl) ?_
        refine (valid_as (Rd.mk a b k d) true hv V9 (HW.out.keep C0_9.out)).mono ?_
        rintro e V10 ⟨rfl, hb⟩
        have B9 := Lib.hid hb
        clear hb 
        refine ⟨_, rfl, ?_⟩
        simp only [Act.put, List.setIfInBounds_toArray, List.set_cons_zero, List.set_cons_succ]
        refine wpList_run (by kernel_rfl) (.bool false) V10 rfl ?_
        simp only [Act.put, List.setIfInBounds_toArray, List.set_cons_zero, List.set_cons_succ]
        refine wpList_nil ?_
        have hvv := vR_iff.1 hv
        simp only at hvv
        obtain ⟨⟨hv0, hv1⟩, ⟨hv2, hv3⟩, ⟨hv4, hv5⟩, hv6, hv7⟩ := hvv
        clear hv
        obtain ⟨p, rfl⟩ : ∃ p : Nat, a = (p : Int) := ⟨a.toNat, by omega⟩
        obtain ⟨q, rfl⟩ : ∃ q : Nat, b = (q : Int) := ⟨b.toNat, by omega⟩
        obtain ⟨r, rfl⟩ : ∃ r : Nat, k = (r : Int) := ⟨k.toNat, by omega⟩
        obtain ⟨t, rfl⟩ : ∃ t : Nat, d = (t : Int) := ⟨d.toNat, by omega⟩
        go_upto_region 11 with fail
        refine wp_region_lit ?_
        have C1_10 := Lib.hid (bel_step C1_9.out B9.out)
        refine wpList_run (by kernel_rfl) (.agg #[.int .i64 (p : Int), .int .i64 (q : Int), .int .i64 (r : Int), .int .i64 (t : Int)]) V10 (xo_loadW (w.heap.size + 1) _ (heap_keep Fv1_4.out C1_10.out) Tryd.underlying24 rfl (by kernel_rfl) rfl rfl) ?_
        simp only [Act.put, List.setIfInBounds_toArray, List.set_cons_zero, List.set_cons_succ]
        refine wpList_call (by kernel_rfl) 27 Tryd.func27 (by kernel_rfl) (by kernel_rfl) _ _ #[.agg #[.int .i64 (p : Int), .int .i64 (q : Int), .int .i64 (r : Int), .int .i64 (t : Int)]] rfl (by kernel_rfl) ?_
        refine (encode_any p q r t (by omega) (by omega) (by omega) (by omega) V10).mono ?_
        rintro e V11 ⟨Af, cf, rfl, hs, hb⟩
        have B10 := Lib.hid hb
        have HEf := Lib.hid hs
        clear hb hs
        refine ⟨_, rfl, ?_⟩
        simp only [Act.put, List.setIfInBounds_toArray, List.set_cons_zero, List.set_cons_succ]
        refine wpList_call (by kernel_rfl) 23 Tryd.func23 (by kernel_rfl) (by kernel_rfl) _ _ #[.slice Af 3 cf] rfl (by kernel_rfl) ?_
        refine (decode_back Af cf p q r t (by omega) (by omega) (by omega) (by omega) V11 HEf.out).mono ?_
        rintro e V12 ⟨rfl, hb⟩
        have B11 := Lib.hid hb
        clear hb 
        refine ⟨_, rfl, ?_⟩
        simp only [Act.put, List.setIfInBounds_toArray, List.set_cons_zero, List.set_cons_succ]
        refine wpList_run (by kernel_rfl) (.tuple #[.agg #[.int .i64 (p : Int), .int .i64 (q : Int), .int .i64 (r : Int), .int .i64 (t : Int)], .int .i64 0]) V12 rfl ?_
        simp only [Act.put, List.setIfInBounds_toArray, List.set_cons_zero, List.set_cons_succ]
        refine wpList_run (by kernel_rfl) (.agg #[.int .i64 (p : Int), .int .i64 (q : Int), .int .i64 (r : Int), .int .i64 (t : Int)]) V12 rfl ?_
        simp only [Act.put, List.setIfInBounds_toArray, List.set_cons_zero, List.set_cons_succ]
        refine wpList_run (by kernel_rfl) (.int .i64 0) V12 rfl ?_
        simp only [Act.put, List.setIfInBounds_toArray, List.set_cons_zero, List.set_cons_succ]
        refine wpList_new #[.int .i64 0, .int .i64 0, .int .i64 0, .int .i64 0] 24 (by kernel_rfl) (xo_alloc #[.int .i64 0, .int .i64 0, .int .i64 0, .int .i64 0] (by kernel_rfl) rfl) ?_
        intro b12 V13 hge h0 hb
        have C1_11 := Lib.hid (bel_step C1_10.out B10.out)
        have C1_12 := Lib.hid (bel_step C1_11.out B11.out)
        have N22_0 : Hid (w.heap.size ≠ b12) := Lib.hid (xp_lt0 (heap_keep Fv0_3.out C1_12.out) hge)
        have N23_1 : Hid ((w.heap.size + 1) ≠ b12) := Lib.hid (xp_lt0 (heap_keep Fv1_4.out C1_12.out) hge)
        have C3_9 := Lib.hid (bel_step C3_8.out B8.out)
        have C3_10 := Lib.hid (bel_step C3_9.out B9.out)
        have C3_11 := Lib.hid (bel_step C3_10.out B10.out)
        have C3_12 := Lib.hid (bel_step C3_11.out B11.out)
        have N24_2 : Hid (g22 ≠ b12) := Lib.hid (xp_lt0 (Fv5_22.out.keep C3_12.out) hge)
        have C5_9 := Lib.hid (bel_step C5_8.out B8.out)
        have C5_10 := Lib.hid (bel_step C5_9.out B9.out)
        have C5_11 := Lib.hid (bel_step C5_10.out B10.out)
        have C5_12 := Lib.hid (bel_step C5_11.out B11.out)
        have N25_3 : Hid (b8 ≠ b12) := Lib.hid (xp_lt0 (heap_keep Fv11_8.out C5_12.out) hge)
        have C9_11 := Lib.hid (bel_step B9.out B10.out)
        have C9_12 := Lib.hid (bel_step C9_11.out B11.out)
        have N26_4 : Hid (g43 ≠ b12) := Lib.hid (xp_lt0 (Fv19_43.out.keep C9_12.out) hge)
        have Ge27 : Hid (V12.heap.size ≤ b12) := Lib.hid hge
        have B12 := Lib.hid hb
        have Fv28_12 : Hid (V13.heap[b12]? = some (.cells #[.int .i64 0, .int .i64 0, .int .i64 0, .int .i64 0] 24 (0, 0))) := Lib.hid (h0)
        have Lt29 : Hid (b12 < V13.heap.size) := Lib.hid (xp_lt Fv28_12.out)
        clear hge h0 hb
        simp only [ptr, Act.put, List.setIfInBounds_toArray, List.set_cons_zero, List.set_cons_succ]
        refine wpList_storeW b12 #[.int .i64 0, .int .i64 0, .int .i64 0, .int .i64 0] #[.int .i64 (p : Int), .int .i64 (q : Int), .int .i64 (r : Int), .int .i64 (t : Int)] 24 (by kernel_rfl) Fv28_12.out (xo_storeW b12 #[.int .i64 0, .int .i64 0, .int .i64 0, .int .i64 0] #[.int .i64 (p : Int), .int .i64 (q : Int), .int .i64 (r : Int), .int .i64 (t : Int)] Fv28_12.out (by kernel_rfl) rfl (by simp [Value.oneCell']) rfl rfl rfl) ?_
        intro X13_30 h1 hfar hbel hsz
        have hbr := hbel _ _ Ge27.out B12.out
        clear B12
        have B12 := Lib.hid hbr
        clear hbr
        clear Fv28_12
        have Fv28_12 : Hid (X13_30.heap[b12]? = some (.cells #[.int .i64 (p : Int), .int .i64 (q : Int), .int .i64 (r : Int), .int .i64 (t : Int)] 24 (0, 0))) := Lib.hid (h1)
        have HszX13_30 := Lib.hid hsz
        clear h1 hfar hbel hsz
        simp only [ptr, Act.put, List.setIfInBounds_toArray, List.set_cons_zero, List.set_cons_succ]
        refine wpList_run (by kernel_rfl) (.int .i64 0) X13_30 rfl ?_
        simp only [Act.put, List.setIfInBounds_toArray, List.set_cons_zero, List.set_cons_succ]
        refine wpList_nil ?_
        go_upto_region 12 with fail
        refine wp_region_lit ?_
        refine wpList_run (by kernel_rfl) (.bool true) X13_30 rfl ?_
        simp only [Act.put, List.setIfInBounds_toArray, List.set_cons_zero, List.set_cons_succ]
        refine wpList_run (by kernel_rfl) (.bool true) X13_30 rfl ?_
        simp only [Act.put, List.setIfInBounds_toArray, List.set_cons_zero, List.set_cons_succ]
        refine wpList_run (by kernel_rfl) (.int .i64 0) X13_30 rfl ?_
        simp only [Act.put, List.setIfInBounds_toArray, List.set_cons_zero, List.set_cons_succ]
        refine wpList_run (by kernel_rfl) (.bool true) X13_30 (xo_eqlT .i64 0 0 (by omega) rfl rfl rfl) ?_
        simp only [Act.put, List.setIfInBounds_toArray, List.set_cons_zero, List.set_cons_succ]
        refine wpList_run (by kernel_rfl) (.bool true) X13_30 rfl ?_
        simp only [Act.put, List.setIfInBounds_toArray, List.set_cons_zero, List.set_cons_succ]
        refine wpList_run (by kernel_rfl) (.bool true) X13_30 rfl ?_
        simp only [Act.put, List.setIfInBounds_toArray, List.set_cons_zero, List.set_cons_succ]
        refine wpList_run (by kernel_rfl) (.agg #[.int .i64 (p : Int), .int .i64 (q : Int), .int .i64 (r : Int), .int .i64 (t : Int)]) X13_30 (xo_loadW b12 _ Fv28_12.out Tryd.underlying24 rfl (by kernel_rfl) rfl rfl) ?_
        simp only [Act.put, List.setIfInBounds_toArray, List.set_cons_zero, List.set_cons_succ]
        have C1_13 := Lib.hid (bel_step C1_12.out B12.out)
        refine wpList_run (by kernel_rfl) (.agg #[.int .i64 (p : Int), .int .i64 (q : Int), .int .i64 (r : Int), .int .i64 (t : Int)]) X13_30 (xo_loadW (w.heap.size + 1) _ (heap_keep Fv1_4.out C1_13.out) Tryd.underlying24 rfl (by kernel_rfl) rfl rfl) ?_
        simp only [Act.put, List.setIfInBounds_toArray, List.set_cons_zero, List.set_cons_succ]
        refine wpList_run (by kernel_rfl) (.bool true) X13_30 (exec_eqRd (Rd.mk (p : Int) (q : Int) (r : Int) (t : Int)) rfl rfl rfl) ?_
        simp only [Act.put, List.setIfInBounds_toArray, List.set_cons_zero, List.set_cons_succ]
        refine wpList_run (by kernel_rfl) (.bool true) X13_30 rfl ?_
        simp only [Act.put, List.setIfInBounds_toArray, List.set_cons_zero, List.set_cons_succ]
        refine wpList_run (by kernel_rfl) (.bool true) X13_30 rfl ?_
        simp only [Act.put, List.setIfInBounds_toArray, List.set_cons_zero, List.set_cons_succ]
        refine wpList_run (by kernel_rfl) (.pointer (some ⟨(w.heap.size + 1), 3, none⟩)) X13_30 (xo_fld0 3 (w.heap.size + 1) 3 (by kernel_rfl) rfl rfl) ?_
        simp only [Act.put, List.setIfInBounds_toArray, List.set_cons_zero, List.set_cons_succ]
        refine wpList_run (by kernel_rfl) (.int .i64 (t : Int)) X13_30 (xo_load1 ⟨(w.heap.size + 1), 3, none⟩ _ (cells_at (heap_keep Fv1_4.out C1_13.out) 3 rfl) Tryd.underlying3 rfl rfl rfl) ?_
        simp only [Act.put, List.setIfInBounds_toArray, List.set_cons_zero, List.set_cons_succ]
        refine wpList_run (by kernel_rfl) (.int .u64 (t : Int)) X13_30 (xo_cvt .i64 .u64 (t : Int) (t : Int) (by rw [IntKind.wrap_u64]; omega) Tryd.underlying50 Tryd.underlying3 rfl rfl) ?_
        simp only [Act.put, List.setIfInBounds_toArray, List.set_cons_zero, List.set_cons_succ]
        refine wpList_call (by kernel_rfl) 41 Tryd.func41 (by kernel_rfl) (by kernel_rfl) _ _ #[.int .u64 (t : Int)] rfl (by kernel_rfl) ?_
        refine (rfvalid_as t true (by rw [decide_eq_true_eq]; omega) X13_30).mono ?_
        rintro e V14 ⟨rfl, hb⟩
        have B13 := Lib.hid hb
        clear hb 
        refine ⟨_, rfl, ?_⟩
        simp only [Act.put, List.setIfInBounds_toArray, List.set_cons_zero, List.set_cons_succ]
        refine wpList_run (by kernel_rfl) (.bool true) V14 rfl ?_
        simp only [Act.put, List.setIfInBounds_toArray, List.set_cons_zero, List.set_cons_succ]
        refine wpList_run (by kernel_rfl) (.bool true) V14 rfl ?_
        simp only [Act.put, List.setIfInBounds_toArray, List.set_cons_zero, List.set_cons_succ]
        refine wpList_nil ?_
        go_wp2_with fail
        go_ret
        have C0_10 := Lib.hid (bel_step C0_9.out B9.out)
        have C0_11 := Lib.hid (bel_step C0_10.out B10.out)
        have C0_12 := Lib.hid (bel_step C0_11.out B11.out)
        have C0_13 := Lib.hid (bel_step C0_12.out B12.out)
        have C0_14 := Lib.hid (bel_step C0_13.out B13.out)
        exact ⟨rfl, C0_14.out⟩
    · have hci21 : ((n : Int) ≠ 3) := by omega
      by_cases hn100 : n < 100
      · have hci22 : ((n : Int) < 100) := by omega
        go_upto_region 5 with fail
        refine wp_region_lit ?_
        refine wpList_run (by kernel_rfl) (.slice A n c) V9 rfl ?_
        simp only [Act.put, List.setIfInBounds_toArray, List.set_cons_zero, List.set_cons_succ]
        refine wpList_run (by kernel_rfl) (.int .i64 (n : Int)) V9 (xo_len A n c Tryd.underlying25 rfl rfl) ?_
        simp only [Act.put, List.setIfInBounds_toArray, List.set_cons_zero, List.set_cons_succ]
        refine wpList_run (by kernel_rfl) (.bool true) V9 (xo_neqT .i64 (n : Int) 3 (by omega) rfl rfl rfl) ?_
        simp only [Act.put, List.setIfInBounds_toArray, List.set_cons_zero, List.set_cons_succ]
        refine wpList_run (by kernel_rfl) (.bool true) V9 rfl ?_
        simp only [Act.put, List.setIfInBounds_toArray, List.set_cons_zero, List.set_cons_succ]
        refine wpList_run (by kernel_rfl) (.slice A n c) V9 rfl ?_
        simp only [Act.put, List.setIfInBounds_toArray, List.set_cons_zero, List.set_cons_succ]
        refine wpList_run (by kernel_rfl) (.int .i64 (n : Int)) V9 (xo_len A n c Tryd.underlying25 rfl rfl) ?_
        simp only [Act.put, List.setIfInBounds_toArray, List.set_cons_zero, List.set_cons_succ]
        refine wpList_run (by kernel_rfl) (.bool true) V9 (xo_lssT .i64 (n : Int) 100 (by omega) rfl rfl rfl) ?_
        simp only [Act.put, List.setIfInBounds_toArray, List.set_cons_zero, List.set_cons_succ]
        refine wpList_run (by kernel_rfl) (.bool true) V9 rfl ?_
        simp only [Act.put, List.setIfInBounds_toArray, List.set_cons_zero, List.set_cons_succ]
        refine wpList_nil ?_
        go_upto_region 6 with fail
        refine wp_region_lit ?_
        refine wpList_run (by kernel_rfl) (.slice A n c) V9 rfl ?_
        simp only [Act.put, List.setIfInBounds_toArray, List.set_cons_zero, List.set_cons_succ]
        refine wpList_call (by kernel_rfl) 23 Tryd.func23 (by kernel_rfl) (by kernel_rfl) _ _ #[.slice A n c] rfl (by kernel_rfl) ?_
        refine (decode_no A n c hn3 V9).mono ?_
        rintro e V10 ⟨rfl, hb⟩
        have B9 := Lib.hid hb
        clear hb 
        refine ⟨_, rfl, ?_⟩
        simp only [Act.put, List.setIfInBounds_toArray, List.set_cons_zero, List.set_cons_succ]
        refine wpList_run (by kernel_rfl) (.tuple #[.agg #[.int .i64 0, .int .i64 0, .int .i64 0, .int .i64 0], .int .i64 5]) V10 rfl ?_
        simp only [Act.put, List.setIfInBounds_toArray, List.set_cons_zero, List.set_cons_succ]
        refine wpList_run (by kernel_rfl) (.agg #[.int .i64 0, .int .i64 0, .int .i64 0, .int .i64 0]) V10 rfl ?_
        simp only [Act.put, List.setIfInBounds_toArray, List.set_cons_zero, List.set_cons_succ]
        refine wpList_run (by kernel_rfl) (.int .i64 5) V10 rfl ?_
        simp only [Act.put, List.setIfInBounds_toArray, List.set_cons_zero, List.set_cons_succ]
        refine wpList_new #[.int .i64 0, .int .i64 0, .int .i64 0, .int .i64 0] 24 (by kernel_rfl) (xo_alloc #[.int .i64 0, .int .i64 0, .int .i64 0, .int .i64 0] (by kernel_rfl) rfl) ?_
        intro b10 V11 hge h0 hb
        have C1_9 := Lib.hid (bel_step C1_8.out B8.out)
        have C1_10 := Lib.hid (bel_step C1_9.out B9.out)
        have N23_0 : Hid (w.heap.size ≠ b10) := Lib.hid (xp_lt0 (heap_keep Fv0_3.out C1_10.out) hge)
        have N24_1 : Hid ((w.heap.size + 1) ≠ b10) := Lib.hid (xp_lt0 (heap_keep Fv1_4.out C1_10.out) hge)
        have C3_9 := Lib.hid (bel_step C3_8.out B8.out)
        have C3_10 := Lib.hid (bel_step C3_9.out B9.out)
        have N25_2 : Hid (g22 ≠ b10) := Lib.hid (xp_lt0 (Fv5_22.out.keep C3_10.out) hge)
        have C5_9 := Lib.hid (bel_step C5_8.out B8.out)
        have C5_10 := Lib.hid (bel_step C5_9.out B9.out)
        have N26_3 : Hid (b8 ≠ b10) := Lib.hid (xp_lt0 (heap_keep Fv11_8.out C5_10.out) hge)
        have N27_4 : Hid (g43 ≠ b10) := Lib.hid (xp_lt0 (Fv19_43.out.keep B9.out) hge)
        have Ge28 : Hid (V10.heap.size ≤ b10) := Lib.hid hge
        have B10 := Lib.hid hb
        have Fv29_10 : Hid (V11.heap[b10]? = some (.cells #[.int .i64 0, .int .i64 0, .int .i64 0, .int .i64 0] 24 (0, 0))) := Lib.hid (h0)
        have Lt30 : Hid (b10 < V11.heap.size) := Lib.hid (xp_lt Fv29_10.out)
        clear hge h0 hb
        simp only [ptr, Act.put, List.setIfInBounds_toArray, List.set_cons_zero, List.set_cons_succ]
        refine wpList_storeW b10 #[.int .i64 0, .int .i64 0, .int .i64 0, .int .i64 0] #[.int .i64 0, .int .i64 0, .int .i64 0, .int .i64 0] 24 (by kernel_rfl) Fv29_10.out (xo_storeW b10 #[.int .i64 0, .int .i64 0, .int .i64 0, .int .i64 0] #[.int .i64 0, .int .i64 0, .int .i64 0, .int .i64 0] Fv29_10.out (by kernel_rfl) rfl (by simp [Value.oneCell']) rfl rfl rfl) ?_
        intro X11_31 h1 hfar hbel hsz
        have hbr := hbel _ _ Ge28.out B10.out
        clear B10
        have B10 := Lib.hid hbr
        clear hbr
        clear Fv29_10
        have Fv29_10 : Hid (X11_31.heap[b10]? = some (.cells #[.int .i64 0, .int .i64 0, .int .i64 0, .int .i64 0] 24 (0, 0))) := Lib.hid (h1)
        have HszX11_31 := Lib.hid hsz
        clear h1 hfar hbel hsz
        simp only [ptr, Act.put, List.setIfInBounds_toArray, List.set_cons_zero, List.set_cons_succ]
        refine wpList_run (by kernel_rfl) (.int .i64 5) X11_31 rfl ?_
        simp only [Act.put, List.setIfInBounds_toArray, List.set_cons_zero, List.set_cons_succ]
        refine wpList_nil ?_
        go_upto_region 7 with fail
        refine wp_region_lit ?_
        refine wpList_run (by kernel_rfl) (.int .i64 5) X11_31 rfl ?_
        simp only [Act.put, List.setIfInBounds_toArray, List.set_cons_zero, List.set_cons_succ]
        refine wpList_run (by kernel_rfl) (.bool false) X11_31 (xo_neqF .i64 5 5 (by omega) rfl rfl rfl) ?_
        simp only [Act.put, List.setIfInBounds_toArray, List.set_cons_zero, List.set_cons_succ]
        refine wpList_run (by kernel_rfl) (.bool false) X11_31 rfl ?_
        simp only [Act.put, List.setIfInBounds_toArray, List.set_cons_zero, List.set_cons_succ]
        refine wpList_run (by kernel_rfl) (.agg #[.int .i64 0, .int .i64 0, .int .i64 0, .int .i64 0]) X11_31 (xo_loadW b10 _ Fv29_10.out Tryd.underlying24 rfl (by kernel_rfl) rfl rfl) ?_
        simp only [Act.put, List.setIfInBounds_toArray, List.set_cons_zero, List.set_cons_succ]
        refine wpList_run (by kernel_rfl) (.agg #[.int .i64 0, .int .i64 0, .int .i64 0, .int .i64 0]) X11_31 (by unfold execOp; go_simp) ?_
        simp only [Act.put, List.setIfInBounds_toArray, List.set_cons_zero, List.set_cons_succ]
        refine wpList_run (by kernel_rfl) (.bool false) X11_31 (exec_neRd (Rd.mk 0 0 0 0) rfl rfl rfl) ?_
        simp only [Act.put, List.setIfInBounds_toArray, List.set_cons_zero, List.set_cons_succ]
        refine wpList_run (by kernel_rfl) (.bool false) X11_31 rfl ?_
        simp only [Act.put, List.setIfInBounds_toArray, List.set_cons_zero, List.set_cons_succ]
        refine wpList_nil ?_
        cases hv : vR (Rd.mk a b k d) with
        | false =>
          go_upto_region 9 with fail
          refine wp_region_lit ?_
          have C1_11 := Lib.hid (bel_step C1_10.out B10.out)
          refine wpList_run (by kernel_rfl) (.agg #[.int .i64 a, .int .i64 b, .int .i64 k, .int .i64 d]) X11_31 (xo_loadW (w.heap.size + 1) _ (heap_keep Fv1_4.out C1_11.out) Tryd.underlying24 rfl (by kernel_rfl) rfl rfl) ?_
          simp only [Act.put, List.setIfInBounds_toArray, List.set_cons_zero, List.set_cons_succ]
          have C0_7 := Lib.hid (bel_step C0_6.out B6.out)
          have C0_8 := Lib.hid (bel_step C0_7.out B7.out)
          have C0_9 := Lib.hid (bel_step C0_8.out B8.out)
          have C0_10 := Lib.hid (bel_step C0_9.out B9.out)
          have C0_11 := Lib.hid (bel_step C0_10.out B10.out)
          refine wpList_call (by kernel_rfl) 17 Tryd.func17 (by kernel_rfl) (by kernel_rfl) _ _ #[.agg #[.int .i64 a, .int .i64 b, .int .i64 k, .int .i64 d]] rfl (by kernel_rfl) ?_
          refine (valid_as (Rd.mk a b k d) false hv X11_31 (HW.out.keep C0_11.out)).mono ?_
          rintro e V12 ⟨rfl, hb⟩
          have B11 := Lib.hid hb
          clear hb 
          refine ⟨_, rfl, ?_⟩
          simp only [Act.put, List.setIfInBounds_toArray, List.set_cons_zero, List.set_cons_succ]
          refine wpList_run (by kernel_rfl) (.bool true) V12 rfl ?_
          simp only [Act.put, List.setIfInBounds_toArray, List.set_cons_zero, List.set_cons_succ]
          refine wpList_nil ?_
          go_upto_region 10 with fail
          refine wp_region_lit ?_
          refine wpList_run (by kernel_rfl) (.bool true) V12 rfl ?_
          simp only [Act.put, List.setIfInBounds_toArray, List.set_cons_zero, List.set_cons_succ]
          refine wpList_run (by kernel_rfl) (.bool true) V12 rfl ?_
          simp only [Act.put, List.setIfInBounds_toArray, List.set_cons_zero, List.set_cons_succ]
          refine wpList_nil ?_
          go_wp2_with fail
          go_ret
          have C0_12 := Lib.hid (bel_step C0_11.out B11.out)
          exact ⟨rfl, C0_12.out⟩
        | true =>
          go_upto_region 9 with fail
          refine wp_region_lit ?_
          have C1_11 := Lib.hid (bel_step C1_10.out B10.out)
          refine wpList_run (by kernel_rfl) (.agg #[.int .i64 a, .int .i64 b, .int .i64 k, .int .i64 d]) X11_31 (xo_loadW (w.heap.size + 1) _ (heap_keep Fv1_4.out C1_11.out) Tryd.underlying24 rfl (by kernel_rfl) rfl rfl) ?_
          simp only [Act.put, List.setIfInBounds_toArray, List.set_cons_zero, List.set_cons_succ]
          have C0_7 := Lib.hid (bel_step C0_6.out B6.out)
          have C0_8 := Lib.hid (bel_step C0_7.out B7.out)
          have C0_9 := Lib.hid (bel_step C0_8.out B8.out)
          have C0_10 := Lib.hid (bel_step C0_9.out B9.out)
          have C0_11 := Lib.hid (bel_step C0_10.out B10.out)
          refine wpList_call (by kernel_rfl) 17 Tryd.func17 (by kernel_rfl) (by kernel_rfl) _ _ #[.agg #[.int .i64 a, .int .i64 b, .int .i64 k, .int .i64 d]] rfl (by kernel_rfl) ?_
          refine (valid_as (Rd.mk a b k d) true hv X11_31 (HW.out.keep C0_11.out)).mono ?_
          rintro e V12 ⟨rfl, hb⟩
          have B11 := Lib.hid hb
          clear hb 
          refine ⟨_, rfl, ?_⟩
          simp only [Act.put, List.setIfInBounds_toArray, List.set_cons_zero, List.set_cons_succ]
          refine wpList_run (by kernel_rfl) (.bool false) V12 rfl ?_
          simp only [Act.put, List.setIfInBounds_toArray, List.set_cons_zero, List.set_cons_succ]
          refine wpList_nil ?_
          have hvv := vR_iff.1 hv
          simp only at hvv
          obtain ⟨⟨hv0, hv1⟩, ⟨hv2, hv3⟩, ⟨hv4, hv5⟩, hv6, hv7⟩ := hvv
          clear hv
          obtain ⟨p, rfl⟩ : ∃ p : Nat, a = (p : Int) := ⟨a.toNat, by omega⟩
          obtain ⟨q, rfl⟩ : ∃ q : Nat, b = (q : Int) := ⟨b.toNat, by omega⟩
          obtain ⟨r, rfl⟩ : ∃ r : Nat, k = (r : Int) := ⟨k.toNat, by omega⟩
          obtain ⟨t, rfl⟩ : ∃ t : Nat, d = (t : Int) := ⟨d.toNat, by omega⟩
          go_upto_region 11 with fail
          refine wp_region_lit ?_
          have C1_12 := Lib.hid (bel_step C1_11.out B11.out)
          refine wpList_run (by kernel_rfl) (.agg #[.int .i64 (p : Int), .int .i64 (q : Int), .int .i64 (r : Int), .int .i64 (t : Int)]) V12 (xo_loadW (w.heap.size + 1) _ (heap_keep Fv1_4.out C1_12.out) Tryd.underlying24 rfl (by kernel_rfl) rfl rfl) ?_
          simp only [Act.put, List.setIfInBounds_toArray, List.set_cons_zero, List.set_cons_succ]
          refine wpList_call (by kernel_rfl) 27 Tryd.func27 (by kernel_rfl) (by kernel_rfl) _ _ #[.agg #[.int .i64 (p : Int), .int .i64 (q : Int), .int .i64 (r : Int), .int .i64 (t : Int)]] rfl (by kernel_rfl) ?_
          refine (encode_any p q r t (by omega) (by omega) (by omega) (by omega) V12).mono ?_
          rintro e V13 ⟨Af, cf, rfl, hs, hb⟩
          have B12 := Lib.hid hb
          have HEf := Lib.hid hs
          clear hb hs
          refine ⟨_, rfl, ?_⟩
          simp only [Act.put, List.setIfInBounds_toArray, List.set_cons_zero, List.set_cons_succ]
          refine wpList_call (by kernel_rfl) 23 Tryd.func23 (by kernel_rfl) (by kernel_rfl) _ _ #[.slice Af 3 cf] rfl (by kernel_rfl) ?_
          refine (decode_back Af cf p q r t (by omega) (by omega) (by omega) (by omega) V13 HEf.out).mono ?_
          rintro e V14 ⟨rfl, hb⟩
          have B13 := Lib.hid hb
          clear hb 
          refine ⟨_, rfl, ?_⟩
          simp only [Act.put, List.setIfInBounds_toArray, List.set_cons_zero, List.set_cons_succ]
          refine wpList_run (by kernel_rfl) (.tuple #[.agg #[.int .i64 (p : Int), .int .i64 (q : Int), .int .i64 (r : Int), .int .i64 (t : Int)], .int .i64 0]) V14 rfl ?_
          simp only [Act.put, List.setIfInBounds_toArray, List.set_cons_zero, List.set_cons_succ]
          refine wpList_run (by kernel_rfl) (.agg #[.int .i64 (p : Int), .int .i64 (q : Int), .int .i64 (r : Int), .int .i64 (t : Int)]) V14 rfl ?_
          simp only [Act.put, List.setIfInBounds_toArray, List.set_cons_zero, List.set_cons_succ]
          refine wpList_run (by kernel_rfl) (.int .i64 0) V14 rfl ?_
          simp only [Act.put, List.setIfInBounds_toArray, List.set_cons_zero, List.set_cons_succ]
          refine wpList_new #[.int .i64 0, .int .i64 0, .int .i64 0, .int .i64 0] 24 (by kernel_rfl) (xo_alloc #[.int .i64 0, .int .i64 0, .int .i64 0, .int .i64 0] (by kernel_rfl) rfl) ?_
          intro b12 V15 hge h0 hb
          have C1_13 := Lib.hid (bel_step C1_12.out B12.out)
          have C1_14 := Lib.hid (bel_step C1_13.out B13.out)
          have N32_0 : Hid (w.heap.size ≠ b12) := Lib.hid (xp_lt0 (heap_keep Fv0_3.out C1_14.out) hge)
          have N33_1 : Hid ((w.heap.size + 1) ≠ b12) := Lib.hid (xp_lt0 (heap_keep Fv1_4.out C1_14.out) hge)
          have C3_11 := Lib.hid (bel_step C3_10.out B10.out)
          have C3_12 := Lib.hid (bel_step C3_11.out B11.out)
          have C3_13 := Lib.hid (bel_step C3_12.out B12.out)
          have C3_14 := Lib.hid (bel_step C3_13.out B13.out)
          have N34_2 : Hid (g22 ≠ b12) := Lib.hid (xp_lt0 (Fv5_22.out.keep C3_14.out) hge)
          have C5_11 := Lib.hid (bel_step C5_10.out B10.out)
          have C5_12 := Lib.hid (bel_step C5_11.out B11.out)
          have C5_13 := Lib.hid (bel_step C5_12.out B12.out)
          have C5_14 := Lib.hid (bel_step C5_13.out B13.out)
          have N35_3 : Hid (b8 ≠ b12) := Lib.hid (xp_lt0 (heap_keep Fv11_8.out C5_14.out) hge)
          have C9_11 := Lib.hid (bel_step B9.out B10.out)
          have C9_12 := Lib.hid (bel_step C9_11.out B11.out)
          have C9_13 := Lib.hid (bel_step C9_12.out B12.out)
          have C9_14 := Lib.hid (bel_step C9_13.out B13.out)
          have N36_4 : Hid (g43 ≠ b12) := Lib.hid (xp_lt0 (Fv19_43.out.keep C9_14.out) hge)
          have C11_13 := Lib.hid (bel_step B11.out B12.out)
          have C11_14 := Lib.hid (bel_step C11_13.out B13.out)
          have N37_5 : Hid (b10 ≠ b12) := Lib.hid (xp_lt0 (heap_keep Fv29_10.out C11_14.out) hge)
          have Ge38 : Hid (V14.heap.size ≤ b12) := Lib.hid hge
          have B14 := Lib.hid hb
          have Fv39_12 : Hid (V15.heap[b12]? = some (.cells #[.int .i64 0, .int .i64 0, .int .i64 0, .int .i64 0] 24 (0, 0))) := Lib.hid (h0)
          have Lt40 : Hid (b12 < V15.heap.size) := Lib.hid (xp_lt Fv39_12.out)
          clear hge h0 hb
          simp only [ptr, Act.put, List.setIfInBounds_toArray, List.set_cons_zero, List.set_cons_succ]
          refine wpList_storeW b12 #[.int .i64 0, .int .i64 0, .int .i64 0, .int .i64 0] #[.int .i64 (p : Int), .int .i64 (q : Int), .int .i64 (r : Int), .int .i64 (t : Int)] 24 (by kernel_rfl) Fv39_12.out (xo_storeW b12 #[.int .i64 0, .int .i64 0, .int .i64 0, .int .i64 0] #[.int .i64 (p : Int), .int .i64 (q : Int), .int .i64 (r : Int), .int .i64 (t : Int)] Fv39_12.out (by kernel_rfl) rfl (by simp [Value.oneCell']) rfl rfl rfl) ?_
          intro X15_41 h1 hfar hbel hsz
          have hbr := hbel _ _ Ge38.out B14.out
          clear B14
          have B14 := Lib.hid hbr
          clear hbr
          clear Fv39_12
          have Fv39_12 : Hid (X15_41.heap[b12]? = some (.cells #[.int .i64 (p : Int), .int .i64 (q : Int), .int .i64 (r : Int), .int .i64 (t : Int)] 24 (0, 0))) := Lib.hid (h1)
          have HszX15_41 := Lib.hid hsz
          clear h1 hfar hbel hsz
          simp only [ptr, Act.put, List.setIfInBounds_toArray, List.set_cons_zero, List.set_cons_succ]
          refine wpList_run (by kernel_rfl) (.int .i64 0) X15_41 rfl ?_
          simp only [Act.put, List.setIfInBounds_toArray, List.set_cons_zero, List.set_cons_succ]
          refine wpList_nil ?_
          go_upto_region 12 with fail
          refine wp_region_lit ?_
          refine wpList_run (by kernel_rfl) (.bool true) X15_41 rfl ?_
          simp only [Act.put, List.setIfInBounds_toArray, List.set_cons_zero, List.set_cons_succ]
          refine wpList_run (by kernel_rfl) (.bool true) X15_41 rfl ?_
          simp only [Act.put, List.setIfInBounds_toArray, List.set_cons_zero, List.set_cons_succ]
          refine wpList_run (by kernel_rfl) (.int .i64 0) X15_41 rfl ?_
          simp only [Act.put, List.setIfInBounds_toArray, List.set_cons_zero, List.set_cons_succ]
          refine wpList_run (by kernel_rfl) (.bool true) X15_41 (xo_eqlT .i64 0 0 (by omega) rfl rfl rfl) ?_
          simp only [Act.put, List.setIfInBounds_toArray, List.set_cons_zero, List.set_cons_succ]
          refine wpList_run (by kernel_rfl) (.bool true) X15_41 rfl ?_
          simp only [Act.put, List.setIfInBounds_toArray, List.set_cons_zero, List.set_cons_succ]
          refine wpList_run (by kernel_rfl) (.bool true) X15_41 rfl ?_
          simp only [Act.put, List.setIfInBounds_toArray, List.set_cons_zero, List.set_cons_succ]
          refine wpList_run (by kernel_rfl) (.agg #[.int .i64 (p : Int), .int .i64 (q : Int), .int .i64 (r : Int), .int .i64 (t : Int)]) X15_41 (xo_loadW b12 _ Fv39_12.out Tryd.underlying24 rfl (by kernel_rfl) rfl rfl) ?_
          simp only [Act.put, List.setIfInBounds_toArray, List.set_cons_zero, List.set_cons_succ]
          have C1_15 := Lib.hid (bel_step C1_14.out B14.out)
          refine wpList_run (by kernel_rfl) (.agg #[.int .i64 (p : Int), .int .i64 (q : Int), .int .i64 (r : Int), .int .i64 (t : Int)]) X15_41 (xo_loadW (w.heap.size + 1) _ (heap_keep Fv1_4.out C1_15.out) Tryd.underlying24 rfl (by kernel_rfl) rfl rfl) ?_
          simp only [Act.put, List.setIfInBounds_toArray, List.set_cons_zero, List.set_cons_succ]
          refine wpList_run (by kernel_rfl) (.bool true) X15_41 (exec_eqRd (Rd.mk (p : Int) (q : Int) (r : Int) (t : Int)) rfl rfl rfl) ?_
          simp only [Act.put, List.setIfInBounds_toArray, List.set_cons_zero, List.set_cons_succ]
          refine wpList_run (by kernel_rfl) (.bool true) X15_41 rfl ?_
          simp only [Act.put, List.setIfInBounds_toArray, List.set_cons_zero, List.set_cons_succ]
          refine wpList_run (by kernel_rfl) (.bool true) X15_41 rfl ?_
          simp only [Act.put, List.setIfInBounds_toArray, List.set_cons_zero, List.set_cons_succ]
          refine wpList_run (by kernel_rfl) (.pointer (some ⟨(w.heap.size + 1), 3, none⟩)) X15_41 (xo_fld0 3 (w.heap.size + 1) 3 (by kernel_rfl) rfl rfl) ?_
          simp only [Act.put, List.setIfInBounds_toArray, List.set_cons_zero, List.set_cons_succ]
          refine wpList_run (by kernel_rfl) (.int .i64 (t : Int)) X15_41 (xo_load1 ⟨(w.heap.size + 1), 3, none⟩ _ (cells_at (heap_keep Fv1_4.out C1_15.out) 3 rfl) Tryd.underlying3 rfl rfl rfl) ?_
          simp only [Act.put, List.setIfInBounds_toArray, List.set_cons_zero, List.set_cons_succ]
          refine wpList_run (by kernel_rfl) (.int .u64 (t : Int)) X15_41 (xo_cvt .i64 .u64 (t : Int) (t : Int) (by rw [IntKind.wrap_u64]; omega) Tryd.underlying50 Tryd.underlying3 rfl rfl) ?_
          simp only [Act.put, List.setIfInBounds_toArray, List.set_cons_zero, List.set_cons_succ]
          refine wpList_call (by kernel_rfl) 41 Tryd.func41 (by kernel_rfl) (by kernel_rfl) _ _ #[.int .u64 (t : Int)] rfl (by kernel_rfl) ?_
          refine (rfvalid_as t true (by rw [decide_eq_true_eq]; omega) X15_41).mono ?_
          rintro e V16 ⟨rfl, hb⟩
          have B15 := Lib.hid hb
          clear hb 
          refine ⟨_, rfl, ?_⟩
          simp only [Act.put, List.setIfInBounds_toArray, List.set_cons_zero, List.set_cons_succ]
          refine wpList_run (by kernel_rfl) (.bool true) V16 rfl ?_
          simp only [Act.put, List.setIfInBounds_toArray, List.set_cons_zero, List.set_cons_succ]
          refine wpList_run (by kernel_rfl) (.bool true) V16 rfl ?_
          simp only [Act.put, List.setIfInBounds_toArray, List.set_cons_zero, List.set_cons_succ]
          refine wpList_nil ?_
          go_wp2_with fail
          go_ret
          have C0_12 := Lib.hid (bel_step C0_11.out B11.out)
          have C0_13 := Lib.hid (bel_step C0_12.out B12.out)
          have C0_14 := Lib.hid (bel_step C0_13.out B13.out)
          have C0_15 := Lib.hid (bel_step C0_14.out B14.out)
          have C0_16 := Lib.hid (bel_step C0_15.out B15.out)
          exact ⟨rfl, C0_16.out⟩
      · have hci22 : ¬ ((n : Int) < 100) := by omega
        go_upto_region 5 with fail
        refine wp_region_lit ?_
        refine wpList_run (by kernel_rfl) (.slice A n c) V9 rfl ?_
        simp only [Act.put, List.setIfInBounds_toArray, List.set_cons_zero, List.set_cons_succ]
        refine wpList_run (by kernel_rfl) (.int .i64 (n : Int)) V9 (xo_len A n c Tryd.underlying25 rfl rfl) ?_
        simp only [Act.put, List.setIfInBounds_toArray, List.set_cons_zero, List.set_cons_succ]
        refine wpList_run (by kernel_rfl) (.bool true) V9 (xo_neqT .i64 (n : Int) 3 (by omega) rfl rfl rfl) ?_
        simp only [Act.put, List.setIfInBounds_toArray, List.set_cons_zero, List.set_cons_succ]
        refine wpList_run (by kernel_rfl) (.bool true) V9 rfl ?_
        simp only [Act.put, List.setIfInBounds_toArray, List.set_cons_zero, List.set_cons_succ]
        refine wpList_run (by kernel_rfl) (.slice A n c) V9 rfl ?_
        simp only [Act.put, List.setIfInBounds_toArray, List.set_cons_zero, List.set_cons_succ]
        refine wpList_run (by kernel_rfl) (.int .i64 (n : Int)) V9 (xo_len A n c Tryd.underlying25 rfl rfl) ?_
        simp only [Act.put, List.setIfInBounds_toArray, List.set_cons_zero, List.set_cons_succ]
        refine wpList_run (by kernel_rfl) (.bool false) V9 (xo_lssF .i64 (n : Int) 100 (by omega) rfl rfl rfl) ?_
        simp only [Act.put, List.setIfInBounds_toArray, List.set_cons_zero, List.set_cons_succ]
        refine wpList_run (by kernel_rfl) (.bool false) V9 rfl ?_
        simp only [Act.put, List.setIfInBounds_toArray, List.set_cons_zero, List.set_cons_succ]
        refine wpList_nil ?_
        cases hv : vR (Rd.mk a b k d) with
        | false =>
          go_upto_region 9 with fail
          refine wp_region_lit ?_
          have C1_9 := Lib.hid (bel_step C1_8.out B8.out)
          refine wpList_run (by kernel_rfl) (.agg #[.int .i64 a, .int .i64 b, .int .i64 k, .int .i64 d]) V9 (xo_loadW (w.heap.size + 1) _ (heap_keep Fv1_4.out C1_9.out) Tryd.underlying24 rfl (by kernel_rfl) rfl rfl) ?_
          simp only [Act.put, List.setIfInBounds_toArray, List.set_cons_zero, List.set_cons_succ]
          have C0_7 := Lib.hid (bel_step C0_6.out B6.out)
          have C0_8 := Lib.hid (bel_step C0_7.out B7.out)
          have C0_9 := Lib.hid (bel_step C0_8.out B8.out)
          refine wpList_call (by kernel_rfl) 17 Tryd.func17 (by kernel_rfl) (by kernel_rfl) _ _ #[.agg #[.int .i64 a, .int .i64 b, .int .i64 k, .int .i64 d]] rfl (by kernel_rfl) ?_
          refine (valid_as (Rd.mk a b k d) false hv V9 (HW.out.keep C0_9.out)).mono ?_
          rintro e V10 ⟨rfl, hb⟩
          have B9 := Lib.hid hb
          clear hb 
          refine ⟨_, rfl, ?_⟩
          simp only [Act.put, List.setIfInBounds_toArray, List.set_cons_zero, List.set_cons_succ]
          refine wpList_run (by kernel_rfl) (.bool true) V10 rfl ?_
          simp only [Act.put, List.setIfInBounds_toArray, List.set_cons_zero, List.set_cons_succ]
          refine wpList_nil ?_
          go_upto_region 10 with fail
          refine wp_region_lit ?_
          refine wpList_run (by kernel_rfl) (.bool true) V10 rfl ?_
          simp only [Act.put, List.setIfInBounds_toArray, List.set_cons_zero, List.set_cons_succ]
          refine wpList_run (by kernel_rfl) (.bool true) V10 rfl ?_
          simp only [Act.put, List.setIfInBounds_toArray, List.set_cons_zero, List.set_cons_succ]
          refine wpList_nil ?_
          go_wp2_with fail
          go_ret
          have C0_10 := Lib.hid (bel_step C0_9.out B9.out)
          exact ⟨rfl, C0_10.out⟩
        | true =>
          go_upto_region 9 with fail
          refine wp_region_lit ?_
          have C1_9 := Lib.hid (bel_step C1_8.out B8.out)
          refine wpList_run (by kernel_rfl) (.agg #[.int .i64 a, .int .i64 b, .int .i64 k, .int .i64 d]) V9 (xo_loadW (w.heap.size + 1) _ (heap_keep Fv1_4.out C1_9.out) Tryd.underlying24 rfl (by kernel_rfl) rfl rfl) ?_
          simp only [Act.put, List.setIfInBounds_toArray, List.set_cons_zero, List.set_cons_succ]
          have C0_7 := Lib.hid (bel_step C0_6.out B6.out)
          have C0_8 := Lib.hid (bel_step C0_7.out B7.out)
          have C0_9 := Lib.hid (bel_step C0_8.out B8.out)
          refine wpList_call (by kernel_rfl) 17 Tryd.func17 (by kernel_rfl) (by kernel_rfl) _ _ #[.agg #[.int .i64 a, .int .i64 b, .int .i64 k, .int .i64 d]] rfl (by kernel_rfl) ?_
          refine (valid_as (Rd.mk a b k d) true hv V9 (HW.out.keep C0_9.out)).mono ?_
          rintro e V10 ⟨rfl, hb⟩
          have B9 := Lib.hid hb
          clear hb 
          refine ⟨_, rfl, ?_⟩
          simp only [Act.put, List.setIfInBounds_toArray, List.set_cons_zero, List.set_cons_succ]
          refine wpList_run (by kernel_rfl) (.bool false) V10 rfl ?_
          simp only [Act.put, List.setIfInBounds_toArray, List.set_cons_zero, List.set_cons_succ]
          refine wpList_nil ?_
          have hvv := vR_iff.1 hv
          simp only at hvv
          obtain ⟨⟨hv0, hv1⟩, ⟨hv2, hv3⟩, ⟨hv4, hv5⟩, hv6, hv7⟩ := hvv
          clear hv
          obtain ⟨p, rfl⟩ : ∃ p : Nat, a = (p : Int) := ⟨a.toNat, by omega⟩
          obtain ⟨q, rfl⟩ : ∃ q : Nat, b = (q : Int) := ⟨b.toNat, by omega⟩
          obtain ⟨r, rfl⟩ : ∃ r : Nat, k = (r : Int) := ⟨k.toNat, by omega⟩
          obtain ⟨t, rfl⟩ : ∃ t : Nat, d = (t : Int) := ⟨d.toNat, by omega⟩
          go_upto_region 11 with fail
          refine wp_region_lit ?_
          have C1_10 := Lib.hid (bel_step C1_9.out B9.out)
          refine wpList_run (by kernel_rfl) (.agg #[.int .i64 (p : Int), .int .i64 (q : Int), .int .i64 (r : Int), .int .i64 (t : Int)]) V10 (xo_loadW (w.heap.size + 1) _ (heap_keep Fv1_4.out C1_10.out) Tryd.underlying24 rfl (by kernel_rfl) rfl rfl) ?_
          simp only [Act.put, List.setIfInBounds_toArray, List.set_cons_zero, List.set_cons_succ]
          refine wpList_call (by kernel_rfl) 27 Tryd.func27 (by kernel_rfl) (by kernel_rfl) _ _ #[.agg #[.int .i64 (p : Int), .int .i64 (q : Int), .int .i64 (r : Int), .int .i64 (t : Int)]] rfl (by kernel_rfl) ?_
          refine (encode_any p q r t (by omega) (by omega) (by omega) (by omega) V10).mono ?_
          rintro e V11 ⟨Af, cf, rfl, hs, hb⟩
          have B10 := Lib.hid hb
          have HEf := Lib.hid hs
          clear hb hs
          refine ⟨_, rfl, ?_⟩
          simp only [Act.put, List.setIfInBounds_toArray, List.set_cons_zero, List.set_cons_succ]
          refine wpList_call (by kernel_rfl) 23 Tryd.func23 (by kernel_rfl) (by kernel_rfl) _ _ #[.slice Af 3 cf] rfl (by kernel_rfl) ?_
          refine (decode_back Af cf p q r t (by omega) (by omega) (by omega) (by omega) V11 HEf.out).mono ?_
          rintro e V12 ⟨rfl, hb⟩
          have B11 := Lib.hid hb
          clear hb 
          refine ⟨_, rfl, ?_⟩
          simp only [Act.put, List.setIfInBounds_toArray, List.set_cons_zero, List.set_cons_succ]
          refine wpList_run (by kernel_rfl) (.tuple #[.agg #[.int .i64 (p : Int), .int .i64 (q : Int), .int .i64 (r : Int), .int .i64 (t : Int)], .int .i64 0]) V12 rfl ?_
          simp only [Act.put, List.setIfInBounds_toArray, List.set_cons_zero, List.set_cons_succ]
          refine wpList_run (by kernel_rfl) (.agg #[.int .i64 (p : Int), .int .i64 (q : Int), .int .i64 (r : Int), .int .i64 (t : Int)]) V12 rfl ?_
          simp only [Act.put, List.setIfInBounds_toArray, List.set_cons_zero, List.set_cons_succ]
          refine wpList_run (by kernel_rfl) (.int .i64 0) V12 rfl ?_
          simp only [Act.put, List.setIfInBounds_toArray, List.set_cons_zero, List.set_cons_succ]
          refine wpList_new #[.int .i64 0, .int .i64 0, .int .i64 0, .int .i64 0] 24 (by kernel_rfl) (xo_alloc #[.int .i64 0, .int .i64 0, .int .i64 0, .int .i64 0] (by kernel_rfl) rfl) ?_
          intro b12 V13 hge h0 hb
          have C1_11 := Lib.hid (bel_step C1_10.out B10.out)
          have C1_12 := Lib.hid (bel_step C1_11.out B11.out)
          have N23_0 : Hid (w.heap.size ≠ b12) := Lib.hid (xp_lt0 (heap_keep Fv0_3.out C1_12.out) hge)
          have N24_1 : Hid ((w.heap.size + 1) ≠ b12) := Lib.hid (xp_lt0 (heap_keep Fv1_4.out C1_12.out) hge)
          have C3_9 := Lib.hid (bel_step C3_8.out B8.out)
          have C3_10 := Lib.hid (bel_step C3_9.out B9.out)
          have C3_11 := Lib.hid (bel_step C3_10.out B10.out)
          have C3_12 := Lib.hid (bel_step C3_11.out B11.out)
          have N25_2 : Hid (g22 ≠ b12) := Lib.hid (xp_lt0 (Fv5_22.out.keep C3_12.out) hge)
          have C5_9 := Lib.hid (bel_step C5_8.out B8.out)
          have C5_10 := Lib.hid (bel_step C5_9.out B9.out)
          have C5_11 := Lib.hid (bel_step C5_10.out B10.out)
          have C5_12 := Lib.hid (bel_step C5_11.out B11.out)
          have N26_3 : Hid (b8 ≠ b12) := Lib.hid (xp_lt0 (heap_keep Fv11_8.out C5_12.out) hge)
          have C9_11 := Lib.hid (bel_step B9.out B10.out)
          have C9_12 := Lib.hid (bel_step C9_11.out B11.out)
          have N27_4 : Hid (g43 ≠ b12) := Lib.hid (xp_lt0 (Fv19_43.out.keep C9_12.out) hge)
          have Ge28 : Hid (V12.heap.size ≤ b12) := Lib.hid hge
          have B12 := Lib.hid hb
          have Fv29_12 : Hid (V13.heap[b12]? = some (.cells #[.int .i64 0, .int .i64 0, .int .i64 0, .int .i64 0] 24 (0, 0))) := Lib.hid (h0)
          have Lt30 : Hid (b12 < V13.heap.size) := Lib.hid (xp_lt Fv29_12.out)
          clear hge h0 hb
          simp only [ptr, Act.put, List.setIfInBounds_toArray, List.set_cons_zero, List.set_cons_succ]
          refine wpList_storeW b12 #[.int .i64 0, .int .i64 0, .int .i64 0, .int .i64 0] #[.int .i64 (p : Int), .int .i64 (q : Int), .int .i64 (r : Int), .int .i64 (t : Int)] 24 (by kernel_rfl) Fv29_12.out (xo_storeW b12 #[.int .i64 0, .int .i64 0, .int .i64 0, .int .i64 0] #[.int .i64 (p : Int), .int .i64 (q : Int), .int .i64 (r : Int), .int .i64 (t : Int)] Fv29_12.out (by kernel_rfl) rfl (by simp [Value.oneCell']) rfl rfl rfl) ?_
          intro X13_31 h1 hfar hbel hsz
          have hbr := hbel _ _ Ge28.out B12.out
          clear B12
          have B12 := Lib.hid hbr
          clear hbr
          clear Fv29_12
          have Fv29_12 : Hid (X13_31.heap[b12]? = some (.cells #[.int .i64 (p : Int), .int .i64 (q : Int), .int .i64 (r : Int), .int .i64 (t : Int)] 24 (0, 0))) := Lib.hid (h1)
          have HszX13_31 := Lib.hid hsz
          clear h1 hfar hbel hsz
          simp only [ptr, Act.put, List.setIfInBounds_toArray, List.set_cons_zero, List.set_cons_succ]
          refine wpList_run (by kernel_rfl) (.int .i64 0) X13_31 rfl ?_
          simp only [Act.put, List.setIfInBounds_toArray, List.set_cons_zero, List.set_cons_succ]
          refine wpList_nil ?_
          go_upto_region 12 with fail
          refine wp_region_lit ?_
          refine wpList_run (by kernel_rfl) (.bool true) X13_31 rfl ?_
          simp only [Act.put, List.setIfInBounds_toArray, List.set_cons_zero, List.set_cons_succ]
          refine wpList_run (by kernel_rfl) (.bool true) X13_31 rfl ?_
          simp only [Act.put, List.setIfInBounds_toArray, List.set_cons_zero, List.set_cons_succ]
          refine wpList_run (by kernel_rfl) (.int .i64 0) X13_31 rfl ?_
          simp only [Act.put, List.setIfInBounds_toArray, List.set_cons_zero, List.set_cons_succ]
          refine wpList_run (by kernel_rfl) (.bool true) X13_31 (xo_eqlT .i64 0 0 (by omega) rfl rfl rfl) ?_
          simp only [Act.put, List.setIfInBounds_toArray, List.set_cons_zero, List.set_cons_succ]
          refine wpList_run (by kernel_rfl) (.bool true) X13_31 rfl ?_
          simp only [Act.put, List.setIfInBounds_toArray, List.set_cons_zero, List.set_cons_succ]
          refine wpList_run (by kernel_rfl) (.bool true) X13_31 rfl ?_
          simp only [Act.put, List.setIfInBounds_toArray, List.set_cons_zero, List.set_cons_succ]
          refine wpList_run (by kernel_rfl) (.agg #[.int .i64 (p : Int), .int .i64 (q : Int), .int .i64 (r : Int), .int .i64 (t : Int)]) X13_31 (xo_loadW b12 _ Fv29_12.out Tryd.underlying24 rfl (by kernel_rfl) rfl rfl) ?_
          simp only [Act.put, List.setIfInBounds_toArray, List.set_cons_zero, List.set_cons_succ]
          have C1_13 := Lib.hid (bel_step C1_12.out B12.out)
          refine wpList_run (by kernel_rfl) (.agg #[.int .i64 (p : Int), .int .i64 (q : Int), .int .i64 (r : Int), .int .i64 (t : Int)]) X13_31 (xo_loadW (w.heap.size + 1) _ (heap_keep Fv1_4.out C1_13.out) Tryd.underlying24 rfl (by kernel_rfl) rfl rfl) ?_
          simp only [Act.put, List.setIfInBounds_toArray, List.set_cons_zero, List.set_cons_succ]
          refine wpList_run (by kernel_rfl) (.bool true) X13_31 (exec_eqRd (Rd.mk (p : Int) (q : Int) (r : Int) (t : Int)) rfl rfl rfl) ?_
          simp only [Act.put, List.setIfInBounds_toArray, List.set_cons_zero, List.set_cons_succ]
          refine wpList_run (by kernel_rfl) (.bool true) X13_31 rfl ?_
          simp only [Act.put, List.setIfInBounds_toArray, List.set_cons_zero, List.set_cons_succ]
          refine wpList_run (by kernel_rfl) (.bool true) X13_31 rfl ?_
          simp only [Act.put, List.setIfInBounds_toArray, List.set_cons_zero, List.set_cons_succ]
          refine wpList_run (by kernel_rfl) (.pointer (some ⟨(w.heap.size + 1), 3, none⟩)) X13_31 (xo_fld0 3 (w.heap.size + 1) 3 (by kernel_rfl) rfl rfl) ?_
          simp only [Act.put, List.setIfInBounds_toArray, List.set_cons_zero, List.set_cons_succ]
          refine wpList_run (by kernel_rfl) (.int .i64 (t : Int)) X13_31 (xo_load1 ⟨(w.heap.size + 1), 3, none⟩ _ (cells_at (heap_keep Fv1_4.out C1_13.out) 3 rfl) Tryd.underlying3 rfl rfl rfl) ?_
          simp only [Act.put, List.setIfInBounds_toArray, List.set_cons_zero, List.set_cons_succ]
          refine wpList_run (by kernel_rfl) (.int .u64 (t : Int)) X13_31 (xo_cvt .i64 .u64 (t : Int) (t : Int) (by rw [IntKind.wrap_u64]; omega) Tryd.underlying50 Tryd.underlying3 rfl rfl) ?_
          simp only [Act.put, List.setIfInBounds_toArray, List.set_cons_zero, List.set_cons_succ]
          refine wpList_call (by kernel_rfl) 41 Tryd.func41 (by kernel_rfl) (by kernel_rfl) _ _ #[.int .u64 (t : Int)] rfl (by kernel_rfl) ?_
          refine (rfvalid_as t true (by rw [decide_eq_true_eq]; omega) X13_31).mono ?_
          rintro e V14 ⟨rfl, hb⟩
          have B13 := Lib.hid hb
          clear hb 
          refine ⟨_, rfl, ?_⟩
          simp only [Act.put, List.setIfInBounds_toArray, List.set_cons_zero, List.set_cons_succ]
          refine wpList_run (by kernel_rfl) (.bool true) V14 rfl ?_
          simp only [Act.put, List.setIfInBounds_toArray, List.set_cons_zero, List.set_cons_succ]
          refine wpList_run (by kernel_rfl) (.bool true) V14 rfl ?_
          simp only [Act.put, List.setIfInBounds_toArray, List.set_cons_zero, List.set_cons_succ]
          refine wpList_nil ?_
          go_wp2_with fail
          go_ret
          have C0_10 := Lib.hid (bel_step C0_9.out B9.out)
          have C0_11 := Lib.hid (bel_step C0_10.out B10.out)
          have C0_12 := Lib.hid (bel_step C0_11.out B11.out)
          have C0_13 := Lib.hid (bel_step C0_12.out B12.out)
          have C0_14 := Lib.hid (bel_step C0_13.out B13.out)
          exact ⟨rfl, C0_14.out⟩
  · refine wpX_one rfl (by kernel_rfl) ?_
    refine hOp_mk ([x, y, z].flatMap byC).toArray 5 3 3 (xg_lit (E := byC) (bytes := 1) (.int .u8 0) [.tmp 38, .tmp 40, .tmp 42] [x, y, z] 3 Tryd.underlying25 (by kernel_rfl) rfl (by decide) (by decide) rfl rfl) ?_
    intro g43 V8 hge h0 hb
    have N14_0 : Hid (w.heap.size ≠ g43) := Lib.hid (xp_lt0 (heap_keep Fv0_3.out C1_7.out) hge)
    have N15_1 : Hid ((w.heap.size + 1) ≠ g43) := Lib.hid (xp_lt0 (heap_keep Fv1_4.out C1_7.out) hge)
    have C3_5 := Lib.hid (bel_step B3.out B4.out)
    have C3_6 := Lib.hid (bel_step C3_5.out B5.out)
    have C3_7 := Lib.hid (bel_step C3_6.out B6.out)
    have N16_2 : Hid (g22 ≠ g43) := Lib.hid (xp_lt0 (Fv5_22.out.keep C3_7.out) hge)
    have N17_3 : Hid (b8 ≠ g43) := Lib.hid (xp_lt0 (heap_keep Fv11_8.out C5_7.out) hge)
    have Ge18 : Hid (V7.heap.size ≤ g43) := Lib.hid hge
    have B7 := Lib.hid hb
    have Fv19_43 : Hid (RowG byC V8 g43 5 ([x, y, z])) := Lib.hid (h0)
    have Lt20 : Hid (g43 < V8.heap.size) := Lib.hid (xp_lt Fv19_43.out)
    clear hge h0 hb
    refine ⟨B7.out, ?_⟩
    simp only [ptr, Act.put, List.setIfInBounds_toArray, List.set_cons_zero, List.set_cons_succ]
    refine wpX_q (.string (strB ([x, y, z]))) rfl (by kernel_rfl) (fun v hW => (xg_str (xs := [x, y, z]) (RowG.sg (n := 3) (c := 3) (Fv19_43.out.keep hW) (show ([x, y, z]).length = 3 from rfl) (Nat.le_refl _) (by omega)) (by decide) Tryd.underlying25 Tryd.underlying5 Tryd.underlying9 rfl rfl)) ?_
    simp only [ptr, Act.put, List.setIfInBounds_toArray, List.set_cons_zero, List.set_cons_succ]
    refine wpX_one rfl (by kernel_rfl) ?_
    refine hOp_call 27 Tryd.func27 (by kernel_rfl) (by kernel_rfl) _ _ #[.agg #[.int .i64 ((decR x y z).who), .int .i64 ((decR x y z).when_), .int .i64 ((decR x y z).kind), .int .i64 ((decR x y z).value)]] rfl (by kernel_rfl) ?_
    refine (encode_any (x % 16) y (x / 16) z (by omega) hy (by omega) hz V8).mono ?_
    rintro e V9 ⟨Ae, ce, rfl, hs, hb⟩
    have B8 := Lib.hid hb
    rw [show x % 16 + x / 16 * 16 = x by omega] at hs
    have HEn := Lib.hid hs
    clear hb hs
    refine ⟨_, rfl, B8.out, ?_⟩
    simp only [ptr, Act.put, List.setIfInBounds_toArray, List.set_cons_zero, List.set_cons_succ]
    refine wpX_q (.string (strB ([x, y, z]))) rfl (by kernel_rfl) (fun v hW => (xg_str (xs := [x, y, z]) (HEn.out.keep hW) (by decide) Tryd.underlying25 Tryd.underlying5 Tryd.underlying9 rfl rfl)) ?_
    simp only [ptr, Act.put, List.setIfInBounds_toArray, List.set_cons_zero, List.set_cons_succ]
    refine wpX_q (.bool false) rfl (by kernel_rfl) (fun v hW => (xo_neS (strB ([x, y, z])) Tryd.underlying9 rfl rfl rfl)) ?_
    simp only [ptr, Act.put, List.setIfInBounds_toArray, List.set_cons_zero, List.set_cons_succ]
    refine wpX_q (.bool false) rfl (by kernel_rfl) (fun v hW => rfl) ?_
    simp only [ptr, Act.put, List.setIfInBounds_toArray, List.set_cons_zero, List.set_cons_succ]
    refine wpX_nil ?_
    by_cases hn3 : n = 3
    · have hci21 : ¬ ((n : Int) ≠ 3) := by omega
      go_upto_region 5 with fail
      refine wp_region_lit ?_
      refine wpList_run (by kernel_rfl) (.slice A n c) V9 rfl ?_
      simp only [Act.put, List.setIfInBounds_toArray, List.set_cons_zero, List.set_cons_succ]
      refine wpList_run (by kernel_rfl) (.int .i64 (n : Int)) V9 (xo_len A n c Tryd.underlying25 rfl rfl) ?_
      simp only [Act.put, List.setIfInBounds_toArray, List.set_cons_zero, List.set_cons_succ]
      refine wpList_run (by kernel_rfl) (.bool false) V9 (xo_neqF .i64 (n : Int) 3 (by omega) rfl rfl rfl) ?_
      simp only [Act.put, List.setIfInBounds_toArray, List.set_cons_zero, List.set_cons_succ]
      refine wpList_run (by kernel_rfl) (.bool false) V9 rfl ?_
      simp only [Act.put, List.setIfInBounds_toArray, List.set_cons_zero, List.set_cons_succ]
      refine wpList_skip (by kernel_rfl) ?_
      try simp only [Act.put, List.setIfInBounds_toArray, List.set_cons_zero, List.set_cons_succ]
      refine wpList_skip (by kernel_rfl) ?_
      try simp only [Act.put, List.setIfInBounds_toArray, List.set_cons_zero, List.set_cons_succ]
      refine wpList_skip (by kernel_rfl) ?_
      try simp only [Act.put, List.setIfInBounds_toArray, List.set_cons_zero, List.set_cons_succ]
      refine wpList_run (by kernel_rfl) (.bool false) V9 rfl ?_
      simp only [Act.put, List.setIfInBounds_toArray, List.set_cons_zero, List.set_cons_succ]
      refine wpList_nil ?_
      cases hv : vR (Rd.mk a b k d) with
      | false =>
        go_upto_region 9 with fail
        refine wp_region_lit ?_
        have C1_8 := Lib.hid (bel_step C1_7.out B7.out)
        have C1_9 := Lib.hid (bel_step C1_8.out B8.out)
        refine wpList_run (by kernel_rfl) (.agg #[.int .i64 a, .int .i64 b, .int .i64 k, .int .i64 d]) V9 (xo_loadW (w.heap.size + 1) _ (heap_keep Fv1_4.out C1_9.out) Tryd.underlying24 rfl (by kernel_rfl) rfl rfl) ?_
        simp only [Act.put, List.setIfInBounds_toArray, List.set_cons_zero, List.set_cons_succ]
        have C0_7 := Lib.hid (bel_step C0_6.out B6.out)
        have C0_8 := Lib.hid (bel_step C0_7.out B7.out)
        have C0_9 := Lib.hid (bel_step C0_8.out B8.out)
        refine wpList_call (by kernel_rfl) 17 Tryd.func17 (by kernel_rfl) (by kernel_rfl) _ _ #[.agg #[.int .i64 a, .int .i64 b, .int .i64 k, .int .i64 d]] rfl (by kernel_rfl) ?_
        refine (valid_as (Rd.mk a b k d) false hv V9 (HW.out.keep C0_9.out)).mono ?_
        rintro e V10 ⟨rfl, hb⟩
        have B9 := Lib.hid hb
        clear hb 
        refine ⟨_, rfl, ?_⟩
        simp only [Act.put, List.setIfInBounds_toArray, List.set_cons_zero, List.set_cons_succ]
        refine wpList_run (by kernel_rfl) (.bool true) V10 rfl ?_
        simp only [Act.put, List.setIfInBounds_toArray, List.set_cons_zero, List.set_cons_succ]
        refine wpList_nil ?_
        go_upto_region 10 with fail
        refine wp_region_lit ?_
        refine wpList_run (by kernel_rfl) (.bool true) V10 rfl ?_
        simp only [Act.put, List.setIfInBounds_toArray, List.set_cons_zero, List.set_cons_succ]
        refine wpList_run (by kernel_rfl) (.bool true) V10 rfl ?_
        simp only [Act.put, List.setIfInBounds_toArray, List.set_cons_zero, List.set_cons_succ]
        refine wpList_nil ?_
        go_wp2_with fail
        go_ret
        have C0_10 := Lib.hid (bel_step C0_9.out B9.out)
        exact ⟨rfl, C0_10.out⟩
      | true =>
        go_upto_region 9 with fail
        refine wp_region_lit ?_
        have C1_8 := Lib.hid (bel_step C1_7.out B7.out)
        have C1_9 := Lib.hid (bel_step C1_8.out B8.out)
        refine wpList_run (by kernel_rfl) (.agg #[.int .i64 a, .int .i64 b, .int .i64 k, .int .i64 d]) V9 (xo_loadW (w.heap.size + 1) _ (heap_keep Fv1_4.out C1_9.out) Tryd.underlying24 rfl (by kernel_rfl) rfl rfl) ?_
        simp only [Act.put, List.setIfInBounds_toArray, List.set_cons_zero, List.set_cons_succ]
        have C0_7 := Lib.hid (bel_step C0_6.out B6.out)
        have C0_8 := Lib.hid (bel_step C0_7.out B7.out)
        have C0_9 := Lib.hid (bel_step C0_8.out B8.out)
        refine wpList_call (by kernel_rfl) 17 Tryd.func17 (by kernel_rfl) (by kernel_rfl) _ _ #[.agg #[.int .i64 a, .int .i64 b, .int .i64 k, .int .i64 d]] rfl (by kernel_rfl) ?_
        refine (valid_as (Rd.mk a b k d) true hv V9 (HW.out.keep C0_9.out)).mono ?_
        rintro e V10 ⟨rfl, hb⟩
        have B9 := Lib.hid hb
        clear hb 
        refine ⟨_, rfl, ?_⟩
        simp only [Act.put, List.setIfInBounds_toArray, List.set_cons_zero, List.set_cons_succ]
        refine wpList_run (by kernel_rfl) (.bool false) V10 rfl ?_
        simp only [Act.put, List.setIfInBounds_toArray, List.set_cons_zero, List.set_cons_succ]
        refine wpList_nil ?_
        have hvv := vR_iff.1 hv
        simp only at hvv
        obtain ⟨⟨hv0, hv1⟩, ⟨hv2, hv3⟩, ⟨hv4, hv5⟩, hv6, hv7⟩ := hvv
        clear hv
        obtain ⟨p, rfl⟩ : ∃ p : Nat, a = (p : Int) := ⟨a.toNat, by omega⟩
        obtain ⟨q, rfl⟩ : ∃ q : Nat, b = (q : Int) := ⟨b.toNat, by omega⟩
        obtain ⟨r, rfl⟩ : ∃ r : Nat, k = (r : Int) := ⟨k.toNat, by omega⟩
        obtain ⟨t, rfl⟩ : ∃ t : Nat, d = (t : Int) := ⟨d.toNat, by omega⟩
        go_upto_region 11 with fail
        refine wp_region_lit ?_
        have C1_10 := Lib.hid (bel_step C1_9.out B9.out)
        refine wpList_run (by kernel_rfl) (.agg #[.int .i64 (p : Int), .int .i64 (q : Int), .int .i64 (r : Int), .int .i64 (t : Int)]) V10 (xo_loadW (w.heap.size + 1) _ (heap_keep Fv1_4.out C1_10.out) Tryd.underlying24 rfl (by kernel_rfl) rfl rfl) ?_
        simp only [Act.put, List.setIfInBounds_toArray, List.set_cons_zero, List.set_cons_succ]
        refine wpList_call (by kernel_rfl) 27 Tryd.func27 (by kernel_rfl) (by kernel_rfl) _ _ #[.agg #[.int .i64 (p : Int), .int .i64 (q : Int), .int .i64 (r : Int), .int .i64 (t : Int)]] rfl (by kernel_rfl) ?_
        refine (encode_any p q r t (by omega) (by omega) (by omega) (by omega) V10).mono ?_
        rintro e V11 ⟨Af, cf, rfl, hs, hb⟩
        have B10 := Lib.hid hb
        have HEf := Lib.hid hs
        clear hb hs
        refine ⟨_, rfl, ?_⟩
        simp only [Act.put, List.setIfInBounds_toArray, List.set_cons_zero, List.set_cons_succ]
        refine wpList_call (by kernel_rfl) 23 Tryd.func23 (by kernel_rfl) (by kernel_rfl) _ _ #[.slice Af 3 cf] rfl (by kernel_rfl) ?_
        refine (decode_back Af cf p q r t (by omega) (by omega) (by omega) (by omega) V11 HEf.out).mono ?_
        rintro e V12 ⟨rfl, hb⟩
        have B11 := Lib.hid hb
        clear hb 
        refine ⟨_, rfl, ?_⟩
        simp only [Act.put, List.setIfInBounds_toArray, List.set_cons_zero, List.set_cons_succ]
        refine wpList_run (by kernel_rfl) (.tuple #[.agg #[.int .i64 (p : Int), .int .i64 (q : Int), .int .i64 (r : Int), .int .i64 (t : Int)], .int .i64 0]) V12 rfl ?_
        simp only [Act.put, List.setIfInBounds_toArray, List.set_cons_zero, List.set_cons_succ]
        refine wpList_run (by kernel_rfl) (.agg #[.int .i64 (p : Int), .int .i64 (q : Int), .int .i64 (r : Int), .int .i64 (t : Int)]) V12 rfl ?_
        simp only [Act.put, List.setIfInBounds_toArray, List.set_cons_zero, List.set_cons_succ]
        refine wpList_run (by kernel_rfl) (.int .i64 0) V12 rfl ?_
        simp only [Act.put, List.setIfInBounds_toArray, List.set_cons_zero, List.set_cons_succ]
        refine wpList_new #[.int .i64 0, .int .i64 0, .int .i64 0, .int .i64 0] 24 (by kernel_rfl) (xo_alloc #[.int .i64 0, .int .i64 0, .int .i64 0, .int .i64 0] (by kernel_rfl) rfl) ?_
        intro b12 V13 hge h0 hb
        have C1_11 := Lib.hid (bel_step C1_10.out B10.out)
        have C1_12 := Lib.hid (bel_step C1_11.out B11.out)
        have N22_0 : Hid (w.heap.size ≠ b12) := Lib.hid (xp_lt0 (heap_keep Fv0_3.out C1_12.out) hge)
        have N23_1 : Hid ((w.heap.size + 1) ≠ b12) := Lib.hid (xp_lt0 (heap_keep Fv1_4.out C1_12.out) hge)
        have C3_8 := Lib.hid (bel_step C3_7.out B7.out)
        have C3_9 := Lib.hid (bel_step C3_8.out B8.out)
        have C3_10 := Lib.hid (bel_step C3_9.out B9.out)
        have C3_11 := Lib.hid (bel_step C3_10.out B10.out)
        have C3_12 := Lib.hid (bel_step C3_11.out B11.out)
        have N24_2 : Hid (g22 ≠ b12) := Lib.hid (xp_lt0 (Fv5_22.out.keep C3_12.out) hge)
        have C5_8 := Lib.hid (bel_step C5_7.out B7.out)
        have C5_9 := Lib.hid (bel_step C5_8.out B8.out)
        have C5_10 := Lib.hid (bel_step C5_9.out B9.out)
        have C5_11 := Lib.hid (bel_step C5_10.out B10.out)
        have C5_12 := Lib.hid (bel_step C5_11.out B11.out)
        have N25_3 : Hid (b8 ≠ b12) := Lib.hid (xp_lt0 (heap_keep Fv11_8.out C5_12.out) hge)
        have C8_10 := Lib.hid (bel_step B8.out B9.out)
        have C8_11 := Lib.hid (bel_step C8_10.out B10.out)
        have C8_12 := Lib.hid (bel_step C8_11.out B11.out)
        have N26_4 : Hid (g43 ≠ b12) := Lib.hid (xp_lt0 (Fv19_43.out.keep C8_12.out) hge)
        have Ge27 : Hid (V12.heap.size ≤ b12) := Lib.hid hge
        have B12 := Lib.hid hb
        have Fv28_12 : Hid (V13.heap[b12]? = some (.cells #[.int .i64 0, .int .i64 0, .int .i64 0, .int .i64 0] 24 (0, 0))) := Lib.hid (h0)
        have Lt29 : Hid (b12 < V13.heap.size) := Lib.hid (xp_lt Fv28_12.out)
        clear hge h0 hb
        simp only [ptr, Act.put, List.setIfInBounds_toArray, List.set_cons_zero, List.set_cons_succ]
        refine wpList_storeW b12 #[.int .i64 0, .int .i64 0, .int .i64 0, .int .i64 0] #[.int .i64 (p : Int), .int .i64 (q : Int), .int .i64 (r : Int), .int .i64 (t : Int)] 24 (by kernel_rfl) Fv28_12.out (xo_storeW b12 #[.int .i64 0, .int .i64 0, .int .i64 0, .int .i64 0] #[.int .i64 (p : Int), .int .i64 (q : Int), .int .i64 (r : Int), .int .i64 (t : Int)] Fv28_12.out (by kernel_rfl) rfl (by simp [Value.oneCell']) rfl rfl rfl) ?_
        intro X13_30 h1 hfar hbel hsz
        have hbr := hbel _ _ Ge27.out B12.out
        clear B12
        have B12 := Lib.hid hbr
        clear hbr
        clear Fv28_12
        have Fv28_12 : Hid (X13_30.heap[b12]? = some (.cells #[.int .i64 (p : Int), .int .i64 (q : Int), .int .i64 (r : Int), .int .i64 (t : Int)] 24 (0, 0))) := Lib.hid (h1)
        have HszX13_30 := Lib.hid hsz
        clear h1 hfar hbel hsz
        simp only [ptr, Act.put, List.setIfInBounds_toArray, List.set_cons_zero, List.set_cons_succ]
        refine wpList_run (by kernel_rfl) (.int .i64 0) X13_30 rfl ?_
        simp only [Act.put, List.setIfInBounds_toArray, List.set_cons_zero, List.set_cons_succ]
        refine wpList_nil ?_
        go_upto_region 12 with fail
        refine wp_region_lit ?_
        refine wpList_run (by kernel_rfl) (.bool true) X13_30 rfl ?_
        simp only [Act.put, List.setIfInBounds_toArray, List.set_cons_zero, List.set_cons_succ]
        refine wpList_run (by kernel_rfl) (.bool true) X13_30 rfl ?_
        simp only [Act.put, List.setIfInBounds_toArray, List.set_cons_zero, List.set_cons_succ]
        refine wpList_run (by kernel_rfl) (.int .i64 0) X13_30 rfl ?_
        simp only [Act.put, List.setIfInBounds_toArray, List.set_cons_zero, List.set_cons_succ]
        refine wpList_run (by kernel_rfl) (.bool true) X13_30 (xo_eqlT .i64 0 0 (by omega) rfl rfl rfl) ?_
        simp only [Act.put, List.setIfInBounds_toArray, List.set_cons_zero, List.set_cons_succ]
        refine wpList_run (by kernel_rfl) (.bool true) X13_30 rfl ?_
        simp only [Act.put, List.setIfInBounds_toArray, List.set_cons_zero, List.set_cons_succ]
        refine wpList_run (by kernel_rfl) (.bool true) X13_30 rfl ?_
        simp only [Act.put, List.setIfInBounds_toArray, List.set_cons_zero, List.set_cons_succ]
        refine wpList_run (by kernel_rfl) (.agg #[.int .i64 (p : Int), .int .i64 (q : Int), .int .i64 (r : Int), .int .i64 (t : Int)]) X13_30 (xo_loadW b12 _ Fv28_12.out Tryd.underlying24 rfl (by kernel_rfl) rfl rfl) ?_
        simp only [Act.put, List.setIfInBounds_toArray, List.set_cons_zero, List.set_cons_succ]
        have C1_13 := Lib.hid (bel_step C1_12.out B12.out)
        refine wpList_run (by kernel_rfl) (.agg #[.int .i64 (p : Int), .int .i64 (q : Int), .int .i64 (r : Int), .int .i64 (t : Int)]) X13_30 (xo_loadW (w.heap.size + 1) _ (heap_keep Fv1_4.out C1_13.out) Tryd.underlying24 rfl (by kernel_rfl) rfl rfl) ?_
        simp only [Act.put, List.setIfInBounds_toArray, List.set_cons_zero, List.set_cons_succ]
        refine wpList_run (by kernel_rfl) (.bool true) X13_30 (exec_eqRd (Rd.mk (p : Int) (q : Int) (r : Int) (t : Int)) rfl rfl rfl) ?_
        simp only [Act.put, List.setIfInBounds_toArray, List.set_cons_zero, List.set_cons_succ]
        refine wpList_run (by kernel_rfl) (.bool true) X13_30 rfl ?_
        simp only [Act.put, List.setIfInBounds_toArray, List.set_cons_zero, List.set_cons_succ]
        refine wpList_run (by kernel_rfl) (.bool true) X13_30 rfl ?_
        simp only [Act.put, List.setIfInBounds_toArray, List.set_cons_zero, List.set_cons_succ]
        refine wpList_run (by kernel_rfl) (.pointer (some ⟨(w.heap.size + 1), 3, none⟩)) X13_30 (xo_fld0 3 (w.heap.size + 1) 3 (by kernel_rfl) rfl rfl) ?_
        simp only [Act.put, List.setIfInBounds_toArray, List.set_cons_zero, List.set_cons_succ]
        refine wpList_run (by kernel_rfl) (.int .i64 (t : Int)) X13_30 (xo_load1 ⟨(w.heap.size + 1), 3, none⟩ _ (cells_at (heap_keep Fv1_4.out C1_13.out) 3 rfl) Tryd.underlying3 rfl rfl rfl) ?_
        simp only [Act.put, List.setIfInBounds_toArray, List.set_cons_zero, List.set_cons_succ]
        refine wpList_run (by kernel_rfl) (.int .u64 (t : Int)) X13_30 (xo_cvt .i64 .u64 (t : Int) (t : Int) (by rw [IntKind.wrap_u64]; omega) Tryd.underlying50 Tryd.underlying3 rfl rfl) ?_
        simp only [Act.put, List.setIfInBounds_toArray, List.set_cons_zero, List.set_cons_succ]
        refine wpList_call (by kernel_rfl) 41 Tryd.func41 (by kernel_rfl) (by kernel_rfl) _ _ #[.int .u64 (t : Int)] rfl (by kernel_rfl) ?_
        refine (rfvalid_as t true (by rw [decide_eq_true_eq]; omega) X13_30).mono ?_
        rintro e V14 ⟨rfl, hb⟩
        have B13 := Lib.hid hb
        clear hb 
        refine ⟨_, rfl, ?_⟩
        simp only [Act.put, List.setIfInBounds_toArray, List.set_cons_zero, List.set_cons_succ]
        refine wpList_run (by kernel_rfl) (.bool true) V14 rfl ?_
        simp only [Act.put, List.setIfInBounds_toArray, List.set_cons_zero, List.set_cons_succ]
        refine wpList_run (by kernel_rfl) (.bool true) V14 rfl ?_
        simp only [Act.put, List.setIfInBounds_toArray, List.set_cons_zero, List.set_cons_succ]
        refine wpList_nil ?_
        go_wp2_with fail
        go_ret
        have C0_10 := Lib.hid (bel_step C0_9.out B9.out)
        have C0_11 := Lib.hid (bel_step C0_10.out B10.out)
        have C0_12 := Lib.hid (bel_step C0_11.out B11.out)
        have C0_13 := Lib.hid (bel_step C0_12.out B12.out)
        have C0_14 := Lib.hid (bel_step C0_13.out B13.out)
        exact ⟨rfl, C0_14.out⟩
    · have hci21 : ((n : Int) ≠ 3) := by omega
      by_cases hn100 : n < 100
      · have hci22 : ((n : Int) < 100) := by omega
        go_upto_region 5 with fail
        refine wp_region_lit ?_
        refine wpList_run (by kernel_rfl) (.slice A n c) V9 rfl ?_
        simp only [Act.put, List.setIfInBounds_toArray, List.set_cons_zero, List.set_cons_succ]
        refine wpList_run (by kernel_rfl) (.int .i64 (n : Int)) V9 (xo_len A n c Tryd.underlying25 rfl rfl) ?_
        simp only [Act.put, List.setIfInBounds_toArray, List.set_cons_zero, List.set_cons_succ]
        refine wpList_run (by kernel_rfl) (.bool true) V9 (xo_neqT .i64 (n : Int) 3 (by omega) rfl rfl rfl) ?_
        simp only [Act.put, List.setIfInBounds_toArray, List.set_cons_zero, List.set_cons_succ]
        refine wpList_run (by kernel_rfl) (.bool true) V9 rfl ?_
        simp only [Act.put, List.setIfInBounds_toArray, List.set_cons_zero, List.set_cons_succ]
        refine wpList_run (by kernel_rfl) (.slice A n c) V9 rfl ?_
        simp only [Act.put, List.setIfInBounds_toArray, List.set_cons_zero, List.set_cons_succ]
        refine wpList_run (by kernel_rfl) (.int .i64 (n : Int)) V9 (xo_len A n c Tryd.underlying25 rfl rfl) ?_
        simp only [Act.put, List.setIfInBounds_toArray, List.set_cons_zero, List.set_cons_succ]
        refine wpList_run (by kernel_rfl) (.bool true) V9 (xo_lssT .i64 (n : Int) 100 (by omega) rfl rfl rfl) ?_
        simp only [Act.put, List.setIfInBounds_toArray, List.set_cons_zero, List.set_cons_succ]
        refine wpList_run (by kernel_rfl) (.bool true) V9 rfl ?_
        simp only [Act.put, List.setIfInBounds_toArray, List.set_cons_zero, List.set_cons_succ]
        refine wpList_nil ?_
        go_upto_region 6 with fail
        refine wp_region_lit ?_
        refine wpList_run (by kernel_rfl) (.slice A n c) V9 rfl ?_
        simp only [Act.put, List.setIfInBounds_toArray, List.set_cons_zero, List.set_cons_succ]
        refine wpList_call (by kernel_rfl) 23 Tryd.func23 (by kernel_rfl) (by kernel_rfl) _ _ #[.slice A n c] rfl (by kernel_rfl) ?_
        refine (decode_no A n c hn3 V9).mono ?_
        rintro e V10 ⟨rfl, hb⟩
        have B9 := Lib.hid hb
        clear hb 
        refine ⟨_, rfl, ?_⟩
        simp only [Act.put, List.setIfInBounds_toArray, List.set_cons_zero, List.set_cons_succ]
        refine wpList_run (by kernel_rfl) (.tuple #[.agg #[.int .i64 0, .int .i64 0, .int .i64 0, .int .i64 0], .int .i64 5]) V10 rfl ?_
        simp only [Act.put, List.setIfInBounds_toArray, List.set_cons_zero, List.set_cons_succ]
        refine wpList_run (by kernel_rfl) (.agg #[.int .i64 0, .int .i64 0, .int .i64 0, .int .i64 0]) V10 rfl ?_
        simp only [Act.put, List.setIfInBounds_toArray, List.set_cons_zero, List.set_cons_succ]
        refine wpList_run (by kernel_rfl) (.int .i64 5) V10 rfl ?_
        simp only [Act.put, List.setIfInBounds_toArray, List.set_cons_zero, List.set_cons_succ]
        refine wpList_new #[.int .i64 0, .int .i64 0, .int .i64 0, .int .i64 0] 24 (by kernel_rfl) (xo_alloc #[.int .i64 0, .int .i64 0, .int .i64 0, .int .i64 0] (by kernel_rfl) rfl) ?_
        intro b10 V11 hge h0 hb
        have C1_8 := Lib.hid (bel_step C1_7.out B7.out)
        have C1_9 := Lib.hid (bel_step C1_8.out B8.out)
        have C1_10 := Lib.hid (bel_step C1_9.out B9.out)
        have N23_0 : Hid (w.heap.size ≠ b10) := Lib.hid (xp_lt0 (heap_keep Fv0_3.out C1_10.out) hge)
        have N24_1 : Hid ((w.heap.size + 1) ≠ b10) := Lib.hid (xp_lt0 (heap_keep Fv1_4.out C1_10.out) hge)
        have C3_8 := Lib.hid (bel_step C3_7.out B7.out)
        have C3_9 := Lib.hid (bel_step C3_8.out B8.out)
        have C3_10 := Lib.hid (bel_step C3_9.out B9.out)
        have N25_2 : Hid (g22 ≠ b10) := Lib.hid (xp_lt0 (Fv5_22.out.keep C3_10.out) hge)
        have C5_8 := Lib.hid (bel_step C5_7.out B7.out)
        have C5_9 := Lib.hid (bel_step C5_8.out B8.out)
        have C5_10 := Lib.hid (bel_step C5_9.out B9.out)
        have N26_3 : Hid (b8 ≠ b10) := Lib.hid (xp_lt0 (heap_keep Fv11_8.out C5_10.out) hge)
        have C8_10 := Lib.hid (bel_step B8.out B9.out)
        have N27_4 : Hid (g43 ≠ b10) := Lib.hid (xp_lt0 (Fv19_43.out.keep C8_10.out) hge)
        have Ge28 : Hid (V10.heap.size ≤ b10) := Lib.hid hge
        have B10 := Lib.hid hb
        have Fv29_10 : Hid (V11.heap[b10]? = some (.cells #[.int .i64 0, .int .i64 0, .int .i64 0, .int .i64 0] 24 (0, 0))) := Lib.hid (h0)
        have Lt30 : Hid (b10 < V11.heap.size) := Lib.hid (xp_lt Fv29_10.out)
        clear hge h0 hb
        simp only [ptr, Act.put, List.setIfInBounds_toArray, List.set_cons_zero, List.set_cons_succ]
        refine wpList_storeW b10 #[.int .i64 0, .int .i64 0, .int .i64 0, .int .i64 0] #[.int .i64 0, .int .i64 0, .int .i64 0, .int .i64 0] 24 (by kernel_rfl) Fv29_10.out (xo_storeW b10 #[.int .i64 0, .int .i64 0, .int .i64 0, .int .i64 0] #[.int .i64 0, .int .i64 0, .int .i64 0, .int .i64 0] Fv29_10.out (by kernel_rfl) rfl (by simp [Value.oneCell']) rfl rfl rfl) ?_
        intro X11_31 h1 hfar hbel hsz
        have hbr := hbel _ _ Ge28.out B10.out
        clear B10
        have B10 := Lib.hid hbr
        clear hbr
        clear Fv29_10
        have Fv29_10 : Hid (X11_31.heap[b10]? = some (.cells #[.int .i64 0, .int .i64 0, .int .i64 0, .int .i64 0] 24 (0, 0))) := Lib.hid (h1)
        have HszX11_31 := Lib.hid hsz
        clear h1 hfar hbel hsz
        simp only [ptr, Act.put, List.setIfInBounds_toArray, List.set_cons_zero, List.set_cons_succ]
        refine wpList_run (by kernel_rfl) (.int .i64 5) X11_31 rfl ?_
        simp only [Act.put, List.setIfInBounds_toArray, List.set_cons_zero, List.set_cons_succ]
        refine wpList_nil ?_
        go_upto_region 7 with fail
        refine wp_region_lit ?_
        refine wpList_run (by kernel_rfl) (.int .i64 5) X11_31 rfl ?_
        simp only [Act.put, List.setIfInBounds_toArray, List.set_cons_zero, List.set_cons_succ]
        refine wpList_run (by kernel_rfl) (.bool false) X11_31 (xo_neqF .i64 5 5 (by omega) rfl rfl rfl) ?_
        simp only [Act.put, List.setIfInBounds_toArray, List.set_cons_zero, List.set_cons_succ]
        refine wpList_run (by kernel_rfl) (.bool false) X11_31 rfl ?_
        simp only [Act.put, List.setIfInBounds_toArray, List.set_cons_zero, List.set_cons_succ]
        refine wpList_run (by kernel_rfl) (.agg #[.int .i64 0, .int .i64 0, .int .i64 0, .int .i64 0]) X11_31 (xo_loadW b10 _ Fv29_10.out Tryd.underlying24 rfl (by kernel_rfl) rfl rfl) ?_
        simp only [Act.put, List.setIfInBounds_toArray, List.set_cons_zero, List.set_cons_succ]
        refine wpList_run (by kernel_rfl) (.agg #[.int .i64 0, .int .i64 0, .int .i64 0, .int .i64 0]) X11_31 (by unfold execOp; go_simp) ?_
        simp only [Act.put, List.setIfInBounds_toArray, List.set_cons_zero, List.set_cons_succ]
        refine wpList_run (by kernel_rfl) (.bool false) X11_31 (exec_neRd (Rd.mk 0 0 0 0) rfl rfl rfl) ?_
        simp only [Act.put, List.setIfInBounds_toArray, List.set_cons_zero, List.set_cons_succ]
        refine wpList_run (by kernel_rfl) (.bool false) X11_31 rfl ?_
        simp only [Act.put, List.setIfInBounds_toArray, List.set_cons_zero, List.set_cons_succ]
        refine wpList_nil ?_
        cases hv : vR (Rd.mk a b k d) with
        | false =>
          go_upto_region 9 with fail
          refine wp_region_lit ?_
          have C1_11 := Lib.hid (bel_step C1_10.out B10.out)
          refine wpList_run (by kernel_rfl) (.agg #[.int .i64 a, .int .i64 b, .int .i64 k, .int .i64 d]) X11_31 (xo_loadW (w.heap.size + 1) _ (heap_keep Fv1_4.out C1_11.out) Tryd.underlying24 rfl (by kernel_rfl) rfl rfl) ?_
          simp only [Act.put, List.setIfInBounds_toArray, List.set_cons_zero, List.set_cons_succ]
          have C0_7 := Lib.hid (bel_step C0_6.out B6.out)
          have C0_8 := Lib.hid (bel_step C0_7.out B7.out)
          have C0_9 := Lib.hid (bel_step C0_8.out B8.out)
          have C0_10 := Lib.hid (bel_step C0_9.out B9.out)
          have C0_11 := Lib.hid (bel_step C0_10.out B10.out)
          refine wpList_call (by kernel_rfl) 17 Tryd.func17 (by kernel_rfl) (by kernel_rfl) _ _ #[.agg #[.int .i64 a, .int .i64 b, .int .i64 k, .int .i64 d]] rfl (by kernel_rfl) ?_
          refine (valid_as (Rd.mk a b k d) false hv X11_31 (HW.out.keep C0_11.out)).mono ?_
          rintro e V12 ⟨rfl, hb⟩
          have B11 := Lib.hid hb
          clear hb 
          refine ⟨_, rfl, ?_⟩
          simp only [Act.put, List.setIfInBounds_toArray, List.set_cons_zero, List.set_cons_succ]
          refine wpList_run (by kernel_rfl) (.bool true) V12 rfl ?_
          simp only [Act.put, List.setIfInBounds_toArray, List.set_cons_zero, List.set_cons_succ]
          refine wpList_nil ?_
          go_upto_region 10 with fail
          refine wp_region_lit ?_
          refine wpList_run (by kernel_rfl) (.bool true) V12 rfl ?_
          simp only [Act.put, List.setIfInBounds_toArray, List.set_cons_zero, List.set_cons_succ]
          refine wpList_run (by kernel_rfl) (.bool true) V12 rfl ?_
          simp only [Act.put, List.setIfInBounds_toArray, List.set_cons_zero, List.set_cons_succ]
          refine wpList_nil ?_
          go_wp2_with fail
          go_ret
          have C0_12 := Lib.hid (bel_step C0_11.out B11.out)
          exact ⟨rfl, C0_12.out⟩
        | true =>
          go_upto_region 9 with fail
          refine wp_region_lit ?_
          have C1_11 := Lib.hid (bel_step C1_10.out B10.out)
          refine wpList_run (by kernel_rfl) (.agg #[.int .i64 a, .int .i64 b, .int .i64 k, .int .i64 d]) X11_31 (xo_loadW (w.heap.size + 1) _ (heap_keep Fv1_4.out C1_11.out) Tryd.underlying24 rfl (by kernel_rfl) rfl rfl) ?_
          simp only [Act.put, List.setIfInBounds_toArray, List.set_cons_zero, List.set_cons_succ]
          have C0_7 := Lib.hid (bel_step C0_6.out B6.out)
          have C0_8 := Lib.hid (bel_step C0_7.out B7.out)
          have C0_9 := Lib.hid (bel_step C0_8.out B8.out)
          have C0_10 := Lib.hid (bel_step C0_9.out B9.out)
          have C0_11 := Lib.hid (bel_step C0_10.out B10.out)
          refine wpList_call (by kernel_rfl) 17 Tryd.func17 (by kernel_rfl) (by kernel_rfl) _ _ #[.agg #[.int .i64 a, .int .i64 b, .int .i64 k, .int .i64 d]] rfl (by kernel_rfl) ?_
          refine (valid_as (Rd.mk a b k d) true hv X11_31 (HW.out.keep C0_11.out)).mono ?_
          rintro e V12 ⟨rfl, hb⟩
          have B11 := Lib.hid hb
          clear hb 
          refine ⟨_, rfl, ?_⟩
          simp only [Act.put, List.setIfInBounds_toArray, List.set_cons_zero, List.set_cons_succ]
          refine wpList_run (by kernel_rfl) (.bool false) V12 rfl ?_
          simp only [Act.put, List.setIfInBounds_toArray, List.set_cons_zero, List.set_cons_succ]
          refine wpList_nil ?_
          have hvv := vR_iff.1 hv
          simp only at hvv
          obtain ⟨⟨hv0, hv1⟩, ⟨hv2, hv3⟩, ⟨hv4, hv5⟩, hv6, hv7⟩ := hvv
          clear hv
          obtain ⟨p, rfl⟩ : ∃ p : Nat, a = (p : Int) := ⟨a.toNat, by omega⟩
          obtain ⟨q, rfl⟩ : ∃ q : Nat, b = (q : Int) := ⟨b.toNat, by omega⟩
          obtain ⟨r, rfl⟩ : ∃ r : Nat, k = (r : Int) := ⟨k.toNat, by omega⟩
          obtain ⟨t, rfl⟩ : ∃ t : Nat, d = (t : Int) := ⟨d.toNat, by omega⟩
          go_upto_region 11 with fail
          refine wp_region_lit ?_
          have C1_12 := Lib.hid (bel_step C1_11.out B11.out)
          refine wpList_run (by kernel_rfl) (.agg #[.int .i64 (p : Int), .int .i64 (q : Int), .int .i64 (r : Int), .int .i64 (t : Int)]) V12 (xo_loadW (w.heap.size + 1) _ (heap_keep Fv1_4.out C1_12.out) Tryd.underlying24 rfl (by kernel_rfl) rfl rfl) ?_
          simp only [Act.put, List.setIfInBounds_toArray, List.set_cons_zero, List.set_cons_succ]
          refine wpList_call (by kernel_rfl) 27 Tryd.func27 (by kernel_rfl) (by kernel_rfl) _ _ #[.agg #[.int .i64 (p : Int), .int .i64 (q : Int), .int .i64 (r : Int), .int .i64 (t : Int)]] rfl (by kernel_rfl) ?_
          refine (encode_any p q r t (by omega) (by omega) (by omega) (by omega) V12).mono ?_
          rintro e V13 ⟨Af, cf, rfl, hs, hb⟩
          have B12 := Lib.hid hb
          have HEf := Lib.hid hs
          clear hb hs
          refine ⟨_, rfl, ?_⟩
          simp only [Act.put, List.setIfInBounds_toArray, List.set_cons_zero, List.set_cons_succ]
          refine wpList_call (by kernel_rfl) 23 Tryd.func23 (by kernel_rfl) (by kernel_rfl) _ _ #[.slice Af 3 cf] rfl (by kernel_rfl) ?_
          refine (decode_back Af cf p q r t (by omega) (by omega) (by omega) (by omega) V13 HEf.out).mono ?_
          rintro e V14 ⟨rfl, hb⟩
          have B13 := Lib.hid hb
          clear hb 
          refine ⟨_, rfl, ?_⟩
          simp only [Act.put, List.setIfInBounds_toArray, List.set_cons_zero, List.set_cons_succ]
          refine wpList_run (by kernel_rfl) (.tuple #[.agg #[.int .i64 (p : Int), .int .i64 (q : Int), .int .i64 (r : Int), .int .i64 (t : Int)], .int .i64 0]) V14 rfl ?_
          simp only [Act.put, List.setIfInBounds_toArray, List.set_cons_zero, List.set_cons_succ]
          refine wpList_run (by kernel_rfl) (.agg #[.int .i64 (p : Int), .int .i64 (q : Int), .int .i64 (r : Int), .int .i64 (t : Int)]) V14 rfl ?_
          simp only [Act.put, List.setIfInBounds_toArray, List.set_cons_zero, List.set_cons_succ]
          refine wpList_run (by kernel_rfl) (.int .i64 0) V14 rfl ?_
          simp only [Act.put, List.setIfInBounds_toArray, List.set_cons_zero, List.set_cons_succ]
          refine wpList_new #[.int .i64 0, .int .i64 0, .int .i64 0, .int .i64 0] 24 (by kernel_rfl) (xo_alloc #[.int .i64 0, .int .i64 0, .int .i64 0, .int .i64 0] (by kernel_rfl) rfl) ?_
          intro b12 V15 hge h0 hb
          have C1_13 := Lib.hid (bel_step C1_12.out B12.out)
          have C1_14 := Lib.hid (bel_step C1_13.out B13.out)
          have N32_0 : Hid (w.heap.size ≠ b12) := Lib.hid (xp_lt0 (heap_keep Fv0_3.out C1_14.out) hge)
          have N33_1 : Hid ((w.heap.size + 1) ≠ b12) := Lib.hid (xp_lt0 (heap_keep Fv1_4.out C1_14.out) hge)
          have C3_11 := Lib.hid (bel_step C3_10.out B10.out)
          have C3_12 := Lib.hid (bel_step C3_11.out B11.out)
          have C3_13 := Lib.hid (bel_step C3_12.out B12.out)
          have C3_14 := Lib.hid (bel_step C3_13.out B13.out)
          have N34_2 : Hid (g22 ≠ b12) := Lib.hid (xp_lt0 (Fv5_22.out.keep C3_14.out) hge)
          have C5_11 := Lib.hid (bel_step C5_10.out B10.out)
          have C5_12 := Lib.hid (bel_step C5_11.out B11.out)
          have C5_13 := Lib.hid (bel_step C5_12.out B12.out)
          have C5_14 := Lib.hid (bel_step C5_13.out B13.out)
          have N35_3 : Hid (b8 ≠ b12) := Lib.hid (xp_lt0 (heap_keep Fv11_8.out C5_14.out) hge)
          have C8_11 := Lib.hid (bel_step C8_10.out B10.out)
          have C8_12 := Lib.hid (bel_step C8_11.out B11.out)
          have C8_13 := Lib.hid (bel_step C8_12.out B12.out)
          have C8_14 := Lib.hid (bel_step C8_13.out B13.out)
          have N36_4 : Hid (g43 ≠ b12) := Lib.hid (xp_lt0 (Fv19_43.out.keep C8_14.out) hge)
          have C11_13 := Lib.hid (bel_step B11.out B12.out)
          have C11_14 := Lib.hid (bel_step C11_13.out B13.out)
          have N37_5 : Hid (b10 ≠ b12) := Lib.hid (xp_lt0 (heap_keep Fv29_10.out C11_14.out) hge)
          have Ge38 : Hid (V14.heap.size ≤ b12) := Lib.hid hge
          have B14 := Lib.hid hb
          have Fv39_12 : Hid (V15.heap[b12]? = some (.cells #[.int .i64 0, .int .i64 0, .int .i64 0, .int .i64 0] 24 (0, 0))) := Lib.hid (h0)
          have Lt40 : Hid (b12 < V15.heap.size) := Lib.hid (xp_lt Fv39_12.out)
          clear hge h0 hb
          simp only [ptr, Act.put, List.setIfInBounds_toArray, List.set_cons_zero, List.set_cons_succ]
          refine wpList_storeW b12 #[.int .i64 0, .int .i64 0, .int .i64 0, .int .i64 0] #[.int .i64 (p : Int), .int .i64 (q : Int), .int .i64 (r : Int), .int .i64 (t : Int)] 24 (by kernel_rfl) Fv39_12.out (xo_storeW b12 #[.int .i64 0, .int .i64 0, .int .i64 0, .int .i64 0] #[.int .i64 (p : Int), .int .i64 (q : Int), .int .i64 (r : Int), .int .i64 (t : Int)] Fv39_12.out (by kernel_rfl) rfl (by simp [Value.oneCell']) rfl rfl rfl) ?_
          intro X15_41 h1 hfar hbel hsz
          have hbr := hbel _ _ Ge38.out B14.out
          clear B14
          have B14 := Lib.hid hbr
          clear hbr
          clear Fv39_12
          have Fv39_12 : Hid (X15_41.heap[b12]? = some (.cells #[.int .i64 (p : Int), .int .i64 (q : Int), .int .i64 (r : Int), .int .i64 (t : Int)] 24 (0, 0))) := Lib.hid (h1)
          have HszX15_41 := Lib.hid hsz
          clear h1 hfar hbel hsz
          simp only [ptr, Act.put, List.setIfInBounds_toArray, List.set_cons_zero, List.set_cons_succ]
          refine wpList_run (by kernel_rfl) (.int .i64 0) X15_41 rfl ?_
          simp only [Act.put, List.setIfInBounds_toArray, List.set_cons_zero, List.set_cons_succ]
          refine wpList_nil ?_
          go_upto_region 12 with fail
          refine wp_region_lit ?_
          refine wpList_run (by kernel_rfl) (.bool true) X15_41 rfl ?_
          simp only [Act.put, List.setIfInBounds_toArray, List.set_cons_zero, List.set_cons_succ]
          refine wpList_run (by kernel_rfl) (.bool true) X15_41 rfl ?_
          simp only [Act.put, List.setIfInBounds_toArray, List.set_cons_zero, List.set_cons_succ]
          refine wpList_run (by kernel_rfl) (.int .i64 0) X15_41 rfl ?_
          simp only [Act.put, List.setIfInBounds_toArray, List.set_cons_zero, List.set_cons_succ]
          refine wpList_run (by kernel_rfl) (.bool true) X15_41 (xo_eqlT .i64 0 0 (by omega) rfl rfl rfl) ?_
          simp only [Act.put, List.setIfInBounds_toArray, List.set_cons_zero, List.set_cons_succ]
          refine wpList_run (by kernel_rfl) (.bool true) X15_41 rfl ?_
          simp only [Act.put, List.setIfInBounds_toArray, List.set_cons_zero, List.set_cons_succ]
          refine wpList_run (by kernel_rfl) (.bool true) X15_41 rfl ?_
          simp only [Act.put, List.setIfInBounds_toArray, List.set_cons_zero, List.set_cons_succ]
          refine wpList_run (by kernel_rfl) (.agg #[.int .i64 (p : Int), .int .i64 (q : Int), .int .i64 (r : Int), .int .i64 (t : Int)]) X15_41 (xo_loadW b12 _ Fv39_12.out Tryd.underlying24 rfl (by kernel_rfl) rfl rfl) ?_
          simp only [Act.put, List.setIfInBounds_toArray, List.set_cons_zero, List.set_cons_succ]
          have C1_15 := Lib.hid (bel_step C1_14.out B14.out)
          refine wpList_run (by kernel_rfl) (.agg #[.int .i64 (p : Int), .int .i64 (q : Int), .int .i64 (r : Int), .int .i64 (t : Int)]) X15_41 (xo_loadW (w.heap.size + 1) _ (heap_keep Fv1_4.out C1_15.out) Tryd.underlying24 rfl (by kernel_rfl) rfl rfl) ?_
          simp only [Act.put, List.setIfInBounds_toArray, List.set_cons_zero, List.set_cons_succ]
          refine wpList_run (by kernel_rfl) (.bool true) X15_41 (exec_eqRd (Rd.mk (p : Int) (q : Int) (r : Int) (t : Int)) rfl rfl rfl) ?_
          simp only [Act.put, List.setIfInBounds_toArray, List.set_cons_zero, List.set_cons_succ]
          refine wpList_run (by kernel_rfl) (.bool true) X15_41 rfl ?_
          simp only [Act.put, List.setIfInBounds_toArray, List.set_cons_zero, List.set_cons_succ]
          refine wpList_run (by kernel_rfl) (.bool true) X15_41 rfl ?_
          simp only [Act.put, List.setIfInBounds_toArray, List.set_cons_zero, List.set_cons_succ]
          refine wpList_run (by kernel_rfl) (.pointer (some ⟨(w.heap.size + 1), 3, none⟩)) X15_41 (xo_fld0 3 (w.heap.size + 1) 3 (by kernel_rfl) rfl rfl) ?_
          simp only [Act.put, List.setIfInBounds_toArray, List.set_cons_zero, List.set_cons_succ]
          refine wpList_run (by kernel_rfl) (.int .i64 (t : Int)) X15_41 (xo_load1 ⟨(w.heap.size + 1), 3, none⟩ _ (cells_at (heap_keep Fv1_4.out C1_15.out) 3 rfl) Tryd.underlying3 rfl rfl rfl) ?_
          simp only [Act.put, List.setIfInBounds_toArray, List.set_cons_zero, List.set_cons_succ]
          refine wpList_run (by kernel_rfl) (.int .u64 (t : Int)) X15_41 (xo_cvt .i64 .u64 (t : Int) (t : Int) (by rw [IntKind.wrap_u64]; omega) Tryd.underlying50 Tryd.underlying3 rfl rfl) ?_
          simp only [Act.put, List.setIfInBounds_toArray, List.set_cons_zero, List.set_cons_succ]
          refine wpList_call (by kernel_rfl) 41 Tryd.func41 (by kernel_rfl) (by kernel_rfl) _ _ #[.int .u64 (t : Int)] rfl (by kernel_rfl) ?_
          refine (rfvalid_as t true (by rw [decide_eq_true_eq]; omega) X15_41).mono ?_
          rintro e V16 ⟨rfl, hb⟩
          have B15 := Lib.hid hb
          clear hb 
          refine ⟨_, rfl, ?_⟩
          simp only [Act.put, List.setIfInBounds_toArray, List.set_cons_zero, List.set_cons_succ]
          refine wpList_run (by kernel_rfl) (.bool true) V16 rfl ?_
          simp only [Act.put, List.setIfInBounds_toArray, List.set_cons_zero, List.set_cons_succ]
          refine wpList_run (by kernel_rfl) (.bool true) V16 rfl ?_
          simp only [Act.put, List.setIfInBounds_toArray, List.set_cons_zero, List.set_cons_succ]
          refine wpList_nil ?_
          go_wp2_with fail
          go_ret
          have C0_12 := Lib.hid (bel_step C0_11.out B11.out)
          have C0_13 := Lib.hid (bel_step C0_12.out B12.out)
          have C0_14 := Lib.hid (bel_step C0_13.out B13.out)
          have C0_15 := Lib.hid (bel_step C0_14.out B14.out)
          have C0_16 := Lib.hid (bel_step C0_15.out B15.out)
          exact ⟨rfl, C0_16.out⟩
      · have hci22 : ¬ ((n : Int) < 100) := by omega
        go_upto_region 5 with fail
        refine wp_region_lit ?_
        refine wpList_run (by kernel_rfl) (.slice A n c) V9 rfl ?_
        simp only [Act.put, List.setIfInBounds_toArray, List.set_cons_zero, List.set_cons_succ]
        refine wpList_run (by kernel_rfl) (.int .i64 (n : Int)) V9 (xo_len A n c Tryd.underlying25 rfl rfl) ?_
        simp only [Act.put, List.setIfInBounds_toArray, List.set_cons_zero, List.set_cons_succ]
        refine wpList_run (by kernel_rfl) (.bool true) V9 (xo_neqT .i64 (n : Int) 3 (by omega) rfl rfl rfl) ?_
        simp only [Act.put, List.setIfInBounds_toArray, List.set_cons_zero, List.set_cons_succ]
        refine wpList_run (by kernel_rfl) (.bool true) V9 rfl ?_
        simp only [Act.put, List.setIfInBounds_toArray, List.set_cons_zero, List.set_cons_succ]
        refine wpList_run (by kernel_rfl) (.slice A n c) V9 rfl ?_
        simp only [Act.put, List.setIfInBounds_toArray, List.set_cons_zero, List.set_cons_succ]
        refine wpList_run (by kernel_rfl) (.int .i64 (n : Int)) V9 (xo_len A n c Tryd.underlying25 rfl rfl) ?_
        simp only [Act.put, List.setIfInBounds_toArray, List.set_cons_zero, List.set_cons_succ]
        refine wpList_run (by kernel_rfl) (.bool false) V9 (xo_lssF .i64 (n : Int) 100 (by omega) rfl rfl rfl) ?_
        simp only [Act.put, List.setIfInBounds_toArray, List.set_cons_zero, List.set_cons_succ]
        refine wpList_run (by kernel_rfl) (.bool false) V9 rfl ?_
        simp only [Act.put, List.setIfInBounds_toArray, List.set_cons_zero, List.set_cons_succ]
        refine wpList_nil ?_
        cases hv : vR (Rd.mk a b k d) with
        | false =>
          go_upto_region 9 with fail
          refine wp_region_lit ?_
          have C1_8 := Lib.hid (bel_step C1_7.out B7.out)
          have C1_9 := Lib.hid (bel_step C1_8.out B8.out)
          refine wpList_run (by kernel_rfl) (.agg #[.int .i64 a, .int .i64 b, .int .i64 k, .int .i64 d]) V9 (xo_loadW (w.heap.size + 1) _ (heap_keep Fv1_4.out C1_9.out) Tryd.underlying24 rfl (by kernel_rfl) rfl rfl) ?_
          simp only [Act.put, List.setIfInBounds_toArray, List.set_cons_zero, List.set_cons_succ]
          have C0_7 := Lib.hid (bel_step C0_6.out B6.out)
          have C0_8 := Lib.hid (bel_step C0_7.out B7.out)
          have C0_9 := Lib.hid (bel_step C0_8.out B8.out)
          refine wpList_call (by kernel_rfl) 17 Tryd.func17 (by kernel_rfl) (by kernel_rfl) _ _ #[.agg #[.int .i64 a, .int .i64 b, .int .i64 k, .int .i64 d]] rfl (by kernel_rfl) ?_
          refine (valid_as (Rd.mk a b k d) false hv V9 (HW.out.keep C0_9.out)).mono ?_
          rintro e V10 ⟨rfl, hb⟩
          have B9 := Lib.hid hb
          clear hb 
          refine ⟨_, rfl, ?_⟩
          simp only [Act.put, List.setIfInBounds_toArray, List.set_cons_zero, List.set_cons_succ]
          refine wpList_run (by kernel_rfl) (.bool true) V10 rfl ?_
          simp only [Act.put, List.setIfInBounds_toArray, List.set_cons_zero, List.set_cons_succ]
          refine wpList_nil ?_
          go_upto_region 10 with fail
          refine wp_region_lit ?_
          refine wpList_run (by kernel_rfl) (.bool true) V10 rfl ?_
          simp only [Act.put, List.setIfInBounds_toArray, List.set_cons_zero, List.set_cons_succ]
          refine wpList_run (by kernel_rfl) (.bool true) V10 rfl ?_
          simp only [Act.put, List.setIfInBounds_toArray, List.set_cons_zero, List.set_cons_succ]
          refine wpList_nil ?_
          go_wp2_with fail
          go_ret
          have C0_10 := Lib.hid (bel_step C0_9.out B9.out)
          exact ⟨rfl, C0_10.out⟩
        | true =>
          go_upto_region 9 with fail
          refine wp_region_lit ?_
          have C1_8 := Lib.hid (bel_step C1_7.out B7.out)
          have C1_9 := Lib.hid (bel_step C1_8.out B8.out)
          refine wpList_run (by kernel_rfl) (.agg #[.int .i64 a, .int .i64 b, .int .i64 k, .int .i64 d]) V9 (xo_loadW (w.heap.size + 1) _ (heap_keep Fv1_4.out C1_9.out) Tryd.underlying24 rfl (by kernel_rfl) rfl rfl) ?_
          simp only [Act.put, List.setIfInBounds_toArray, List.set_cons_zero, List.set_cons_succ]
          have C0_7 := Lib.hid (bel_step C0_6.out B6.out)
          have C0_8 := Lib.hid (bel_step C0_7.out B7.out)
          have C0_9 := Lib.hid (bel_step C0_8.out B8.out)
          refine wpList_call (by kernel_rfl) 17 Tryd.func17 (by kernel_rfl) (by kernel_rfl) _ _ #[.agg #[.int .i64 a, .int .i64 b, .int .i64 k, .int .i64 d]] rfl (by kernel_rfl) ?_
          refine (valid_as (Rd.mk a b k d) true hv V9 (HW.out.keep C0_9.out)).mono ?_
          rintro e V10 ⟨rfl, hb⟩
          have B9 := Lib.hid hb
          clear hb 
          refine ⟨_, rfl, ?_⟩
          simp only [Act.put, List.setIfInBounds_toArray, List.set_cons_zero, List.set_cons_succ]
          refine wpList_run (by kernel_rfl) (.bool false) V10 rfl ?_
          simp only [Act.put, List.setIfInBounds_toArray, List.set_cons_zero, List.set_cons_succ]
          refine wpList_nil ?_
          have hvv := vR_iff.1 hv
          simp only at hvv
          obtain ⟨⟨hv0, hv1⟩, ⟨hv2, hv3⟩, ⟨hv4, hv5⟩, hv6, hv7⟩ := hvv
          clear hv
          obtain ⟨p, rfl⟩ : ∃ p : Nat, a = (p : Int) := ⟨a.toNat, by omega⟩
          obtain ⟨q, rfl⟩ : ∃ q : Nat, b = (q : Int) := ⟨b.toNat, by omega⟩
          obtain ⟨r, rfl⟩ : ∃ r : Nat, k = (r : Int) := ⟨k.toNat, by omega⟩
          obtain ⟨t, rfl⟩ : ∃ t : Nat, d = (t : Int) := ⟨d.toNat, by omega⟩
          go_upto_region 11 with fail
          refine wp_region_lit ?_
          have C1_10 := Lib.hid (bel_step C1_9.out B9.out)
          refine wpList_run (by kernel_rfl) (.agg #[.int .i64 (p : Int), .int .i64 (q : Int), .int .i64 (r : Int), .int .i64 (t : Int)]) V10 (xo_loadW (w.heap.size + 1) _ (heap_keep Fv1_4.out C1_10.out) Tryd.underlying24 rfl (by kernel_rfl) rfl rfl) ?_
          simp only [Act.put, List.setIfInBounds_toArray, List.set_cons_zero, List.set_cons_succ]
          refine wpList_call (by kernel_rfl) 27 Tryd.func27 (by kernel_rfl) (by kernel_rfl) _ _ #[.agg #[.int .i64 (p : Int), .int .i64 (q : Int), .int .i64 (r : Int), .int .i64 (t : Int)]] rfl (by kernel_rfl) ?_
          refine (encode_any p q r t (by omega) (by omega) (by omega) (by omega) V10).mono ?_
          rintro e V11 ⟨Af, cf, rfl, hs, hb⟩
          have B10 := Lib.hid hb
          have HEf := Lib.hid hs
          clear hb hs
          refine ⟨_, rfl, ?_⟩
          simp only [Act.put, List.setIfInBounds_toArray, List.set_cons_zero, List.set_cons_succ]
          refine wpList_call (by kernel_rfl) 23 Tryd.func23 (by kernel_rfl) (by kernel_rfl) _ _ #[.slice Af 3 cf] rfl (by kernel_rfl) ?_
          refine (decode_back Af cf p q r t (by omega) (by omega) (by omega) (by omega) V11 HEf.out).mono ?_
          rintro e V12 ⟨rfl, hb⟩
          have B11 := Lib.hid hb
          clear hb 
          refine ⟨_, rfl, ?_⟩
          simp only [Act.put, List.setIfInBounds_toArray, List.set_cons_zero, List.set_cons_succ]
          refine wpList_run (by kernel_rfl) (.tuple #[.agg #[.int .i64 (p : Int), .int .i64 (q : Int), .int .i64 (r : Int), .int .i64 (t : Int)], .int .i64 0]) V12 rfl ?_
          simp only [Act.put, List.setIfInBounds_toArray, List.set_cons_zero, List.set_cons_succ]
          refine wpList_run (by kernel_rfl) (.agg #[.int .i64 (p : Int), .int .i64 (q : Int), .int .i64 (r : Int), .int .i64 (t : Int)]) V12 rfl ?_
          simp only [Act.put, List.setIfInBounds_toArray, List.set_cons_zero, List.set_cons_succ]
          refine wpList_run (by kernel_rfl) (.int .i64 0) V12 rfl ?_
          simp only [Act.put, List.setIfInBounds_toArray, List.set_cons_zero, List.set_cons_succ]
          refine wpList_new #[.int .i64 0, .int .i64 0, .int .i64 0, .int .i64 0] 24 (by kernel_rfl) (xo_alloc #[.int .i64 0, .int .i64 0, .int .i64 0, .int .i64 0] (by kernel_rfl) rfl) ?_
          intro b12 V13 hge h0 hb
          have C1_11 := Lib.hid (bel_step C1_10.out B10.out)
          have C1_12 := Lib.hid (bel_step C1_11.out B11.out)
          have N23_0 : Hid (w.heap.size ≠ b12) := Lib.hid (xp_lt0 (heap_keep Fv0_3.out C1_12.out) hge)
          have N24_1 : Hid ((w.heap.size + 1) ≠ b12) := Lib.hid (xp_lt0 (heap_keep Fv1_4.out C1_12.out) hge)
          have C3_8 := Lib.hid (bel_step C3_7.out B7.out)
          have C3_9 := Lib.hid (bel_step C3_8.out B8.out)
          have C3_10 := Lib.hid (bel_step C3_9.out B9.out)
          have C3_11 := Lib.hid (bel_step C3_10.out B10.out)
          have C3_12 := Lib.hid (bel_step C3_11.out B11.out)
          have N25_2 : Hid (g22 ≠ b12) := Lib.hid (xp_lt0 (Fv5_22.out.keep C3_12.out) hge)
          have C5_8 := Lib.hid (bel_step C5_7.out B7.out)
          have C5_9 := Lib.hid (bel_step C5_8.out B8.out)
          have C5_10 := Lib.hid (bel_step C5_9.out B9.out)
          have C5_11 := Lib.hid (bel_step C5_10.out B10.out)
          have C5_12 := Lib.hid (bel_step C5_11.out B11.out)
          have N26_3 : Hid (b8 ≠ b12) := Lib.hid (xp_lt0 (heap_keep Fv11_8.out C5_12.out) hge)
          have C8_10 := Lib.hid (bel_step B8.out B9.out)
          have C8_11 := Lib.hid (bel_step C8_10.out B10.out)
          have C8_12 := Lib.hid (bel_step C8_11.out B11.out)
          have N27_4 : Hid (g43 ≠ b12) := Lib.hid (xp_lt0 (Fv19_43.out.keep C8_12.out) hge)
          have Ge28 : Hid (V12.heap.size ≤ b12) := Lib.hid hge
          have B12 := Lib.hid hb
          have Fv29_12 : Hid (V13.heap[b12]? = some (.cells #[.int .i64 0, .int .i64 0, .int .i64 0, .int .i64 0] 24 (0, 0))) := Lib.hid (h0)
          have Lt30 : Hid (b12 < V13.heap.size) := Lib.hid (xp_lt Fv29_12.out)
          clear hge h0 hb
          simp only [ptr, Act.put, List.setIfInBounds_toArray, List.set_cons_zero, List.set_cons_succ]
          refine wpList_storeW b12 #[.int .i64 0, .int .i64 0, .int .i64 0, .int .i64 0] #[.int .i64 (p : Int), .int .i64 (q : Int), .int .i64 (r : Int), .int .i64 (t : Int)] 24 (by kernel_rfl) Fv29_12.out (xo_storeW b12 #[.int .i64 0, .int .i64 0, .int .i64 0, .int .i64 0] #[.int .i64 (p : Int), .int .i64 (q : Int), .int .i64 (r : Int), .int .i64 (t : Int)] Fv29_12.out (by kernel_rfl) rfl (by simp [Value.oneCell']) rfl rfl rfl) ?_
          intro X13_31 h1 hfar hbel hsz
          have hbr := hbel _ _ Ge28.out B12.out
          clear B12
          have B12 := Lib.hid hbr
          clear hbr
          clear Fv29_12
          have Fv29_12 : Hid (X13_31.heap[b12]? = some (.cells #[.int .i64 (p : Int), .int .i64 (q : Int), .int .i64 (r : Int), .int .i64 (t : Int)] 24 (0, 0))) := Lib.hid (h1)
          have HszX13_31 := Lib.hid hsz
          clear h1 hfar hbel hsz
          simp only [ptr, Act.put, List.setIfInBounds_toArray, List.set_cons_zero, List.set_cons_succ]
          refine wpList_run (by kernel_rfl) (.int .i64 0) X13_31 rfl ?_
          simp only [Act.put, List.setIfInBounds_toArray, List.set_cons_zero, List.set_cons_succ]
          refine wpList_nil ?_
          go_upto_region 12 with fail
          refine wp_region_lit ?_
          refine wpList_run (by kernel_rfl) (.bool true) X13_31 rfl ?_
          simp only [Act.put, List.setIfInBounds_toArray, List.set_cons_zero, List.set_cons_succ]
          refine wpList_run (by kernel_rfl) (.bool true) X13_31 rfl ?_
          simp only [Act.put, List.setIfInBounds_toArray, List.set_cons_zero, List.set_cons_succ]
          refine wpList_run (by kernel_rfl) (.int .i64 0) X13_31 rfl ?_
          simp only [Act.put, List.setIfInBounds_toArray, List.set_cons_zero, List.set_cons_succ]
          refine wpList_run (by kernel_rfl) (.bool true) X13_31 (xo_eqlT .i64 0 0 (by omega) rfl rfl rfl) ?_
          simp only [Act.put, List.setIfInBounds_toArray, List.set_cons_zero, List.set_cons_succ]
          refine wpList_run (by kernel_rfl) (.bool true) X13_31 rfl ?_
          simp only [Act.put, List.setIfInBounds_toArray, List.set_cons_zero, List.set_cons_succ]
          refine wpList_run (by kernel_rfl) (.bool true) X13_31 rfl ?_
          simp only [Act.put, List.setIfInBounds_toArray, List.set_cons_zero, List.set_cons_succ]
          refine wpList_run (by kernel_rfl) (.agg #[.int .i64 (p : Int), .int .i64 (q : Int), .int .i64 (r : Int), .int .i64 (t : Int)]) X13_31 (xo_loadW b12 _ Fv29_12.out Tryd.underlying24 rfl (by kernel_rfl) rfl rfl) ?_
          simp only [Act.put, List.setIfInBounds_toArray, List.set_cons_zero, List.set_cons_succ]
          have C1_13 := Lib.hid (bel_step C1_12.out B12.out)
          refine wpList_run (by kernel_rfl) (.agg #[.int .i64 (p : Int), .int .i64 (q : Int), .int .i64 (r : Int), .int .i64 (t : Int)]) X13_31 (xo_loadW (w.heap.size + 1) _ (heap_keep Fv1_4.out C1_13.out) Tryd.underlying24 rfl (by kernel_rfl) rfl rfl) ?_
          simp only [Act.put, List.setIfInBounds_toArray, List.set_cons_zero, List.set_cons_succ]
          refine wpList_run (by kernel_rfl) (.bool true) X13_31 (exec_eqRd (Rd.mk (p : Int) (q : Int) (r : Int) (t : Int)) rfl rfl rfl) ?_
          simp only [Act.put, List.setIfInBounds_toArray, List.set_cons_zero, List.set_cons_succ]
          refine wpList_run (by kernel_rfl) (.bool true) X13_31 rfl ?_
          simp only [Act.put, List.setIfInBounds_toArray, List.set_cons_zero, List.set_cons_succ]
          refine wpList_run (by kernel_rfl) (.bool true) X13_31 rfl ?_
          simp only [Act.put, List.setIfInBounds_toArray, List.set_cons_zero, List.set_cons_succ]
          refine wpList_run (by kernel_rfl) (.pointer (some ⟨(w.heap.size + 1), 3, none⟩)) X13_31 (xo_fld0 3 (w.heap.size + 1) 3 (by kernel_rfl) rfl rfl) ?_
          simp only [Act.put, List.setIfInBounds_toArray, List.set_cons_zero, List.set_cons_succ]
          refine wpList_run (by kernel_rfl) (.int .i64 (t : Int)) X13_31 (xo_load1 ⟨(w.heap.size + 1), 3, none⟩ _ (cells_at (heap_keep Fv1_4.out C1_13.out) 3 rfl) Tryd.underlying3 rfl rfl rfl) ?_
          simp only [Act.put, List.setIfInBounds_toArray, List.set_cons_zero, List.set_cons_succ]
          refine wpList_run (by kernel_rfl) (.int .u64 (t : Int)) X13_31 (xo_cvt .i64 .u64 (t : Int) (t : Int) (by rw [IntKind.wrap_u64]; omega) Tryd.underlying50 Tryd.underlying3 rfl rfl) ?_
          simp only [Act.put, List.setIfInBounds_toArray, List.set_cons_zero, List.set_cons_succ]
          refine wpList_call (by kernel_rfl) 41 Tryd.func41 (by kernel_rfl) (by kernel_rfl) _ _ #[.int .u64 (t : Int)] rfl (by kernel_rfl) ?_
          refine (rfvalid_as t true (by rw [decide_eq_true_eq]; omega) X13_31).mono ?_
          rintro e V14 ⟨rfl, hb⟩
          have B13 := Lib.hid hb
          clear hb 
          refine ⟨_, rfl, ?_⟩
          simp only [Act.put, List.setIfInBounds_toArray, List.set_cons_zero, List.set_cons_succ]
          refine wpList_run (by kernel_rfl) (.bool true) V14 rfl ?_
          simp only [Act.put, List.setIfInBounds_toArray, List.set_cons_zero, List.set_cons_succ]
          refine wpList_run (by kernel_rfl) (.bool true) V14 rfl ?_
          simp only [Act.put, List.setIfInBounds_toArray, List.set_cons_zero, List.set_cons_succ]
          refine wpList_nil ?_
          go_wp2_with fail
          go_ret
          have C0_10 := Lib.hid (bel_step C0_9.out B9.out)
          have C0_11 := Lib.hid (bel_step C0_10.out B10.out)
          have C0_12 := Lib.hid (bel_step C0_11.out B11.out)
          have C0_13 := Lib.hid (bel_step C0_12.out B12.out)
          have C0_14 := Lib.hid (bel_step C0_13.out B13.out)
          exact ⟨rfl, C0_14.out⟩
end Go.Proofs.YtopicjdmajlndaaDoor
