/- Several texts in one: Tsp, Tsr0, Tsr. -/
import Derived.Test.YtcaoajeplinopaaDoorH15
namespace Go.Proofs.YtcaoajeplinopaaDoor
set_option linter.unusedVariables false
set_option linter.unusedSimpArgs false
set_option maxRecDepth 8000
open Go.RowKit Gold
open Go.Shelf
attribute [local simp] z32_ne z32_run
attribute [-simp] Tryd.zeroValue30 Tryd.isAgg30 Tryd.sizeOf30
attribute [-simp] Tryd.zeroValue32 Tryd.isAgg32 Tryd.sizeOf32
attribute [local simp] z33_ne z33_run
attribute [local irreducible] wpList wpQuiet
theorem rred_yes (x : Nat) (w : World) (hx : x < 2 ^ 64) (y : Nat) (hy : x % 18446744069414584321 = y) : Calls Tryd.prog 43 #[.int .u64 (x : Int)] w fun e w' => e = .returned (.int .u64 (y : Int)) ∧ w' = w := by
  subst hy
  exact rredN_any x w (by simpa using hx)
set_option maxHeartbeats 8000000 in
theorem rchallenge_any (s : List Nat) (lb : ByteArray) (c : Nat) (w : World) (hl : s.length = 32) (hsb : ∀ x ∈ s, x < 256) (hc : c < 18446744073709551616) (hlb : lb.size ≤ 200) (D : List Nat) (hD : outT s 2 lb c = D) (c' : Nat) (hc' : (c + 1) % 18446744073709551616 = c') (x y : Nat) (hx : leV D 0 % 18446744069414584321 = x) (hy : leV D 8 % 18446744069414584321 = y) :
    Calls Tryd.prog 14 #[.agg (trC s c), .string lb] w fun e w' => e = .returned (.tuple #[.agg (trC s c'), .agg #[.int .u64 (x : Int), .int .u64 (y : Int)]]) ∧ Below w.heap.size w w' := by
  have HDs := Lib.hid (show s.length = 32 ∧ ∀ x ∈ s, x < 256 from ⟨hl, hsb⟩)
  have hDl : D.length = 32 := by rw [← hD]; exact outT_length _ _ _ _
  have HDB := Lib.hid (show ∀ z ∈ D, z < 256 by rw [← hD]; exact outT_lt _ _ _ _)
  have HD := Lib.hid hD
  have HX := Lib.hid hx
  have HY := Lib.hid hy
  clear hD hsb hx hy hl
  go_enter Tryd.func14, Tryd.ntmps14
  go_upto_region 1 with fail
  refine wp_named3 (fun V1 hb g0 g1 g2 hlt => ?_)
  have B0 := Lib.hid hb
  have Fv0_2 : Hid (RowT V1 w.heap.size s c) := Lib.hid (g0)
  have Fv1_4 : Hid (RowT V1 (w.heap.size + 1) (List.replicate 32 0) 0) := Lib.hid (g1)
  have Fv2_5 : Hid (V1.heap[(w.heap.size + 1 + 1)]? = some (.cells #[.int .u64 0, .int .u64 0] 36 (0, 0))) := Lib.hid (g2)
  have Nb0_1 : Hid (w.heap.size ≠ (w.heap.size + 1)) := Lib.hid (by omega)
  have Nb0_2 : Hid (w.heap.size ≠ (w.heap.size + 1 + 1)) := Lib.hid (by omega)
  have Nb1_2 : Hid ((w.heap.size + 1) ≠ (w.heap.size + 1 + 1)) := Lib.hid (by omega)
  have Gb0 : Hid (w.heap.size ≤ w.heap.size) := Lib.hid (by omega)
  have Gb1 : Hid (w.heap.size ≤ (w.heap.size + 1)) := Lib.hid (by omega)
  have Gb2 : Hid (w.heap.size ≤ (w.heap.size + 1 + 1)) := Lib.hid (by omega)
  clear hb g0 g1 g2 hlt
  have hlt1 := xp_lt Fv0_2.out
  refine wp_region_lit ?_
  refine wpList_run (by kernel_rfl) (.agg (trC s c)) V1 (exec_loadT w.heap.size s c HDs.out.1 Fv0_2.out rfl rfl) ?_
  simp only [Act.put, List.setIfInBounds_toArray, List.set_cons_zero, List.set_cons_succ]
  refine wpList_run (by kernel_rfl) (.string lb) V1 rfl ?_
  simp only [Act.put, List.setIfInBounds_toArray, List.set_cons_zero, List.set_cons_succ]
  refine wpList_call (by kernel_rfl) 42 Tryd.func42 (by kernel_rfl) (by kernel_rfl) _ _ #[.agg (trC s c), .int .u8 ((2 : Nat) : Int), .string lb] rfl (by kernel_rfl) ?_
  refine (routputO_any s 2 lb c V1 HDs.out.1 HDs.out.2 hc (by omega) hlb D HD.out).mono ?_
  rintro e V2 ⟨C, f, rfl, hs, hb⟩
  have B1 := Lib.hid hb
  have HO := Lib.hid hs
  clear hb hs
  refine ⟨_, rfl, ?_⟩
  simp only [Act.put, List.setIfInBounds_toArray, List.set_cons_zero, List.set_cons_succ]
  refine wpList_run (by kernel_rfl) (.slice C 32 f) V2 rfl ?_
  simp only [Act.put, List.setIfInBounds_toArray, List.set_cons_zero, List.set_cons_succ]
  refine wpList_nil ?_
  go_upto_region 2 with fail
  refine wp_region_lit ?_
  refine wpList_run (by kernel_rfl) (.pointer (some ⟨w.heap.size, 32, none⟩)) V2 (exec_fT1 w.heap.size rfl rfl V2) ?_
  simp only [Act.put, List.setIfInBounds_toArray, List.set_cons_zero, List.set_cons_succ]
  refine wpList_run (by kernel_rfl) (.int .u64 ((c : Nat) : Int)) V2 (exec_loadU ⟨w.heap.size, 32, none⟩ _ ((Fv0_2.out.keep B1.out).count HDs.out.1) rfl rfl) ?_
  simp only [Act.put, List.setIfInBounds_toArray, List.set_cons_zero, List.set_cons_succ]
  refine wpList_run (by kernel_rfl) (.int .u64 (c' : Int)) V2 (xo_addU c 1 c' hc' rfl rfl rfl) ?_
  simp only [Act.put, List.setIfInBounds_toArray, List.set_cons_zero, List.set_cons_succ]
  refine wpList_run (by kernel_rfl) (.pointer (some ⟨w.heap.size, 32, none⟩)) V2 (exec_fT1 w.heap.size rfl rfl V2) ?_
  simp only [Act.put, List.setIfInBounds_toArray, List.set_cons_zero, List.set_cons_succ]
  refine wpList_store1 w.heap.size 32 (trC s c) (.int .u64 (c' : Int)) 32 (by kernel_rfl) (Fv0_2.out.keep B1.out) (xo_store1 w.heap.size 32 (trC s c) _ (.int .u64 (c' : Int)) (Fv0_2.out.keep B1.out) (trC_count HDs.out.1 _) (by kernel_rfl) rfl rfl rfl rfl) ?_
  intro X2_0 h1 hfar hbel hsz
  have YHO : OwB X2_0 V1.heap.size (.slice C 32 f) 32 D := OwB.same1 HO.out hlt1 hfar
  have YFv1_4 : RowT X2_0 (w.heap.size + 1) (List.replicate 32 0) 0 := hfar _ _ (Ne.symm Nb0_1.out) (Fv1_4.out.keep B1.out)
  have YFv2_5 : X2_0.heap[(w.heap.size + 1 + 1)]? = some (.cells #[.int .u64 0, .int .u64 0] 36 (0, 0)) := hfar _ _ (Ne.symm Nb0_2.out) (heap_keep Fv2_5.out B1.out)
  have C0_2 := Lib.hid (bel_step B0.out B1.out)
  have hbr := hbel _ _ Gb0.out C0_2.out
  clear B0
  have B0 := Lib.hid hbr
  clear hbr
  clear Fv1_4
  have Fv1_4 : Hid (RowT X2_0 (w.heap.size + 1) (List.replicate 32 0) 0) := Lib.hid YFv1_4
  clear YFv1_4
  clear Fv2_5
  have Fv2_5 : Hid (X2_0.heap[(w.heap.size + 1 + 1)]? = some (.cells #[.int .u64 0, .int .u64 0] 36 (0, 0))) := Lib.hid YFv2_5
  clear YFv2_5
  clear HO
  have HO := Lib.hid YHO
  clear YHO
  clear Fv0_2
  have Fv0_2 : Hid (RowT X2_0 w.heap.size s c') := Lib.hid ((by have h2 := h1; rw [trC_set HDs.out.1 c c'] at h2; exact h2))
  clear h1 hfar hbel hsz
  simp only [ptr, Act.put, List.setIfInBounds_toArray, List.set_cons_zero, List.set_cons_succ]
  refine wpList_nil ?_
  go_upto_region 3 with fail
  try simp only [List.append_eq, List.cons_append, List.nil_append]
  refine wp_ordA (fun W => RowT W w.heap.size s c' ∧ Below w.heap.size w W) [(0, true), (1, true), (4, true), (2, false), (3, false), (5, false), (6, false), (7, true), (8, false), (9, false)] (by kernel_rfl) (by kernel_rfl) (fun _ _ dt _ _ h => by first | exact h.elim | (cases dt <;> exact h)) rfl (by kernel_rfl) ⟨Fv0_2.out.keep (Below.refl _ _).drew, B0.out.drew⟩ ?_
  have hb : Below X2_0.heap.size X2_0 X2_0.drew := (Below.refl _ _).drew
  generalize X2_0.drew = V2 at hb ⊢
  have B1 := Lib.hid hb
  clear hb
  refine wpO_w (.agg (trC s c')) rfl (by kernel_rfl) (fun v hW => (exec_loadT w.heap.size s c' HDs.out.1 hW.1 rfl rfl)) ?_
  simp only [ptr, Act.put, List.setIfInBounds_toArray, List.set_cons_zero, List.set_cons_succ]
  refine wpO_w (.slice C 32 f) rfl (by kernel_rfl) (fun v hW => rfl) ?_
  simp only [ptr, Act.put, List.setIfInBounds_toArray, List.set_cons_zero, List.set_cons_succ]
  refine wpO_w (.slice C 32 f) rfl (by kernel_rfl) (fun v hW => rfl) ?_
  simp only [ptr, Act.put, List.setIfInBounds_toArray, List.set_cons_zero, List.set_cons_succ]
  refine wpO_op rfl (by kernel_rfl) ?_
  refine hOp_call 31 Tryd.func31 (by kernel_rfl) (by kernel_rfl) _ _ #[.slice C 32 f, .int .i64 0] rfl (by kernel_rfl) ?_
  refine (value_any C 32 f D 0 V2 ((HO.out.keep B1.out).sl') (by omega)).mono ?_
  rintro e W1 ⟨rfl, hw1⟩
  rw [hw1]
  clear hw1 W1
  have C0_2 := Lib.hid (bel_step B0.out B1.out)
  refine ⟨_, rfl, ⟨(Fv0_2.out.keep B1.out), C0_2.out⟩, ?_⟩
  simp only [ptr, Act.put, List.setIfInBounds_toArray, List.set_cons_zero, List.set_cons_succ]
  refine wpO_op rfl (by kernel_rfl) ?_
  refine hOp_call 43 Tryd.func43 (by kernel_rfl) (by kernel_rfl) _ _ #[.int .u64 (((leV D 0) : Nat) : Int)] rfl (by kernel_rfl) ?_
  refine (rred_yes (leV D 0) V2 (leV_lt HDB.out _) x HX.out).mono ?_
  rintro e W1 ⟨rfl, hw1⟩
  rw [hw1]
  clear hw1 W1
  refine ⟨_, rfl, ⟨(Fv0_2.out.keep B1.out), C0_2.out⟩, ?_⟩
  simp only [ptr, Act.put, List.setIfInBounds_toArray, List.set_cons_zero, List.set_cons_succ]
  refine wpO_op rfl (by kernel_rfl) ?_
  refine hOp_call 31 Tryd.func31 (by kernel_rfl) (by kernel_rfl) _ _ #[.slice C 32 f, .int .i64 8] rfl (by kernel_rfl) ?_
  refine (value_any C 32 f D 8 V2 ((HO.out.keep B1.out).sl') (by omega)).mono ?_
  rintro e W1 ⟨rfl, hw1⟩
  rw [hw1]
  clear hw1 W1
  refine ⟨_, rfl, ⟨(Fv0_2.out.keep B1.out), C0_2.out⟩, ?_⟩
  simp only [ptr, Act.put, List.setIfInBounds_toArray, List.set_cons_zero, List.set_cons_succ]
  refine wpO_op rfl (by kernel_rfl) ?_
  refine hOp_call 43 Tryd.func43 (by kernel_rfl) (by kernel_rfl) _ _ #[.int .u64 (((leV D 8) : Nat) : Int)] rfl (by kernel_rfl) ?_
  refine (rred_yes (leV D 8) V2 (leV_lt HDB.out _) y HY.out).mono ?_
  rintro e W1 ⟨rfl, hw1⟩
  rw [hw1]
  clear hw1 W1
  refine ⟨_, rfl, ⟨(Fv0_2.out.keep B1.out), C0_2.out⟩, ?_⟩
  simp only [ptr, Act.put, List.setIfInBounds_toArray, List.set_cons_zero, List.set_cons_succ]
  refine wpO_w (.agg #[.int .u64 ((x : Nat) : Int), .int .u64 ((y : Nat) : Int)]) rfl (by kernel_rfl) (fun v hW => (exec_buildE (x : Int) (y : Int) rfl rfl rfl v)) ?_
  simp only [ptr, Act.put, List.setIfInBounds_toArray, List.set_cons_zero, List.set_cons_succ]
  have g3 := (Fv0_2.out.keep B1.out)
  have g4 : RowT V2 (w.heap.size + 1) (List.replicate 32 0) 0 := (Fv1_4.out.keep B1.out)
  have g5 : V2.heap[(w.heap.size + 1 + 1)]? = some (.cells #[.int .u64 0, .int .u64 0] 36 (0, 0)) := (heap_keep Fv2_5.out B1.out)
  have hB := C0_2.out
  refine wpO_op rfl (by kernel_rfl) ?_
  unfold hOp
  rw [(exec_storeT (x := .tmp 4) (y := .tmp 14) (w.heap.size + 1) (List.replicate 32 0) 0 s c' List.length_replicate HDs.out.1 g4 rfl rfl rfl)]
  refine ⟨⟨heap_farRow g3 (by omega) _, bel_setRow hB (by omega) _⟩, ?_⟩
  try simp only [Act.put]
  refine wpO_op rfl (by kernel_rfl) ?_
  unfold hOp
  rw [(exec_storeE (x := .tmp 5) (y := .tmp 21) (w.heap.size + 1 + 1) _ _ (x : Int) (y : Int) rfl rfl rfl (heap_farRow g5 (by omega) _))]
  refine ⟨⟨heap_farRow (heap_farRow g3 (by omega) _) (by omega) _, bel_setRow (bel_setRow hB (by omega) _) (by omega) _⟩, ?_⟩
  try simp only [Act.put]
  refine wpO_nil ?_
  have h4 := heap_farRow (show RowT _ _ s c' from g4.row s c') (show (w.heap.size + 1) ≠ (w.heap.size + 1 + 1) by omega) #[.int .u64 (x : Int), .int .u64 (y : Int)]
  have h5 := heap_rowSet (heap_farRow g5 (show (w.heap.size + 1 + 1) ≠ (w.heap.size + 1) by omega) (trC s c')) #[.int .u64 (x : Int), .int .u64 (y : Int)]
  have hBB := bel_setRow (bel_setRow hB (show w.heap.size ≤ w.heap.size + 1 by omega) (trC s c')) (show w.heap.size ≤ w.heap.size + 1 + 1 by omega) #[.int .u64 (x : Int), .int .u64 (y : Int)]
  go_wp2_with fail
  refine bodyPost_ret (v := .tuple #[.agg (trC s c'), .agg #[.int .u64 (x : Int), .int .u64 (y : Int)]]) ?_ rfl ⟨rfl, hBB⟩
  exact results_row_row rfl _ _ (w.heap.size + 1) (w.heap.size + 1 + 1) _ _ _ _ _ _ rfl rfl h4 h5 Tryd.underlying32 rfl (trC_info HDs.out.1 c') Tryd.underlying36 rfl (by kernel_rfl)
set_option maxHeartbeats 8000000 in
theorem rabsorbExt_any (s : List Nat) (c : Nat) (lb : ByteArray) (A : Option Addr) (n cp : Nat) (xs : List (Nat × Nat)) (w : World) (hl : s.length = 32) (hsb : ∀ x ∈ s, x < 256) (hlb : lb.size ≤ 200) (h : XbT w A n cp xs) (hn : n ≤ 1000000) (D : List Nat) (hD : shaN (s ++ ([1, lb.size] ++ (bytS lb ++ (leN (16 * n) ++ (extsN xs))))) = D) :
    Calls Tryd.prog 20 #[.agg (trC s c), .string lb, .slice A n cp] w fun e w' => e = .returned (.agg (trC D 0)) ∧ Below w.heap.size w w' := by
  have HDs := Lib.hid (show s.length = 32 ∧ ∀ x ∈ s, x < 256 from ⟨hl, hsb⟩)
  have HX := Lib.hid h
  have DgD := Lib.hid (show D.length = 32 ∧ ∀ x ∈ D, x < 256 by rw [← hD]; exact ⟨shaN_length _, shaN_lt _⟩)
  have HD := Lib.hid hD
  clear hl hsb hD h
  go_enter Tryd.func20, Tryd.ntmps20
  go_upto_region 1 with fail
  refine wp_named2 (fun V1 hb g0 g1 hlt => ?_)
  have B0 := Lib.hid hb
  have Fv0_3 : Hid (RowT V1 w.heap.size s c) := Lib.hid (g0)
  have Fv1_6 : Hid (RowT V1 (w.heap.size + 1) (List.replicate 32 0) 0) := Lib.hid (g1)
  have Nb0_1 : Hid (w.heap.size ≠ (w.heap.size + 1)) := Lib.hid (by omega)
  have Gb0 : Hid (w.heap.size ≤ w.heap.size) := Lib.hid (by omega)
  have Gb1 : Hid (w.heap.size ≤ (w.heap.size + 1)) := Lib.hid (by omega)
  clear hb g0 g1 hlt
  go_upto_region 1 with fail
  try simp only [List.append_eq, List.cons_append, List.nil_append]
  refine Tl.wp_held_tailB 5 V1.heap.size (by kernel_rfl) (lexOK_of (by kernel_rfl) (by kernel_rfl)) (Tl.chainW_of (by kernel_rfl)) rfl (by kernel_rfl) (by kernel_rfl) (fun V2 hb hSW => ?_)
  simp only [List.take_succ_cons, List.take_zero]
  have HS2 := Lib.hid hSW
  have B1 := Lib.hid hb
  clear hb hSW
  refine wpHeld_seg 3 HS2.out (by kernel_rfl) ?_
  simp only [List.take_succ_cons, List.take_zero, List.drop_succ_cons, List.drop_zero]
  refine wpQuiet_val (by kernel_rfl) (.agg (trC s c)) (fun v hv => (exec_loadT w.heap.size s c HDs.out.1 (Fv0_3.out.keep (LaterB.of hv)) rfl rfl)) ?_
  simp only [Act.put, List.setIfInBounds_toArray, List.set_cons_zero, List.set_cons_succ]
  refine wpQuiet_val (by kernel_rfl) (.string lb) (fun v hv => rfl) ?_
  simp only [Act.put, List.setIfInBounds_toArray, List.set_cons_zero, List.set_cons_succ]
  refine wpQuiet_val (by kernel_rfl) (.slice A n cp) (fun v hv => rfl) ?_
  simp only [Act.put, List.setIfInBounds_toArray, List.set_cons_zero, List.set_cons_succ]
  refine wpQuiet_nil ?_
  have C0_2 := Lib.hid (bel_step B0.out B1.out)
  refine wpHeld_call 25 Tryd.func25 (by kernel_rfl) (by kernel_rfl) _ _ #[.slice A n cp] rfl (by kernel_rfl) (by kernel_rfl) ?_
  refine (rbytesX_any A n cp xs V2 (HX.out.keep C0_2.out) hn).mono ?_
  rintro e V3 ⟨C, f, rfl, hs, hb⟩
  have B2 := Lib.hid hb
  have HS3 := Lib.hid (LaterB.step HS2.out (hb.mono B1.out.size))
  have HO := Lib.hid hs
  clear hb hs
  refine ⟨_, rfl, HS3.out, ?_⟩
  simp only [Act.put, List.setIfInBounds_toArray, List.set_cons_zero, List.set_cons_succ]
  refine wpHeld_call 18 Tryd.func18 (by kernel_rfl) (by kernel_rfl) _ _ #[.agg (trC s c), .string lb, .slice C (16 * n) f] rfl (by kernel_rfl) (by kernel_rfl) ?_
  refine (rabsorb_any s c lb C (16 * n) f (extsN xs) V3 HDs.out.1 HDs.out.2 hlb HO.out (by omega) D HD.out).mono ?_
  rintro e V4 ⟨rfl, hb⟩
  have B3 := Lib.hid hb
  have C1_3 := Lib.hid (bel_step B1.out B2.out)
  have HS4 := Lib.hid (LaterB.step HS3.out (hb.mono C1_3.out.size))
  clear hb 
  refine ⟨_, rfl, HS4.out, ?_⟩
  simp only [Act.put, List.setIfInBounds_toArray, List.set_cons_zero, List.set_cons_succ]
  refine wpHeld_nil ?_
  have C1_4 := Lib.hid (bel_step C1_3.out B3.out)
  refine mOp_run0 _ rfl rfl (exec_storeT (w.heap.size + 1) (List.replicate 32 0) 0 D 0 List.length_replicate DgD.out.1 (Fv1_6.out.keep C1_4.out) rfl rfl rfl) ?_
  try simp only [ptr, Act.put, List.setIfInBounds_toArray, List.set_cons_zero, List.set_cons_succ]
  go_wp2_with fail
  have C0_3 := Lib.hid (bel_step C0_2.out B2.out)
  have C0_4 := Lib.hid (bel_step C0_3.out B3.out)
  refine bodyPost_ret (v := .agg (trC D 0)) ?_ rfl ⟨rfl, bel_setRow C0_4.out (by omega) _⟩
  exact results_cell_row rfl _ _ (w.heap.size + 1) 32 _ (0, 0) _ rfl ((Fv1_6.out.keep C1_4.out).row D 0) Tryd.underlying32 rfl (trC_info DgD.out.1 0)
set_option maxHeartbeats 8000000 in
theorem rabsorbInts_any (s : List Nat) (c : Nat) (lb : ByteArray) (A : Option Addr) (n cp : Nat) (is : List Int) (w : World) (hl : s.length = 32) (hsb : ∀ x ∈ s, x < 256) (hlb : lb.size ≤ 200) (h : Ib w A n cp is) (hn : n ≤ 1000000) (D : List Nat) (hD : shaN (s ++ ([1, lb.size] ++ (bytS lb ++ (leN (8 * n) ++ (intsB (is.map u64N)))))) = D) :
    Calls Tryd.prog 22 #[.agg (trC s c), .string lb, .slice A n cp] w fun e w' => e = .returned (.agg (trC D 0)) ∧ Below w.heap.size w w' := by
  have HDs := Lib.hid (show s.length = 32 ∧ ∀ x ∈ s, x < 256 from ⟨hl, hsb⟩)
  have HX := Lib.hid h
  have DgD := Lib.hid (show D.length = 32 ∧ ∀ x ∈ D, x < 256 by rw [← hD]; exact ⟨shaN_length _, shaN_lt _⟩)
  have HD := Lib.hid hD
  clear hl hsb hD h
  go_enter Tryd.func22, Tryd.ntmps22
  go_upto_region 1 with fail
  refine wp_named2 (fun V1 hb g0 g1 hlt => ?_)
  have B0 := Lib.hid hb
  have Fv0_3 : Hid (RowT V1 w.heap.size s c) := Lib.hid (g0)
  have Fv1_6 : Hid (RowT V1 (w.heap.size + 1) (List.replicate 32 0) 0) := Lib.hid (g1)
  have Nb0_1 : Hid (w.heap.size ≠ (w.heap.size + 1)) := Lib.hid (by omega)
  have Gb0 : Hid (w.heap.size ≤ w.heap.size) := Lib.hid (by omega)
  have Gb1 : Hid (w.heap.size ≤ (w.heap.size + 1)) := Lib.hid (by omega)
  clear hb g0 g1 hlt
  go_upto_region 1 with fail
  try simp only [List.append_eq, List.cons_append, List.nil_append]
  refine Tl.wp_held_tailB 5 V1.heap.size (by kernel_rfl) (lexOK_of (by kernel_rfl) (by kernel_rfl)) (Tl.chainW_of (by kernel_rfl)) rfl (by kernel_rfl) (by kernel_rfl) (fun V2 hb hSW => ?_)
  simp only [List.take_succ_cons, List.take_zero]
  have HS2 := Lib.hid hSW
  have B1 := Lib.hid hb
  clear hb hSW
  refine wpHeld_seg 3 HS2.out (by kernel_rfl) ?_
  simp only [List.take_succ_cons, List.take_zero, List.drop_succ_cons, List.drop_zero]
  refine wpQuiet_val (by kernel_rfl) (.agg (trC s c)) (fun v hv => (exec_loadT w.heap.size s c HDs.out.1 (Fv0_3.out.keep (LaterB.of hv)) rfl rfl)) ?_
  simp only [Act.put, List.setIfInBounds_toArray, List.set_cons_zero, List.set_cons_succ]
  refine wpQuiet_val (by kernel_rfl) (.string lb) (fun v hv => rfl) ?_
  simp only [Act.put, List.setIfInBounds_toArray, List.set_cons_zero, List.set_cons_succ]
  refine wpQuiet_val (by kernel_rfl) (.slice A n cp) (fun v hv => rfl) ?_
  simp only [Act.put, List.setIfInBounds_toArray, List.set_cons_zero, List.set_cons_succ]
  refine wpQuiet_nil ?_
  have C0_2 := Lib.hid (bel_step B0.out B1.out)
  refine wpHeld_call 29 Tryd.func29 (by kernel_rfl) (by kernel_rfl) _ _ #[.slice A n cp] rfl (by kernel_rfl) (by kernel_rfl) ?_
  refine (rintBytes_any A n cp is V2 (HX.out.keep C0_2.out) hn).mono ?_
  rintro e V3 ⟨C, f, rfl, hs, hb⟩
  have B2 := Lib.hid hb
  have HS3 := Lib.hid (LaterB.step HS2.out (hb.mono B1.out.size))
  have HO := Lib.hid hs
  clear hb hs
  refine ⟨_, rfl, HS3.out, ?_⟩
  simp only [Act.put, List.setIfInBounds_toArray, List.set_cons_zero, List.set_cons_succ]
  refine wpHeld_call 18 Tryd.func18 (by kernel_rfl) (by kernel_rfl) _ _ #[.agg (trC s c), .string lb, .slice C (8 * n) f] rfl (by kernel_rfl) (by kernel_rfl) ?_
  refine (rabsorb_any s c lb C (8 * n) f (intsB (is.map u64N)) V3 HDs.out.1 HDs.out.2 hlb HO.out (by omega) D HD.out).mono ?_
  rintro e V4 ⟨rfl, hb⟩
  have B3 := Lib.hid hb
  have C1_3 := Lib.hid (bel_step B1.out B2.out)
  have HS4 := Lib.hid (LaterB.step HS3.out (hb.mono C1_3.out.size))
  clear hb 
  refine ⟨_, rfl, HS4.out, ?_⟩
  simp only [Act.put, List.setIfInBounds_toArray, List.set_cons_zero, List.set_cons_succ]
  refine wpHeld_nil ?_
  have C1_4 := Lib.hid (bel_step C1_3.out B3.out)
  refine mOp_run0 _ rfl rfl (exec_storeT (w.heap.size + 1) (List.replicate 32 0) 0 D 0 List.length_replicate DgD.out.1 (Fv1_6.out.keep C1_4.out) rfl rfl rfl) ?_
  try simp only [ptr, Act.put, List.setIfInBounds_toArray, List.set_cons_zero, List.set_cons_succ]
  go_wp2_with fail
  have C0_3 := Lib.hid (bel_step C0_2.out B2.out)
  have C0_4 := Lib.hid (bel_step C0_3.out B3.out)
  refine bodyPost_ret (v := .agg (trC D 0)) ?_ rfl ⟨rfl, bel_setRow C0_4.out (by omega) _⟩
  exact results_cell_row rfl _ _ (w.heap.size + 1) 32 _ (0, 0) _ rfl ((Fv1_6.out.keep C1_4.out).row D 0) Tryd.underlying32 rfl (trC_info DgD.out.1 0)
end Go.Proofs.YtcaoajeplinopaaDoor

namespace Go.Proofs.YtcaoajeplinopaaDoor
set_option linter.unusedVariables false
set_option linter.unusedSimpArgs false
set_option maxRecDepth 8000
open Go.RowKit Gold
/-- a slice that reads as numbers and lies behind base -/
def IbN (w : World) (base : Nat) (A : Option Addr) (n c : Nat) (l : List Nat) : Prop := Ib w A n c (l.map fun x : Nat => (x : Int)) ∧ ∀ ad, A = some ad → base ≤ ad.block
def celI (l : List Nat) : List Value := l.map fun x : Nat => Value.int .i64 (x : Int)
theorem celI_append (a b : List Nat) : celI (a ++ b) = celI a ++ celI b := by unfold celI; simp
theorem celI_ones (l : List Nat) : ∀ u ∈ celI l, u.oneCell' = true := by
  intro u hu
  unfold celI at hu
  obtain ⟨x, _, rfl⟩ := List.mem_map.1 hu
  rfl
theorem add_blockN (a : Addr) (k : Nat) : (a.add k).block = a.block := by unfold Addr.add; split <;> rfl
section
variable {w w' : World} {base n c : Nat} {A : Option Addr} {l : List Nat}
theorem IbN.keep (h : IbN w base A n c l) (hb : Below w.heap.size w w') : IbN w' base A n c l := ⟨h.1.keep hb, h.2⟩
theorem IbN.len (h : IbN w base A n c l) : n = l.length := by rw [h.1.len, List.length_map]
theorem IbN.cell (h : IbN w base A n c l) {i x : Nat} (hx : l[i]? = some x) : ∃ ad, A = some ad ∧ w.cell? (ad.add i) = some (.int .i64 (x : Int)) := h.1.cells i x (by rw [List.getElem?_map, hx]; rfl)
theorem IbN.src (h : IbN w base A n c l) : SrcC w A n 1 (celI l) :=
  ⟨by unfold celI; rw [List.length_map, h.len]; omega, fun e => by have := h.1.nil e; have := h.1.cap; omega, fun j u hj => by
    unfold celI at hj
    rw [List.getElem?_map] at hj
    cases hx : l[j]? with
    | none => rw [hx] at hj; cases hj
    | some x =>
      rw [hx] at hj
      injection hj with hj
      subst hj
      exact h.cell hx, celI_ones l⟩
theorem IbN.take {k : Nat} (h : IbN w base A n c l) (hk : k ≤ n) : IbN w base A k c (l.take k) := ⟨by rw [List.map_take]; exact h.1.take hk, h.2⟩
theorem IbN.dropG {k : Nat} (h : IbN w base A n c l) (hk : k ≤ n) : IbN w base (if c = k then A else A.map (·.add (k * 1))) (n - k) (c - k) (l.drop k) := by
  cases A with
  | none =>
    have h0 := h.1.nil rfl
    have hc := h.1.cap
    have hl := h.len
    obtain rfl : l = [] := List.eq_nil_of_length_eq_zero (by omega)
    have e : (if c = k then (none : Option Addr) else none) = none := by split <;> rfl
    simp only [Option.map, e, List.drop_nil]
    refine ⟨?_, fun ad e => by cases e⟩
    rw [show n - k = 0 by omega, show c - k = 0 by omega]
    exact Ib.nil_ w
  | some ad =>
    have e : (if c = k then some ad else (some ad).map (·.add (k * 1))) = some (if c = k then ad else ad.add k) := by
      split
      · rfl
      · simp
    rw [e]
    refine ⟨by rw [List.map_drop]; exact h.1.drop hk, fun ad' e => ?_⟩
    injection e with e
    subst e
    have := h.2 ad rfl
    split
    · exact this
    · rw [add_blockN]; exact this
theorem IbN.far {g : Nat} (h : IbN w base A n c l) (hg : g < base) (hk : ∀ k o, k ≠ g → w.heap[k]? = some o → w'.heap[k]? = some o) : IbN w' base A n c l :=
  ⟨⟨h.1.len, h.1.cap, h.1.top, h.1.nil, fun i z hz => by
    obtain ⟨ad, e, hc⟩ := h.1.cells i z hz
    refine ⟨ad, e, ?_⟩
    have hb : (ad.add i).block ≠ g := by
      have := h.2 ad e
      rw [add_blockN]
      omega
    obtain ⟨o, ho⟩ : ∃ o, w.heap[(ad.add i).block]? = some o := ⟨_, Array.getElem?_eq_getElem (World.block_lt_of_cell? w _ hc)⟩
    have h2 := hk _ _ hb ho
    rw [← hc]
    exact World.cell?_of_block (h2.trans ho.symm)⟩, h.2⟩
theorem IbN.mono {base' : Nat} (h : IbN w base A n c l) (hb : base' ≤ base) : IbN w base' A n c l := ⟨h.1, fun ad e => Nat.le_trans hb (h.2 ad e)⟩
end
theorem own_ibn {w : World} {base n : Nat} {v : Value} {l : List Nat} (h : w.ownsRow base 3 1 v n (celI l)) : ∃ A c, v = .slice A n c ∧ IbN w base A n c l := by
  have h2 : OwZ w base v n (l.map fun x : Nat => (x : Int)) := by
    unfold OwZ
    rw [List.map_map]
    exact h
  obtain ⟨A, c, rfl, hi⟩ := h2.ib
  refine ⟨A, c, rfl, hi, fun ad e => ?_⟩
  subst e
  exact (World.ownsRow.lt h ad.block rfl).1
theorem insT_hit {l : List Nat} {x k : Nat} (hs : l.Pairwise (· < ·)) (h : l[k]? = some x) : insT l x = l := insT_same hs (List.mem_of_getElem? h)
theorem insT_at {l : List Nat} {x k : Nat} (hs : l.Pairwise (· < ·)) (h1 : ∀ i y, l[i]? = some y → i < k → y < x) (h2 : ∀ y, l[k]? = some y → x < y) : insT l x = l.take k ++ [x] ++ l.drop k := by
  have e := insT_cut (l := l) (x := x) (k := k) (fun y hy => by
    obtain ⟨i, hi⟩ := List.mem_iff_getElem?.1 hy
    have hl := (List.getElem?_eq_some_iff.1 hi).1
    rw [List.length_take] at hl
    rw [List.getElem?_take_of_lt (by omega)] at hi
    exact h1 i y hi (by omega)) (fun y hy => by
    obtain ⟨i, hi⟩ := List.mem_iff_getElem?.1 hy
    rw [List.getElem?_drop] at hi
    cases i with
    | zero => exact h2 y hi
    | succ i =>
      obtain ⟨hb, hy2⟩ := List.getElem?_eq_some_iff.1 hi
      have hk : l[k]? = some (l[k]'(by omega)) := List.getElem?_eq_getElem _
      have h3 := h2 _ hk
      have h4 := List.pairwise_iff_getElem.1 hs k (k + (i + 1)) (by omega) hb (by omega)
      omega)
  rw [e]
  simp
end Go.Proofs.YtcaoajeplinopaaDoor

namespace Go.Proofs.YtcaoajeplinopaaDoor
set_option linter.unusedVariables false
set_option linter.unusedSimpArgs false
set_option maxRecDepth 8000
open Go.RowKit Gold
open Go.Shelf
attribute [local simp] z32_ne z32_run
attribute [-simp] Tryd.zeroValue30 Tryd.isAgg30 Tryd.sizeOf30
attribute [-simp] Tryd.zeroValue32 Tryd.isAgg32 Tryd.sizeOf32
attribute [local simp] z33_ne z33_run
attribute [local irreducible] wpList wpQuiet
set_option maxRecDepth 100000 in
set_option maxHeartbeats 16000000 in
theorem rinsert_any (A : Option Addr) (n c : Nat) (l : List Nat) (x : Nat) (w : World) (base : Nat) (h : IbN w base A n c l) (hs : l.Pairwise (· < ·)) (hn : n ≤ 1000) (hx : x < 9223372036854775808) (hbase : base ≤ w.heap.size) :
    Calls Tryd.prog 53 #[.slice A n c, .int .i64 (x : Int)] w fun e w' => ∃ C m f, e = .returned (.slice C m f) ∧ IbN w' base C m f (insT l x) ∧ Below w.heap.size w w' := by
  have hcap := h.1.cap
  have htop := h.1.top
  have hlen := h.len
  have HX := Lib.hid h
  have HS := Lib.hid hs
  have HL := Lib.hid hlen
  clear h hs hlen
  go_enter Tryd.func53, Tryd.ntmps53
  go_wp2_with fail
  go_loopw [5] (fun p wr => ∃ k : Nat, k ≤ n ∧ p = .int .i64 k ∧ (∀ i y, l[i]? = some y → i < k → y < x) ∧ wr = w) (fun p _ => n - (intOf p).toNat)
  case atStart => exact ⟨0, Nat.zero_le _, rfl, fun i y _ hi => by omega, rfl⟩
  case round =>
    obtain ⟨k, hk, rfl, hlo, rfl⟩ := hrel
    have HLO := Lib.hid hlo
    clear hlo
    by_cases hlt : k < n
    · have hk1 : (k : Int) < (n : Int) := by omega
      have hk0 : (0 : Int) ≤ (k : Int) := by omega
      obtain ⟨y, hy⟩ : ∃ y, l[k]? = some y := ⟨_, List.getElem?_eq_getElem (by have := HL.out; omega)⟩
      obtain ⟨ad, eA, hc0⟩ := HX.out.cell hy
      subst eA
      have C0 := Lib.hid hc0
      clear hc0
      by_cases hyx : y < x
      · go_upto_region 2 with fail
        refine wp_region_lit ?_
        refine wpList_run (by kernel_rfl) (.int .i64 (k : Int)) wr rfl ?_
        simp only [Act.put, List.setIfInBounds_toArray, List.set_cons_zero, List.set_cons_succ]
        refine wpList_run (by kernel_rfl) (.slice (some ad) n c) wr rfl ?_
        simp only [Act.put, List.setIfInBounds_toArray, List.set_cons_zero, List.set_cons_succ]
        refine wpList_run (by kernel_rfl) (.int .i64 (n : Int)) wr (xo_len (some ad) n c Tryd.underlying48 rfl rfl) ?_
        simp only [Act.put, List.setIfInBounds_toArray, List.set_cons_zero, List.set_cons_succ]
        refine wpList_run (by kernel_rfl) (.bool true) wr (xo_lssT .i64 (k : Int) (n : Int) (by omega) rfl rfl rfl) ?_
        simp only [Act.put, List.setIfInBounds_toArray, List.set_cons_zero, List.set_cons_succ]
        refine wpList_run (by kernel_rfl) (.bool true) wr rfl ?_
        simp only [Act.put, List.setIfInBounds_toArray, List.set_cons_zero, List.set_cons_succ]
        refine wpList_run (by kernel_rfl) (.slice (some ad) n c) wr rfl ?_
        simp only [Act.put, List.setIfInBounds_toArray, List.set_cons_zero, List.set_cons_succ]
        refine wpList_run (by kernel_rfl) (.int .i64 (k : Int)) wr rfl ?_
        simp only [Act.put, List.setIfInBounds_toArray, List.set_cons_zero, List.set_cons_succ]
        refine wpList_run (by kernel_rfl) (.pointer (some (ad.add k))) wr (xo_index1 .i64 ad n c k (by omega) Tryd.underlying48 (by kernel_rfl) rfl rfl rfl) ?_
        simp only [Act.put, List.setIfInBounds_toArray, List.set_cons_zero, List.set_cons_succ]
        refine wpList_run (by kernel_rfl) (.int .i64 (y : Int)) wr (xo_load1 (ad.add k) _ C0.out Tryd.underlying3 rfl rfl rfl) ?_
        simp only [Act.put, List.setIfInBounds_toArray, List.set_cons_zero, List.set_cons_succ]
        refine wpList_run (by kernel_rfl) (.int .i64 (x : Int)) wr rfl ?_
        simp only [Act.put, List.setIfInBounds_toArray, List.set_cons_zero, List.set_cons_succ]
        refine wpList_run (by kernel_rfl) (.bool true) wr (xo_lssT .i64 (y : Int) (x : Int) (by omega) rfl rfl rfl) ?_
        simp only [Act.put, List.setIfInBounds_toArray, List.set_cons_zero, List.set_cons_succ]
        refine wpList_run (by kernel_rfl) (.bool true) wr rfl ?_
        simp only [Act.put, List.setIfInBounds_toArray, List.set_cons_zero, List.set_cons_succ]
        refine wpList_nil ?_
        go_wp2_with fail
        go_roundw
        case rel => exact ⟨k + 1, by omega, by go_num, fun i z hz hi => by
                  rcases Nat.lt_succ_iff_lt_or_eq.1 hi with h | h
                  · exact HLO.out i z hz h
                  · subst h; rw [hy] at hz; injection hz with hz; omega, by first | trivial | rfl⟩
        case measure => simp [intOf]; omega
      · go_upto_region 2 with fail
        refine wp_region_lit ?_
        refine wpList_run (by kernel_rfl) (.int .i64 (k : Int)) wr rfl ?_
        simp only [Act.put, List.setIfInBounds_toArray, List.set_cons_zero, List.set_cons_succ]
        refine wpList_run (by kernel_rfl) (.slice (some ad) n c) wr rfl ?_
        simp only [Act.put, List.setIfInBounds_toArray, List.set_cons_zero, List.set_cons_succ]
        refine wpList_run (by kernel_rfl) (.int .i64 (n : Int)) wr (xo_len (some ad) n c Tryd.underlying48 rfl rfl) ?_
        simp only [Act.put, List.setIfInBounds_toArray, List.set_cons_zero, List.set_cons_succ]
        refine wpList_run (by kernel_rfl) (.bool true) wr (xo_lssT .i64 (k : Int) (n : Int) (by omega) rfl rfl rfl) ?_
        simp only [Act.put, List.setIfInBounds_toArray, List.set_cons_zero, List.set_cons_succ]
        refine wpList_run (by kernel_rfl) (.bool true) wr rfl ?_
        simp only [Act.put, List.setIfInBounds_toArray, List.set_cons_zero, List.set_cons_succ]
        refine wpList_run (by kernel_rfl) (.slice (some ad) n c) wr rfl ?_
        simp only [Act.put, List.setIfInBounds_toArray, List.set_cons_zero, List.set_cons_succ]
        refine wpList_run (by kernel_rfl) (.int .i64 (k : Int)) wr rfl ?_
        simp only [Act.put, List.setIfInBounds_toArray, List.set_cons_zero, List.set_cons_succ]
        refine wpList_run (by kernel_rfl) (.pointer (some (ad.add k))) wr (xo_index1 .i64 ad n c k (by omega) Tryd.underlying48 (by kernel_rfl) rfl rfl rfl) ?_
        simp only [Act.put, List.setIfInBounds_toArray, List.set_cons_zero, List.set_cons_succ]
        refine wpList_run (by kernel_rfl) (.int .i64 (y : Int)) wr (xo_load1 (ad.add k) _ C0.out Tryd.underlying3 rfl rfl rfl) ?_
        simp only [Act.put, List.setIfInBounds_toArray, List.set_cons_zero, List.set_cons_succ]
        refine wpList_run (by kernel_rfl) (.int .i64 (x : Int)) wr rfl ?_
        simp only [Act.put, List.setIfInBounds_toArray, List.set_cons_zero, List.set_cons_succ]
        refine wpList_run (by kernel_rfl) (.bool false) wr (xo_lssF .i64 (y : Int) (x : Int) (by omega) rfl rfl rfl) ?_
        simp only [Act.put, List.setIfInBounds_toArray, List.set_cons_zero, List.set_cons_succ]
        refine wpList_run (by kernel_rfl) (.bool false) wr rfl ?_
        simp only [Act.put, List.setIfInBounds_toArray, List.set_cons_zero, List.set_cons_succ]
        refine wpList_nil ?_
        by_cases hyx2 : y = x
        · go_upto_region 4 with fail
          refine wp_region_lit ?_
          refine wpList_run (by kernel_rfl) (.int .i64 (k : Int)) wr rfl ?_
          simp only [Act.put, List.setIfInBounds_toArray, List.set_cons_zero, List.set_cons_succ]
          refine wpList_run (by kernel_rfl) (.slice (some ad) n c) wr rfl ?_
          simp only [Act.put, List.setIfInBounds_toArray, List.set_cons_zero, List.set_cons_succ]
          refine wpList_run (by kernel_rfl) (.int .i64 (n : Int)) wr (xo_len (some ad) n c Tryd.underlying48 rfl rfl) ?_
          simp only [Act.put, List.setIfInBounds_toArray, List.set_cons_zero, List.set_cons_succ]
          refine wpList_run (by kernel_rfl) (.bool true) wr (xo_lssT .i64 (k : Int) (n : Int) (by omega) rfl rfl rfl) ?_
          simp only [Act.put, List.setIfInBounds_toArray, List.set_cons_zero, List.set_cons_succ]
          refine wpList_run (by kernel_rfl) (.bool true) wr rfl ?_
          simp only [Act.put, List.setIfInBounds_toArray, List.set_cons_zero, List.set_cons_succ]
          refine wpList_run (by kernel_rfl) (.slice (some ad) n c) wr rfl ?_
          simp only [Act.put, List.setIfInBounds_toArray, List.set_cons_zero, List.set_cons_succ]
          refine wpList_run (by kernel_rfl) (.int .i64 (k : Int)) wr rfl ?_
          simp only [Act.put, List.setIfInBounds_toArray, List.set_cons_zero, List.set_cons_succ]
          refine wpList_run (by kernel_rfl) (.pointer (some (ad.add k))) wr (xo_index1 .i64 ad n c k (by omega) Tryd.underlying48 (by kernel_rfl) rfl rfl rfl) ?_
          simp only [Act.put, List.setIfInBounds_toArray, List.set_cons_zero, List.set_cons_succ]
          refine wpList_run (by kernel_rfl) (.int .i64 (y : Int)) wr (xo_load1 (ad.add k) _ C0.out Tryd.underlying3 rfl rfl rfl) ?_
          simp only [Act.put, List.setIfInBounds_toArray, List.set_cons_zero, List.set_cons_succ]
          refine wpList_run (by kernel_rfl) (.int .i64 (x : Int)) wr rfl ?_
          simp only [Act.put, List.setIfInBounds_toArray, List.set_cons_zero, List.set_cons_succ]
          refine wpList_run (by kernel_rfl) (.bool true) wr (xo_eqlT .i64 (y : Int) (x : Int) (by omega) rfl rfl rfl) ?_
          simp only [Act.put, List.setIfInBounds_toArray, List.set_cons_zero, List.set_cons_succ]
          refine wpList_run (by kernel_rfl) (.bool true) wr rfl ?_
          simp only [Act.put, List.setIfInBounds_toArray, List.set_cons_zero, List.set_cons_succ]
          refine wpList_nil ?_
          go_wp2_with fail
          go_ret
          exact ⟨_, _, _, rfl, by rw [insT_hit HS.out (show l[k]? = some x by rw [hy, hyx2])]; exact HX.out, Below.refl _ _⟩
        · go_upto_region 4 with fail
          refine wp_region_lit ?_
          refine wpList_run (by kernel_rfl) (.int .i64 (k : Int)) wr rfl ?_
          simp only [Act.put, List.setIfInBounds_toArray, List.set_cons_zero, List.set_cons_succ]
          refine wpList_run (by kernel_rfl) (.slice (some ad) n c) wr rfl ?_
          simp only [Act.put, List.setIfInBounds_toArray, List.set_cons_zero, List.set_cons_succ]
          refine wpList_run (by kernel_rfl) (.int .i64 (n : Int)) wr (xo_len (some ad) n c Tryd.underlying48 rfl rfl) ?_
          simp only [Act.put, List.setIfInBounds_toArray, List.set_cons_zero, List.set_cons_succ]
          refine wpList_run (by kernel_rfl) (.bool true) wr (xo_lssT .i64 (k : Int) (n : Int) (by omega) rfl rfl rfl) ?_
          simp only [Act.put, List.setIfInBounds_toArray, List.set_cons_zero, List.set_cons_succ]
          refine wpList_run (by kernel_rfl) (.bool true) wr rfl ?_
          simp only [Act.put, List.setIfInBounds_toArray, List.set_cons_zero, List.set_cons_succ]
          refine wpList_run (by kernel_rfl) (.slice (some ad) n c) wr rfl ?_
          simp only [Act.put, List.setIfInBounds_toArray, List.set_cons_zero, List.set_cons_succ]
          refine wpList_run (by kernel_rfl) (.int .i64 (k : Int)) wr rfl ?_
          simp only [Act.put, List.setIfInBounds_toArray, List.set_cons_zero, List.set_cons_succ]
          refine wpList_run (by kernel_rfl) (.pointer (some (ad.add k))) wr (xo_index1 .i64 ad n c k (by omega) Tryd.underlying48 (by kernel_rfl) rfl rfl rfl) ?_
          simp only [Act.put, List.setIfInBounds_toArray, List.set_cons_zero, List.set_cons_succ]
          refine wpList_run (by kernel_rfl) (.int .i64 (y : Int)) wr (xo_load1 (ad.add k) _ C0.out Tryd.underlying3 rfl rfl rfl) ?_
          simp only [Act.put, List.setIfInBounds_toArray, List.set_cons_zero, List.set_cons_succ]
          refine wpList_run (by kernel_rfl) (.int .i64 (x : Int)) wr rfl ?_
          simp only [Act.put, List.setIfInBounds_toArray, List.set_cons_zero, List.set_cons_succ]
          refine wpList_run (by kernel_rfl) (.bool false) wr (xo_eqlF .i64 (y : Int) (x : Int) (by omega) rfl rfl rfl) ?_
          simp only [Act.put, List.setIfInBounds_toArray, List.set_cons_zero, List.set_cons_succ]
          refine wpList_run (by kernel_rfl) (.bool false) wr rfl ?_
          simp only [Act.put, List.setIfInBounds_toArray, List.set_cons_zero, List.set_cons_succ]
          refine wpList_nil ?_
          go_upto_region 6 with fail
          refine wp_region_lit ?_
          refine wpList_mk (by kernel_rfl) #[] 3 0 0 (xo_empty (size := 1) Tryd.underlying48 (by kernel_rfl) rfl wr) ?_
          intro g34 V1 hge h0 hb
          have B0 := Lib.hid hb
          have Ow34 : Hid (V1.ownsRow wr.heap.size 3 1 (.slice (some ⟨g34, 0, none⟩) 0 0) 0 (celI [])) := Lib.hid (own_new h0 hge)
          clear hge h0 hb
          simp only [ptr, Act.put, List.setIfInBounds_toArray, List.set_cons_zero, List.set_cons_succ]
          refine wpList_run (by kernel_rfl) (.slice (some ad) n c) V1 rfl ?_
          simp only [Act.put, List.setIfInBounds_toArray, List.set_cons_zero, List.set_cons_succ]
          refine wpList_run (by kernel_rfl) (.int .i64 (k : Int)) V1 rfl ?_
          simp only [Act.put, List.setIfInBounds_toArray, List.set_cons_zero, List.set_cons_succ]
          refine wpList_run (by kernel_rfl) (.slice (some ad) k c) V1 (xo_take .i64 (some ad) n c k (by omega) Tryd.underlying48 (by kernel_rfl) rfl rfl rfl) ?_
          simp only [Act.put, List.setIfInBounds_toArray, List.set_cons_zero, List.set_cons_succ]
          refine wpList_app (size := 1) (by kernel_rfl) (.tmp 34) (.tmp 37) 48 rfl (.int .i64 0) 8 Tryd.underlying48 (by kernel_rfl) rfl (by decide) rfl Ow34.out (some ad) k c (celI (l.take k)) rfl ((HX.out.keep B0.out).take (k := k) (by omega)).src (by unfold maxLen; omega) (by omega) B0.out.size ?_
          intro v38 X1_0 ho hb1
          have hox : X1_0.ownsRow wr.heap.size 3 1 v38 k (celI (l.take k)) := by simpa [celI] using ho
          have hbr := B0.out.trans hb1
          clear B0
          have B0 := Lib.hid hbr
          clear hbr
          have Ow38 := Lib.hid hox
          clear ho hox hb1
          simp only [ptr, Act.put, List.setIfInBounds_toArray, List.set_cons_zero, List.set_cons_succ]
          refine wpList_run (by kernel_rfl) (v38) X1_0 rfl ?_
          simp only [Act.put, List.setIfInBounds_toArray, List.set_cons_zero, List.set_cons_succ]
          refine wpList_nil ?_
          go_upto_region 7 with fail
          refine wp_region_lit ?_
          refine wpList_run (by kernel_rfl) (v38) X1_0 rfl ?_
          simp only [Act.put, List.setIfInBounds_toArray, List.set_cons_zero, List.set_cons_succ]
          refine wpList_run (by kernel_rfl) (.int .i64 (x : Int)) X1_0 rfl ?_
          simp only [Act.put, List.setIfInBounds_toArray, List.set_cons_zero, List.set_cons_succ]
          refine wpList_mk (by kernel_rfl) #[.int .i64 (x : Int)] 3 1 1 (run_buildI1 (x : Int) rfl rfl _) ?_
          intro g41 V2 hge h0 hb
          have B1 := Lib.hid hb
          have M41 := Lib.hid (show IbN V2 0 (some ⟨g41, 0, none⟩) 1 1 [x] from ⟨ib_cells1 h0, fun ad e => Nat.zero_le _⟩)
          clear hge h0 hb
          simp only [Act.put, List.setIfInBounds_toArray, List.set_cons_zero, List.set_cons_succ]
          have C0_2 := Lib.hid (bel_step B0.out B1.out)
          refine wpList_app (size := 1) (by kernel_rfl) (.tmp 39) (.tmp 41) 48 rfl (.int .i64 0) 8 Tryd.underlying48 (by kernel_rfl) rfl (by decide) rfl (own_keep Ow38.out B1.out) (some ⟨g41, 0, none⟩) 1 1 (celI ([x])) rfl M41.out.src (by unfold maxLen; omega) (by omega) C0_2.out.size ?_
          intro v42 X2_1 ho hb1
          have hox : X2_1.ownsRow wr.heap.size 3 1 v42 (k + 1) (celI (l.take k ++ [x])) := by rw [celI_append]; exact ho
          have hbr := C0_2.out.trans hb1
          clear B0
          have B0 := Lib.hid hbr
          clear hbr
          have Ow42 := Lib.hid hox
          clear ho hox hb1
          simp only [ptr, Act.put, List.setIfInBounds_toArray, List.set_cons_zero, List.set_cons_succ]
          refine wpList_run (by kernel_rfl) (v42) X2_1 rfl ?_
          simp only [Act.put, List.setIfInBounds_toArray, List.set_cons_zero, List.set_cons_succ]
          refine wpList_nil ?_
          go_upto_region 8 with fail
          refine wp_region_lit ?_
          refine wpList_run (by kernel_rfl) (v42) X2_1 rfl ?_
          simp only [Act.put, List.setIfInBounds_toArray, List.set_cons_zero, List.set_cons_succ]
          refine wpList_run (by kernel_rfl) (.slice (some ad) n c) X2_1 rfl ?_
          simp only [Act.put, List.setIfInBounds_toArray, List.set_cons_zero, List.set_cons_succ]
          refine wpList_run (by kernel_rfl) (.int .i64 (k : Int)) X2_1 rfl ?_
          simp only [Act.put, List.setIfInBounds_toArray, List.set_cons_zero, List.set_cons_succ]
          refine wpList_run (by kernel_rfl) (.slice (if c = k then (some ad) else (some ad).map (·.add (k * 1))) (n - k) (c - k)) X2_1 (xo_drop .i64 (some ad) n c k 1 (by omega) Tryd.underlying48 (by kernel_rfl) rfl rfl rfl) ?_
          simp only [Act.put, List.setIfInBounds_toArray, List.set_cons_zero, List.set_cons_succ]
          refine wpList_app (size := 1) (by kernel_rfl) (.tmp 43) (.tmp 46) 48 rfl (.int .i64 0) 8 Tryd.underlying48 (by kernel_rfl) rfl (by decide) rfl Ow42.out (if c = k then (some ad) else (some ad).map (·.add (k * 1))) (n - k) (c - k) (celI (l.drop k)) rfl ((HX.out.keep B0.out).dropG (k := k) (by omega)).src (by unfold maxLen; omega) (by omega) B0.out.size ?_
          intro v47 X1_2 ho hb1
          have hox : X1_2.ownsRow wr.heap.size 3 1 v47 (k + 1 + (n - k)) (celI (l.take k ++ [x] ++ l.drop k)) := by rw [celI_append (l.take k ++ [x])]; exact ho
          have hbr := B0.out.trans hb1
          clear B0
          have B0 := Lib.hid hbr
          clear hbr
          have Ow47 := Lib.hid hox
          clear ho hox hb1
          simp only [ptr, Act.put, List.setIfInBounds_toArray, List.set_cons_zero, List.set_cons_succ]
          refine wpList_run (by kernel_rfl) (v47) X1_2 rfl ?_
          simp only [Act.put, List.setIfInBounds_toArray, List.set_cons_zero, List.set_cons_succ]
          refine wpList_nil ?_
          have ho := Ow47.out
          rw [← insT_at HS.out HLO.out (fun z hz => by rw [hy] at hz; injection hz with hz; omega)] at ho
          obtain ⟨C, f, rfl, hc⟩ := own_ibn ho
          have hB := B0.out
          go_wp2_with fail
          all_goals (go_ret; exact ⟨_, _, _, rfl, by first | exact hc.mono hbase | simpa using hc.mono hbase, hB⟩)
    · obtain rfl : k = n := by omega
      go_upto_region 2 with fail
      refine wp_region_lit ?_
      refine wpList_run (by kernel_rfl) (.int .i64 (k : Int)) wr rfl ?_
      simp only [Act.put, List.setIfInBounds_toArray, List.set_cons_zero, List.set_cons_succ]
      refine wpList_run (by kernel_rfl) (.slice A k c) wr rfl ?_
      simp only [Act.put, List.setIfInBounds_toArray, List.set_cons_zero, List.set_cons_succ]
      refine wpList_run (by kernel_rfl) (.int .i64 (k : Int)) wr (xo_len A k c Tryd.underlying48 rfl rfl) ?_
      simp only [Act.put, List.setIfInBounds_toArray, List.set_cons_zero, List.set_cons_succ]
      refine wpList_run (by kernel_rfl) (.bool false) wr (xo_lssF .i64 (k : Int) (k : Int) (by omega) rfl rfl rfl) ?_
      simp only [Act.put, List.setIfInBounds_toArray, List.set_cons_zero, List.set_cons_succ]
      refine wpList_run (by kernel_rfl) (.bool false) wr rfl ?_
      simp only [Act.put, List.setIfInBounds_toArray, List.set_cons_zero, List.set_cons_succ]
      refine wpList_skip (by kernel_rfl) ?_
      try simp only [Act.put, List.setIfInBounds_toArray, List.set_cons_zero, List.set_cons_succ]
      refine wpList_skip (by kernel_rfl) ?_
      try simp only [Act.put, List.setIfInBounds_toArray, List.set_cons_zero, List.set_cons_succ]
      refine wpList_skip (by kernel_rfl) ?_
      try simp only [Act.put, List.setIfInBounds_toArray, List.set_cons_zero, List.set_cons_succ]
      refine wpList_skip (by kernel_rfl) ?_
      try simp only [Act.put, List.setIfInBounds_toArray, List.set_cons_zero, List.set_cons_succ]
      refine wpList_skip (by kernel_rfl) ?_
      try simp only [Act.put, List.setIfInBounds_toArray, List.set_cons_zero, List.set_cons_succ]
      refine wpList_skip (by kernel_rfl) ?_
      try simp only [Act.put, List.setIfInBounds_toArray, List.set_cons_zero, List.set_cons_succ]
      refine wpList_run (by kernel_rfl) (.bool false) wr rfl ?_
      simp only [Act.put, List.setIfInBounds_toArray, List.set_cons_zero, List.set_cons_succ]
      refine wpList_nil ?_
      go_upto_region 4 with fail
      refine wp_region_lit ?_
      refine wpList_run (by kernel_rfl) (.int .i64 (k : Int)) wr rfl ?_
      simp only [Act.put, List.setIfInBounds_toArray, List.set_cons_zero, List.set_cons_succ]
      refine wpList_run (by kernel_rfl) (.slice A k c) wr rfl ?_
      simp only [Act.put, List.setIfInBounds_toArray, List.set_cons_zero, List.set_cons_succ]
      refine wpList_run (by kernel_rfl) (.int .i64 (k : Int)) wr (xo_len A k c Tryd.underlying48 rfl rfl) ?_
      simp only [Act.put, List.setIfInBounds_toArray, List.set_cons_zero, List.set_cons_succ]
      refine wpList_run (by kernel_rfl) (.bool false) wr (xo_lssF .i64 (k : Int) (k : Int) (by omega) rfl rfl rfl) ?_
      simp only [Act.put, List.setIfInBounds_toArray, List.set_cons_zero, List.set_cons_succ]
      refine wpList_run (by kernel_rfl) (.bool false) wr rfl ?_
      simp only [Act.put, List.setIfInBounds_toArray, List.set_cons_zero, List.set_cons_succ]
      refine wpList_skip (by kernel_rfl) ?_
      try simp only [Act.put, List.setIfInBounds_toArray, List.set_cons_zero, List.set_cons_succ]
      refine wpList_skip (by kernel_rfl) ?_
      try simp only [Act.put, List.setIfInBounds_toArray, List.set_cons_zero, List.set_cons_succ]
      refine wpList_skip (by kernel_rfl) ?_
      try simp only [Act.put, List.setIfInBounds_toArray, List.set_cons_zero, List.set_cons_succ]
      refine wpList_skip (by kernel_rfl) ?_
      try simp only [Act.put, List.setIfInBounds_toArray, List.set_cons_zero, List.set_cons_succ]
      refine wpList_skip (by kernel_rfl) ?_
      try simp only [Act.put, List.setIfInBounds_toArray, List.set_cons_zero, List.set_cons_succ]
      refine wpList_skip (by kernel_rfl) ?_
      try simp only [Act.put, List.setIfInBounds_toArray, List.set_cons_zero, List.set_cons_succ]
      refine wpList_run (by kernel_rfl) (.bool false) wr rfl ?_
      simp only [Act.put, List.setIfInBounds_toArray, List.set_cons_zero, List.set_cons_succ]
      refine wpList_nil ?_
      go_upto_region 6 with fail
      refine wp_region_lit ?_
      refine wpList_mk (by kernel_rfl) #[] 3 0 0 (xo_empty (size := 1) Tryd.underlying48 (by kernel_rfl) rfl wr) ?_
      intro g34 V1 hge h0 hb
      have B0 := Lib.hid hb
      have Ow34 : Hid (V1.ownsRow wr.heap.size 3 1 (.slice (some ⟨g34, 0, none⟩) 0 0) 0 (celI [])) := Lib.hid (own_new h0 hge)
      clear hge h0 hb
      simp only [ptr, Act.put, List.setIfInBounds_toArray, List.set_cons_zero, List.set_cons_succ]
      refine wpList_run (by kernel_rfl) (.slice A k c) V1 rfl ?_
      simp only [Act.put, List.setIfInBounds_toArray, List.set_cons_zero, List.set_cons_succ]
      refine wpList_run (by kernel_rfl) (.int .i64 (k : Int)) V1 rfl ?_
      simp only [Act.put, List.setIfInBounds_toArray, List.set_cons_zero, List.set_cons_succ]
      refine wpList_run (by kernel_rfl) (.slice A k c) V1 (xo_take .i64 A k c k (by omega) Tryd.underlying48 (by kernel_rfl) rfl rfl rfl) ?_
      simp only [Act.put, List.setIfInBounds_toArray, List.set_cons_zero, List.set_cons_succ]
      refine wpList_app (size := 1) (by kernel_rfl) (.tmp 34) (.tmp 37) 48 rfl (.int .i64 0) 8 Tryd.underlying48 (by kernel_rfl) rfl (by decide) rfl Ow34.out A k c (celI (l.take k)) rfl ((HX.out.keep B0.out).take (k := k) (by omega)).src (by unfold maxLen; omega) (by omega) B0.out.size ?_
      intro v38 X1_0 ho hb1
      have hox : X1_0.ownsRow wr.heap.size 3 1 v38 k (celI (l.take k)) := by simpa [celI] using ho
      have hbr := B0.out.trans hb1
      clear B0
      have B0 := Lib.hid hbr
      clear hbr
      have Ow38 := Lib.hid hox
      clear ho hox hb1
      simp only [ptr, Act.put, List.setIfInBounds_toArray, List.set_cons_zero, List.set_cons_succ]
      refine wpList_run (by kernel_rfl) (v38) X1_0 rfl ?_
      simp only [Act.put, List.setIfInBounds_toArray, List.set_cons_zero, List.set_cons_succ]
      refine wpList_nil ?_
      go_upto_region 7 with fail
      refine wp_region_lit ?_
      refine wpList_run (by kernel_rfl) (v38) X1_0 rfl ?_
      simp only [Act.put, List.setIfInBounds_toArray, List.set_cons_zero, List.set_cons_succ]
      refine wpList_run (by kernel_rfl) (.int .i64 (x : Int)) X1_0 rfl ?_
      simp only [Act.put, List.setIfInBounds_toArray, List.set_cons_zero, List.set_cons_succ]
      refine wpList_mk (by kernel_rfl) #[.int .i64 (x : Int)] 3 1 1 (run_buildI1 (x : Int) rfl rfl _) ?_
      intro g41 V2 hge h0 hb
      have B1 := Lib.hid hb
      have M41 := Lib.hid (show IbN V2 0 (some ⟨g41, 0, none⟩) 1 1 [x] from ⟨ib_cells1 h0, fun ad e => Nat.zero_le _⟩)
      clear hge h0 hb
      simp only [Act.put, List.setIfInBounds_toArray, List.set_cons_zero, List.set_cons_succ]
      have C0_2 := Lib.hid (bel_step B0.out B1.out)
      refine wpList_app (size := 1) (by kernel_rfl) (.tmp 39) (.tmp 41) 48 rfl (.int .i64 0) 8 Tryd.underlying48 (by kernel_rfl) rfl (by decide) rfl (own_keep Ow38.out B1.out) (some ⟨g41, 0, none⟩) 1 1 (celI ([x])) rfl M41.out.src (by unfold maxLen; omega) (by omega) C0_2.out.size ?_
      intro v42 X2_1 ho hb1
      have hox : X2_1.ownsRow wr.heap.size 3 1 v42 (k + 1) (celI (l.take k ++ [x])) := by rw [celI_append]; exact ho
      have hbr := C0_2.out.trans hb1
      clear B0
      have B0 := Lib.hid hbr
      clear hbr
      have Ow42 := Lib.hid hox
      clear ho hox hb1
      simp only [ptr, Act.put, List.setIfInBounds_toArray, List.set_cons_zero, List.set_cons_succ]
      refine wpList_run (by kernel_rfl) (v42) X2_1 rfl ?_
      simp only [Act.put, List.setIfInBounds_toArray, List.set_cons_zero, List.set_cons_succ]
      refine wpList_nil ?_
      go_upto_region 8 with fail
      refine wp_region_lit ?_
      refine wpList_run (by kernel_rfl) (v42) X2_1 rfl ?_
      simp only [Act.put, List.setIfInBounds_toArray, List.set_cons_zero, List.set_cons_succ]
      refine wpList_run (by kernel_rfl) (.slice A k c) X2_1 rfl ?_
      simp only [Act.put, List.setIfInBounds_toArray, List.set_cons_zero, List.set_cons_succ]
      refine wpList_run (by kernel_rfl) (.int .i64 (k : Int)) X2_1 rfl ?_
      simp only [Act.put, List.setIfInBounds_toArray, List.set_cons_zero, List.set_cons_succ]
      refine wpList_run (by kernel_rfl) (.slice (if c = k then A else A.map (·.add (k * 1))) (k - k) (c - k)) X2_1 (xo_drop .i64 A k c k 1 (by omega) Tryd.underlying48 (by kernel_rfl) rfl rfl rfl) ?_
      simp only [Act.put, List.setIfInBounds_toArray, List.set_cons_zero, List.set_cons_succ]
      refine wpList_app (size := 1) (by kernel_rfl) (.tmp 43) (.tmp 46) 48 rfl (.int .i64 0) 8 Tryd.underlying48 (by kernel_rfl) rfl (by decide) rfl Ow42.out (if c = k then A else A.map (·.add (k * 1))) (k - k) (c - k) (celI (l.drop k)) rfl ((HX.out.keep B0.out).dropG (k := k) (by omega)).src (by unfold maxLen; omega) (by omega) B0.out.size ?_
      intro v47 X1_2 ho hb1
      have hox : X1_2.ownsRow wr.heap.size 3 1 v47 (k + 1 + (k - k)) (celI (l.take k ++ [x] ++ l.drop k)) := by rw [celI_append (l.take k ++ [x])]; exact ho
      have hbr := B0.out.trans hb1
      clear B0
      have B0 := Lib.hid hbr
      clear hbr
      have Ow47 := Lib.hid hox
      clear ho hox hb1
      simp only [ptr, Act.put, List.setIfInBounds_toArray, List.set_cons_zero, List.set_cons_succ]
      refine wpList_run (by kernel_rfl) (v47) X1_2 rfl ?_
      simp only [Act.put, List.setIfInBounds_toArray, List.set_cons_zero, List.set_cons_succ]
      refine wpList_nil ?_
      have ho := Ow47.out
      rw [← insT_at HS.out HLO.out (fun z hz => by have := (List.getElem?_eq_some_iff.1 hz).1; have := HL.out; omega)] at ho
      obtain ⟨C, f, rfl, hc⟩ := own_ibn ho
      have hB := B0.out
      go_wp2_with fail
      all_goals (go_ret; exact ⟨_, _, _, rfl, by first | exact hc.mono hbase | simpa using hc.mono hbase, hB⟩)
end Go.Proofs.YtcaoajeplinopaaDoor

