/- The walk of ShaMatchesReference. -/
import Derived.Test.YtliflbelhogopaaDoorShf1
namespace Go.Proofs.YtliflbelhogopaaDoor
set_option maxRecDepth 8000
open Go.RowKit
attribute [local simp] z32_ne z32_run
attribute [-simp] Tryd.zeroValue26 Tryd.isAgg26 Tryd.sizeOf26
set_option maxHeartbeats 4000000 in
theorem shaMatchesReference_any (A : Option Addr) (n c : Nat) (bs : List Nat) (A1 : Option Addr) (n1 c1 : Nat) (b1 : List Nat) (A2 : Option Addr) (n2 c2 : Nat) (b2 : List Nat) (w : World) (h : Sb w A n c bs) (hu : Sb w A1 n1 c1 b1 ∧ Sb w A2 n2 c2 b2) (hG : Gl w) :
    Calls Tryd.prog 3 #[.slice A n c, .agg #[.slice A1 n1 c1, .slice A2 n2 c2]] w fun e w' => e = .returned (.bool true) ∧ Below w.heap.size w w' := by
  obtain ⟨m, hm, hmn, hm4⟩ := min400 n 400
  have hm' : (if (400 : Int) < (n : Int) then (400 : Int) else (n : Int)) = (m : Int) := hm
  clear hm
  have hcap := h.cap
  have hcm := h.top
  have hS := h.take hmn
  obtain ⟨bt, hbt⟩ : ∃ bt, bs.take m = bt := ⟨_, rfl⟩
  rw [hbt] at hS
  obtain ⟨x, hx⟩ : ∃ x, madeN b1 = x := ⟨_, rfl⟩
  have hxl : x.length = 32 := by rw [← hx]; exact madeN_length _
  have hxb : ∀ z ∈ x, z < 256 := by rw [← hx]; exact madeN_lt hu.1.byte
  obtain ⟨y, hy⟩ : ∃ y, madeN b2 = y := ⟨_, rfl⟩
  have hyl : y.length = 32 := by rw [← hy]; exact madeN_length _
  have hyb : ∀ z ∈ y, z < 256 := by rw [← hy]; exact madeN_lt hu.2.byte
  obtain ⟨R1, hR1⟩ : ∃ R, shaN bt = R := ⟨_, rfl⟩
  obtain ⟨R2, hR2⟩ : ∃ R, shaN (0 :: bt) = R := ⟨_, rfl⟩
  obtain ⟨R3, hR3⟩ : ∃ R, shaN (1 :: (x ++ y)) = R := ⟨_, rfl⟩
  obtain ⟨R4, hR4⟩ : ∃ R, hmacN x bt = R := ⟨_, rfl⟩
  have heq1 := run_eqD_same R1 (by rw [← hR1]; exact shaN_length _) (by rw [← hR1]; exact shaN_lt _)
  have heq2 := run_eqD_same R2 (by rw [← hR2]; exact shaN_length _) (by rw [← hR2]; exact shaN_lt _)
  have heq3 := run_eqD_same R3 (by rw [← hR3]; exact shaN_length _) (by rw [← hR3]; exact shaN_lt _)
  have heq4 := run_eqD_same R4 (by rw [← hR4]; exact shaN_length _) (by rw [← hR4]; exact shaN_lt _)
  have HR1 := Lib.hid hR1
  have HR2 := Lib.hid hR2
  have HR3 := Lib.hid hR3
  have HR4 := Lib.hid hR4
  have HXL := Lib.hid hxl
  have HXB := Lib.hid hxb
  have HYL := Lib.hid hyl
  have HYB := Lib.hid hyb
  have HX := Lib.hid hx
  have HY := Lib.hid hy
  have HS := Lib.hid hS
  have HU1 := Lib.hid hu.1
  have HU2 := Lib.hid hu.2
  have HG := Lib.hid hG
  clear h hu hG hS hbt hx hxl hxb hy hyl hyb hR1 hR2 hR3 hR4
  go_enter Tryd.func3, Tryd.ntmps3
  go_wp2_with fail
  refine calls_named1 (fun W hB g0 hz => ?_)
  refine (sanity7_any W (HG.out.keep hB)).mono ?_
  rintro e W1 ⟨rfl, hb⟩
  have HB1 := Lib.hid (hB.trans (hb.mono hB.size))
  have g1 := heap_keep g0 hb
  have k0 := Later.cell (cells_at g1 0 (v := .slice A1 n1 c1) rfl)
  have k1 := Later.cell (cells_at g1 1 (v := .slice A2 n2 c2) rfl)
  have HS1 := Lib.hid (HS.out.keep HB1.out)
  have HU11 := Lib.hid (HU1.out.keep HB1.out)
  have HU21 := Lib.hid (HU2.out.keep HB1.out)
  clear hB hb g0 g1 hz HS HU1 HU2
  go_upto_region 3 with fail
  refine wp_decl (l2 := [_, _]) (l3 := [_, _]) (zs := [.cells z32 26, .cells z32 26]) 6 (by kernel_rfl) (lexOK_of (by kernel_rfl) (by kernel_rfl)) rfl (Nat.le_of_ble_eq_true rfl) (by simp) (by kernel_rfl) (by kernel_rfl) rfl
    (all_cons rfl (all_cons rfl all_nil)) (mk_same 26 _ run_allocD (all_cons rfl (all_cons rfl all_nil)) (all_cons rfl (all_cons rfl all_nil))) ?_
  simp only [List.take_succ_cons, List.take_zero]
  have hB1 : ∀ X : Later W1, Calls Tryd.prog 12 #[.slice A1 n1 c1] X.at fun e w' => e = .returned (.agg (celB x).toArray) ∧ Below X.at.heap.size X.at w' := fun X => rmade_eq (HU11.out.keep X.below) HX.out
  have hB2 : ∀ X : Later W1, Calls Tryd.prog 12 #[.slice A2 n2 c2] X.at fun e w' => e = .returned (.agg (celB y).toArray) ∧ Below X.at.heap.size X.at w' := fun X => rmade_eq (HU21.out.keep X.below) HY.out
  repeat (refine wpCalm_step (fun K hK => ?_); go_simp; first
    | (refine hK _ ?_; clear hK K)
    | (apply Exists.intro
       refine ⟨fun _ => ?_, hK _ ?_⟩
       · first
         | (go_at_call 12; with_reducible exact hB1 _)
         | (go_at_call 12; with_reducible exact hB2 _)
       clear hK K))
  refine wpCalm_nil ?_
  refine fun ba bb X hX => ?_
  have pa := hX.get 6 ba _ rfl rfl
  have pb := hX.get 7 bb _ rfl rfl
  have nab := hX.ne 6 7 ba bb (by omega) rfl rfl
  have hb := hX.below
  have HB0 := HB1.out.size
  have HBX := Lib.hid (bel_step HB1.out (hb.mono (Nat.le_refl _)))
  have hla : ba < X.heap.size := (Array.getElem?_eq_some_iff.1 pa.1).1
  have hlb : bb < X.heap.size := (Array.getElem?_eq_some_iff.1 pb.1).1
  have PA := Lib.hid (show RowB X 26 ba (List.replicate 32 0) from pa.1)
  have PB := Lib.hid (show RowB X 26 bb (List.replicate 32 0) from pb.1)
  have hga : W1.heap.size ≤ ba := pa.2
  have hgb : W1.heap.size ≤ bb := pb.2
  have HB2 := Lib.hid hb
  clear pa pb hb hX k0 k1 hB1 hB2 HU11 HU21
  simp only [Act.put, List.setIfInBounds_toArray, List.set_cons_zero, List.set_cons_succ]
  refine wpList_skip0 rfl (X.setRow ba (celB x).toArray) (exec_storeD (x := .tmp 6) (y := .tmp 16) HXL.out List.length_replicate PA.out rfl rfl rfl) ?_
  have PA2 := Lib.hid (PA.out.row x)
  have PB2 := Lib.hid (PB.out.farRow (Ne.symm nab) (celB x).toArray)
  have HB3 := Lib.hid (bel_setRow HB2.out hga (celB x).toArray)
  clear PA PB HB2
  generalize X.setRow ba (celB x).toArray = X2 at *
  simp only [Act.put, List.setIfInBounds_toArray, List.set_cons_zero, List.set_cons_succ]
  refine wpList_skip0 rfl (X2.setRow bb (celB y).toArray) (exec_storeD (x := .tmp 7) (y := .tmp 19) HYL.out List.length_replicate PB2.out rfl rfl rfl) ?_
  have PA3 := Lib.hid (PA2.out.farRow nab (celB y).toArray)
  have PB3 := Lib.hid (PB2.out.row y)
  have HB4 := Lib.hid (bel_setRow HB3.out hgb (celB y).toArray)
  clear PA2 PB2 HB3
  generalize X2.setRow bb (celB y).toArray = V at *
  have HB := Lib.hid (bel_step HB1.out HB4.out)
  have HT := Lib.hid (HS1.out.keep HB4.out)
  have hla : ba < V.heap.size := PA3.out.lt
  have hlb : bb < V.heap.size := PB3.out.lt
  have hzV : w.heap.size ≤ V.heap.size := HB.out.size
  clear HB4 HS1 HB1 HBX
  refine wpList_nil ?_
  simp only [Act.put, List.setIfInBounds_toArray, List.set_cons_zero, List.set_cons_succ]
  go_upto_region 4 with fail
  refine Tl.wp_held_tailB 33 V.heap.size (by kernel_rfl) (lexOK_of (by kernel_rfl) (by kernel_rfl)) (Tl.chainW_of (by kernel_rfl)) rfl (by kernel_rfl) (by kernel_rfl) (fun W0 hbW hSW => ?_)
  have HBc0 := Lib.hid (bel_step HB.out hbW)
  have HTc0 := Lib.hid (HT.out.keep hbW)
  have HSc0 := Lib.hid hSW
  have hzc0 := hbW.size
  clear hbW hSW HT HB
  refine wpHeld_seg 1 HSc0.out (by kernel_rfl) ?_
  simp only [List.take_succ_cons, List.take_zero, List.drop_succ_cons, List.drop_zero]
  iterate 1 (go_big_quiet_step (fail))
  refine wpQuiet_nil ?_
  refine wpHeld_call 13 Tryd.func13 (by kernel_rfl) (by kernel_rfl) _ _ #[.slice A m c] rfl (by kernel_rfl) (by kernel_rfl) ?_
  refine (sum_any A m c bt W0 HTc0.out (by omega) (HG.out.keep HBc0.out) R1 HR1.out).mono ?_
  rintro e X1 ⟨rfl, hb⟩
  have HBc1 := Lib.hid (bel_step HBc0.out hb)
  have HTc1 := Lib.hid (HTc0.out.keep hb)
  have HSc1 := Lib.hid (LaterB.step HSc0.out (hb.mono (by omega)))
  have hzc1 : V.heap.size ≤ X1.heap.size := by have := hb.size; omega
  clear hb HBc0 HSc0 hzc0 HTc0
  refine ⟨_, rfl, HSc1.out, ?_⟩
  simp only [Act.put, List.setIfInBounds_toArray, List.set_cons_zero, List.set_cons_succ]
  refine wpHeld_seg 1 HSc1.out (by kernel_rfl) ?_
  simp only [List.take_succ_cons, List.take_zero, List.drop_succ_cons, List.drop_zero]
  iterate 1 (go_big_quiet_step (fail))
  refine wpQuiet_nil ?_
  refine wpHeld_call 14 Tryd.func14 (by kernel_rfl) (by kernel_rfl) _ _ #[.slice A m c] rfl (by kernel_rfl) (by kernel_rfl) ?_
  refine (rsum_any A m c bt X1 HTc1.out (by omega) R1 HR1.out).mono ?_
  rintro e X2 ⟨rfl, hb⟩
  have HBc2 := Lib.hid (bel_step HBc1.out hb)
  have HTc2 := Lib.hid (HTc1.out.keep hb)
  have HSc2 := Lib.hid (LaterB.step HSc1.out (hb.mono (by omega)))
  have hzc2 : V.heap.size ≤ X2.heap.size := by have := hb.size; omega
  clear hb HBc1 HSc1 hzc1 HTc1
  refine ⟨_, rfl, HSc2.out, ?_⟩
  simp only [Act.put, List.setIfInBounds_toArray, List.set_cons_zero, List.set_cons_succ]
  refine wpHeld_seg 3 HSc2.out (by kernel_rfl) ?_
  simp only [List.take_succ_cons, List.take_zero, List.drop_succ_cons, List.drop_zero]
  iterate 3 (go_big_quiet_step (fail))
  refine wpQuiet_nil ?_
  refine wpHeld_call 15 Tryd.func15 (by kernel_rfl) (by kernel_rfl) _ _ #[.slice A m c] rfl (by kernel_rfl) (by kernel_rfl) ?_
  refine (leaf_any A m c bt X2 HTc2.out (by omega) (HG.out.keep HBc2.out) R2 HR2.out).mono ?_
  rintro e X3 ⟨rfl, hb⟩
  have HBc3 := Lib.hid (bel_step HBc2.out hb)
  have HTc3 := Lib.hid (HTc2.out.keep hb)
  have HSc3 := Lib.hid (LaterB.step HSc2.out (hb.mono (by omega)))
  have hzc3 : V.heap.size ≤ X3.heap.size := by have := hb.size; omega
  clear hb HBc2 HSc2 hzc2 HTc2
  refine ⟨_, rfl, HSc3.out, ?_⟩
  simp only [Act.put, List.setIfInBounds_toArray, List.set_cons_zero, List.set_cons_succ]
  refine wpHeld_seg 1 HSc3.out (by kernel_rfl) ?_
  simp only [List.take_succ_cons, List.take_zero, List.drop_succ_cons, List.drop_zero]
  iterate 1 (go_big_quiet_step (fail))
  refine wpQuiet_nil ?_
  refine wpHeld_call 16 Tryd.func16 (by kernel_rfl) (by kernel_rfl) _ _ #[.slice A m c] rfl (by kernel_rfl) (by kernel_rfl) ?_
  refine (rleaf_any A m c bt X3 HTc3.out (by omega) R2 HR2.out).mono ?_
  rintro e X4 ⟨rfl, hb⟩
  have HBc4 := Lib.hid (bel_step HBc3.out hb)
  have HTc4 := Lib.hid (HTc3.out.keep hb)
  have HSc4 := Lib.hid (LaterB.step HSc3.out (hb.mono (by omega)))
  have hzc4 : V.heap.size ≤ X4.heap.size := by have := hb.size; omega
  clear hb HBc3 HSc3 hzc3 HTc3
  refine ⟨_, rfl, HSc4.out, ?_⟩
  simp only [Act.put, List.setIfInBounds_toArray, List.set_cons_zero, List.set_cons_succ]
  refine wpHeld_seg 5 HSc4.out (by kernel_rfl) ?_
  simp only [List.take_succ_cons, List.take_zero, List.drop_succ_cons, List.drop_zero]
  iterate 3 (go_big_quiet_step (fail))
  refine wpQuiet_val (by kernel_rfl) _ (fun v hv => exec_loadD HXL.out (PA3.out.same ((LaterB.of hv).block _ (by omega))) rfl rfl) ?_
  simp only [Act.put, List.setIfInBounds_toArray, List.set_cons_zero, List.set_cons_succ]
  refine wpQuiet_val (by kernel_rfl) _ (fun v hv => exec_loadD HYL.out (PB3.out.same ((LaterB.of hv).block _ (by omega))) rfl rfl) ?_
  simp only [Act.put, List.setIfInBounds_toArray, List.set_cons_zero, List.set_cons_succ]
  refine wpQuiet_nil ?_
  refine wpHeld_call 17 Tryd.func17 (by kernel_rfl) (by kernel_rfl) _ _ #[.agg (celB x).toArray, .agg (celB y).toArray] rfl (by kernel_rfl) (by kernel_rfl) ?_
  refine (pair_any x y X4 HXL.out HYL.out HXB.out HYB.out (HG.out.keep HBc4.out) R3 HR3.out).mono ?_
  rintro e X5 ⟨rfl, hb⟩
  have HBc5 := Lib.hid (bel_step HBc4.out hb)
  have HTc5 := Lib.hid (HTc4.out.keep hb)
  have HSc5 := Lib.hid (LaterB.step HSc4.out (hb.mono (by omega)))
  have hzc5 : V.heap.size ≤ X5.heap.size := by have := hb.size; omega
  clear hb HBc4 HSc4 hzc4 HTc4
  refine ⟨_, rfl, HSc5.out, ?_⟩
  simp only [Act.put, List.setIfInBounds_toArray, List.set_cons_zero, List.set_cons_succ]
  refine wpHeld_seg 2 HSc5.out (by kernel_rfl) ?_
  simp only [List.take_succ_cons, List.take_zero, List.drop_succ_cons, List.drop_zero]
  refine wpQuiet_val (by kernel_rfl) _ (fun v hv => exec_loadD HXL.out (PA3.out.same ((LaterB.of hv).block _ (by omega))) rfl rfl) ?_
  simp only [Act.put, List.setIfInBounds_toArray, List.set_cons_zero, List.set_cons_succ]
  refine wpQuiet_val (by kernel_rfl) _ (fun v hv => exec_loadD HYL.out (PB3.out.same ((LaterB.of hv).block _ (by omega))) rfl rfl) ?_
  simp only [Act.put, List.setIfInBounds_toArray, List.set_cons_zero, List.set_cons_succ]
  refine wpQuiet_nil ?_
  refine wpHeld_call 18 Tryd.func18 (by kernel_rfl) (by kernel_rfl) _ _ #[.agg (celB x).toArray, .agg (celB y).toArray] rfl (by kernel_rfl) (by kernel_rfl) ?_
  refine (rpair_any x y X5 HXL.out HYL.out HXB.out HYB.out R3 HR3.out).mono ?_
  rintro e X6 ⟨rfl, hb⟩
  have HBc6 := Lib.hid (bel_step HBc5.out hb)
  have HTc6 := Lib.hid (HTc5.out.keep hb)
  have HSc6 := Lib.hid (LaterB.step HSc5.out (hb.mono (by omega)))
  have hzc6 : V.heap.size ≤ X6.heap.size := by have := hb.size; omega
  clear hb HBc5 HSc5 hzc5 HTc5
  refine ⟨_, rfl, HSc6.out, ?_⟩
  simp only [Act.put, List.setIfInBounds_toArray, List.set_cons_zero, List.set_cons_succ]
  refine wpHeld_seg 5 HSc6.out (by kernel_rfl) ?_
  simp only [List.take_succ_cons, List.take_zero, List.drop_succ_cons, List.drop_zero]
  iterate 3 (go_big_quiet_step (fail))
  refine wpQuiet_val (by kernel_rfl) _ (fun v hv => exec_loadD HXL.out (PA3.out.same ((LaterB.of hv).block _ (by omega))) rfl rfl) ?_
  simp only [Act.put, List.setIfInBounds_toArray, List.set_cons_zero, List.set_cons_succ]
  iterate 1 (go_big_quiet_step (fail))
  refine wpQuiet_nil ?_
  refine wpHeld_call 19 Tryd.func19 (by kernel_rfl) (by kernel_rfl) _ _ #[.agg (celB x).toArray, .slice A m c] rfl (by kernel_rfl) (by kernel_rfl) ?_
  refine (keyed_any x A m c bt X6 HXL.out HXB.out HTc6.out (by omega) (HG.out.keep HBc6.out) R4 HR4.out).mono ?_
  rintro e X7 ⟨rfl, hb⟩
  have HBc7 := Lib.hid (bel_step HBc6.out hb)
  have HTc7 := Lib.hid (HTc6.out.keep hb)
  have HSc7 := Lib.hid (LaterB.step HSc6.out (hb.mono (by omega)))
  have hzc7 : V.heap.size ≤ X7.heap.size := by have := hb.size; omega
  clear hb HBc6 HSc6 hzc6 HTc6
  refine ⟨_, rfl, HSc7.out, ?_⟩
  simp only [Act.put, List.setIfInBounds_toArray, List.set_cons_zero, List.set_cons_succ]
  refine wpHeld_seg 2 HSc7.out (by kernel_rfl) ?_
  simp only [List.take_succ_cons, List.take_zero, List.drop_succ_cons, List.drop_zero]
  refine wpQuiet_val (by kernel_rfl) _ (fun v hv => exec_loadD HXL.out (PA3.out.same ((LaterB.of hv).block _ (by omega))) rfl rfl) ?_
  simp only [Act.put, List.setIfInBounds_toArray, List.set_cons_zero, List.set_cons_succ]
  iterate 1 (go_big_quiet_step (fail))
  refine wpQuiet_nil ?_
  refine wpHeld_call 20 Tryd.func20 (by kernel_rfl) (by kernel_rfl) _ _ #[.agg (celB x).toArray, .slice A m c] rfl (by kernel_rfl) (by kernel_rfl) ?_
  refine (rkeyed_any x A m c bt X7 HXL.out HXB.out HTc7.out (by omega) R4 HR4.out).mono ?_
  rintro e X8 ⟨rfl, hb⟩
  have HBc8 := Lib.hid (bel_step HBc7.out hb)
  have HTc8 := Lib.hid (HTc7.out.keep hb)
  have HSc8 := Lib.hid (LaterB.step HSc7.out (hb.mono (by omega)))
  have hzc8 : V.heap.size ≤ X8.heap.size := by have := hb.size; omega
  clear hb HBc7 HSc7 hzc7 HTc7
  refine ⟨_, rfl, HSc8.out, ?_⟩
  simp only [Act.put, List.setIfInBounds_toArray, List.set_cons_zero, List.set_cons_succ]
  refine wpHeld_seg 5 HSc8.out (by kernel_rfl) ?_
  simp only [List.take_succ_cons, List.take_zero, List.drop_succ_cons, List.drop_zero]
  iterate 5 (go_big_quiet_step (fail))
  refine wpQuiet_nil ?_
  refine wpHeld_nil ?_
  refine mOp_val (.bool true) rfl rfl rfl ?_
  go_wp2_with fail
  go_ret
  exact ⟨rfl, HBc8.out⟩
end Go.Proofs.YtliflbelhogopaaDoor
