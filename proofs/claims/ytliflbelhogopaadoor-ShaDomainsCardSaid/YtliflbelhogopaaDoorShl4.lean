/- The walk of ShaDomains. -/
import Derived.Test.YtliflbelhogopaaDoorShf1
namespace Go.Proofs.YtliflbelhogopaaDoor
set_option maxRecDepth 8000
open Go.RowKit
attribute [local simp] z32_ne z32_run
attribute [-simp] Tryd.zeroValue26 Tryd.isAgg26 Tryd.sizeOf26
set_option maxHeartbeats 4000000 in
theorem shaDomains_any (A : Option Addr) (n c : Nat) (bs : List Nat) (A1 : Option Addr) (n1 c1 : Nat) (b1 : List Nat) (A2 : Option Addr) (n2 c2 : Nat) (b2 : List Nat) (w : World) (h : Sb w A n c bs) (hu : Sb w A1 n1 c1 b1 ∧ Sb w A2 n2 c2 b2) (hG : Gl w) :
    Calls Tryd.prog 6 #[.slice A n c, .agg #[.slice A1 n1 c1, .slice A2 n2 c2]] w fun e w' => e = .returned (.bool true) ∧ Below w.heap.size w w' := by
  obtain ⟨m, hm, hmn, hm4⟩ := min400 n 400
  have hm' : (if (400 : Int) < (n : Int) then (400 : Int) else (n : Int)) = (m : Int) := hm
  clear hm
  have hcap := h.cap
  have hcm := h.top
  have hS := h.take hmn
  obtain ⟨bt, hbt⟩ : ∃ bt, bs.take m = bt := ⟨_, rfl⟩
  rw [hbt] at hS
  obtain ⟨x, hx⟩ : ∃ x, madeN b1 = x := ⟨_, rfl⟩
  have hxl : x.length = 32 := by rw [← hx]; exact madeN_length _
  have hxb : ∀ z ∈ x, z < 256 := by rw [← hx]; exact madeN_lt hu.1.byte
  obtain ⟨y, hy⟩ : ∃ y, madeN b2 = y := ⟨_, rfl⟩
  have hyl : y.length = 32 := by rw [← hy]; exact madeN_length _
  have hyb : ∀ z ∈ y, z < 256 := by rw [← hy]; exact madeN_lt hu.2.byte
  obtain ⟨R1, hR1⟩ : ∃ R, shaN bt = R := ⟨_, rfl⟩
  obtain ⟨R2, hR2⟩ : ∃ R, shaN (0 :: bt) = R := ⟨_, rfl⟩
  obtain ⟨R3, hR3⟩ : ∃ R, shaN (1 :: (x ++ y)) = R := ⟨_, rfl⟩
  obtain ⟨R4, hR4⟩ : ∃ R, shaN (0 :: (x ++ y)) = R := ⟨_, rfl⟩
  have heq1 := run_eqD_same R1 (by rw [← hR1]; exact shaN_length _) (by rw [← hR1]; exact shaN_lt _)
  have heq2 := run_eqD_same R2 (by rw [← hR2]; exact shaN_length _) (by rw [← hR2]; exact shaN_lt _)
  have heq3 := run_eqD_same R3 (by rw [← hR3]; exact shaN_length _) (by rw [← hR3]; exact shaN_lt _)
  have heq4 := run_eqD_same R4 (by rw [← hR4]; exact shaN_length _) (by rw [← hR4]; exact shaN_lt _)
  have HR1 := Lib.hid hR1
  have HR2 := Lib.hid hR2
  have HR3 := Lib.hid hR3
  have HR4 := Lib.hid hR4
  have HXL := Lib.hid hxl
  have HXB := Lib.hid hxb
  have HYL := Lib.hid hyl
  have HYB := Lib.hid hyb
  have HX := Lib.hid hx
  have HY := Lib.hid hy
  have HS := Lib.hid hS
  have HU1 := Lib.hid hu.1
  have HU2 := Lib.hid hu.2
  have HG := Lib.hid hG
  clear h hu hG hS hbt hx hxl hxb hy hyl hyb hR1 hR2 hR3 hR4
  go_enter Tryd.func6, Tryd.ntmps6
  go_wp2_with fail
  refine calls_named1 (fun W hB g0 hz => ?_)
  refine (sanity7_any W (HG.out.keep hB)).mono ?_
  rintro e W1 ⟨rfl, hb⟩
  have HB1 := Lib.hid (hB.trans (hb.mono hB.size))
  have g1 := heap_keep g0 hb
  have k0 := Later.cell (cells_at g1 0 (v := .slice A1 n1 c1) rfl)
  have k1 := Later.cell (cells_at g1 1 (v := .slice A2 n2 c2) rfl)
  have HS1 := Lib.hid (HS.out.keep HB1.out)
  have HU11 := Lib.hid (HU1.out.keep HB1.out)
  have HU21 := Lib.hid (HU2.out.keep HB1.out)
  clear hB hb g0 g1 hz HS HU1 HU2
  go_upto_region 3 with fail
  refine wp_decl (l2 := [_, _]) (l3 := [_, _]) (zs := [.cells z32 26, .cells z32 26]) 6 (by kernel_rfl) (lexOK_of (by kernel_rfl) (by kernel_rfl)) rfl (Nat.le_of_ble_eq_true rfl) (by simp) (by kernel_rfl) (by kernel_rfl) rfl
    (all_cons rfl (all_cons rfl all_nil)) (mk_same 26 _ run_allocD (all_cons rfl (all_cons rfl all_nil)) (all_cons rfl (all_cons rfl all_nil))) ?_
  simp only [List.take_succ_cons, List.take_zero]
  have hB1 : ∀ X : Later W1, Calls Tryd.prog 12 #[.slice A1 n1 c1] X.at fun e w' => e = .returned (.agg (celB x).toArray) ∧ Below X.at.heap.size X.at w' := fun X => rmade_eq (HU11.out.keep X.below) HX.out
  have hB2 : ∀ X : Later W1, Calls Tryd.prog 12 #[.slice A2 n2 c2] X.at fun e w' => e = .returned (.agg (celB y).toArray) ∧ Below X.at.heap.size X.at w' := fun X => rmade_eq (HU21.out.keep X.below) HY.out
  repeat (refine wpCalm_step (fun K hK => ?_); go_simp; first
    | (refine hK _ ?_; clear hK K)
    | (apply Exists.intro
       refine ⟨fun _ => ?_, hK _ ?_⟩
       · first
         | (go_at_call 12; with_reducible exact hB1 _)
         | (go_at_call 12; with_reducible exact hB2 _)
       clear hK K))
  refine wpCalm_nil ?_
  refine fun ba bb X hX => ?_
  have pa := hX.get 6 ba _ rfl rfl
  have pb := hX.get 7 bb _ rfl rfl
  have nab := hX.ne 6 7 ba bb (by omega) rfl rfl
  have hb := hX.below
  have HB0 := HB1.out.size
  have HBX := Lib.hid (bel_step HB1.out (hb.mono (Nat.le_refl _)))
  have hla : ba < X.heap.size := (Array.getElem?_eq_some_iff.1 pa.1).1
  have hlb : bb < X.heap.size := (Array.getElem?_eq_some_iff.1 pb.1).1
  have PA := Lib.hid (show RowB X 26 ba (List.replicate 32 0) from pa.1)
  have PB := Lib.hid (show RowB X 26 bb (List.replicate 32 0) from pb.1)
  have hga : W1.heap.size ≤ ba := pa.2
  have hgb : W1.heap.size ≤ bb := pb.2
  have HB2 := Lib.hid hb
  clear pa pb hb hX k0 k1 hB1 hB2 HU11 HU21
  simp only [ptr, Act.put, List.setIfInBounds_toArray, List.set_cons_zero, List.set_cons_succ]
  refine wpList_skip0 rfl (X.setRow ba (celB x).toArray) (exec_storeD (x := .tmp 6) (y := .tmp 17) HXL.out List.length_replicate PA.out rfl rfl rfl) ?_
  have PA2 := Lib.hid (PA.out.row x)
  have PB2 := Lib.hid (PB.out.farRow (Ne.symm nab) (celB x).toArray)
  have HB3 := Lib.hid (bel_setRow HB2.out hga (celB x).toArray)
  clear PA PB HB2
  generalize X.setRow ba (celB x).toArray = X2 at *
  simp only [ptr, Act.put, List.setIfInBounds_toArray, List.set_cons_zero, List.set_cons_succ]
  refine wpList_skip0 rfl (X2.setRow bb (celB y).toArray) (exec_storeD (x := .tmp 7) (y := .tmp 20) HYL.out List.length_replicate PB2.out rfl rfl rfl) ?_
  have PA3 := Lib.hid (PA2.out.farRow nab (celB y).toArray)
  have PB3 := Lib.hid (PB2.out.row y)
  have HB4 := Lib.hid (bel_setRow HB3.out hgb (celB y).toArray)
  clear PA2 PB2 HB3
  generalize X2.setRow bb (celB y).toArray = V at *
  have HB := Lib.hid (bel_step HB1.out HB4.out)
  have HT := Lib.hid (HS1.out.keep HB4.out)
  have hla : ba < V.heap.size := PA3.out.lt
  have hlb : bb < V.heap.size := PB3.out.lt
  have hzV : w.heap.size ≤ V.heap.size := HB.out.size
  clear HB4 HS1 HB1 HBX
  refine wpList_nil ?_
  simp only [ptr, Act.put, List.setIfInBounds_toArray, List.set_cons_zero, List.set_cons_succ]
  have QA := Lib.hid PA3.out
  have QB := Lib.hid PB3.out
  go_upto_region 4 with fail
  refine wp_heldB V.heap.size (by kernel_rfl) (lexOK_of (by kernel_rfl) (by kernel_rfl)) (chainOK_of (by kernel_rfl)) (fun W0 hbW hSW => ?_)
  have HBc0 := Lib.hid (bel_step HB.out hbW)
  have HTc0 := Lib.hid (HT.out.keep hbW)
  have QAc0 := Lib.hid (QA.out.keep hbW)
  have QBc0 := Lib.hid (QB.out.keep hbW)
  have HSc0 := Lib.hid hSW
  have hzc0 := hbW.size
  clear hbW hSW HT QA QB HB
  refine wpHeld_seg 1 HSc0.out (by kernel_rfl) ?_
  simp only [List.take_succ_cons, List.take_zero, List.drop_succ_cons, List.drop_zero]
  refine wpQuiet_val (by kernel_rfl) _ (fun v hv => exec_loadD HXL.out (PA3.out.same ((LaterB.of hv).block _ (by omega))) rfl rfl) ?_
  simp only [Act.put, List.setIfInBounds_toArray, List.set_cons_zero, List.set_cons_succ]
  refine wpQuiet_nil ?_
  refine wpHeld_call 27 Tryd.func27 (by kernel_rfl) (by kernel_rfl) _ _ #[.agg (celB x).toArray] rfl (by kernel_rfl) (by kernel_rfl) ?_
  refine (rbytes_any x W0 HXL.out HXB.out).mono ?_
  rintro e X1 ⟨C1, f1, rfl, hs, hb⟩
  have HBc1 := Lib.hid (bel_step HBc0.out hb)
  have HTc1 := Lib.hid (HTc0.out.keep hb)
  have QAc1 := Lib.hid (QAc0.out.keep hb)
  have QBc1 := Lib.hid (QBc0.out.keep hb)
  have HN1c1 := Lib.hid hs
  have HSc1 := Lib.hid (LaterB.step HSc0.out (hb.mono (by omega)))
  have hzc1 : V.heap.size ≤ X1.heap.size := by have := hb.size; omega
  clear hb hs HBc0 HSc0 hzc0 HTc0 QAc0 QBc0
  refine ⟨_, rfl, HSc1.out, ?_⟩
  simp only [Act.put, List.setIfInBounds_toArray, List.set_cons_zero, List.set_cons_succ]
  refine wpHeld_seg 1 HSc1.out (by kernel_rfl) ?_
  simp only [List.take_succ_cons, List.take_zero, List.drop_succ_cons, List.drop_zero]
  refine wpQuiet_val (by kernel_rfl) _ (fun v hv => exec_loadD HYL.out (PB3.out.same ((LaterB.of hv).block _ (by omega))) rfl rfl) ?_
  simp only [Act.put, List.setIfInBounds_toArray, List.set_cons_zero, List.set_cons_succ]
  refine wpQuiet_nil ?_
  refine wpHeld_call 27 Tryd.func27 (by kernel_rfl) (by kernel_rfl) _ _ #[.agg (celB y).toArray] rfl (by kernel_rfl) (by kernel_rfl) ?_
  refine (rbytes_any y X1 HYL.out HYB.out).mono ?_
  rintro e X2 ⟨C2, f2, rfl, hs, hb⟩
  have HBc2 := Lib.hid (bel_step HBc1.out hb)
  have HTc2 := Lib.hid (HTc1.out.keep hb)
  have QAc2 := Lib.hid (QAc1.out.keep hb)
  have QBc2 := Lib.hid (QBc1.out.keep hb)
  have HN1c2 := Lib.hid (HN1c1.out.keep hb)
  have HN2c2 := Lib.hid hs
  have HSc2 := Lib.hid (LaterB.step HSc1.out (hb.mono (by omega)))
  have hzc2 : V.heap.size ≤ X2.heap.size := by have := hb.size; omega
  clear hb hs HBc1 HSc1 hzc1 HTc1 QAc1 QBc1 HN1c1
  refine ⟨_, rfl, HSc2.out, ?_⟩
  simp only [Act.put, List.setIfInBounds_toArray, List.set_cons_zero, List.set_cons_succ]
  refine wpHeld_call 26 Tryd.func26 (by kernel_rfl) (by kernel_rfl) _ _ #[.slice C1 32 f1, .slice C2 32 f2] rfl (by kernel_rfl) (by kernel_rfl) ?_
  refine (rjoin_any C1 32 f1 x C2 32 f2 y X2 HN1c2.out HN2c2.out (by omega)).mono ?_
  rintro e X3 ⟨C3, f3, rfl, hs, hb⟩
  have HBc3 := Lib.hid (bel_step HBc2.out hb)
  have HTc3 := Lib.hid (HTc2.out.keep hb)
  have QAc3 := Lib.hid (QAc2.out.keep hb)
  have QBc3 := Lib.hid (QBc2.out.keep hb)
  have HN1c3 := Lib.hid (HN1c2.out.keep hb)
  have HN2c3 := Lib.hid (HN2c2.out.keep hb)
  have HNc3 := Lib.hid hs
  have HSc3 := Lib.hid (LaterB.step HSc2.out (hb.mono (by omega)))
  have hzc3 : V.heap.size ≤ X3.heap.size := by have := hb.size; omega
  clear hb hs HBc2 HSc2 hzc2 HTc2 QAc2 QBc2 HN1c2 HN2c2
  refine ⟨_, rfl, HSc3.out, ?_⟩
  simp only [Act.put, List.setIfInBounds_toArray, List.set_cons_zero, List.set_cons_succ]
  clear HN1c3
  clear HN2c3
  refine wpHeld_seg 1 HSc3.out (by kernel_rfl) ?_
  simp only [List.take_succ_cons, List.take_zero, List.drop_succ_cons, List.drop_zero]
  iterate 1 (go_big_quiet_step (fail))
  refine wpQuiet_nil ?_
  refine wpHeld_nil ?_
  have hxy : (x ++ y).length = 64 := by rw [List.length_append, HXL.out, HYL.out]
  clear PA3 PB3 hla hlb hzV HSc3 hzc3
  go_wp2_with fail
  refine (leaf_any A m c bt X3 HTc3.out (by omega) (HG.out.keep HBc3.out) R2 HR2.out).mono ?_
  rintro e X4 ⟨rfl, hb⟩
  have HBc4 := Lib.hid (bel_step HBc3.out hb)
  have HTc4 := Lib.hid (HTc3.out.keep hb)
  have QAc4 := Lib.hid (QAc3.out.keep hb)
  have QBc4 := Lib.hid (QBc3.out.keep hb)
  have HNc4 := Lib.hid (HNc3.out.keep hb)
  clear hb HBc3 HTc3 QAc3 QBc3 HNc3
  go_wp2_with fail
  refine calls_named1 (fun X5 hb g0 hz => ?_)
  have HBc5 := Lib.hid (bel_step HBc4.out hb)
  have HTc5 := Lib.hid (HTc4.out.keep hb)
  have QAc5 := Lib.hid (QAc4.out.keep hb)
  have QBc5 := Lib.hid (QBc4.out.keep hb)
  have HNc5 := Lib.hid (HNc4.out.keep hb)
  have HO := Lib.hid ((show RowB X5 5 X4.heap.size [0] from g0).all (n := 1) (c := 1) (by decide) rfl (Nat.le_refl _) (by omega))
  clear hb g0 hz HBc4 HTc4 QAc4 QBc4 HNc4
  generalize X4.heap.size = q5 at *
  refine (rjoin_any (some ⟨q5, 0, none⟩) 1 1 [0] A m c bt X5 HO.out HTc5.out (by omega)).mono ?_
  rintro e X6 ⟨C4, f4, rfl, hs, hb⟩
  have HBc6 := Lib.hid (bel_step HBc5.out hb)
  have HTc6 := Lib.hid (HTc5.out.keep hb)
  have QAc6 := Lib.hid (QAc5.out.keep hb)
  have QBc6 := Lib.hid (QBc5.out.keep hb)
  have HNc6 := Lib.hid (HNc5.out.keep hb)
  have HJc6 := Lib.hid hs
  clear hb hs HBc5 HTc5 QAc5 QBc5 HNc5
  clear HO
  go_wp2_with fail
  refine (sum_any C4 (1 + m) f4 _ X6 HJc6.out (by omega) (HG.out.keep HBc6.out) R2 HR2.out).mono ?_
  clear HJc6
  rintro e X7 ⟨rfl, hb⟩
  have HBc7 := Lib.hid (bel_step HBc6.out hb)
  have HTc7 := Lib.hid (HTc6.out.keep hb)
  have QAc7 := Lib.hid (QAc6.out.keep hb)
  have QBc7 := Lib.hid (QBc6.out.keep hb)
  have HNc7 := Lib.hid (HNc6.out.keep hb)
  clear hb HBc6 HTc6 QAc6 QBc6 HNc6
  have hldx := run_loadB (P := Tryd.prog) QAc7.out 32 HXL.out
  have hldy := run_loadB (P := Tryd.prog) QBc7.out 32 HYL.out
  go_wp2_with fail
  simp only [Tryd.isAgg26, Tryd.sizeOf26, Result.andThen, ↓reduceIte, hldx]
  rw [Oper.upon_value]
  go_wp2_with fail
  simp only [Tryd.isAgg26, Tryd.sizeOf26, Result.andThen, ↓reduceIte, hldy]
  rw [Oper.upon_value]
  clear hldx hldy
  go_wp2_with fail
  refine (pair_any x y X7 HXL.out HYL.out HXB.out HYB.out (HG.out.keep HBc7.out) R3 HR3.out).mono ?_
  rintro e X8 ⟨rfl, hb⟩
  have HBc8 := Lib.hid (bel_step HBc7.out hb)
  have HTc8 := Lib.hid (HTc7.out.keep hb)
  have QAc8 := Lib.hid (QAc7.out.keep hb)
  have QBc8 := Lib.hid (QBc7.out.keep hb)
  have HNc8 := Lib.hid (HNc7.out.keep hb)
  clear hb HBc7 HTc7 QAc7 QBc7 HNc7
  go_wp2_with fail
  refine calls_named1 (fun X9 hb g0 hz => ?_)
  have HBc9 := Lib.hid (bel_step HBc8.out hb)
  have HTc9 := Lib.hid (HTc8.out.keep hb)
  have QAc9 := Lib.hid (QAc8.out.keep hb)
  have QBc9 := Lib.hid (QBc8.out.keep hb)
  have HNc9 := Lib.hid (HNc8.out.keep hb)
  have HO := Lib.hid ((show RowB X9 5 X8.heap.size [1] from g0).all (n := 1) (c := 1) (by decide) rfl (Nat.le_refl _) (by omega))
  clear hb g0 hz HBc8 HTc8 QAc8 QBc8 HNc8
  generalize X8.heap.size = q9 at *
  refine (rjoin_any (some ⟨q9, 0, none⟩) 1 1 [1] C3 64 f3 (x ++ y) X9 HO.out HNc9.out (by omega)).mono ?_
  rintro e X10 ⟨C5, f5, rfl, hs, hb⟩
  have HBc10 := Lib.hid (bel_step HBc9.out hb)
  have HTc10 := Lib.hid (HTc9.out.keep hb)
  have QAc10 := Lib.hid (QAc9.out.keep hb)
  have QBc10 := Lib.hid (QBc9.out.keep hb)
  have HNc10 := Lib.hid (HNc9.out.keep hb)
  have HJc10 := Lib.hid hs
  clear hb hs HBc9 HTc9 QAc9 QBc9 HNc9
  clear HO
  go_wp2_with fail
  refine (sum_any C5 65 f5 _ X10 HJc10.out (by omega) (HG.out.keep HBc10.out) R3 HR3.out).mono ?_
  clear HJc10
  rintro e X11 ⟨rfl, hb⟩
  have HBc11 := Lib.hid (bel_step HBc10.out hb)
  have HTc11 := Lib.hid (HTc10.out.keep hb)
  have QAc11 := Lib.hid (QAc10.out.keep hb)
  have QBc11 := Lib.hid (QBc10.out.keep hb)
  have HNc11 := Lib.hid (HNc10.out.keep hb)
  clear hb HBc10 HTc10 QAc10 QBc10 HNc10
  go_wp2_with fail
  refine (leaf_any C3 64 f3 (x ++ y) X11 HNc11.out (by omega) (HG.out.keep HBc11.out) R4 HR4.out).mono ?_
  rintro e X12 ⟨rfl, hb⟩
  have HBc12 := Lib.hid (bel_step HBc11.out hb)
  have HTc12 := Lib.hid (HTc11.out.keep hb)
  have QAc12 := Lib.hid (QAc11.out.keep hb)
  have QBc12 := Lib.hid (QBc11.out.keep hb)
  have HNc12 := Lib.hid (HNc11.out.keep hb)
  clear hb HBc11 HTc11 QAc11 QBc11 HNc11
  go_wp2_with fail
  refine calls_named1 (fun X13 hb g0 hz => ?_)
  have HBc13 := Lib.hid (bel_step HBc12.out hb)
  have HTc13 := Lib.hid (HTc12.out.keep hb)
  have QAc13 := Lib.hid (QAc12.out.keep hb)
  have QBc13 := Lib.hid (QBc12.out.keep hb)
  have HNc13 := Lib.hid (HNc12.out.keep hb)
  have HO := Lib.hid ((show RowB X13 5 X12.heap.size [0] from g0).all (n := 1) (c := 1) (by decide) rfl (Nat.le_refl _) (by omega))
  clear hb g0 hz HBc12 HTc12 QAc12 QBc12 HNc12
  generalize X12.heap.size = q13 at *
  refine (rjoin_any (some ⟨q13, 0, none⟩) 1 1 [0] C3 64 f3 (x ++ y) X13 HO.out HNc13.out (by omega)).mono ?_
  rintro e X14 ⟨C6, f6, rfl, hs, hb⟩
  have HBc14 := Lib.hid (bel_step HBc13.out hb)
  have HTc14 := Lib.hid (HTc13.out.keep hb)
  have QAc14 := Lib.hid (QAc13.out.keep hb)
  have QBc14 := Lib.hid (QBc13.out.keep hb)
  have HNc14 := Lib.hid (HNc13.out.keep hb)
  have HJc14 := Lib.hid hs
  clear hb hs HBc13 HTc13 QAc13 QBc13 HNc13
  clear HO
  go_wp2_with fail
  refine (sum_any C6 65 f6 _ X14 HJc14.out (by omega) (HG.out.keep HBc14.out) R4 HR4.out).mono ?_
  clear HJc14
  rintro e X15 ⟨rfl, hb⟩
  have HBc15 := Lib.hid (bel_step HBc14.out hb)
  have HTc15 := Lib.hid (HTc14.out.keep hb)
  have QAc15 := Lib.hid (QAc14.out.keep hb)
  have QBc15 := Lib.hid (QBc14.out.keep hb)
  have HNc15 := Lib.hid (HNc14.out.keep hb)
  clear hb HBc14 HTc14 QAc14 QBc14 HNc14
  go_wp2_with fail
  go_ret
  exact ⟨rfl, HBc15.out⟩
end Go.Proofs.YtliflbelhogopaaDoor
