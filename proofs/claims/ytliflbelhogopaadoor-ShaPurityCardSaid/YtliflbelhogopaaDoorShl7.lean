/- The walk of ShaPurity. -/
import Derived.Test.YtliflbelhogopaaDoorShf1
namespace Go.Proofs.YtliflbelhogopaaDoor
set_option maxRecDepth 8000
open Go.RowKit
attribute [local simp] z32_ne z32_run
attribute [-simp] Tryd.zeroValue26 Tryd.isAgg26 Tryd.sizeOf26
set_option maxHeartbeats 4000000 in
theorem shaPurity_any (A : Option Addr) (n c : Nat) (bs : List Nat) (E : Option Addr) (ne ce : Nat) (es : List Nat) (B : Option Addr) (nk ck : Nat) (ks : List Nat) (w : World) (h : Sb w A n c bs) (hE : Sb w E ne ce es) (hk : Sb w B nk ck ks) (hG : Gl w) :
    Calls Tryd.prog 9 #[.slice A n c, .slice E ne ce, .slice B nk ck] w fun e w' => e = .returned (.bool true) ∧ Below w.heap.size w w' := by
  obtain ⟨m, hm, hmn, hm4⟩ := min400 n 400
  have hm' : (if (400 : Int) < (n : Int) then (400 : Int) else (n : Int)) = (m : Int) := hm
  obtain ⟨k, hk1, hkn, hk8⟩ := min400 ne 80
  have hk' : (if (80 : Int) < (ne : Int) then (80 : Int) else (ne : Int)) = (k : Int) := hk1
  clear hm hk1
  have hcap := h.cap
  have hcm := h.top
  have hcapE := hE.cap
  have hcmE := hE.top
  have hS := h.take hmn
  have hT := hE.take hkn
  obtain ⟨bt, hbt⟩ : ∃ bt, bs.take m = bt := ⟨_, rfl⟩
  obtain ⟨et, het⟩ : ∃ et, es.take k = et := ⟨_, rfl⟩
  rw [hbt] at hS
  rw [het] at hT
  obtain ⟨x, hx⟩ : ∃ x, madeN ks = x := ⟨_, rfl⟩
  have hxl : x.length = 32 := by rw [← hx]; exact madeN_length _
  have hxb : ∀ z ∈ x, z < 256 := by rw [← hx]; exact madeN_lt hk.byte
  obtain ⟨R1, hR1⟩ : ∃ R, shaN bt = R := ⟨_, rfl⟩
  obtain ⟨R2, hR2⟩ : ∃ R, shaN (0 :: bt) = R := ⟨_, rfl⟩
  obtain ⟨R4, hR4⟩ : ∃ R, hmacN x bt = R := ⟨_, rfl⟩
  have hl1 : R1.length = 32 := by rw [← hR1]; exact shaN_length _
  have hl2 : R2.length = 32 := by rw [← hR2]; exact shaN_length _
  have hl4 : R4.length = 32 := by rw [← hR4]; exact shaN_length _
  have heq1 := run_eqD_same R1 hl1 (by rw [← hR1]; exact shaN_lt _)
  have heq2 := run_eqD_same R2 hl2 (by rw [← hR2]; exact shaN_lt _)
  have heq4 := run_eqD_same R4 hl4 (by rw [← hR4]; exact shaN_lt _)
  have HL1 := Lib.hid hl1
  have HL2 := Lib.hid hl2
  have HL4 := Lib.hid hl4
  have HR1 := Lib.hid hR1
  have HR2 := Lib.hid hR2
  have HR4 := Lib.hid hR4
  have HXL := Lib.hid hxl
  have HXB := Lib.hid hxb
  have HX := Lib.hid hx
  have HS := Lib.hid hS
  have HE := Lib.hid hT
  have HK := Lib.hid hk
  have HG := Lib.hid hG
  clear h hE hk hG hS hT hbt het hx hxl hxb hR1 hR2 hR4 hl1 hl2 hl4
  go_enter Tryd.func9, Tryd.ntmps9
  go_wp2_with fail
  refine (sanity7_any w HG.out).mono ?_
  rintro e W1 ⟨rfl, hb⟩
  have HB1 := Lib.hid hb
  have HS1 := Lib.hid (HS.out.keep hb)
  have HE1 := Lib.hid (HE.out.keep hb)
  have HK1 := Lib.hid (HK.out.keep hb)
  clear hb HS HE HK
  go_wp2_with fail
  refine (rjoin_any A m c bt E k ce et W1 HS1.out HE1.out (by omega)).mono ?_
  rintro e W2 ⟨C, f, rfl, hs, hb⟩
  have HB2 := Lib.hid (bel_step HB1.out hb)
  have HS2 := Lib.hid (HS1.out.keep hb)
  have HK2 := Lib.hid (HK1.out.keep hb)
  have HA2 := Lib.hid hs
  have hcapA := hs.cap
  have hcmA := hs.top
  clear hb hs HB1 HS1 HE1 HK1
  go_wp2_with fail
  refine (rjoin_any C (m + k) f _ none 0 0 [] W2 HA2.out (Sb.nil_ _) (by omega)).mono ?_
  rintro e W3 ⟨D, g, rfl, hs, hb⟩
  have HB3 := Lib.hid (bel_step HB2.out hb)
  have HS3 := Lib.hid (HS2.out.keep hb)
  have HK3 := Lib.hid (HK2.out.keep hb)
  have HA3 := Lib.hid (HA2.out.keep hb)
  have HF3 := Lib.hid (hs.cast (List.append_nil _))
  clear hb hs HB2 HS2 HK2 HA2
  have hp : (m : Int) ≤ (f : Int) := by omega
  have hp0 : (0 : Int) ≤ (m : Int) := by omega
  have HP3 := Lib.hid ((HA3.out.take (show m ≤ m + k by omega)).cast (show (bt ++ et).take m = bt by rw [show m = bt.length from HS3.out.len, List.take_left]))
  go_upto_region 5 with fail
  refine wp_decl (l2 := [_]) (l3 := [_, _]) (zs := [.cells z32 26]) 6 (by kernel_rfl) (lexOK_of (by kernel_rfl) (by kernel_rfl)) rfl (Nat.le_of_ble_eq_true rfl) (by simp) (by kernel_rfl) (by kernel_rfl) rfl
    (all_cons rfl all_nil) (mk_same 26 _ run_allocD (all_cons rfl all_nil) (all_cons rfl all_nil)) ?_
  simp only [List.take_succ_cons, List.take_zero]
  have hB1 : ∀ X : Later W3, Calls Tryd.prog 12 #[.slice B nk ck] X.at fun e w' => e = .returned (.agg (celB x).toArray) ∧ Below X.at.heap.size X.at w' := fun X => rmade_eq (HK3.out.keep X.below) HX.out
  repeat (refine wpCalm_step (fun K hK => ?_); go_simp; first
    | (refine hK _ ?_; clear hK K)
    | (apply Exists.intro
       refine ⟨fun _ => ?_, hK _ ?_⟩
       · first
         | (go_at_call 12; with_reducible exact hB1 _)
       clear hK K))
  refine wpCalm_nil ?_
  refine fun ba X hX => ?_
  have pa := hX.get 6 ba _ rfl rfl
  have hb := hX.below
  have PA := Lib.hid (show RowB X 26 ba (List.replicate 32 0) from pa.1)
  have hga : W3.heap.size ≤ ba := pa.2
  have HB2 := Lib.hid hb
  clear pa hb hX hB1 HK3
  simp only [ptr, Act.put, List.setIfInBounds_toArray, List.set_cons_zero, List.set_cons_succ]
  refine wpList_val rfl (.slice C m f) X (by kernel_rfl) ?_
  simp only [ptr, Act.put, List.setIfInBounds_toArray, List.set_cons_zero, List.set_cons_succ]
  refine wpList_skip0 rfl (X.setRow ba (celB x).toArray) (exec_storeD (x := .tmp 11) (y := .tmp 35) HXL.out List.length_replicate PA.out rfl rfl rfl) ?_
  have PA2 := Lib.hid (PA.out.row x)
  have HBX := Lib.hid (bel_setRow HB2.out hga (celB x).toArray)
  clear PA HB2
  generalize X.setRow ba (celB x).toArray = V at *
  simp only [ptr, Act.put, List.setIfInBounds_toArray, List.set_cons_zero, List.set_cons_succ]
  have HB4 := Lib.hid (bel_step HB3.out HBX.out)
  have HS4 := Lib.hid (HS3.out.keep HBX.out)
  have HA4 := Lib.hid (HA3.out.keep HBX.out)
  have HF4 := Lib.hid (HF3.out.keep HBX.out)
  have HP4 := Lib.hid (HP3.out.keep HBX.out)
  have hla : ba < V.heap.size := PA2.out.lt
  clear HBX HB3 HS3 HA3 HF3 HP3
  refine wpList_nil ?_
  go_upto_region 6 with fail
  refine wp_decl (l2 := [_, _, _]) (l3 := [_, _, _]) (zs := [.cells z32 26, .cells z32 26, .cells z32 26]) 7 (by kernel_rfl) (lexOK_of (by kernel_rfl) (by kernel_rfl)) rfl (Nat.le_of_ble_eq_true rfl) (by simp) (by kernel_rfl) (by kernel_rfl) rfl
    (all_cons rfl (all_cons rfl (all_cons rfl all_nil))) (mk_same 26 _ run_allocD (all_cons rfl (all_cons rfl (all_cons rfl all_nil))) (all_cons rfl (all_cons rfl (all_cons rfl all_nil)))) ?_
  simp only [List.take_succ_cons, List.take_zero]
  have hC1 : ∀ X : Later V, Calls Tryd.prog 13 #[.slice C m f] X.at fun e w' => e = .returned (.agg (celB R1).toArray) ∧ Below X.at.heap.size X.at w' := fun X => sum_any C m f bt X.at (HP4.out.keep X.below) (by omega) (HG.out.keep (bel_step HB4.out X.below)) R1 HR1.out
  have hC2 : ∀ X : Later V, Calls Tryd.prog 15 #[.slice C m f] X.at fun e w' => e = .returned (.agg (celB R2).toArray) ∧ Below X.at.heap.size X.at w' := fun X => leaf_any C m f bt X.at (HP4.out.keep X.below) (by omega) (HG.out.keep (bel_step HB4.out X.below)) R2 HR2.out
  have hC3 : ∀ X : Later V, Calls Tryd.prog 19 #[.agg (celB x).toArray, .slice C m f] X.at fun e w' => e = .returned (.agg (celB R4).toArray) ∧ Below X.at.heap.size X.at w' := fun X => keyed_any x C m f bt X.at HXL.out HXB.out (HP4.out.keep X.below) (by omega) (HG.out.keep (bel_step HB4.out X.below)) R4 HR4.out
  refine wpCalm_step (fun K hK => ?_)
  go_simp
  refine hK _ ?_
  clear hK K
  refine wpCalm_step (fun K hK => ?_)
  go_simp
  apply Exists.intro
  refine ⟨fun _ => ?_, hK _ ?_⟩
  · go_at_call 13
    with_reducible exact hC1 _
  clear hK K
  refine wpCalm_step (fun K hK => ?_)
  go_simp
  refine hK _ ?_
  clear hK K
  refine wpCalm_step (fun K hK => ?_)
  go_simp
  apply Exists.intro
  refine ⟨fun _ => ?_, hK _ ?_⟩
  · go_at_call 15
    with_reducible exact hC2 _
  clear hK K
  refine wpCalm_val _ (by kernel_rfl) (fun X => exec_loadD HXL.out (PA2.out.keep X.below) rfl rfl) ?_
  simp only [ptr, Act.put, List.setIfInBounds_toArray, List.set_cons_zero, List.set_cons_succ]
  refine wpCalm_step (fun K hK => ?_)
  go_simp
  refine hK _ ?_
  clear hK K
  refine wpCalm_step (fun K hK => ?_)
  go_simp
  apply Exists.intro
  refine ⟨fun _ => ?_, hK _ ?_⟩
  · go_at_call 19
    with_reducible exact hC3 _
  clear hK K
  refine wpCalm_nil ?_
  refine fun b1 b2 b3 X hX => ?_
  have p1 := hX.get 7 b1 _ rfl rfl
  have p2 := hX.get 8 b2 _ rfl rfl
  have p3 := hX.get 9 b3 _ rfl rfl
  have n12 := hX.ne 7 8 b1 b2 (by omega) rfl rfl
  have n13 := hX.ne 7 9 b1 b3 (by omega) rfl rfl
  have n23 := hX.ne 8 9 b2 b3 (by omega) rfl rfl
  have hb := hX.below
  have P1 := Lib.hid (show RowB X 26 b1 (List.replicate 32 0) from p1.1)
  have P2 := Lib.hid (show RowB X 26 b2 (List.replicate 32 0) from p2.1)
  have P3 := Lib.hid (show RowB X 26 b3 (List.replicate 32 0) from p3.1)
  have hg1 : V.heap.size ≤ b1 := p1.2
  have hg2 : V.heap.size ≤ b2 := p2.2
  have hg3 : V.heap.size ≤ b3 := p3.2
  have HB5 := Lib.hid hb
  clear p1 p2 p3 hb hX hC1 hC2 hC3
  simp only [ptr, Act.put, List.setIfInBounds_toArray, List.set_cons_zero, List.set_cons_succ]
  refine wpList_skip0 rfl (X.setRow b1 (celB R1).toArray) (exec_storeD (x := .tmp 12) (y := .tmp 37) HL1.out List.length_replicate P1.out rfl rfl rfl) ?_
  have P12 := Lib.hid (P1.out.row R1)
  have P22 := Lib.hid (P2.out.farRow (Ne.symm n12) (celB R1).toArray)
  have P32 := Lib.hid (P3.out.farRow (Ne.symm n13) (celB R1).toArray)
  have HB6 := Lib.hid (bel_setRow HB5.out hg1 (celB R1).toArray)
  clear P1 P2 P3 HB5
  generalize X.setRow b1 (celB R1).toArray = X2 at *
  simp only [ptr, Act.put, List.setIfInBounds_toArray, List.set_cons_zero, List.set_cons_succ]
  refine wpList_skip0 rfl (X2.setRow b2 (celB R2).toArray) (exec_storeD (x := .tmp 13) (y := .tmp 39) HL2.out List.length_replicate P22.out rfl rfl rfl) ?_
  have P13 := Lib.hid (P12.out.farRow n12 (celB R2).toArray)
  have P23 := Lib.hid (P22.out.row R2)
  have P33 := Lib.hid (P32.out.farRow (Ne.symm n23) (celB R2).toArray)
  have HB7 := Lib.hid (bel_setRow HB6.out hg2 (celB R2).toArray)
  clear P12 P22 P32 HB6
  generalize X2.setRow b2 (celB R2).toArray = X3 at *
  simp only [ptr, Act.put, List.setIfInBounds_toArray, List.set_cons_zero, List.set_cons_succ]
  refine wpList_skip0 rfl (X3.setRow b3 (celB R4).toArray) (exec_storeD (x := .tmp 14) (y := .tmp 42) HL4.out List.length_replicate P33.out rfl rfl rfl) ?_
  have P14 := Lib.hid (P13.out.farRow n13 (celB R4).toArray)
  have P24 := Lib.hid (P23.out.farRow n23 (celB R4).toArray)
  have P34 := Lib.hid (P33.out.row R4)
  have HB8 := Lib.hid (bel_setRow HB7.out hg3 (celB R4).toArray)
  clear P13 P23 P33 HB7
  generalize X3.setRow b3 (celB R4).toArray = U at *
  refine wpList_nil ?_
  simp only [Act.put, List.setIfInBounds_toArray, List.set_cons_zero, List.set_cons_succ]
  have HB := Lib.hid (bel_step HB4.out HB8.out)
  have HT := Lib.hid (HS4.out.keep HB8.out)
  have HA := Lib.hid (HA4.out.keep HB8.out)
  have HF := Lib.hid (HF4.out.keep HB8.out)
  have PA3 := Lib.hid (PA2.out.keep HB8.out)
  have hl1 : b1 < U.heap.size := P14.out.lt
  have hl2 : b2 < U.heap.size := P24.out.lt
  have hl3 : b3 < U.heap.size := P34.out.lt
  have hl0 : ba < U.heap.size := PA3.out.lt
  have hzU : w.heap.size ≤ U.heap.size := HB.out.size
  clear HB8 HB4 HS4 HA4 HF4 HP4 PA2
  go_upto_region 7 with fail
  refine Tl.wp_held_tailB 25 U.heap.size (by kernel_rfl) (lexOK_of (by kernel_rfl) (by kernel_rfl)) (Tl.chainW_of (by kernel_rfl)) rfl (by kernel_rfl) (by kernel_rfl) (fun W0 hbW hSW => ?_)
  have HBc0 := Lib.hid (bel_step HB.out hbW)
  have HTc0 := Lib.hid (HT.out.keep hbW)
  have HAc0 := Lib.hid (HA.out.keep hbW)
  have HFc0 := Lib.hid (HF.out.keep hbW)
  have HSc0 := Lib.hid hSW
  have hzc0 := hbW.size
  clear hbW hSW HT HA HF HB
  refine wpHeld_seg 2 HSc0.out (by kernel_rfl) ?_
  simp only [List.take_succ_cons, List.take_zero, List.drop_succ_cons, List.drop_zero]
  iterate 2 (go_big_quiet_step (fail))
  refine wpQuiet_nil ?_
  refine wpHeld_call 29 Tryd.func29 (by kernel_rfl) (by kernel_rfl) _ _ #[.slice C (m + k) f, .slice D (m + k) g] rfl (by kernel_rfl) (by kernel_rfl) ?_
  refine (rsame_yes C (m + k) f D (m + k) g (bt ++ et) W0 HAc0.out HFc0.out).mono ?_
  rintro e X1 ⟨rfl, hb⟩
  have HBc1 := Lib.hid (bel_step HBc0.out hb)
  have HTc1 := Lib.hid (HTc0.out.keep hb)
  have HAc1 := Lib.hid (HAc0.out.keep hb)
  have HFc1 := Lib.hid (HFc0.out.keep hb)
  have HSc1 := Lib.hid (LaterB.step HSc0.out (hb.mono (by omega)))
  have hzc1 : U.heap.size ≤ X1.heap.size := by have := hb.size; omega
  clear hb HBc0 HSc0 hzc0 HTc0 HAc0 HFc0
  refine ⟨_, rfl, HSc1.out, ?_⟩
  simp only [Act.put, List.setIfInBounds_toArray, List.set_cons_zero, List.set_cons_succ]
  clear HAc1
  clear HFc1
  refine wpHeld_seg 2 HSc1.out (by kernel_rfl) ?_
  simp only [List.take_succ_cons, List.take_zero, List.drop_succ_cons, List.drop_zero]
  iterate 2 (go_big_quiet_step (fail))
  refine wpQuiet_nil ?_
  refine wpHeld_call 13 Tryd.func13 (by kernel_rfl) (by kernel_rfl) _ _ #[.slice A m c] rfl (by kernel_rfl) (by kernel_rfl) ?_
  refine (sum_any A m c bt X1 HTc1.out (by omega) (HG.out.keep HBc1.out) R1 HR1.out).mono ?_
  rintro e X2 ⟨rfl, hb⟩
  have HBc2 := Lib.hid (bel_step HBc1.out hb)
  have HTc2 := Lib.hid (HTc1.out.keep hb)
  have HSc2 := Lib.hid (LaterB.step HSc1.out (hb.mono (by omega)))
  have hzc2 : U.heap.size ≤ X2.heap.size := by have := hb.size; omega
  clear hb HBc1 HSc1 hzc1 HTc1
  refine ⟨_, rfl, HSc2.out, ?_⟩
  simp only [Act.put, List.setIfInBounds_toArray, List.set_cons_zero, List.set_cons_succ]
  refine wpHeld_seg 5 HSc2.out (by kernel_rfl) ?_
  simp only [List.take_succ_cons, List.take_zero, List.drop_succ_cons, List.drop_zero]
  refine wpQuiet_val (by kernel_rfl) _ (fun v hv => exec_loadD HL1.out (P14.out.same ((LaterB.of hv).block _ (by omega))) rfl rfl) ?_
  simp only [Act.put, List.setIfInBounds_toArray, List.set_cons_zero, List.set_cons_succ]
  iterate 4 (go_big_quiet_step (fail))
  refine wpQuiet_nil ?_
  refine wpHeld_call 15 Tryd.func15 (by kernel_rfl) (by kernel_rfl) _ _ #[.slice A m c] rfl (by kernel_rfl) (by kernel_rfl) ?_
  refine (leaf_any A m c bt X2 HTc2.out (by omega) (HG.out.keep HBc2.out) R2 HR2.out).mono ?_
  rintro e X3 ⟨rfl, hb⟩
  have HBc3 := Lib.hid (bel_step HBc2.out hb)
  have HTc3 := Lib.hid (HTc2.out.keep hb)
  have HSc3 := Lib.hid (LaterB.step HSc2.out (hb.mono (by omega)))
  have hzc3 : U.heap.size ≤ X3.heap.size := by have := hb.size; omega
  clear hb HBc2 HSc2 hzc2 HTc2
  refine ⟨_, rfl, HSc3.out, ?_⟩
  simp only [Act.put, List.setIfInBounds_toArray, List.set_cons_zero, List.set_cons_succ]
  refine wpHeld_seg 6 HSc3.out (by kernel_rfl) ?_
  simp only [List.take_succ_cons, List.take_zero, List.drop_succ_cons, List.drop_zero]
  refine wpQuiet_val (by kernel_rfl) _ (fun v hv => exec_loadD HL2.out (P24.out.same ((LaterB.of hv).block _ (by omega))) rfl rfl) ?_
  simp only [Act.put, List.setIfInBounds_toArray, List.set_cons_zero, List.set_cons_succ]
  iterate 3 (go_big_quiet_step (fail))
  refine wpQuiet_val (by kernel_rfl) _ (fun v hv => exec_loadD HXL.out (PA3.out.same ((LaterB.of hv).block _ (by omega))) rfl rfl) ?_
  simp only [Act.put, List.setIfInBounds_toArray, List.set_cons_zero, List.set_cons_succ]
  iterate 1 (go_big_quiet_step (fail))
  refine wpQuiet_nil ?_
  refine wpHeld_call 19 Tryd.func19 (by kernel_rfl) (by kernel_rfl) _ _ #[.agg (celB x).toArray, .slice A m c] rfl (by kernel_rfl) (by kernel_rfl) ?_
  refine (keyed_any x A m c bt X3 HXL.out HXB.out HTc3.out (by omega) (HG.out.keep HBc3.out) R4 HR4.out).mono ?_
  rintro e X4 ⟨rfl, hb⟩
  have HBc4 := Lib.hid (bel_step HBc3.out hb)
  have HTc4 := Lib.hid (HTc3.out.keep hb)
  have HSc4 := Lib.hid (LaterB.step HSc3.out (hb.mono (by omega)))
  have hzc4 : U.heap.size ≤ X4.heap.size := by have := hb.size; omega
  clear hb HBc3 HSc3 hzc3 HTc3
  refine ⟨_, rfl, HSc4.out, ?_⟩
  simp only [Act.put, List.setIfInBounds_toArray, List.set_cons_zero, List.set_cons_succ]
  refine wpHeld_seg 6 HSc4.out (by kernel_rfl) ?_
  simp only [List.take_succ_cons, List.take_zero, List.drop_succ_cons, List.drop_zero]
  refine wpQuiet_val (by kernel_rfl) _ (fun v hv => exec_loadD HL4.out (P34.out.same ((LaterB.of hv).block _ (by omega))) rfl rfl) ?_
  simp only [Act.put, List.setIfInBounds_toArray, List.set_cons_zero, List.set_cons_succ]
  iterate 5 (go_big_quiet_step (fail))
  refine wpQuiet_nil ?_
  refine wpHeld_nil ?_
  refine mOp_val (.bool true) rfl rfl rfl ?_
  go_wp2_with fail
  go_ret
  exact ⟨rfl, HBc4.out⟩
end Go.Proofs.YtliflbelhogopaaDoor
