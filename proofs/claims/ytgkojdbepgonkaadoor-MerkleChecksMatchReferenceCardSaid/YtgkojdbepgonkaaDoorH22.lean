/- Several texts in one: Mvc. -/
import Derived.Test.YtgkojdbepgonkaaDoorH21
/- sanity of the laws of stage 8: the fixed examples. -/
namespace Go.Proofs.YtgkojdbepgonkaaDoor
set_option maxRecDepth 8000
set_option linter.unusedVariables false
set_option linter.unusedSimpArgs false
open Go.RowKit
attribute [local simp] z32_ne z32_run
attribute [-simp] Tryd.zeroValue34 Tryd.isAgg34 Tryd.sizeOf34
theorem rep_lt8 : ∀ x ∈ List.replicate 32 0, x < 256 := fun x hx => by rw [(List.mem_replicate.1 hx).2]; decide
set_option maxHeartbeats 8000000 in
theorem sanity8_any (w : World) (hG : Gl w) :
    Calls Tryd.prog 12 #[] w fun e w' => e = .returned (.bool true) ∧ Below w.heap.size w w' := by
  have HG := Lib.hid hG
  clear hG
  obtain ⟨a, ha⟩ : ∃ a, lfN [97] = a := ⟨_, rfl⟩
  obtain ⟨b, hb⟩ : ∃ b, lfN [98] = b := ⟨_, rfl⟩
  obtain ⟨c, hc⟩ : ∃ c, lfN [99] = c := ⟨_, rfl⟩
  obtain ⟨ab, hab⟩ : ∃ ab, prN a b = ab := ⟨_, rfl⟩
  obtain ⟨root, hroot⟩ : ∃ r, prN ab c = r := ⟨_, rfl⟩
  have Da := Lib.hid (show a.length = 32 ∧ ∀ x ∈ a, x < 256 by rw [← ha]; exact ⟨lfN_length _, lfN_lt _⟩)
  have Db_ := Lib.hid (show b.length = 32 ∧ ∀ x ∈ b, x < 256 by rw [← hb]; exact ⟨lfN_length _, lfN_lt _⟩)
  have Dc := Lib.hid (show c.length = 32 ∧ ∀ x ∈ c, x < 256 by rw [← hc]; exact ⟨lfN_length _, lfN_lt _⟩)
  have Dab := Lib.hid (show ab.length = 32 ∧ ∀ x ∈ ab, x < 256 by rw [← hab]; exact ⟨prN_length _ _, prN_lt _ _⟩)
  have Dr := Lib.hid (show root.length = 32 ∧ ∀ x ∈ root, x < 256 by rw [← hroot]; exact ⟨prN_length _ _, prN_lt _ _⟩)
  have Ea := Lib.hid (show shaN (0 :: [97]) = a from ha)
  have Eb := Lib.hid (show shaN (0 :: [98]) = b from hb)
  have Ec := Lib.hid (show shaN (0 :: [99]) = c from hc)
  have Eab := Lib.hid (show shaN (1 :: (a ++ b)) = ab from hab)
  have Eroot := Lib.hid (show shaN (1 :: (ab ++ c)) = root from hroot)
  have Eroot2 := Lib.hid (show rootN [[97], [98], [99]] = root by rw [sx_root, ha, hb, hc, hab, hroot])
  have Ea2 := Lib.hid (show rootN [[97]] = a from ha)
  have Eo1 := Lib.hid (show digsN [[97], [98], [99]] (closedN 0 3 [1]) = [a, c] by rw [sx_open1, ha, hc])
  have Eo0 := Lib.hid (show digsN [[97], [98], [99]] (closedN 0 3 []) = [root] by rw [sx_open0, sx_root, ha, hb, hc, hab, hroot])
  have Ew := Lib.hid (show digsN [[97], [98], [99]] (sibN 0 3 2) = [ab] by rw [sx_wit, ha, hb, hab])
  have Ep0 := Lib.hid (show pushN [] 0 (lfN [97]) = [a] by rw [ha]; exact sx_push0 a)
  have Ep1 := Lib.hid (show pushN [a] 1 (lfN [98]) = [ab] by rw [hb, sx_push1, hab])
  have Ep2 := Lib.hid (show pushN [ab] 2 (lfN [99]) = [ab, c] by rw [hc, sx_push2])
  have Ebag := Lib.hid (show bagN [ab, c] = root from hroot)
  have Ev0 := Lib.hid (show verN root 3 [1] [[98]] [a, c] = 0 by have h := sx_ver0; rwa [ha, hb, hc, hab, hroot] at h)
  have Ev1 := Lib.hid (show verN root 3 [1] [[97]] [a, c] = 80 by have h := sx_ver1; rwa [ha, hb, hc, hab, hroot] at h)
  have Ec0 := Lib.hid (show containsN [ab, c] 3 2 [99] [ab] = true by have h := sx_con0 ab; rwa [hc] at h)
  clear ha hb hc hab hroot
  go_enter Tryd.func12, Tryd.ntmps12
  go_upto_region 1 with fail
  refine wp_region_lit ?_
  refine wpList_call (by kernel_rfl) 42 Tryd.func42 (by kernel_rfl) (by kernel_rfl) _ _ #[.int .i64 3] rfl (by kernel_rfl) ?_
  refine (texts_pb 3 [[97], [98], [99]] w (by omega) (by omega) rfl).mono ?_
  rintro e V1 ⟨ad, cp, rfl, hp, hb⟩
  have B0 := Lib.hid hb
  have HP := Lib.hid hp
  clear hb hp
  refine ⟨_, rfl, ?_⟩
  simp only [Act.put, List.setIfInBounds_toArray, List.set_cons_zero, List.set_cons_succ]
  refine wpList_run (by kernel_rfl) (.slice (some ad) 3 cp) V1 rfl ?_
  simp only [Act.put, List.setIfInBounds_toArray, List.set_cons_zero, List.set_cons_succ]
  refine wpList_nil ?_
  obtain ⟨e0, f0, he0⟩ := HP.out.el1 (i := 0) (p := [97]) rfl
  have E0 := Lib.hid (show El V1 ad 0 e0 1 f0 [97] from he0)
  obtain ⟨e1, f1, he1⟩ := HP.out.el1 (i := 1) (p := [98]) rfl
  have E1 := Lib.hid (show El V1 ad 1 e1 1 f1 [98] from he1)
  obtain ⟨e2, f2, he2⟩ := HP.out.el1 (i := 2) (p := [99]) rfl
  have E2 := Lib.hid (show El V1 ad 2 e2 1 f2 [99] from he2)
  clear he0 he1 he2
  go_upto_region 2 with fail
  refine wp_decl (l2 := [_, _, _]) (l3 := [_, _, _]) (zs := [.cells z32 34, .cells z32 34, .cells z32 34]) 12 (by kernel_rfl) (lexOK_of (by kernel_rfl) (by kernel_rfl)) rfl (Nat.le_of_ble_eq_true rfl) (by simp) (by kernel_rfl) (by kernel_rfl) rfl
    (all_cons rfl (all_cons rfl (all_cons rfl all_nil))) (mk_same 34 _ run_allocD (all_cons rfl (all_cons rfl (all_cons rfl all_nil))) (all_cons rfl (all_cons rfl (all_cons rfl all_nil)))) ?_
  simp only [List.take_succ_cons, List.take_zero]
  have hB0 : ∀ X : Later V1, Calls Tryd.prog 43 #[.slice e0 1 f0] X.at fun e w' => e = .returned (.agg (celB a).toArray) ∧ Below X.at.heap.size X.at w' := fun X => rleaf_any e0 1 f0 [97] X.at (E0.out.keep X.below).sb (by omega) a Ea.out
  have hB1 : ∀ X : Later V1, Calls Tryd.prog 43 #[.slice e1 1 f1] X.at fun e w' => e = .returned (.agg (celB b).toArray) ∧ Below X.at.heap.size X.at w' := fun X => rleaf_any e1 1 f1 [98] X.at (E1.out.keep X.below).sb (by omega) b Eb.out
  have hB2 : ∀ X : Later V1, Calls Tryd.prog 43 #[.slice e2 1 f2] X.at fun e w' => e = .returned (.agg (celB c).toArray) ∧ Below X.at.heap.size X.at w' := fun X => rleaf_any e2 1 f2 [99] X.at (E2.out.keep X.below).sb (by omega) c Ec.out
  refine wpCalm_val (.slice (some ad) 3 cp) (by kernel_rfl) (fun x => rfl) ?_
  simp only [Act.put, List.setIfInBounds_toArray, List.set_cons_zero, List.set_cons_succ]
  refine wpCalm_val (.pointer (some (ad.add 0))) (by kernel_rfl) (fun x => exec_idxP _ ad 3 cp 0 (by omega) rfl rfl rfl) ?_
  simp only [Act.put, List.setIfInBounds_toArray, List.set_cons_zero, List.set_cons_succ]
  refine wpCalm_val (.slice e0 1 f0) (by kernel_rfl) (fun x => exec_loadS _ _ _ _ (E0.out.keep x.below).cell rfl rfl) ?_
  simp only [Act.put, List.setIfInBounds_toArray, List.set_cons_zero, List.set_cons_succ]
  refine wpCalm_step (fun K hK => ?_)
  go_simp
  apply Exists.intro
  refine ⟨fun _ => ?_, hK _ ?_⟩
  · go_at_call 43
    with_reducible exact hB0 _
  clear hK K
  try simp only [Act.put, List.setIfInBounds_toArray, List.set_cons_zero, List.set_cons_succ]
  refine wpCalm_val (.slice (some ad) 3 cp) (by kernel_rfl) (fun x => rfl) ?_
  simp only [Act.put, List.setIfInBounds_toArray, List.set_cons_zero, List.set_cons_succ]
  refine wpCalm_val (.pointer (some (ad.add 1))) (by kernel_rfl) (fun x => exec_idxP _ ad 3 cp 1 (by omega) rfl rfl rfl) ?_
  simp only [Act.put, List.setIfInBounds_toArray, List.set_cons_zero, List.set_cons_succ]
  refine wpCalm_val (.slice e1 1 f1) (by kernel_rfl) (fun x => exec_loadS _ _ _ _ (E1.out.keep x.below).cell rfl rfl) ?_
  simp only [Act.put, List.setIfInBounds_toArray, List.set_cons_zero, List.set_cons_succ]
  refine wpCalm_step (fun K hK => ?_)
  go_simp
  apply Exists.intro
  refine ⟨fun _ => ?_, hK _ ?_⟩
  · go_at_call 43
    with_reducible exact hB1 _
  clear hK K
  try simp only [Act.put, List.setIfInBounds_toArray, List.set_cons_zero, List.set_cons_succ]
  refine wpCalm_val (.slice (some ad) 3 cp) (by kernel_rfl) (fun x => rfl) ?_
  simp only [Act.put, List.setIfInBounds_toArray, List.set_cons_zero, List.set_cons_succ]
  refine wpCalm_val (.pointer (some (ad.add 2))) (by kernel_rfl) (fun x => exec_idxP _ ad 3 cp 2 (by omega) rfl rfl rfl) ?_
  simp only [Act.put, List.setIfInBounds_toArray, List.set_cons_zero, List.set_cons_succ]
  refine wpCalm_val (.slice e2 1 f2) (by kernel_rfl) (fun x => exec_loadS _ _ _ _ (E2.out.keep x.below).cell rfl rfl) ?_
  simp only [Act.put, List.setIfInBounds_toArray, List.set_cons_zero, List.set_cons_succ]
  refine wpCalm_step (fun K hK => ?_)
  go_simp
  apply Exists.intro
  refine ⟨fun _ => ?_, hK _ ?_⟩
  · go_at_call 43
    with_reducible exact hB2 _
  clear hK K
  try simp only [Act.put, List.setIfInBounds_toArray, List.set_cons_zero, List.set_cons_succ]
  refine wpCalm_nil ?_
  refine fun ba bb bc X hX => ?_
  have pa := hX.get 12 ba _ rfl rfl
  have pb := hX.get 13 bb _ rfl rfl
  have pc := hX.get 14 bc _ rfl rfl
  have nab := hX.ne 12 13 ba bb (by omega) rfl rfl
  have nac := hX.ne 12 14 ba bc (by omega) rfl rfl
  have nbc := hX.ne 13 14 bb bc (by omega) rfl rfl
  have hb := hX.below
  have PA := Lib.hid (show RowB X 34 ba (List.replicate 32 0) from pa.1)
  have PB := Lib.hid (show RowB X 34 bb (List.replicate 32 0) from pb.1)
  have PC := Lib.hid (show RowB X 34 bc (List.replicate 32 0) from pc.1)
  have hga : V1.heap.size ≤ ba := pa.2
  have hgb : V1.heap.size ≤ bb := pb.2
  have hgc : V1.heap.size ≤ bc := pc.2
  have HX0 := Lib.hid hb
  clear pa pb pc hb hX hB0 hB1 hB2
  simp only [ptr, Act.put, List.setIfInBounds_toArray, List.set_cons_zero, List.set_cons_succ]
  refine wpList_skip0 rfl (X.setRow ba (celB a).toArray) (exec_storeD (x := .tmp 2) (y := .tmp 33) Da.out.1 List.length_replicate PA.out rfl rfl rfl) ?_
  have PA1 := Lib.hid (PA.out.row a)
  have PB1 := Lib.hid (PB.out.farRow (Ne.symm nab) (celB a).toArray)
  have PC1 := Lib.hid (PC.out.farRow (Ne.symm nac) (celB a).toArray)
  have HX1 := Lib.hid (bel_setRow HX0.out hga (celB a).toArray)
  clear PA PB PC HX0
  generalize X.setRow ba (celB a).toArray = X1 at *
  simp only [ptr, Act.put, List.setIfInBounds_toArray, List.set_cons_zero, List.set_cons_succ]
  refine wpList_skip0 rfl (X1.setRow bb (celB b).toArray) (exec_storeD (x := .tmp 3) (y := .tmp 37) Db_.out.1 List.length_replicate PB1.out rfl rfl rfl) ?_
  have PA2 := Lib.hid (PA1.out.farRow nab (celB b).toArray)
  have PB2 := Lib.hid (PB1.out.row b)
  have PC2 := Lib.hid (PC1.out.farRow (Ne.symm nbc) (celB b).toArray)
  have HX2 := Lib.hid (bel_setRow HX1.out hgb (celB b).toArray)
  clear PA1 PB1 PC1 HX1
  generalize X1.setRow bb (celB b).toArray = X2 at *
  simp only [ptr, Act.put, List.setIfInBounds_toArray, List.set_cons_zero, List.set_cons_succ]
  refine wpList_skip0 rfl (X2.setRow bc (celB c).toArray) (exec_storeD (x := .tmp 4) (y := .tmp 41) Dc.out.1 List.length_replicate PC2.out rfl rfl rfl) ?_
  have F2 := Lib.hid (PA2.out.farRow nac (celB c).toArray)
  have F3 := Lib.hid (PB2.out.farRow nbc (celB c).toArray)
  have F4 := Lib.hid (PC2.out.row c)
  have hb := bel_setRow HX2.out hgc (celB c).toArray
  clear PA2 PB2 PC2 HX2 hga hgb hgc nab nac nbc
  generalize X2.setRow bc (celB c).toArray = V2 at *
  refine wpList_nil ?_
  simp only [ptr, Act.put, List.setIfInBounds_toArray, List.set_cons_zero, List.set_cons_succ]
  have B1 := Lib.hid hb
  clear hb
  go_upto_region 3 with fail
  refine wp_region_lit ?_
  refine wpList_run (by kernel_rfl) (.agg (celB a).toArray) V2 (exec_loadD Da.out.1 (show RowB V2 34 ba a from F2.out) rfl rfl) ?_
  simp only [Act.put, List.setIfInBounds_toArray, List.set_cons_zero, List.set_cons_succ]
  refine wpList_run (by kernel_rfl) (.agg (celB b).toArray) V2 (exec_loadD Db_.out.1 (show RowB V2 34 bb b from F3.out) rfl rfl) ?_
  simp only [Act.put, List.setIfInBounds_toArray, List.set_cons_zero, List.set_cons_succ]
  have C0_2 := Lib.hid (bel_step B0.out B1.out)
  refine wpList_call (by kernel_rfl) 44 Tryd.func44 (by kernel_rfl) (by kernel_rfl) _ _ #[.agg (celB a).toArray, .agg (celB b).toArray] rfl (by kernel_rfl) ?_
  refine (rpair_any a b V2 Da.out.1 Db_.out.1 Da.out.2 Db_.out.2 ab Eab.out).mono ?_
  rintro e V3 ⟨rfl, hb⟩
  have B2 := Lib.hid hb
  clear hb 
  refine ⟨_, rfl, ?_⟩
  simp only [Act.put, List.setIfInBounds_toArray, List.set_cons_zero, List.set_cons_succ]
  refine wpList_decl z32 (celB ab).toArray 34 (by kernel_rfl) (run_allocD _ _ _ rfl) (fun _ => by kernel_rfl) (fun b W h0 => exec_storeD Dab.out.1 List.length_replicate (show RowB W 34 b (List.replicate 32 0) from h0) rfl rfl rfl) ?_
  intro b5 V4 hge h0 hb
  have B3 := Lib.hid hb
  have F5 := Lib.hid h0
  clear hge h0 hb
  simp only [ptr, Act.put, List.setIfInBounds_toArray, List.set_cons_zero, List.set_cons_succ]
  refine wpList_nil ?_
  go_upto_region 4 with fail
  refine wp_region_lit ?_
  refine wpList_run (by kernel_rfl) (.slice (some ad) 3 cp) V4 rfl ?_
  simp only [Act.put, List.setIfInBounds_toArray, List.set_cons_zero, List.set_cons_succ]
  have C0_3 := Lib.hid (bel_step C0_2.out B2.out)
  have C0_4 := Lib.hid (bel_step C0_3.out B3.out)
  have C1_3 := Lib.hid (bel_step B1.out B2.out)
  have C1_4 := Lib.hid (bel_step C1_3.out B3.out)
  refine wpList_call (by kernel_rfl) 45 Tryd.func45 (by kernel_rfl) (by kernel_rfl) _ _ #[.slice (some ad) 3 cp] rfl (by kernel_rfl) ?_
  refine (root_yes (some ad) 3 cp [[97], [98], [99]] V4 (HP.out.keep C1_4.out) (by omega) (by omega) (by decide) (HG.out.keep C0_4.out) root Eroot2.out).mono ?_
  rintro e V5 ⟨rfl, hb⟩
  have B4 := Lib.hid hb
  clear hb 
  refine ⟨_, rfl, ?_⟩
  simp only [Act.put, List.setIfInBounds_toArray, List.set_cons_zero, List.set_cons_succ]
  refine wpList_run (by kernel_rfl) (.tuple #[.agg (celB root).toArray, .int .i64 0]) V5 rfl ?_
  simp only [Act.put, List.setIfInBounds_toArray, List.set_cons_zero, List.set_cons_succ]
  refine wpList_run (by kernel_rfl) (.agg (celB root).toArray) V5 rfl ?_
  simp only [Act.put, List.setIfInBounds_toArray, List.set_cons_zero, List.set_cons_succ]
  refine wpList_run (by kernel_rfl) (.int .i64 0) V5 rfl ?_
  simp only [Act.put, List.setIfInBounds_toArray, List.set_cons_zero, List.set_cons_succ]
  refine wpList_decl z32 (celB root).toArray 34 (by kernel_rfl) (run_allocD _ _ _ rfl) (fun _ => by kernel_rfl) (fun b W h0 => exec_storeD Dr.out.1 List.length_replicate (show RowB W 34 b (List.replicate 32 0) from h0) rfl rfl rfl) ?_
  intro b6 V6 hge h0 hb
  have B5 := Lib.hid hb
  have F6 := Lib.hid h0
  clear hge h0 hb
  simp only [ptr, Act.put, List.setIfInBounds_toArray, List.set_cons_zero, List.set_cons_succ]
  refine wpList_run (by kernel_rfl) (.int .i64 0) V6 rfl ?_
  simp only [Act.put, List.setIfInBounds_toArray, List.set_cons_zero, List.set_cons_succ]
  refine wpList_nil ?_
  go_upto_region 5 with fail
  refine wp_region_lit ?_
  refine wpList_run (by kernel_rfl) (.slice (some ad) 3 cp) V6 rfl ?_
  simp only [Act.put, List.setIfInBounds_toArray, List.set_cons_zero, List.set_cons_succ]
  refine wpList_run (by kernel_rfl) (.slice (some ad) 1 cp) V6 (exec_takeP _ ad 3 cp 1 (by omega) HP.out.cap rfl rfl rfl) ?_
  simp only [Act.put, List.setIfInBounds_toArray, List.set_cons_zero, List.set_cons_succ]
  have C0_5 := Lib.hid (bel_step C0_4.out B4.out)
  have C0_6 := Lib.hid (bel_step C0_5.out B5.out)
  have C1_5 := Lib.hid (bel_step C1_4.out B4.out)
  have C1_6 := Lib.hid (bel_step C1_5.out B5.out)
  refine wpList_call (by kernel_rfl) 45 Tryd.func45 (by kernel_rfl) (by kernel_rfl) _ _ #[.slice (some ad) 1 cp] rfl (by kernel_rfl) ?_
  refine (root_yes (some ad) 1 cp [[97]] V6 ((HP.out.keep C1_6.out).take (k := 1) (by omega)) (by omega) (by omega) (by decide) (HG.out.keep C0_6.out) a Ea2.out).mono ?_
  rintro e V7 ⟨rfl, hb⟩
  have B6 := Lib.hid hb
  clear hb 
  refine ⟨_, rfl, ?_⟩
  simp only [Act.put, List.setIfInBounds_toArray, List.set_cons_zero, List.set_cons_succ]
  refine wpList_run (by kernel_rfl) (.tuple #[.agg (celB a).toArray, .int .i64 0]) V7 rfl ?_
  simp only [Act.put, List.setIfInBounds_toArray, List.set_cons_zero, List.set_cons_succ]
  refine wpList_run (by kernel_rfl) (.agg (celB a).toArray) V7 rfl ?_
  simp only [Act.put, List.setIfInBounds_toArray, List.set_cons_zero, List.set_cons_succ]
  refine wpList_run (by kernel_rfl) (.int .i64 0) V7 rfl ?_
  simp only [Act.put, List.setIfInBounds_toArray, List.set_cons_zero, List.set_cons_succ]
  refine wpList_decl z32 (celB a).toArray 34 (by kernel_rfl) (run_allocD _ _ _ rfl) (fun _ => by kernel_rfl) (fun b W h0 => exec_storeD Da.out.1 List.length_replicate (show RowB W 34 b (List.replicate 32 0) from h0) rfl rfl rfl) ?_
  intro b8 V8 hge h0 hb
  have B7 := Lib.hid hb
  have F8 := Lib.hid h0
  clear hge h0 hb
  simp only [ptr, Act.put, List.setIfInBounds_toArray, List.set_cons_zero, List.set_cons_succ]
  refine wpList_run (by kernel_rfl) (.int .i64 0) V8 rfl ?_
  simp only [Act.put, List.setIfInBounds_toArray, List.set_cons_zero, List.set_cons_succ]
  refine wpList_nil ?_
  go_upto_region 6 with fail
  refine wp_region_lit ?_
  have C0_7 := Lib.hid (bel_step C0_6.out B6.out)
  have C0_8 := Lib.hid (bel_step C0_7.out B7.out)
  refine wpList_call (by kernel_rfl) 45 Tryd.func45 (by kernel_rfl) (by kernel_rfl) _ _ #[.slice none 0 0] rfl (by kernel_rfl) ?_
  refine (root_none V8).mono ?_
  rintro e V9 ⟨rfl, hb⟩
  have B8 := Lib.hid hb
  clear hb 
  refine ⟨_, rfl, ?_⟩
  simp only [Act.put, List.setIfInBounds_toArray, List.set_cons_zero, List.set_cons_succ]
  refine wpList_run (by kernel_rfl) (.tuple #[.agg (celB (List.replicate 32 0)).toArray, .int .i64 1]) V9 rfl ?_
  simp only [Act.put, List.setIfInBounds_toArray, List.set_cons_zero, List.set_cons_succ]
  refine wpList_run (by kernel_rfl) (.agg (celB (List.replicate 32 0)).toArray) V9 rfl ?_
  simp only [Act.put, List.setIfInBounds_toArray, List.set_cons_zero, List.set_cons_succ]
  refine wpList_run (by kernel_rfl) (.int .i64 1) V9 rfl ?_
  simp only [Act.put, List.setIfInBounds_toArray, List.set_cons_zero, List.set_cons_succ]
  refine wpList_decl z32 (celB (List.replicate 32 0)).toArray 34 (by kernel_rfl) (run_allocD _ _ _ rfl) (fun _ => by kernel_rfl) (fun b W h0 => exec_storeD List.length_replicate List.length_replicate (show RowB W 34 b (List.replicate 32 0) from h0) rfl rfl rfl) ?_
  intro b10 V10 hge h0 hb
  have B9 := Lib.hid hb
  have F10 := Lib.hid h0
  clear hge h0 hb
  simp only [ptr, Act.put, List.setIfInBounds_toArray, List.set_cons_zero, List.set_cons_succ]
  refine wpList_run (by kernel_rfl) (.int .i64 1) V10 rfl ?_
  simp only [Act.put, List.setIfInBounds_toArray, List.set_cons_zero, List.set_cons_succ]
  refine wpList_nil ?_
  go_upto_region 7 with fail
  refine wp_region_lit ?_
  refine wpList_run (by kernel_rfl) (.slice (some ad) 3 cp) V10 rfl ?_
  simp only [Act.put, List.setIfInBounds_toArray, List.set_cons_zero, List.set_cons_succ]
  refine wpList_mk (by kernel_rfl) #[.int .i64 1] 3 1 1 (run_buildI1 1 rfl rfl _) ?_
  intro g62 V11 hge h0 hb
  have B10 := Lib.hid hb
  have M62 := Lib.hid (ib_cells1 h0)
  clear hge h0 hb
  simp only [Act.put, List.setIfInBounds_toArray, List.set_cons_zero, List.set_cons_succ]
  have C0_9 := Lib.hid (bel_step C0_8.out B8.out)
  have C0_10 := Lib.hid (bel_step C0_9.out B9.out)
  have C0_11 := Lib.hid (bel_step C0_10.out B10.out)
  have C1_7 := Lib.hid (bel_step C1_6.out B6.out)
  have C1_8 := Lib.hid (bel_step C1_7.out B7.out)
  have C1_9 := Lib.hid (bel_step C1_8.out B8.out)
  have C1_10 := Lib.hid (bel_step C1_9.out B9.out)
  have C1_11 := Lib.hid (bel_step C1_10.out B10.out)
  refine wpList_call (by kernel_rfl) 46 Tryd.func46 (by kernel_rfl) (by kernel_rfl) _ _ #[.slice (some ad) 3 cp, .slice (some ⟨g62, 0, none⟩) 1 1] rfl (by kernel_rfl) ?_
  refine (open_yes (some ad) 3 cp [[97], [98], [99]] (some ⟨g62, 0, none⟩) 1 1 [1] V11 (HP.out.keep C1_11.out) M62.out (by omega) (by omega) (by decide) (HG.out.keep C0_11.out) (by decide) [a, c] Eo1.out).mono ?_
  rintro e V12 ⟨O1, mO1, fO1, rfl, hd, hb⟩
  have B11 := Lib.hid hb
  have HO1 := Lib.hid hd
  clear hb hd
  refine ⟨_, rfl, ?_⟩
  simp only [Act.put, List.setIfInBounds_toArray, List.set_cons_zero, List.set_cons_succ]
  refine wpList_run (by kernel_rfl) (.tuple #[.agg #[.slice O1 mO1 fO1], .int .i64 0]) V12 rfl ?_
  simp only [Act.put, List.setIfInBounds_toArray, List.set_cons_zero, List.set_cons_succ]
  refine wpList_run (by kernel_rfl) (.agg #[.slice O1 mO1 fO1]) V12 rfl ?_
  simp only [Act.put, List.setIfInBounds_toArray, List.set_cons_zero, List.set_cons_succ]
  refine wpList_run (by kernel_rfl) (.int .i64 0) V12 rfl ?_
  simp only [Act.put, List.setIfInBounds_toArray, List.set_cons_zero, List.set_cons_succ]
  refine wpList_decl #[.slice none 0 0] #[.slice O1 mO1 fO1] 28 (by kernel_rfl) (exec_allocOp _ rfl) (fun _ => by kernel_rfl) (fun b W h0 => exec_storeOp b _ _ _ _ rfl rfl rfl h0) ?_
  intro b12 V13 hge h0 hb
  have B12 := Lib.hid hb
  have F12 := Lib.hid h0
  clear hge h0 hb
  simp only [ptr, Act.put, List.setIfInBounds_toArray, List.set_cons_zero, List.set_cons_succ]
  refine wpList_run (by kernel_rfl) (.int .i64 0) V13 rfl ?_
  simp only [Act.put, List.setIfInBounds_toArray, List.set_cons_zero, List.set_cons_succ]
  refine wpList_nil ?_
  go_upto_region 8 with fail
  refine wp_region_lit ?_
  refine wpList_run (by kernel_rfl) (.slice (some ad) 3 cp) V13 rfl ?_
  simp only [Act.put, List.setIfInBounds_toArray, List.set_cons_zero, List.set_cons_succ]
  have C0_12 := Lib.hid (bel_step C0_11.out B11.out)
  have C0_13 := Lib.hid (bel_step C0_12.out B12.out)
  have C1_12 := Lib.hid (bel_step C1_11.out B11.out)
  have C1_13 := Lib.hid (bel_step C1_12.out B12.out)
  refine wpList_call (by kernel_rfl) 46 Tryd.func46 (by kernel_rfl) (by kernel_rfl) _ _ #[.slice (some ad) 3 cp, .slice none 0 0] rfl (by kernel_rfl) ?_
  refine (open_yes (some ad) 3 cp [[97], [98], [99]] none 0 0 [] V13 (HP.out.keep C1_13.out) (Ib.none_ _) (by omega) (by omega) (by decide) (HG.out.keep C0_13.out) (by decide) [root] Eo0.out).mono ?_
  rintro e V14 ⟨O2, mO2, fO2, rfl, hd, hb⟩
  have B13 := Lib.hid hb
  have HO2 := Lib.hid hd
  clear hb hd
  refine ⟨_, rfl, ?_⟩
  simp only [Act.put, List.setIfInBounds_toArray, List.set_cons_zero, List.set_cons_succ]
  refine wpList_run (by kernel_rfl) (.tuple #[.agg #[.slice O2 mO2 fO2], .int .i64 0]) V14 rfl ?_
  simp only [Act.put, List.setIfInBounds_toArray, List.set_cons_zero, List.set_cons_succ]
  refine wpList_run (by kernel_rfl) (.agg #[.slice O2 mO2 fO2]) V14 rfl ?_
  simp only [Act.put, List.setIfInBounds_toArray, List.set_cons_zero, List.set_cons_succ]
  refine wpList_run (by kernel_rfl) (.int .i64 0) V14 rfl ?_
  simp only [Act.put, List.setIfInBounds_toArray, List.set_cons_zero, List.set_cons_succ]
  refine wpList_decl #[.slice none 0 0] #[.slice O2 mO2 fO2] 28 (by kernel_rfl) (exec_allocOp _ rfl) (fun _ => by kernel_rfl) (fun b W h0 => exec_storeOp b _ _ _ _ rfl rfl rfl h0) ?_
  intro b14 V15 hge h0 hb
  have B14 := Lib.hid hb
  have F14 := Lib.hid h0
  clear hge h0 hb
  simp only [ptr, Act.put, List.setIfInBounds_toArray, List.set_cons_zero, List.set_cons_succ]
  refine wpList_run (by kernel_rfl) (.int .i64 0) V15 rfl ?_
  simp only [Act.put, List.setIfInBounds_toArray, List.set_cons_zero, List.set_cons_succ]
  refine wpList_nil ?_
  go_upto_region 9 with fail
  refine wp_region_lit ?_
  refine wpList_run (by kernel_rfl) (.slice (some ad) 3 cp) V15 rfl ?_
  simp only [Act.put, List.setIfInBounds_toArray, List.set_cons_zero, List.set_cons_succ]
  refine wpList_mk (by kernel_rfl) #[.int .i64 1, .int .i64 1] 3 2 2 (run_buildI2 1 1 rfl rfl rfl _) ?_
  intro g73 V16 hge h0 hb
  have B15 := Lib.hid hb
  have M73 := Lib.hid (ib_cells2 h0)
  clear hge h0 hb
  simp only [Act.put, List.setIfInBounds_toArray, List.set_cons_zero, List.set_cons_succ]
  have C0_14 := Lib.hid (bel_step C0_13.out B13.out)
  have C0_15 := Lib.hid (bel_step C0_14.out B14.out)
  have C0_16 := Lib.hid (bel_step C0_15.out B15.out)
  have C1_14 := Lib.hid (bel_step C1_13.out B13.out)
  have C1_15 := Lib.hid (bel_step C1_14.out B14.out)
  have C1_16 := Lib.hid (bel_step C1_15.out B15.out)
  refine wpList_call (by kernel_rfl) 46 Tryd.func46 (by kernel_rfl) (by kernel_rfl) _ _ #[.slice (some ad) 3 cp, .slice (some ⟨g73, 0, none⟩) 2 2] rfl (by kernel_rfl) ?_
  refine (open_no (some ad) 3 cp [[97], [98], [99]] (some ⟨g73, 0, none⟩) 2 2 [1, 1] V16 (HP.out.keep C1_16.out) M73.out (by omega) (by omega) (by decide) (HG.out.keep C0_16.out) (by decide)).mono ?_
  rintro e V17 ⟨rfl, hb⟩
  have B16 := Lib.hid hb
  clear hb 
  refine ⟨_, rfl, ?_⟩
  simp only [Act.put, List.setIfInBounds_toArray, List.set_cons_zero, List.set_cons_succ]
  refine wpList_run (by kernel_rfl) (.tuple #[.agg #[.slice none 0 0], .int .i64 1]) V17 rfl ?_
  simp only [Act.put, List.setIfInBounds_toArray, List.set_cons_zero, List.set_cons_succ]
  refine wpList_run (by kernel_rfl) (.agg #[.slice none 0 0]) V17 rfl ?_
  simp only [Act.put, List.setIfInBounds_toArray, List.set_cons_zero, List.set_cons_succ]
  refine wpList_run (by kernel_rfl) (.int .i64 1) V17 rfl ?_
  simp only [Act.put, List.setIfInBounds_toArray, List.set_cons_zero, List.set_cons_succ]
  refine wpList_decl #[.slice none 0 0] #[.slice none 0 0] 28 (by kernel_rfl) (exec_allocOp _ rfl) (fun _ => by kernel_rfl) (fun b W h0 => exec_storeOp b _ _ _ _ rfl rfl rfl h0) ?_
  intro b16 V18 hge h0 hb
  have B17 := Lib.hid hb
  have F16 := Lib.hid h0
  clear hge h0 hb
  simp only [ptr, Act.put, List.setIfInBounds_toArray, List.set_cons_zero, List.set_cons_succ]
  refine wpList_run (by kernel_rfl) (.int .i64 1) V18 rfl ?_
  simp only [Act.put, List.setIfInBounds_toArray, List.set_cons_zero, List.set_cons_succ]
  refine wpList_nil ?_
  go_upto_region 10 with fail
  refine wp_region_lit ?_
  refine wpList_run (by kernel_rfl) (.slice (some ad) 3 cp) V18 rfl ?_
  simp only [Act.put, List.setIfInBounds_toArray, List.set_cons_zero, List.set_cons_succ]
  refine wpList_mk (by kernel_rfl) #[.int .i64 3] 3 1 1 (run_buildI1 3 rfl rfl _) ?_
  intro g79 V19 hge h0 hb
  have B18 := Lib.hid hb
  have M79 := Lib.hid (ib_cells1 h0)
  clear hge h0 hb
  simp only [Act.put, List.setIfInBounds_toArray, List.set_cons_zero, List.set_cons_succ]
  have C0_17 := Lib.hid (bel_step C0_16.out B16.out)
  have C0_18 := Lib.hid (bel_step C0_17.out B17.out)
  have C0_19 := Lib.hid (bel_step C0_18.out B18.out)
  have C1_17 := Lib.hid (bel_step C1_16.out B16.out)
  have C1_18 := Lib.hid (bel_step C1_17.out B17.out)
  have C1_19 := Lib.hid (bel_step C1_18.out B18.out)
  refine wpList_call (by kernel_rfl) 46 Tryd.func46 (by kernel_rfl) (by kernel_rfl) _ _ #[.slice (some ad) 3 cp, .slice (some ⟨g79, 0, none⟩) 1 1] rfl (by kernel_rfl) ?_
  refine (open_no (some ad) 3 cp [[97], [98], [99]] (some ⟨g79, 0, none⟩) 1 1 [3] V19 (HP.out.keep C1_19.out) M79.out (by omega) (by omega) (by decide) (HG.out.keep C0_19.out) (by decide)).mono ?_
  rintro e V20 ⟨rfl, hb⟩
  have B19 := Lib.hid hb
  clear hb 
  refine ⟨_, rfl, ?_⟩
  simp only [Act.put, List.setIfInBounds_toArray, List.set_cons_zero, List.set_cons_succ]
  refine wpList_run (by kernel_rfl) (.tuple #[.agg #[.slice none 0 0], .int .i64 1]) V20 rfl ?_
  simp only [Act.put, List.setIfInBounds_toArray, List.set_cons_zero, List.set_cons_succ]
  refine wpList_run (by kernel_rfl) (.agg #[.slice none 0 0]) V20 rfl ?_
  simp only [Act.put, List.setIfInBounds_toArray, List.set_cons_zero, List.set_cons_succ]
  refine wpList_run (by kernel_rfl) (.int .i64 1) V20 rfl ?_
  simp only [Act.put, List.setIfInBounds_toArray, List.set_cons_zero, List.set_cons_succ]
  refine wpList_decl #[.slice none 0 0] #[.slice none 0 0] 28 (by kernel_rfl) (exec_allocOp _ rfl) (fun _ => by kernel_rfl) (fun b W h0 => exec_storeOp b _ _ _ _ rfl rfl rfl h0) ?_
  intro b18 V21 hge h0 hb
  have B20 := Lib.hid hb
  have F18 := Lib.hid h0
  clear hge h0 hb
  simp only [ptr, Act.put, List.setIfInBounds_toArray, List.set_cons_zero, List.set_cons_succ]
  refine wpList_run (by kernel_rfl) (.int .i64 1) V21 rfl ?_
  simp only [Act.put, List.setIfInBounds_toArray, List.set_cons_zero, List.set_cons_succ]
  refine wpList_nil ?_
  go_upto_region 11 with fail
  refine wp_region_lit ?_
  refine wpList_run (by kernel_rfl) (.slice (some ad) 3 cp) V21 rfl ?_
  simp only [Act.put, List.setIfInBounds_toArray, List.set_cons_zero, List.set_cons_succ]
  have C0_20 := Lib.hid (bel_step C0_19.out B19.out)
  have C0_21 := Lib.hid (bel_step C0_20.out B20.out)
  have C1_20 := Lib.hid (bel_step C1_19.out B19.out)
  have C1_21 := Lib.hid (bel_step C1_20.out B20.out)
  refine wpList_call (by kernel_rfl) 47 Tryd.func47 (by kernel_rfl) (by kernel_rfl) _ _ #[.slice (some ad) 3 cp, .int .i64 2] rfl (by kernel_rfl) ?_
  refine (witness_yes (some ad) 3 cp [[97], [98], [99]] 2 V21 (HP.out.keep C1_21.out) (by omega) (by omega) (by decide) (HG.out.keep C0_21.out) (by omega) [ab] Ew.out).mono ?_
  rintro e V22 ⟨wA, wn, wc, rfl, hd, hb⟩
  have B21 := Lib.hid hb
  have HWit := Lib.hid hd
  clear hb hd
  refine ⟨_, rfl, ?_⟩
  simp only [Act.put, List.setIfInBounds_toArray, List.set_cons_zero, List.set_cons_succ]
  refine wpList_run (by kernel_rfl) (.tuple #[.slice wA wn wc, .int .i64 0]) V22 rfl ?_
  simp only [Act.put, List.setIfInBounds_toArray, List.set_cons_zero, List.set_cons_succ]
  refine wpList_run (by kernel_rfl) (.slice wA wn wc) V22 rfl ?_
  simp only [Act.put, List.setIfInBounds_toArray, List.set_cons_zero, List.set_cons_succ]
  refine wpList_run (by kernel_rfl) (.int .i64 0) V22 rfl ?_
  simp only [Act.put, List.setIfInBounds_toArray, List.set_cons_zero, List.set_cons_succ]
  refine wpList_run (by kernel_rfl) (.slice wA wn wc) V22 rfl ?_
  simp only [Act.put, List.setIfInBounds_toArray, List.set_cons_zero, List.set_cons_succ]
  refine wpList_run (by kernel_rfl) (.int .i64 0) V22 rfl ?_
  simp only [Act.put, List.setIfInBounds_toArray, List.set_cons_zero, List.set_cons_succ]
  refine wpList_nil ?_
  go_upto_region 12 with fail
  refine wp_region_lit ?_
  refine wpList_run (by kernel_rfl) (.slice (some ad) 3 cp) V22 rfl ?_
  simp only [Act.put, List.setIfInBounds_toArray, List.set_cons_zero, List.set_cons_succ]
  have C0_22 := Lib.hid (bel_step C0_21.out B21.out)
  have C1_22 := Lib.hid (bel_step C1_21.out B21.out)
  refine wpList_call (by kernel_rfl) 47 Tryd.func47 (by kernel_rfl) (by kernel_rfl) _ _ #[.slice (some ad) 3 cp, .int .i64 3] rfl (by kernel_rfl) ?_
  refine (witness_no (some ad) 3 cp [[97], [98], [99]] 3 V22 (HP.out.keep C1_22.out) (by omega) (by omega) (by decide) (HG.out.keep C0_22.out) (by omega)).mono ?_
  rintro e V23 ⟨rfl, hb⟩
  have B22 := Lib.hid hb
  clear hb 
  refine ⟨_, rfl, ?_⟩
  simp only [Act.put, List.setIfInBounds_toArray, List.set_cons_zero, List.set_cons_succ]
  refine wpList_run (by kernel_rfl) (.tuple #[.slice none 0 0, .int .i64 1]) V23 rfl ?_
  simp only [Act.put, List.setIfInBounds_toArray, List.set_cons_zero, List.set_cons_succ]
  refine wpList_run (by kernel_rfl) (.slice none 0 0) V23 rfl ?_
  simp only [Act.put, List.setIfInBounds_toArray, List.set_cons_zero, List.set_cons_succ]
  refine wpList_run (by kernel_rfl) (.int .i64 1) V23 rfl ?_
  simp only [Act.put, List.setIfInBounds_toArray, List.set_cons_zero, List.set_cons_succ]
  refine wpList_run (by kernel_rfl) (.slice none 0 0) V23 rfl ?_
  simp only [Act.put, List.setIfInBounds_toArray, List.set_cons_zero, List.set_cons_succ]
  refine wpList_run (by kernel_rfl) (.int .i64 1) V23 rfl ?_
  simp only [Act.put, List.setIfInBounds_toArray, List.set_cons_zero, List.set_cons_succ]
  refine wpList_nil ?_
  go_upto_region 13 with fail
  have hS0 : Below V23.heap.size V23 V23.drew := (Below.refl _ _).drew
  refine wp_ordA (Below V23.heap.size V23) [(0, true), (1, true), (2, true), (4, true), (5, true), (6, true), (8, true), (9, true), (10, true), (3, false), (7, false), (11, false), (12, true)] (by kernel_rfl) (by kernel_rfl) (fun _ _ dt _ _ h => by cases dt <;> exact h) rfl (by kernel_rfl) hS0 ?_
  have C1_23 := Lib.hid (bel_step C1_22.out B22.out)
  refine wpO_val (.slice (some ad) 3 cp) rfl rfl (fun _ _ => rfl) ?_
  simp only [Act.put, List.setIfInBounds_toArray, List.set_cons_zero, List.set_cons_succ]
  refine wpO_val (.pointer (some (ad.add 0))) rfl rfl (fun _ _ => exec_idxP _ ad 3 cp 0 (by omega) rfl rfl rfl) ?_
  simp only [Act.put, List.setIfInBounds_toArray, List.set_cons_zero, List.set_cons_succ]
  refine wpO_val (.slice e0 1 f0) rfl rfl (fun W hW => exec_loadS _ _ _ _ ((E0.out.keep C1_23.out).keep hW).cell rfl rfl) ?_
  simp only [Act.put, List.setIfInBounds_toArray, List.set_cons_zero, List.set_cons_succ]
  refine wpO_val (.slice (some ad) 3 cp) rfl rfl (fun _ _ => rfl) ?_
  simp only [Act.put, List.setIfInBounds_toArray, List.set_cons_zero, List.set_cons_succ]
  refine wpO_val (.pointer (some (ad.add 1))) rfl rfl (fun _ _ => exec_idxP _ ad 3 cp 1 (by omega) rfl rfl rfl) ?_
  simp only [Act.put, List.setIfInBounds_toArray, List.set_cons_zero, List.set_cons_succ]
  refine wpO_val (.slice e1 1 f1) rfl rfl (fun W hW => exec_loadS _ _ _ _ ((E1.out.keep C1_23.out).keep hW).cell rfl rfl) ?_
  simp only [Act.put, List.setIfInBounds_toArray, List.set_cons_zero, List.set_cons_succ]
  refine wpO_val (.slice (some ad) 3 cp) rfl rfl (fun _ _ => rfl) ?_
  simp only [Act.put, List.setIfInBounds_toArray, List.set_cons_zero, List.set_cons_succ]
  refine wpO_val (.pointer (some (ad.add 2))) rfl rfl (fun _ _ => exec_idxP _ ad 3 cp 2 (by omega) rfl rfl rfl) ?_
  simp only [Act.put, List.setIfInBounds_toArray, List.set_cons_zero, List.set_cons_succ]
  refine wpO_val (.slice e2 1 f2) rfl rfl (fun W hW => exec_loadS _ _ _ _ ((E2.out.keep C1_23.out).keep hW).cell rfl rfl) ?_
  simp only [Act.put, List.setIfInBounds_toArray, List.set_cons_zero, List.set_cons_succ]
  have C0_23 := Lib.hid (bel_step C0_22.out B22.out)
  have T0 := Lib.hid hS0
  clear hS0
  refine wpO_op rfl (by kernel_rfl) ?_
  refine hOp_call 48 Tryd.func48 (by kernel_rfl) (by kernel_rfl) _ _ #[.slice none 0 0, .int .i64 0, .slice e0 1 f0] rfl (by kernel_rfl) ?_
  refine (push_db none 0 0 [] 0 e0 1 f0 [97] _ (Db.none_ _) (by omega) (by omega) ((E0.out.keep C1_23.out).keep T0.out).sb (by omega) ((HG.out.keep C0_23.out).keep T0.out) [a] Ep0.out).mono ?_
  rintro e Y0 ⟨p0, n0, c0, rfl, hd, hb⟩
  have T1 := Lib.hid (bel_step T0.out hb)
  have Q0 := Lib.hid hd
  have hn0 : n0 ≤ 60000 := by have := hd.len; simp at this; omega
  clear hd hb
  refine ⟨_, rfl, T1.out, ?_⟩
  simp only [Act.put, List.setIfInBounds_toArray, List.set_cons_zero, List.set_cons_succ]
  refine wpO_op rfl (by kernel_rfl) ?_
  refine hOp_call 48 Tryd.func48 (by kernel_rfl) (by kernel_rfl) _ _ #[.slice p0 n0 c0, .int .i64 1, .slice e1 1 f1] rfl (by kernel_rfl) ?_
  refine (push_db p0 n0 c0 [a] 1 e1 1 f1 [98] _ Q0.out hn0 (by omega) ((E1.out.keep C1_23.out).keep T1.out).sb (by omega) ((HG.out.keep C0_23.out).keep T1.out) [ab] Ep1.out).mono ?_
  rintro e Y1 ⟨p1, n1, c1, rfl, hd, hb⟩
  have T2 := Lib.hid (bel_step T1.out hb)
  have Q1 := Lib.hid hd
  have hn1 : n1 ≤ 60000 := by have := hd.len; simp at this; omega
  clear hd hb
  refine ⟨_, rfl, T2.out, ?_⟩
  simp only [Act.put, List.setIfInBounds_toArray, List.set_cons_zero, List.set_cons_succ]
  refine wpO_op rfl (by kernel_rfl) ?_
  refine hOp_call 48 Tryd.func48 (by kernel_rfl) (by kernel_rfl) _ _ #[.slice p1 n1 c1, .int .i64 2, .slice e2 1 f2] rfl (by kernel_rfl) ?_
  refine (push_db p1 n1 c1 [ab] 2 e2 1 f2 [99] _ Q1.out hn1 (by omega) ((E2.out.keep C1_23.out).keep T2.out).sb (by omega) ((HG.out.keep C0_23.out).keep T2.out) [ab, c] Ep2.out).mono ?_
  rintro e Y2 ⟨p2, n2, c2, rfl, hd, hb⟩
  have T3 := Lib.hid (bel_step T2.out hb)
  have Q2 := Lib.hid hd
  have hn2 : n2 ≤ 60000 := by have := hd.len; simp at this; omega
  clear hd hb
  refine ⟨_, rfl, T3.out, ?_⟩
  simp only [Act.put, List.setIfInBounds_toArray, List.set_cons_zero, List.set_cons_succ]
  refine wpO_val (.slice p2 n2 c2) rfl rfl (fun _ _ => rfl) ?_
  simp only [Act.put, List.setIfInBounds_toArray, List.set_cons_zero, List.set_cons_succ]
  refine wpO_nil ?_
  have B23 := Lib.hid T3.out
  have HN24 := Lib.hid (show n2 ≤ 100000 by omega)
  clear T0 T1 T2 T3 Q0 Q1 hn0 hn1 hn2
  go_upto_region 14 with fail
  refine wp_region_lit ?_
  refine wpList_mk (by kernel_rfl) #[.int .i64 1] 3 1 1 (run_buildI1 1 rfl rfl _) ?_
  intro g105 V25 hge h0 hb
  have B24 := Lib.hid hb
  have M105 := Lib.hid (ib_cells1 h0)
  clear hge h0 hb
  simp only [Act.put, List.setIfInBounds_toArray, List.set_cons_zero, List.set_cons_succ]
  refine wpList_run (by kernel_rfl) (.slice (some ad) 3 cp) V25 rfl ?_
  simp only [Act.put, List.setIfInBounds_toArray, List.set_cons_zero, List.set_cons_succ]
  refine wpList_run (by kernel_rfl) (.pointer (some (ad.add 1))) V25 (exec_idxP _ ad 3 cp 1 (by omega) rfl rfl rfl) ?_
  simp only [Act.put, List.setIfInBounds_toArray, List.set_cons_zero, List.set_cons_succ]
  have C1_24 := Lib.hid (bel_step C1_23.out B23.out)
  have C1_25 := Lib.hid (bel_step C1_24.out B24.out)
  refine wpList_run (by kernel_rfl) (.slice e1 1 f1) V25 (exec_loadS _ _ _ _ (E1.out.keep C1_25.out).cell rfl rfl) ?_
  simp only [Act.put, List.setIfInBounds_toArray, List.set_cons_zero, List.set_cons_succ]
  refine wpList_mk (by kernel_rfl) #[.slice e1 1 f1] 29 1 1 (run_buildP1 _ _ _ rfl rfl _) ?_
  intro g109 V26 hge h0 hb
  have B25 := Lib.hid hb
  have C1_26 := Lib.hid (bel_step C1_25.out B25.out)
  have M109 := Lib.hid (pb_cells1 h0 (E1.out.keep C1_26.out).sb)
  clear hge h0 hb
  simp only [Act.put, List.setIfInBounds_toArray, List.set_cons_zero, List.set_cons_succ]
  refine wpList_run (by kernel_rfl) (.agg #[.slice (some ⟨g105, 0, none⟩) 1 1, .slice (some ⟨g109, 0, none⟩) 1 1]) V26 (by unfold execOp; go_simp) ?_
  simp only [Act.put, List.setIfInBounds_toArray, List.set_cons_zero, List.set_cons_succ]
  refine wpList_decl #[.slice none 0 0, .slice none 0 0] #[.slice (some ⟨g105, 0, none⟩) 1 1, .slice (some ⟨g109, 0, none⟩) 1 1] 25 (by kernel_rfl) (exec_allocLv _ rfl) (fun _ => by kernel_rfl) (fun b W h0 => exec_storeLv b _ _ _ _ _ _ _ _ rfl rfl rfl h0) ?_
  intro b25 V27 hge h0 hb
  have B26 := Lib.hid hb
  have F25 := Lib.hid h0
  clear hge h0 hb
  simp only [ptr, Act.put, List.setIfInBounds_toArray, List.set_cons_zero, List.set_cons_succ]
  refine wpList_nil ?_
  go_upto_region 15 with fail
  refine wp_region_lit ?_
  refine wpList_mk (by kernel_rfl) #[.int .i64 1] 3 1 1 (run_buildI1 1 rfl rfl _) ?_
  intro g111 V28 hge h0 hb
  have B27 := Lib.hid hb
  have M111 := Lib.hid (ib_cells1 h0)
  clear hge h0 hb
  simp only [Act.put, List.setIfInBounds_toArray, List.set_cons_zero, List.set_cons_succ]
  refine wpList_run (by kernel_rfl) (.slice (some ad) 3 cp) V28 rfl ?_
  simp only [Act.put, List.setIfInBounds_toArray, List.set_cons_zero, List.set_cons_succ]
  refine wpList_run (by kernel_rfl) (.pointer (some (ad.add 0))) V28 (exec_idxP _ ad 3 cp 0 (by omega) rfl rfl rfl) ?_
  simp only [Act.put, List.setIfInBounds_toArray, List.set_cons_zero, List.set_cons_succ]
  have C1_27 := Lib.hid (bel_step C1_26.out B26.out)
  have C1_28 := Lib.hid (bel_step C1_27.out B27.out)
  refine wpList_run (by kernel_rfl) (.slice e0 1 f0) V28 (exec_loadS _ _ _ _ (E0.out.keep C1_28.out).cell rfl rfl) ?_
  simp only [Act.put, List.setIfInBounds_toArray, List.set_cons_zero, List.set_cons_succ]
  refine wpList_mk (by kernel_rfl) #[.slice e0 1 f0] 29 1 1 (run_buildP1 _ _ _ rfl rfl _) ?_
  intro g115 V29 hge h0 hb
  have B28 := Lib.hid hb
  have C1_29 := Lib.hid (bel_step C1_28.out B28.out)
  have M115 := Lib.hid (pb_cells1 h0 (E0.out.keep C1_29.out).sb)
  clear hge h0 hb
  simp only [Act.put, List.setIfInBounds_toArray, List.set_cons_zero, List.set_cons_succ]
  refine wpList_run (by kernel_rfl) (.agg #[.slice (some ⟨g111, 0, none⟩) 1 1, .slice (some ⟨g115, 0, none⟩) 1 1]) V29 (by unfold execOp; go_simp) ?_
  simp only [Act.put, List.setIfInBounds_toArray, List.set_cons_zero, List.set_cons_succ]
  refine wpList_decl #[.slice none 0 0, .slice none 0 0] #[.slice (some ⟨g111, 0, none⟩) 1 1, .slice (some ⟨g115, 0, none⟩) 1 1] 25 (by kernel_rfl) (exec_allocLv _ rfl) (fun _ => by kernel_rfl) (fun b W h0 => exec_storeLv b _ _ _ _ _ _ _ _ rfl rfl rfl h0) ?_
  intro b26 V30 hge h0 hb
  have B29 := Lib.hid hb
  have F26 := Lib.hid h0
  clear hge h0 hb
  simp only [ptr, Act.put, List.setIfInBounds_toArray, List.set_cons_zero, List.set_cons_succ]
  refine wpList_nil ?_
  go_upto_region 16 with fail
  refine wp_region_lit ?_
  refine wpList_run (by kernel_rfl) (.slice (some ad) 3 cp) V30 rfl ?_
  simp only [Act.put, List.setIfInBounds_toArray, List.set_cons_zero, List.set_cons_succ]
  refine wpList_run (by kernel_rfl) (.pointer (some (ad.add 2))) V30 (exec_idxP _ ad 3 cp 2 (by omega) rfl rfl rfl) ?_
  simp only [Act.put, List.setIfInBounds_toArray, List.set_cons_zero, List.set_cons_succ]
  have C1_30 := Lib.hid (bel_step C1_29.out B29.out)
  refine wpList_run (by kernel_rfl) (.slice e2 1 f2) V30 (exec_loadS _ _ _ _ (E2.out.keep C1_30.out).cell rfl rfl) ?_
  simp only [Act.put, List.setIfInBounds_toArray, List.set_cons_zero, List.set_cons_succ]
  refine wpList_run (by kernel_rfl) (.slice wA wn wc) V30 rfl ?_
  simp only [Act.put, List.setIfInBounds_toArray, List.set_cons_zero, List.set_cons_succ]
  refine wpList_run (by kernel_rfl) (.agg #[.int .i64 3, .int .i64 2, .slice e2 1 f2, .slice wA wn wc]) V30 (by unfold execOp; go_simp) ?_
  simp only [Act.put, List.setIfInBounds_toArray, List.set_cons_zero, List.set_cons_succ]
  refine wpList_decl #[.int .i64 0, .int .i64 0, .slice none 0 0, .slice none 0 0] #[.int .i64 3, .int .i64 2, .slice e2 1 f2, .slice wA wn wc] 31 (by kernel_rfl) (exec_allocMb _ rfl) (fun _ => by kernel_rfl) (fun b W h0 => exec_storeMb b _ _ _ _ _ _ _ _ _ _ _ _ rfl rfl rfl h0) ?_
  intro b27 V31 hge h0 hb
  have B30 := Lib.hid hb
  have F27 := Lib.hid h0
  clear hge h0 hb
  simp only [ptr, Act.put, List.setIfInBounds_toArray, List.set_cons_zero, List.set_cons_succ]
  refine wpList_nil ?_
  go_upto_region 17 with fail
  refine wp_region_lit ?_
  refine wpList_run (by kernel_rfl) (.agg #[.int .i64 3, .int .i64 2, .slice e2 1 f2, .slice wA wn wc]) V31 (exec_loadMb _ _ _ _ _ rfl rfl F27.out) ?_
  simp only [Act.put, List.setIfInBounds_toArray, List.set_cons_zero, List.set_cons_succ]
  refine wpList_decl #[.int .i64 0, .int .i64 0, .slice none 0 0, .slice none 0 0] #[.int .i64 3, .int .i64 2, .slice e2 1 f2, .slice wA wn wc] 31 (by kernel_rfl) (exec_allocMb _ rfl) (fun _ => by kernel_rfl) (fun b W h0 => exec_storeMb b _ _ _ _ _ _ _ _ _ _ _ _ rfl rfl rfl h0) ?_
  intro b28 V32 hge h0 hb
  have B31 := Lib.hid hb
  have F28 := Lib.hid h0
  have HGE := Lib.hid hge
  clear hge h0 hb
  simp only [ptr, Act.put, List.setIfInBounds_toArray, List.set_cons_zero, List.set_cons_succ]
  refine wpList_nil ?_
  go_upto_region 18 with fail
  refine wp_region_lit ?_
  refine wpList_run (by kernel_rfl) (.pointer (some ⟨b28, 1, none⟩)) V32 (by unfold execOp; go_simp) ?_
  simp only [Act.put, List.setIfInBounds_toArray, List.set_cons_zero, List.set_cons_succ]
  refine wpList_run0 (by kernel_rfl) _ (exec_storeI b28 1 _ _ 1 F28.out rfl rfl rfl rfl) ?_
  have h0 := heap_setCell_at F28.out (i := 1) (.int .i64 1)
  have hb := Below.setCell B31.out (p := ⟨b28, 1, none⟩) HGE.out (.int .i64 1)
  generalize V32.setCell ⟨b28, 1, none⟩ (.int .i64 1) = X32 at *
  clear B31 F28
  have B31 := Lib.hid hb
  have F28 : Hid (X32.heap[b28]? = some (.cells #[.int .i64 3, .int .i64 1, .slice e2 1 f2, .slice wA wn wc] 31 (0, 0))) := Lib.hid h0
  clear h0 hb
  try simp only [Act.put, List.setIfInBounds_toArray, List.set_cons_zero, List.set_cons_succ]
  refine wpList_nil ?_
  go_upto_region 19 with fail
  try simp only [List.append_eq, List.cons_append, List.nil_append]
  refine Tl.wp_held_tailB 139 X32.heap.size (by kernel_rfl) (lexOK_of (by kernel_rfl) (by kernel_rfl)) (Tl.chainW_of (by kernel_rfl)) rfl (by kernel_rfl) (by kernel_rfl) (fun V33 hb hSW => ?_)
  simp only [List.take_succ_cons, List.take_zero]
  have HS33 := Lib.hid hSW
  have B32 := Lib.hid hb
  clear hb hSW
  refine wpHeld_seg 6 HS33.out (by kernel_rfl) ?_
  simp only [List.take_succ_cons, List.take_zero, List.drop_succ_cons, List.drop_zero]
  refine wpQuiet_val (by kernel_rfl) (.int .i64 0) (fun v hv => rfl) ?_
  simp only [Act.put, List.setIfInBounds_toArray, List.set_cons_zero, List.set_cons_succ]
  refine wpQuiet_val (by kernel_rfl) (.bool true) (fun v hv => (by first | rfl | (unfold execOp; go_simp))) ?_
  simp only [Act.put, List.setIfInBounds_toArray, List.set_cons_zero, List.set_cons_succ]
  refine wpQuiet_val (by kernel_rfl) (.bool true) (fun v hv => rfl) ?_
  simp only [Act.put, List.setIfInBounds_toArray, List.set_cons_zero, List.set_cons_succ]
  have C6_8 := Lib.hid (bel_step B6.out B7.out)
  have C6_9 := Lib.hid (bel_step C6_8.out B8.out)
  have C6_10 := Lib.hid (bel_step C6_9.out B9.out)
  have C6_11 := Lib.hid (bel_step C6_10.out B10.out)
  have C6_12 := Lib.hid (bel_step C6_11.out B11.out)
  have C6_13 := Lib.hid (bel_step C6_12.out B12.out)
  have C6_14 := Lib.hid (bel_step C6_13.out B13.out)
  have C6_15 := Lib.hid (bel_step C6_14.out B14.out)
  have C6_16 := Lib.hid (bel_step C6_15.out B15.out)
  have C6_17 := Lib.hid (bel_step C6_16.out B16.out)
  have C6_18 := Lib.hid (bel_step C6_17.out B17.out)
  have C6_19 := Lib.hid (bel_step C6_18.out B18.out)
  have C6_20 := Lib.hid (bel_step C6_19.out B19.out)
  have C6_21 := Lib.hid (bel_step C6_20.out B20.out)
  have C6_22 := Lib.hid (bel_step C6_21.out B21.out)
  have C6_23 := Lib.hid (bel_step C6_22.out B22.out)
  have C6_24 := Lib.hid (bel_step C6_23.out B23.out)
  have C6_25 := Lib.hid (bel_step C6_24.out B24.out)
  have C6_26 := Lib.hid (bel_step C6_25.out B25.out)
  have C6_27 := Lib.hid (bel_step C6_26.out B26.out)
  have C6_28 := Lib.hid (bel_step C6_27.out B27.out)
  have C6_29 := Lib.hid (bel_step C6_28.out B28.out)
  have C6_30 := Lib.hid (bel_step C6_29.out B29.out)
  have C6_31 := Lib.hid (bel_step C6_30.out B30.out)
  have C6_32 := Lib.hid (bel_step C6_31.out B31.out)
  refine wpQuiet_val (by kernel_rfl) (.agg (celB root).toArray) (fun v hv => (exec_loadD Dr.out.1 (show RowB v 34 b6 root from (heap_keep (heap_keep F6.out C6_32.out) (LaterB.of hv))) rfl rfl)) ?_
  simp only [Act.put, List.setIfInBounds_toArray, List.set_cons_zero, List.set_cons_succ]
  have C4_6 := Lib.hid (bel_step B4.out B5.out)
  have C4_7 := Lib.hid (bel_step C4_6.out B6.out)
  have C4_8 := Lib.hid (bel_step C4_7.out B7.out)
  have C4_9 := Lib.hid (bel_step C4_8.out B8.out)
  have C4_10 := Lib.hid (bel_step C4_9.out B9.out)
  have C4_11 := Lib.hid (bel_step C4_10.out B10.out)
  have C4_12 := Lib.hid (bel_step C4_11.out B11.out)
  have C4_13 := Lib.hid (bel_step C4_12.out B12.out)
  have C4_14 := Lib.hid (bel_step C4_13.out B13.out)
  have C4_15 := Lib.hid (bel_step C4_14.out B14.out)
  have C4_16 := Lib.hid (bel_step C4_15.out B15.out)
  have C4_17 := Lib.hid (bel_step C4_16.out B16.out)
  have C4_18 := Lib.hid (bel_step C4_17.out B17.out)
  have C4_19 := Lib.hid (bel_step C4_18.out B18.out)
  have C4_20 := Lib.hid (bel_step C4_19.out B19.out)
  have C4_21 := Lib.hid (bel_step C4_20.out B20.out)
  have C4_22 := Lib.hid (bel_step C4_21.out B21.out)
  have C4_23 := Lib.hid (bel_step C4_22.out B22.out)
  have C4_24 := Lib.hid (bel_step C4_23.out B23.out)
  have C4_25 := Lib.hid (bel_step C4_24.out B24.out)
  have C4_26 := Lib.hid (bel_step C4_25.out B25.out)
  have C4_27 := Lib.hid (bel_step C4_26.out B26.out)
  have C4_28 := Lib.hid (bel_step C4_27.out B27.out)
  have C4_29 := Lib.hid (bel_step C4_28.out B28.out)
  have C4_30 := Lib.hid (bel_step C4_29.out B29.out)
  have C4_31 := Lib.hid (bel_step C4_30.out B30.out)
  have C4_32 := Lib.hid (bel_step C4_31.out B31.out)
  refine wpQuiet_val (by kernel_rfl) (.agg (celB ab).toArray) (fun v hv => (exec_loadD Dab.out.1 (show RowB v 34 b5 ab from (heap_keep (heap_keep F5.out C4_32.out) (LaterB.of hv))) rfl rfl)) ?_
  simp only [Act.put, List.setIfInBounds_toArray, List.set_cons_zero, List.set_cons_succ]
  have C2_4 := Lib.hid (bel_step B2.out B3.out)
  have C2_5 := Lib.hid (bel_step C2_4.out B4.out)
  have C2_6 := Lib.hid (bel_step C2_5.out B5.out)
  have C2_7 := Lib.hid (bel_step C2_6.out B6.out)
  have C2_8 := Lib.hid (bel_step C2_7.out B7.out)
  have C2_9 := Lib.hid (bel_step C2_8.out B8.out)
  have C2_10 := Lib.hid (bel_step C2_9.out B9.out)
  have C2_11 := Lib.hid (bel_step C2_10.out B10.out)
  have C2_12 := Lib.hid (bel_step C2_11.out B11.out)
  have C2_13 := Lib.hid (bel_step C2_12.out B12.out)
  have C2_14 := Lib.hid (bel_step C2_13.out B13.out)
  have C2_15 := Lib.hid (bel_step C2_14.out B14.out)
  have C2_16 := Lib.hid (bel_step C2_15.out B15.out)
  have C2_17 := Lib.hid (bel_step C2_16.out B16.out)
  have C2_18 := Lib.hid (bel_step C2_17.out B17.out)
  have C2_19 := Lib.hid (bel_step C2_18.out B18.out)
  have C2_20 := Lib.hid (bel_step C2_19.out B19.out)
  have C2_21 := Lib.hid (bel_step C2_20.out B20.out)
  have C2_22 := Lib.hid (bel_step C2_21.out B21.out)
  have C2_23 := Lib.hid (bel_step C2_22.out B22.out)
  have C2_24 := Lib.hid (bel_step C2_23.out B23.out)
  have C2_25 := Lib.hid (bel_step C2_24.out B24.out)
  have C2_26 := Lib.hid (bel_step C2_25.out B25.out)
  have C2_27 := Lib.hid (bel_step C2_26.out B26.out)
  have C2_28 := Lib.hid (bel_step C2_27.out B27.out)
  have C2_29 := Lib.hid (bel_step C2_28.out B28.out)
  have C2_30 := Lib.hid (bel_step C2_29.out B29.out)
  have C2_31 := Lib.hid (bel_step C2_30.out B30.out)
  have C2_32 := Lib.hid (bel_step C2_31.out B31.out)
  refine wpQuiet_val (by kernel_rfl) (.agg (celB c).toArray) (fun v hv => (exec_loadD Dc.out.1 (show RowB v 34 bc c from ((F4.out.keep C2_32.out).keep (LaterB.of hv))) rfl rfl)) ?_
  simp only [Act.put, List.setIfInBounds_toArray, List.set_cons_zero, List.set_cons_succ]
  refine wpQuiet_nil ?_
  have C0_24 := Lib.hid (bel_step C0_23.out B23.out)
  have C0_25 := Lib.hid (bel_step C0_24.out B24.out)
  have C0_26 := Lib.hid (bel_step C0_25.out B25.out)
  have C0_27 := Lib.hid (bel_step C0_26.out B26.out)
  have C0_28 := Lib.hid (bel_step C0_27.out B27.out)
  have C0_29 := Lib.hid (bel_step C0_28.out B28.out)
  have C0_30 := Lib.hid (bel_step C0_29.out B29.out)
  have C0_31 := Lib.hid (bel_step C0_30.out B30.out)
  have C0_32 := Lib.hid (bel_step C0_31.out B31.out)
  have C0_33 := Lib.hid (bel_step C0_32.out B32.out)
  refine wpHeld_call 44 Tryd.func44 (by kernel_rfl) (by kernel_rfl) _ _ #[.agg (celB ab).toArray, .agg (celB c).toArray] rfl (by kernel_rfl) (by kernel_rfl) ?_
  refine (rpair_any ab c V33 Dab.out.1 Dc.out.1 Dab.out.2 Dc.out.2 root Eroot.out).mono ?_
  rintro e V34 ⟨rfl, hb⟩
  have B33 := Lib.hid hb
  have HS34 := Lib.hid (LaterB.step HS33.out (hb.mono B32.out.size))
  clear hb 
  refine ⟨_, rfl, HS34.out, ?_⟩
  simp only [Act.put, List.setIfInBounds_toArray, List.set_cons_zero, List.set_cons_succ]
  refine wpHeld_seg 24 HS34.out (by kernel_rfl) ?_
  simp only [List.take_succ_cons, List.take_zero, List.drop_succ_cons, List.drop_zero]
  refine wpQuiet_val (by kernel_rfl) (.bool true) (fun v hv => (exec_cmpD rfl rfl rfl (run_eqD_same root Dr.out.1 Dr.out.2 _))) ?_
  simp only [Act.put, List.setIfInBounds_toArray, List.set_cons_zero, List.set_cons_succ]
  refine wpQuiet_val (by kernel_rfl) (.bool true) (fun v hv => rfl) ?_
  simp only [Act.put, List.setIfInBounds_toArray, List.set_cons_zero, List.set_cons_succ]
  refine wpQuiet_val (by kernel_rfl) (.bool true) (fun v hv => rfl) ?_
  simp only [Act.put, List.setIfInBounds_toArray, List.set_cons_zero, List.set_cons_succ]
  refine wpQuiet_val (by kernel_rfl) (.int .i64 0) (fun v hv => rfl) ?_
  simp only [Act.put, List.setIfInBounds_toArray, List.set_cons_zero, List.set_cons_succ]
  refine wpQuiet_val (by kernel_rfl) (.bool true) (fun v hv => (by first | rfl | (unfold execOp; go_simp))) ?_
  simp only [Act.put, List.setIfInBounds_toArray, List.set_cons_zero, List.set_cons_succ]
  refine wpQuiet_val (by kernel_rfl) (.bool true) (fun v hv => rfl) ?_
  simp only [Act.put, List.setIfInBounds_toArray, List.set_cons_zero, List.set_cons_succ]
  refine wpQuiet_val (by kernel_rfl) (.bool true) (fun v hv => rfl) ?_
  simp only [Act.put, List.setIfInBounds_toArray, List.set_cons_zero, List.set_cons_succ]
  have C8_10 := Lib.hid (bel_step B8.out B9.out)
  have C8_11 := Lib.hid (bel_step C8_10.out B10.out)
  have C8_12 := Lib.hid (bel_step C8_11.out B11.out)
  have C8_13 := Lib.hid (bel_step C8_12.out B12.out)
  have C8_14 := Lib.hid (bel_step C8_13.out B13.out)
  have C8_15 := Lib.hid (bel_step C8_14.out B14.out)
  have C8_16 := Lib.hid (bel_step C8_15.out B15.out)
  have C8_17 := Lib.hid (bel_step C8_16.out B16.out)
  have C8_18 := Lib.hid (bel_step C8_17.out B17.out)
  have C8_19 := Lib.hid (bel_step C8_18.out B18.out)
  have C8_20 := Lib.hid (bel_step C8_19.out B19.out)
  have C8_21 := Lib.hid (bel_step C8_20.out B20.out)
  have C8_22 := Lib.hid (bel_step C8_21.out B21.out)
  have C8_23 := Lib.hid (bel_step C8_22.out B22.out)
  have C8_24 := Lib.hid (bel_step C8_23.out B23.out)
  have C8_25 := Lib.hid (bel_step C8_24.out B24.out)
  have C8_26 := Lib.hid (bel_step C8_25.out B25.out)
  have C8_27 := Lib.hid (bel_step C8_26.out B26.out)
  have C8_28 := Lib.hid (bel_step C8_27.out B27.out)
  have C8_29 := Lib.hid (bel_step C8_28.out B28.out)
  have C8_30 := Lib.hid (bel_step C8_29.out B29.out)
  have C8_31 := Lib.hid (bel_step C8_30.out B30.out)
  have C8_32 := Lib.hid (bel_step C8_31.out B31.out)
  refine wpQuiet_val (by kernel_rfl) (.agg (celB a).toArray) (fun v hv => (exec_loadD Da.out.1 (show RowB v 34 b8 a from (heap_keep (heap_keep F8.out C8_32.out) (LaterB.of hv))) rfl rfl)) ?_
  simp only [Act.put, List.setIfInBounds_toArray, List.set_cons_zero, List.set_cons_succ]
  refine wpQuiet_val (by kernel_rfl) (.agg (celB a).toArray) (fun v hv => (exec_loadD Da.out.1 (show RowB v 34 ba a from ((F2.out.keep C2_32.out).keep (LaterB.of hv))) rfl rfl)) ?_
  simp only [Act.put, List.setIfInBounds_toArray, List.set_cons_zero, List.set_cons_succ]
  refine wpQuiet_val (by kernel_rfl) (.bool true) (fun v hv => (exec_cmpD rfl rfl rfl (run_eqD_same a Da.out.1 Da.out.2 _))) ?_
  simp only [Act.put, List.setIfInBounds_toArray, List.set_cons_zero, List.set_cons_succ]
  refine wpQuiet_val (by kernel_rfl) (.bool true) (fun v hv => rfl) ?_
  simp only [Act.put, List.setIfInBounds_toArray, List.set_cons_zero, List.set_cons_succ]
  refine wpQuiet_val (by kernel_rfl) (.bool true) (fun v hv => rfl) ?_
  simp only [Act.put, List.setIfInBounds_toArray, List.set_cons_zero, List.set_cons_succ]
  refine wpQuiet_val (by kernel_rfl) (.int .i64 1) (fun v hv => rfl) ?_
  simp only [Act.put, List.setIfInBounds_toArray, List.set_cons_zero, List.set_cons_succ]
  refine wpQuiet_val (by kernel_rfl) (.bool true) (fun v hv => (by first | rfl | (unfold execOp; go_simp))) ?_
  simp only [Act.put, List.setIfInBounds_toArray, List.set_cons_zero, List.set_cons_succ]
  refine wpQuiet_val (by kernel_rfl) (.bool true) (fun v hv => rfl) ?_
  simp only [Act.put, List.setIfInBounds_toArray, List.set_cons_zero, List.set_cons_succ]
  refine wpQuiet_val (by kernel_rfl) (.bool true) (fun v hv => rfl) ?_
  simp only [Act.put, List.setIfInBounds_toArray, List.set_cons_zero, List.set_cons_succ]
  refine wpQuiet_val (by kernel_rfl) (.int .i64 0) (fun v hv => rfl) ?_
  simp only [Act.put, List.setIfInBounds_toArray, List.set_cons_zero, List.set_cons_succ]
  refine wpQuiet_val (by kernel_rfl) (.bool true) (fun v hv => (by first | rfl | (unfold execOp; go_simp))) ?_
  simp only [Act.put, List.setIfInBounds_toArray, List.set_cons_zero, List.set_cons_succ]
  refine wpQuiet_val (by kernel_rfl) (.bool true) (fun v hv => rfl) ?_
  simp only [Act.put, List.setIfInBounds_toArray, List.set_cons_zero, List.set_cons_succ]
  refine wpQuiet_val (by kernel_rfl) (.bool true) (fun v hv => rfl) ?_
  simp only [Act.put, List.setIfInBounds_toArray, List.set_cons_zero, List.set_cons_succ]
  refine wpQuiet_val (by kernel_rfl) (.pointer (some ⟨b12, 0, none⟩)) (fun v hv => (by unfold execOp; go_simp)) ?_
  simp only [Act.put, List.setIfInBounds_toArray, List.set_cons_zero, List.set_cons_succ]
  have C13_15 := Lib.hid (bel_step B13.out B14.out)
  have C13_16 := Lib.hid (bel_step C13_15.out B15.out)
  have C13_17 := Lib.hid (bel_step C13_16.out B16.out)
  have C13_18 := Lib.hid (bel_step C13_17.out B17.out)
  have C13_19 := Lib.hid (bel_step C13_18.out B18.out)
  have C13_20 := Lib.hid (bel_step C13_19.out B19.out)
  have C13_21 := Lib.hid (bel_step C13_20.out B20.out)
  have C13_22 := Lib.hid (bel_step C13_21.out B21.out)
  have C13_23 := Lib.hid (bel_step C13_22.out B22.out)
  have C13_24 := Lib.hid (bel_step C13_23.out B23.out)
  have C13_25 := Lib.hid (bel_step C13_24.out B24.out)
  have C13_26 := Lib.hid (bel_step C13_25.out B25.out)
  have C13_27 := Lib.hid (bel_step C13_26.out B26.out)
  have C13_28 := Lib.hid (bel_step C13_27.out B27.out)
  have C13_29 := Lib.hid (bel_step C13_28.out B28.out)
  have C13_30 := Lib.hid (bel_step C13_29.out B29.out)
  have C13_31 := Lib.hid (bel_step C13_30.out B30.out)
  have C13_32 := Lib.hid (bel_step C13_31.out B31.out)
  refine wpQuiet_val (by kernel_rfl) (.slice O1 mO1 fO1) (fun v hv => (exec_loadSD _ _ _ _ (cells_at (heap_keep (heap_keep F12.out C13_32.out) (LaterB.of hv)) 0 rfl) rfl rfl)) ?_
  simp only [Act.put, List.setIfInBounds_toArray, List.set_cons_zero, List.set_cons_succ]
  refine wpQuiet_val (by kernel_rfl) (.agg (celB a).toArray) (fun v hv => (exec_loadD Da.out.1 (show RowB v 34 ba a from ((F2.out.keep C2_32.out).keep (LaterB.of hv))) rfl rfl)) ?_
  simp only [Act.put, List.setIfInBounds_toArray, List.set_cons_zero, List.set_cons_succ]
  refine wpQuiet_val (by kernel_rfl) (.agg (celB c).toArray) (fun v hv => (exec_loadD Dc.out.1 (show RowB v 34 bc c from ((F4.out.keep C2_32.out).keep (LaterB.of hv))) rfl rfl)) ?_
  simp only [Act.put, List.setIfInBounds_toArray, List.set_cons_zero, List.set_cons_succ]
  refine wpQuiet_nil ?_
  refine wpHeld_mk (by kernel_rfl) (by kernel_rfl) (celB (a ++ c)).toArray 34 2 2 (run_buildS2 Da.out.1 Dc.out.1 rfl rfl rfl _) ?_
  intro g155 V35 hge h0 hb
  have B34 := Lib.hid hb
  have C32_34 := Lib.hid (bel_step B32.out B33.out)
  have HS35 := Lib.hid (LaterB.step HS34.out (hb.mono C32_34.out.size))
  have M155 := Lib.hid (db_cells2 h0 Da.out Dc.out)
  refine ⟨HS35.out, ?_⟩
  clear hge h0 hb
  simp only [Act.put, List.setIfInBounds_toArray, List.set_cons_zero, List.set_cons_succ]
  have C0_34 := Lib.hid (bel_step C0_33.out B33.out)
  have C0_35 := Lib.hid (bel_step C0_34.out B34.out)
  have C12_14 := Lib.hid (bel_step B12.out B13.out)
  have C12_15 := Lib.hid (bel_step C12_14.out B14.out)
  have C12_16 := Lib.hid (bel_step C12_15.out B15.out)
  have C12_17 := Lib.hid (bel_step C12_16.out B16.out)
  have C12_18 := Lib.hid (bel_step C12_17.out B17.out)
  have C12_19 := Lib.hid (bel_step C12_18.out B18.out)
  have C12_20 := Lib.hid (bel_step C12_19.out B19.out)
  have C12_21 := Lib.hid (bel_step C12_20.out B20.out)
  have C12_22 := Lib.hid (bel_step C12_21.out B21.out)
  have C12_23 := Lib.hid (bel_step C12_22.out B22.out)
  have C12_24 := Lib.hid (bel_step C12_23.out B23.out)
  have C12_25 := Lib.hid (bel_step C12_24.out B24.out)
  have C12_26 := Lib.hid (bel_step C12_25.out B25.out)
  have C12_27 := Lib.hid (bel_step C12_26.out B26.out)
  have C12_28 := Lib.hid (bel_step C12_27.out B27.out)
  have C12_29 := Lib.hid (bel_step C12_28.out B28.out)
  have C12_30 := Lib.hid (bel_step C12_29.out B29.out)
  have C12_31 := Lib.hid (bel_step C12_30.out B30.out)
  have C12_32 := Lib.hid (bel_step C12_31.out B31.out)
  have C12_33 := Lib.hid (bel_step C12_32.out B32.out)
  have C12_34 := Lib.hid (bel_step C12_33.out B33.out)
  have C12_35 := Lib.hid (bel_step C12_34.out B34.out)
  refine wpHeld_call 49 Tryd.func49 (by kernel_rfl) (by kernel_rfl) _ _ #[.slice O1 mO1 fO1, .slice (some ⟨g155, 0, none⟩) 2 2] rfl (by kernel_rfl) (by kernel_rfl) ?_
  refine (same8_any O1 mO1 fO1 [a, c] (some ⟨g155, 0, none⟩) 2 2 [a, c] V35 (HO1.out.keep C12_35.out) M155.out true (decide_eq_true rfl)).mono ?_
  rintro e V36 ⟨rfl, hb⟩
  have B35 := Lib.hid hb
  have C32_35 := Lib.hid (bel_step C32_34.out B34.out)
  have HS36 := Lib.hid (LaterB.step HS35.out (hb.mono C32_35.out.size))
  clear hb 
  refine ⟨_, rfl, HS36.out, ?_⟩
  simp only [Act.put, List.setIfInBounds_toArray, List.set_cons_zero, List.set_cons_succ]
  refine wpHeld_seg 9 HS36.out (by kernel_rfl) ?_
  simp only [List.take_succ_cons, List.take_zero, List.drop_succ_cons, List.drop_zero]
  refine wpQuiet_val (by kernel_rfl) (.bool true) (fun v hv => rfl) ?_
  simp only [Act.put, List.setIfInBounds_toArray, List.set_cons_zero, List.set_cons_succ]
  refine wpQuiet_val (by kernel_rfl) (.bool true) (fun v hv => rfl) ?_
  simp only [Act.put, List.setIfInBounds_toArray, List.set_cons_zero, List.set_cons_succ]
  refine wpQuiet_val (by kernel_rfl) (.int .i64 0) (fun v hv => rfl) ?_
  simp only [Act.put, List.setIfInBounds_toArray, List.set_cons_zero, List.set_cons_succ]
  refine wpQuiet_val (by kernel_rfl) (.bool true) (fun v hv => (by first | rfl | (unfold execOp; go_simp))) ?_
  simp only [Act.put, List.setIfInBounds_toArray, List.set_cons_zero, List.set_cons_succ]
  refine wpQuiet_val (by kernel_rfl) (.bool true) (fun v hv => rfl) ?_
  simp only [Act.put, List.setIfInBounds_toArray, List.set_cons_zero, List.set_cons_succ]
  refine wpQuiet_val (by kernel_rfl) (.bool true) (fun v hv => rfl) ?_
  simp only [Act.put, List.setIfInBounds_toArray, List.set_cons_zero, List.set_cons_succ]
  refine wpQuiet_val (by kernel_rfl) (.pointer (some ⟨b14, 0, none⟩)) (fun v hv => (by unfold execOp; go_simp)) ?_
  simp only [Act.put, List.setIfInBounds_toArray, List.set_cons_zero, List.set_cons_succ]
  have C15_17 := Lib.hid (bel_step B15.out B16.out)
  have C15_18 := Lib.hid (bel_step C15_17.out B17.out)
  have C15_19 := Lib.hid (bel_step C15_18.out B18.out)
  have C15_20 := Lib.hid (bel_step C15_19.out B19.out)
  have C15_21 := Lib.hid (bel_step C15_20.out B20.out)
  have C15_22 := Lib.hid (bel_step C15_21.out B21.out)
  have C15_23 := Lib.hid (bel_step C15_22.out B22.out)
  have C15_24 := Lib.hid (bel_step C15_23.out B23.out)
  have C15_25 := Lib.hid (bel_step C15_24.out B24.out)
  have C15_26 := Lib.hid (bel_step C15_25.out B25.out)
  have C15_27 := Lib.hid (bel_step C15_26.out B26.out)
  have C15_28 := Lib.hid (bel_step C15_27.out B27.out)
  have C15_29 := Lib.hid (bel_step C15_28.out B28.out)
  have C15_30 := Lib.hid (bel_step C15_29.out B29.out)
  have C15_31 := Lib.hid (bel_step C15_30.out B30.out)
  have C15_32 := Lib.hid (bel_step C15_31.out B31.out)
  refine wpQuiet_val (by kernel_rfl) (.slice O2 mO2 fO2) (fun v hv => (exec_loadSD _ _ _ _ (cells_at (heap_keep (heap_keep F14.out C15_32.out) (LaterB.of hv)) 0 rfl) rfl rfl)) ?_
  simp only [Act.put, List.setIfInBounds_toArray, List.set_cons_zero, List.set_cons_succ]
  refine wpQuiet_val (by kernel_rfl) (.agg (celB root).toArray) (fun v hv => (exec_loadD Dr.out.1 (show RowB v 34 b6 root from (heap_keep (heap_keep F6.out C6_32.out) (LaterB.of hv))) rfl rfl)) ?_
  simp only [Act.put, List.setIfInBounds_toArray, List.set_cons_zero, List.set_cons_succ]
  refine wpQuiet_nil ?_
  refine wpHeld_mk (by kernel_rfl) (by kernel_rfl) (celB root).toArray 34 1 1 (run_buildS1 Dr.out.1 rfl rfl _) ?_
  intro g166 V37 hge h0 hb
  have B36 := Lib.hid hb
  have C32_36 := Lib.hid (bel_step C32_35.out B35.out)
  have HS37 := Lib.hid (LaterB.step HS36.out (hb.mono C32_36.out.size))
  have M166 := Lib.hid (db_cells1 h0 Dr.out)
  refine ⟨HS37.out, ?_⟩
  clear hge h0 hb
  simp only [Act.put, List.setIfInBounds_toArray, List.set_cons_zero, List.set_cons_succ]
  have C0_36 := Lib.hid (bel_step C0_35.out B35.out)
  have C0_37 := Lib.hid (bel_step C0_36.out B36.out)
  have C14_16 := Lib.hid (bel_step B14.out B15.out)
  have C14_17 := Lib.hid (bel_step C14_16.out B16.out)
  have C14_18 := Lib.hid (bel_step C14_17.out B17.out)
  have C14_19 := Lib.hid (bel_step C14_18.out B18.out)
  have C14_20 := Lib.hid (bel_step C14_19.out B19.out)
  have C14_21 := Lib.hid (bel_step C14_20.out B20.out)
  have C14_22 := Lib.hid (bel_step C14_21.out B21.out)
  have C14_23 := Lib.hid (bel_step C14_22.out B22.out)
  have C14_24 := Lib.hid (bel_step C14_23.out B23.out)
  have C14_25 := Lib.hid (bel_step C14_24.out B24.out)
  have C14_26 := Lib.hid (bel_step C14_25.out B25.out)
  have C14_27 := Lib.hid (bel_step C14_26.out B26.out)
  have C14_28 := Lib.hid (bel_step C14_27.out B27.out)
  have C14_29 := Lib.hid (bel_step C14_28.out B28.out)
  have C14_30 := Lib.hid (bel_step C14_29.out B29.out)
  have C14_31 := Lib.hid (bel_step C14_30.out B30.out)
  have C14_32 := Lib.hid (bel_step C14_31.out B31.out)
  have C14_33 := Lib.hid (bel_step C14_32.out B32.out)
  have C14_34 := Lib.hid (bel_step C14_33.out B33.out)
  have C14_35 := Lib.hid (bel_step C14_34.out B34.out)
  have C14_36 := Lib.hid (bel_step C14_35.out B35.out)
  have C14_37 := Lib.hid (bel_step C14_36.out B36.out)
  refine wpHeld_call 49 Tryd.func49 (by kernel_rfl) (by kernel_rfl) _ _ #[.slice O2 mO2 fO2, .slice (some ⟨g166, 0, none⟩) 1 1] rfl (by kernel_rfl) (by kernel_rfl) ?_
  refine (same8_any O2 mO2 fO2 [root] (some ⟨g166, 0, none⟩) 1 1 [root] V37 (HO2.out.keep C14_37.out) M166.out true (decide_eq_true rfl)).mono ?_
  rintro e V38 ⟨rfl, hb⟩
  have B37 := Lib.hid hb
  have C32_37 := Lib.hid (bel_step C32_36.out B36.out)
  have HS38 := Lib.hid (LaterB.step HS37.out (hb.mono C32_37.out.size))
  clear hb 
  refine ⟨_, rfl, HS38.out, ?_⟩
  simp only [Act.put, List.setIfInBounds_toArray, List.set_cons_zero, List.set_cons_succ]
  refine wpHeld_seg 16 HS38.out (by kernel_rfl) ?_
  simp only [List.take_succ_cons, List.take_zero, List.drop_succ_cons, List.drop_zero]
  refine wpQuiet_val (by kernel_rfl) (.bool true) (fun v hv => rfl) ?_
  simp only [Act.put, List.setIfInBounds_toArray, List.set_cons_zero, List.set_cons_succ]
  refine wpQuiet_val (by kernel_rfl) (.bool true) (fun v hv => rfl) ?_
  simp only [Act.put, List.setIfInBounds_toArray, List.set_cons_zero, List.set_cons_succ]
  refine wpQuiet_val (by kernel_rfl) (.int .i64 1) (fun v hv => rfl) ?_
  simp only [Act.put, List.setIfInBounds_toArray, List.set_cons_zero, List.set_cons_succ]
  refine wpQuiet_val (by kernel_rfl) (.bool true) (fun v hv => (by first | rfl | (unfold execOp; go_simp))) ?_
  simp only [Act.put, List.setIfInBounds_toArray, List.set_cons_zero, List.set_cons_succ]
  refine wpQuiet_val (by kernel_rfl) (.bool true) (fun v hv => rfl) ?_
  simp only [Act.put, List.setIfInBounds_toArray, List.set_cons_zero, List.set_cons_succ]
  refine wpQuiet_val (by kernel_rfl) (.bool true) (fun v hv => rfl) ?_
  simp only [Act.put, List.setIfInBounds_toArray, List.set_cons_zero, List.set_cons_succ]
  refine wpQuiet_val (by kernel_rfl) (.int .i64 1) (fun v hv => rfl) ?_
  simp only [Act.put, List.setIfInBounds_toArray, List.set_cons_zero, List.set_cons_succ]
  refine wpQuiet_val (by kernel_rfl) (.bool true) (fun v hv => (by first | rfl | (unfold execOp; go_simp))) ?_
  simp only [Act.put, List.setIfInBounds_toArray, List.set_cons_zero, List.set_cons_succ]
  refine wpQuiet_val (by kernel_rfl) (.bool true) (fun v hv => rfl) ?_
  simp only [Act.put, List.setIfInBounds_toArray, List.set_cons_zero, List.set_cons_succ]
  refine wpQuiet_val (by kernel_rfl) (.bool true) (fun v hv => rfl) ?_
  simp only [Act.put, List.setIfInBounds_toArray, List.set_cons_zero, List.set_cons_succ]
  refine wpQuiet_val (by kernel_rfl) (.int .i64 0) (fun v hv => rfl) ?_
  simp only [Act.put, List.setIfInBounds_toArray, List.set_cons_zero, List.set_cons_succ]
  refine wpQuiet_val (by kernel_rfl) (.bool true) (fun v hv => (by first | rfl | (unfold execOp; go_simp))) ?_
  simp only [Act.put, List.setIfInBounds_toArray, List.set_cons_zero, List.set_cons_succ]
  refine wpQuiet_val (by kernel_rfl) (.bool true) (fun v hv => rfl) ?_
  simp only [Act.put, List.setIfInBounds_toArray, List.set_cons_zero, List.set_cons_succ]
  refine wpQuiet_val (by kernel_rfl) (.bool true) (fun v hv => rfl) ?_
  simp only [Act.put, List.setIfInBounds_toArray, List.set_cons_zero, List.set_cons_succ]
  refine wpQuiet_val (by kernel_rfl) (.slice wA wn wc) (fun v hv => rfl) ?_
  simp only [Act.put, List.setIfInBounds_toArray, List.set_cons_zero, List.set_cons_succ]
  refine wpQuiet_val (by kernel_rfl) (.agg (celB ab).toArray) (fun v hv => (exec_loadD Dab.out.1 (show RowB v 34 b5 ab from (heap_keep (heap_keep F5.out C4_32.out) (LaterB.of hv))) rfl rfl)) ?_
  simp only [Act.put, List.setIfInBounds_toArray, List.set_cons_zero, List.set_cons_succ]
  refine wpQuiet_nil ?_
  refine wpHeld_mk (by kernel_rfl) (by kernel_rfl) (celB ab).toArray 34 1 1 (run_buildS1 Dab.out.1 rfl rfl _) ?_
  intro g184 V39 hge h0 hb
  have B38 := Lib.hid hb
  have C32_38 := Lib.hid (bel_step C32_37.out B37.out)
  have HS39 := Lib.hid (LaterB.step HS38.out (hb.mono C32_38.out.size))
  have M184 := Lib.hid (db_cells1 h0 Dab.out)
  refine ⟨HS39.out, ?_⟩
  clear hge h0 hb
  simp only [Act.put, List.setIfInBounds_toArray, List.set_cons_zero, List.set_cons_succ]
  have C0_38 := Lib.hid (bel_step C0_37.out B37.out)
  have C0_39 := Lib.hid (bel_step C0_38.out B38.out)
  have C22_24 := Lib.hid (bel_step B22.out B23.out)
  have C22_25 := Lib.hid (bel_step C22_24.out B24.out)
  have C22_26 := Lib.hid (bel_step C22_25.out B25.out)
  have C22_27 := Lib.hid (bel_step C22_26.out B26.out)
  have C22_28 := Lib.hid (bel_step C22_27.out B27.out)
  have C22_29 := Lib.hid (bel_step C22_28.out B28.out)
  have C22_30 := Lib.hid (bel_step C22_29.out B29.out)
  have C22_31 := Lib.hid (bel_step C22_30.out B30.out)
  have C22_32 := Lib.hid (bel_step C22_31.out B31.out)
  have C22_33 := Lib.hid (bel_step C22_32.out B32.out)
  have C22_34 := Lib.hid (bel_step C22_33.out B33.out)
  have C22_35 := Lib.hid (bel_step C22_34.out B34.out)
  have C22_36 := Lib.hid (bel_step C22_35.out B35.out)
  have C22_37 := Lib.hid (bel_step C22_36.out B36.out)
  have C22_38 := Lib.hid (bel_step C22_37.out B37.out)
  have C22_39 := Lib.hid (bel_step C22_38.out B38.out)
  refine wpHeld_call 49 Tryd.func49 (by kernel_rfl) (by kernel_rfl) _ _ #[.slice wA wn wc, .slice (some ⟨g184, 0, none⟩) 1 1] rfl (by kernel_rfl) (by kernel_rfl) ?_
  refine (same8_any wA wn wc [ab] (some ⟨g184, 0, none⟩) 1 1 [ab] V39 (HWit.out.keep C22_39.out) M184.out true (decide_eq_true rfl)).mono ?_
  rintro e V40 ⟨rfl, hb⟩
  have B39 := Lib.hid hb
  have C32_39 := Lib.hid (bel_step C32_38.out B38.out)
  have HS40 := Lib.hid (LaterB.step HS39.out (hb.mono C32_39.out.size))
  clear hb 
  refine ⟨_, rfl, HS40.out, ?_⟩
  simp only [Act.put, List.setIfInBounds_toArray, List.set_cons_zero, List.set_cons_succ]
  refine wpHeld_seg 9 HS40.out (by kernel_rfl) ?_
  simp only [List.take_succ_cons, List.take_zero, List.drop_succ_cons, List.drop_zero]
  refine wpQuiet_val (by kernel_rfl) (.bool true) (fun v hv => rfl) ?_
  simp only [Act.put, List.setIfInBounds_toArray, List.set_cons_zero, List.set_cons_succ]
  refine wpQuiet_val (by kernel_rfl) (.bool true) (fun v hv => rfl) ?_
  simp only [Act.put, List.setIfInBounds_toArray, List.set_cons_zero, List.set_cons_succ]
  refine wpQuiet_val (by kernel_rfl) (.int .i64 1) (fun v hv => rfl) ?_
  simp only [Act.put, List.setIfInBounds_toArray, List.set_cons_zero, List.set_cons_succ]
  refine wpQuiet_val (by kernel_rfl) (.bool true) (fun v hv => (by first | rfl | (unfold execOp; go_simp))) ?_
  simp only [Act.put, List.setIfInBounds_toArray, List.set_cons_zero, List.set_cons_succ]
  refine wpQuiet_val (by kernel_rfl) (.bool true) (fun v hv => rfl) ?_
  simp only [Act.put, List.setIfInBounds_toArray, List.set_cons_zero, List.set_cons_succ]
  refine wpQuiet_val (by kernel_rfl) (.bool true) (fun v hv => rfl) ?_
  simp only [Act.put, List.setIfInBounds_toArray, List.set_cons_zero, List.set_cons_succ]
  refine wpQuiet_val (by kernel_rfl) (.slice p2 n2 c2) (fun v hv => rfl) ?_
  simp only [Act.put, List.setIfInBounds_toArray, List.set_cons_zero, List.set_cons_succ]
  refine wpQuiet_val (by kernel_rfl) (.agg (celB ab).toArray) (fun v hv => (exec_loadD Dab.out.1 (show RowB v 34 b5 ab from (heap_keep (heap_keep F5.out C4_32.out) (LaterB.of hv))) rfl rfl)) ?_
  simp only [Act.put, List.setIfInBounds_toArray, List.set_cons_zero, List.set_cons_succ]
  refine wpQuiet_val (by kernel_rfl) (.agg (celB c).toArray) (fun v hv => (exec_loadD Dc.out.1 (show RowB v 34 bc c from ((F4.out.keep C2_32.out).keep (LaterB.of hv))) rfl rfl)) ?_
  simp only [Act.put, List.setIfInBounds_toArray, List.set_cons_zero, List.set_cons_succ]
  refine wpQuiet_nil ?_
  refine wpHeld_mk (by kernel_rfl) (by kernel_rfl) (celB (ab ++ c)).toArray 34 2 2 (run_buildS2 Dab.out.1 Dc.out.1 rfl rfl rfl _) ?_
  intro g195 V41 hge h0 hb
  have B40 := Lib.hid hb
  have C32_40 := Lib.hid (bel_step C32_39.out B39.out)
  have HS41 := Lib.hid (LaterB.step HS40.out (hb.mono C32_40.out.size))
  have M195 := Lib.hid (db_cells2 h0 Dab.out Dc.out)
  refine ⟨HS41.out, ?_⟩
  clear hge h0 hb
  simp only [Act.put, List.setIfInBounds_toArray, List.set_cons_zero, List.set_cons_succ]
  have C0_40 := Lib.hid (bel_step C0_39.out B39.out)
  have C0_41 := Lib.hid (bel_step C0_40.out B40.out)
  have C24_26 := Lib.hid (bel_step B24.out B25.out)
  have C24_27 := Lib.hid (bel_step C24_26.out B26.out)
  have C24_28 := Lib.hid (bel_step C24_27.out B27.out)
  have C24_29 := Lib.hid (bel_step C24_28.out B28.out)
  have C24_30 := Lib.hid (bel_step C24_29.out B29.out)
  have C24_31 := Lib.hid (bel_step C24_30.out B30.out)
  have C24_32 := Lib.hid (bel_step C24_31.out B31.out)
  have C24_33 := Lib.hid (bel_step C24_32.out B32.out)
  have C24_34 := Lib.hid (bel_step C24_33.out B33.out)
  have C24_35 := Lib.hid (bel_step C24_34.out B34.out)
  have C24_36 := Lib.hid (bel_step C24_35.out B35.out)
  have C24_37 := Lib.hid (bel_step C24_36.out B36.out)
  have C24_38 := Lib.hid (bel_step C24_37.out B37.out)
  have C24_39 := Lib.hid (bel_step C24_38.out B38.out)
  have C24_40 := Lib.hid (bel_step C24_39.out B39.out)
  have C24_41 := Lib.hid (bel_step C24_40.out B40.out)
  refine wpHeld_call 49 Tryd.func49 (by kernel_rfl) (by kernel_rfl) _ _ #[.slice p2 n2 c2, .slice (some ⟨g195, 0, none⟩) 2 2] rfl (by kernel_rfl) (by kernel_rfl) ?_
  refine (same8_any p2 n2 c2 [ab, c] (some ⟨g195, 0, none⟩) 2 2 [ab, c] V41 (Q2.out.keep C24_41.out) M195.out true (decide_eq_true rfl)).mono ?_
  rintro e V42 ⟨rfl, hb⟩
  have B41 := Lib.hid hb
  have C32_41 := Lib.hid (bel_step C32_40.out B40.out)
  have HS42 := Lib.hid (LaterB.step HS41.out (hb.mono C32_41.out.size))
  clear hb 
  refine ⟨_, rfl, HS42.out, ?_⟩
  simp only [Act.put, List.setIfInBounds_toArray, List.set_cons_zero, List.set_cons_succ]
  refine wpHeld_seg 3 HS42.out (by kernel_rfl) ?_
  simp only [List.take_succ_cons, List.take_zero, List.drop_succ_cons, List.drop_zero]
  refine wpQuiet_val (by kernel_rfl) (.bool true) (fun v hv => rfl) ?_
  simp only [Act.put, List.setIfInBounds_toArray, List.set_cons_zero, List.set_cons_succ]
  refine wpQuiet_val (by kernel_rfl) (.bool true) (fun v hv => rfl) ?_
  simp only [Act.put, List.setIfInBounds_toArray, List.set_cons_zero, List.set_cons_succ]
  refine wpQuiet_val (by kernel_rfl) (.slice p2 n2 c2) (fun v hv => rfl) ?_
  simp only [Act.put, List.setIfInBounds_toArray, List.set_cons_zero, List.set_cons_succ]
  refine wpQuiet_nil ?_
  have C0_42 := Lib.hid (bel_step C0_41.out B41.out)
  have C24_42 := Lib.hid (bel_step C24_41.out B41.out)
  refine wpHeld_call 50 Tryd.func50 (by kernel_rfl) (by kernel_rfl) _ _ #[.slice p2 n2 c2] rfl (by kernel_rfl) (by kernel_rfl) ?_
  refine (bag_any p2 n2 c2 [ab, c] V42 (Q2.out.keep C24_42.out) HN24.out (HG.out.keep C0_42.out) root Ebag.out).mono ?_
  rintro e V43 ⟨rfl, hb⟩
  have B42 := Lib.hid hb
  have C32_42 := Lib.hid (bel_step C32_41.out B41.out)
  have HS43 := Lib.hid (LaterB.step HS42.out (hb.mono C32_42.out.size))
  clear hb 
  refine ⟨_, rfl, HS43.out, ?_⟩
  simp only [Act.put, List.setIfInBounds_toArray, List.set_cons_zero, List.set_cons_succ]
  refine wpHeld_seg 4 HS43.out (by kernel_rfl) ?_
  simp only [List.take_succ_cons, List.take_zero, List.drop_succ_cons, List.drop_zero]
  refine wpQuiet_val (by kernel_rfl) (.agg (celB root).toArray) (fun v hv => (exec_loadD Dr.out.1 (show RowB v 34 b6 root from (heap_keep (heap_keep F6.out C6_32.out) (LaterB.of hv))) rfl rfl)) ?_
  simp only [Act.put, List.setIfInBounds_toArray, List.set_cons_zero, List.set_cons_succ]
  refine wpQuiet_val (by kernel_rfl) (.bool true) (fun v hv => (exec_cmpD rfl rfl rfl (run_eqD_same root Dr.out.1 Dr.out.2 _))) ?_
  simp only [Act.put, List.setIfInBounds_toArray, List.set_cons_zero, List.set_cons_succ]
  refine wpQuiet_val (by kernel_rfl) (.bool true) (fun v hv => rfl) ?_
  simp only [Act.put, List.setIfInBounds_toArray, List.set_cons_zero, List.set_cons_succ]
  refine wpQuiet_val (by kernel_rfl) (.bool true) (fun v hv => rfl) ?_
  simp only [Act.put, List.setIfInBounds_toArray, List.set_cons_zero, List.set_cons_succ]
  refine wpQuiet_nil ?_
  have C0_43 := Lib.hid (bel_step C0_42.out B42.out)
  refine wpHeld_call 50 Tryd.func50 (by kernel_rfl) (by kernel_rfl) _ _ #[.slice none 0 0] rfl (by kernel_rfl) (by kernel_rfl) ?_
  refine (bag_any none 0 0 [] V43 (Db.none_ _) (by omega) (HG.out.keep C0_43.out) (List.replicate 32 0) rfl).mono ?_
  rintro e V44 ⟨rfl, hb⟩
  have B43 := Lib.hid hb
  have C32_43 := Lib.hid (bel_step C32_42.out B42.out)
  have HS44 := Lib.hid (LaterB.step HS43.out (hb.mono C32_43.out.size))
  clear hb 
  refine ⟨_, rfl, HS44.out, ?_⟩
  simp only [Act.put, List.setIfInBounds_toArray, List.set_cons_zero, List.set_cons_succ]
  refine wpHeld_seg 7 HS44.out (by kernel_rfl) ?_
  simp only [List.take_succ_cons, List.take_zero, List.drop_succ_cons, List.drop_zero]
  refine wpQuiet_val (by kernel_rfl) (.agg (celB (List.replicate 32 0)).toArray) (fun v hv => (exec_buildZ _ rfl)) ?_
  simp only [Act.put, List.setIfInBounds_toArray, List.set_cons_zero, List.set_cons_succ]
  refine wpQuiet_val (by kernel_rfl) (.bool true) (fun v hv => (exec_cmpD rfl rfl rfl (run_eqD_same (List.replicate 32 0) List.length_replicate rep_lt8 _))) ?_
  simp only [Act.put, List.setIfInBounds_toArray, List.set_cons_zero, List.set_cons_succ]
  refine wpQuiet_val (by kernel_rfl) (.bool true) (fun v hv => rfl) ?_
  simp only [Act.put, List.setIfInBounds_toArray, List.set_cons_zero, List.set_cons_succ]
  refine wpQuiet_val (by kernel_rfl) (.bool true) (fun v hv => rfl) ?_
  simp only [Act.put, List.setIfInBounds_toArray, List.set_cons_zero, List.set_cons_succ]
  refine wpQuiet_val (by kernel_rfl) (.agg (celB root).toArray) (fun v hv => (exec_loadD Dr.out.1 (show RowB v 34 b6 root from (heap_keep (heap_keep F6.out C6_32.out) (LaterB.of hv))) rfl rfl)) ?_
  simp only [Act.put, List.setIfInBounds_toArray, List.set_cons_zero, List.set_cons_succ]
  have C27_29 := Lib.hid (bel_step B27.out B28.out)
  have C27_30 := Lib.hid (bel_step C27_29.out B29.out)
  have C27_31 := Lib.hid (bel_step C27_30.out B30.out)
  have C27_32 := Lib.hid (bel_step C27_31.out B31.out)
  refine wpQuiet_val (by kernel_rfl) (.agg #[.slice (some ⟨g105, 0, none⟩) 1 1, .slice (some ⟨g109, 0, none⟩) 1 1]) (fun v hv => (exec_loadLv _ _ _ rfl rfl (heap_keep (heap_keep F25.out C27_32.out) (LaterB.of hv)))) ?_
  simp only [Act.put, List.setIfInBounds_toArray, List.set_cons_zero, List.set_cons_succ]
  refine wpQuiet_val (by kernel_rfl) (.agg #[.slice O1 mO1 fO1]) (fun v hv => (exec_loadOp _ _ rfl rfl (heap_keep (heap_keep F12.out C13_32.out) (LaterB.of hv)))) ?_
  simp only [Act.put, List.setIfInBounds_toArray, List.set_cons_zero, List.set_cons_succ]
  refine wpQuiet_nil ?_
  have C0_44 := Lib.hid (bel_step C0_43.out B43.out)
  have C25_27 := Lib.hid (bel_step B25.out B26.out)
  have C25_28 := Lib.hid (bel_step C25_27.out B27.out)
  have C25_29 := Lib.hid (bel_step C25_28.out B28.out)
  have C25_30 := Lib.hid (bel_step C25_29.out B29.out)
  have C25_31 := Lib.hid (bel_step C25_30.out B30.out)
  have C25_32 := Lib.hid (bel_step C25_31.out B31.out)
  have C25_33 := Lib.hid (bel_step C25_32.out B32.out)
  have C25_34 := Lib.hid (bel_step C25_33.out B33.out)
  have C25_35 := Lib.hid (bel_step C25_34.out B34.out)
  have C25_36 := Lib.hid (bel_step C25_35.out B35.out)
  have C25_37 := Lib.hid (bel_step C25_36.out B36.out)
  have C25_38 := Lib.hid (bel_step C25_37.out B37.out)
  have C25_39 := Lib.hid (bel_step C25_38.out B38.out)
  have C25_40 := Lib.hid (bel_step C25_39.out B39.out)
  have C25_41 := Lib.hid (bel_step C25_40.out B40.out)
  have C25_42 := Lib.hid (bel_step C25_41.out B41.out)
  have C25_43 := Lib.hid (bel_step C25_42.out B42.out)
  have C25_44 := Lib.hid (bel_step C25_43.out B43.out)
  have C26_28 := Lib.hid (bel_step B26.out B27.out)
  have C26_29 := Lib.hid (bel_step C26_28.out B28.out)
  have C26_30 := Lib.hid (bel_step C26_29.out B29.out)
  have C26_31 := Lib.hid (bel_step C26_30.out B30.out)
  have C26_32 := Lib.hid (bel_step C26_31.out B31.out)
  have C26_33 := Lib.hid (bel_step C26_32.out B32.out)
  have C26_34 := Lib.hid (bel_step C26_33.out B33.out)
  have C26_35 := Lib.hid (bel_step C26_34.out B34.out)
  have C26_36 := Lib.hid (bel_step C26_35.out B35.out)
  have C26_37 := Lib.hid (bel_step C26_36.out B36.out)
  have C26_38 := Lib.hid (bel_step C26_37.out B37.out)
  have C26_39 := Lib.hid (bel_step C26_38.out B38.out)
  have C26_40 := Lib.hid (bel_step C26_39.out B39.out)
  have C26_41 := Lib.hid (bel_step C26_40.out B40.out)
  have C26_42 := Lib.hid (bel_step C26_41.out B41.out)
  have C26_43 := Lib.hid (bel_step C26_42.out B42.out)
  have C26_44 := Lib.hid (bel_step C26_43.out B43.out)
  have C12_36 := Lib.hid (bel_step C12_35.out B35.out)
  have C12_37 := Lib.hid (bel_step C12_36.out B36.out)
  have C12_38 := Lib.hid (bel_step C12_37.out B37.out)
  have C12_39 := Lib.hid (bel_step C12_38.out B38.out)
  have C12_40 := Lib.hid (bel_step C12_39.out B39.out)
  have C12_41 := Lib.hid (bel_step C12_40.out B40.out)
  have C12_42 := Lib.hid (bel_step C12_41.out B41.out)
  have C12_43 := Lib.hid (bel_step C12_42.out B42.out)
  have C12_44 := Lib.hid (bel_step C12_43.out B43.out)
  refine wpHeld_call 13 Tryd.func13 (by kernel_rfl) (by kernel_rfl) _ _ #[.agg (celB root).toArray, .int .i64 3, .agg #[.slice (some ⟨g105, 0, none⟩) 1 1, .slice (some ⟨g109, 0, none⟩) 1 1], .agg #[.slice O1 mO1 fO1]] rfl (by kernel_rfl) (by kernel_rfl) ?_
  refine (verify_any root 3 (some ⟨g105, 0, none⟩) 1 1 [1] (some ⟨g109, 0, none⟩) 1 1 [[98]] O1 mO1 fO1 [a, c] V44 Dr.out.1 Dr.out.2 (M105.out.keep C25_44.out) (M109.out.keep C26_44.out) (HO1.out.keep C12_44.out) (by decide) (HG.out.keep C0_44.out) (by omega) 0 Ev0.out).mono ?_
  rintro e V45 ⟨rfl, hb⟩
  have B44 := Lib.hid hb
  have C32_44 := Lib.hid (bel_step C32_43.out B43.out)
  have HS45 := Lib.hid (LaterB.step HS44.out (hb.mono C32_44.out.size))
  clear hb 
  refine ⟨_, rfl, HS45.out, ?_⟩
  simp only [Act.put, List.setIfInBounds_toArray, List.set_cons_zero, List.set_cons_succ]
  refine wpHeld_seg 6 HS45.out (by kernel_rfl) ?_
  simp only [List.take_succ_cons, List.take_zero, List.drop_succ_cons, List.drop_zero]
  refine wpQuiet_val (by kernel_rfl) (.bool true) (fun v hv => (by first | rfl | (unfold execOp; go_simp))) ?_
  simp only [Act.put, List.setIfInBounds_toArray, List.set_cons_zero, List.set_cons_succ]
  refine wpQuiet_val (by kernel_rfl) (.bool true) (fun v hv => rfl) ?_
  simp only [Act.put, List.setIfInBounds_toArray, List.set_cons_zero, List.set_cons_succ]
  refine wpQuiet_val (by kernel_rfl) (.bool true) (fun v hv => rfl) ?_
  simp only [Act.put, List.setIfInBounds_toArray, List.set_cons_zero, List.set_cons_succ]
  refine wpQuiet_val (by kernel_rfl) (.agg (celB root).toArray) (fun v hv => (exec_loadD Dr.out.1 (show RowB v 34 b6 root from (heap_keep (heap_keep F6.out C6_32.out) (LaterB.of hv))) rfl rfl)) ?_
  simp only [Act.put, List.setIfInBounds_toArray, List.set_cons_zero, List.set_cons_succ]
  have C30_32 := Lib.hid (bel_step B30.out B31.out)
  refine wpQuiet_val (by kernel_rfl) (.agg #[.slice (some ⟨g111, 0, none⟩) 1 1, .slice (some ⟨g115, 0, none⟩) 1 1]) (fun v hv => (exec_loadLv _ _ _ rfl rfl (heap_keep (heap_keep F26.out C30_32.out) (LaterB.of hv)))) ?_
  simp only [Act.put, List.setIfInBounds_toArray, List.set_cons_zero, List.set_cons_succ]
  refine wpQuiet_val (by kernel_rfl) (.agg #[.slice O1 mO1 fO1]) (fun v hv => (exec_loadOp _ _ rfl rfl (heap_keep (heap_keep F12.out C13_32.out) (LaterB.of hv)))) ?_
  simp only [Act.put, List.setIfInBounds_toArray, List.set_cons_zero, List.set_cons_succ]
  refine wpQuiet_nil ?_
  have C0_45 := Lib.hid (bel_step C0_44.out B44.out)
  have C28_30 := Lib.hid (bel_step B28.out B29.out)
  have C28_31 := Lib.hid (bel_step C28_30.out B30.out)
  have C28_32 := Lib.hid (bel_step C28_31.out B31.out)
  have C28_33 := Lib.hid (bel_step C28_32.out B32.out)
  have C28_34 := Lib.hid (bel_step C28_33.out B33.out)
  have C28_35 := Lib.hid (bel_step C28_34.out B34.out)
  have C28_36 := Lib.hid (bel_step C28_35.out B35.out)
  have C28_37 := Lib.hid (bel_step C28_36.out B36.out)
  have C28_38 := Lib.hid (bel_step C28_37.out B37.out)
  have C28_39 := Lib.hid (bel_step C28_38.out B38.out)
  have C28_40 := Lib.hid (bel_step C28_39.out B39.out)
  have C28_41 := Lib.hid (bel_step C28_40.out B40.out)
  have C28_42 := Lib.hid (bel_step C28_41.out B41.out)
  have C28_43 := Lib.hid (bel_step C28_42.out B42.out)
  have C28_44 := Lib.hid (bel_step C28_43.out B43.out)
  have C28_45 := Lib.hid (bel_step C28_44.out B44.out)
  have C29_31 := Lib.hid (bel_step B29.out B30.out)
  have C29_32 := Lib.hid (bel_step C29_31.out B31.out)
  have C29_33 := Lib.hid (bel_step C29_32.out B32.out)
  have C29_34 := Lib.hid (bel_step C29_33.out B33.out)
  have C29_35 := Lib.hid (bel_step C29_34.out B34.out)
  have C29_36 := Lib.hid (bel_step C29_35.out B35.out)
  have C29_37 := Lib.hid (bel_step C29_36.out B36.out)
  have C29_38 := Lib.hid (bel_step C29_37.out B37.out)
  have C29_39 := Lib.hid (bel_step C29_38.out B38.out)
  have C29_40 := Lib.hid (bel_step C29_39.out B39.out)
  have C29_41 := Lib.hid (bel_step C29_40.out B40.out)
  have C29_42 := Lib.hid (bel_step C29_41.out B41.out)
  have C29_43 := Lib.hid (bel_step C29_42.out B42.out)
  have C29_44 := Lib.hid (bel_step C29_43.out B43.out)
  have C29_45 := Lib.hid (bel_step C29_44.out B44.out)
  have C12_45 := Lib.hid (bel_step C12_44.out B44.out)
  refine wpHeld_call 13 Tryd.func13 (by kernel_rfl) (by kernel_rfl) _ _ #[.agg (celB root).toArray, .int .i64 3, .agg #[.slice (some ⟨g111, 0, none⟩) 1 1, .slice (some ⟨g115, 0, none⟩) 1 1], .agg #[.slice O1 mO1 fO1]] rfl (by kernel_rfl) (by kernel_rfl) ?_
  refine (verify_any root 3 (some ⟨g111, 0, none⟩) 1 1 [1] (some ⟨g115, 0, none⟩) 1 1 [[97]] O1 mO1 fO1 [a, c] V45 Dr.out.1 Dr.out.2 (M111.out.keep C28_45.out) (M115.out.keep C29_45.out) (HO1.out.keep C12_45.out) (by decide) (HG.out.keep C0_45.out) (by omega) 80 Ev1.out).mono ?_
  rintro e V46 ⟨rfl, hb⟩
  have B45 := Lib.hid hb
  have C32_45 := Lib.hid (bel_step C32_44.out B44.out)
  have HS46 := Lib.hid (LaterB.step HS45.out (hb.mono C32_45.out.size))
  clear hb 
  refine ⟨_, rfl, HS46.out, ?_⟩
  simp only [Act.put, List.setIfInBounds_toArray, List.set_cons_zero, List.set_cons_succ]
  refine wpHeld_seg 4 HS46.out (by kernel_rfl) ?_
  simp only [List.take_succ_cons, List.take_zero, List.drop_succ_cons, List.drop_zero]
  refine wpQuiet_val (by kernel_rfl) (.bool true) (fun v hv => (by first | rfl | (unfold execOp; go_simp))) ?_
  simp only [Act.put, List.setIfInBounds_toArray, List.set_cons_zero, List.set_cons_succ]
  refine wpQuiet_val (by kernel_rfl) (.bool true) (fun v hv => rfl) ?_
  simp only [Act.put, List.setIfInBounds_toArray, List.set_cons_zero, List.set_cons_succ]
  refine wpQuiet_val (by kernel_rfl) (.bool true) (fun v hv => rfl) ?_
  simp only [Act.put, List.setIfInBounds_toArray, List.set_cons_zero, List.set_cons_succ]
  refine wpQuiet_val (by kernel_rfl) (.agg (celB root).toArray) (fun v hv => (exec_loadD Dr.out.1 (show RowB v 34 b6 root from (heap_keep (heap_keep F6.out C6_32.out) (LaterB.of hv))) rfl rfl)) ?_
  simp only [Act.put, List.setIfInBounds_toArray, List.set_cons_zero, List.set_cons_succ]
  refine wpQuiet_nil ?_
  refine wpHeld_mk (by kernel_rfl) (by kernel_rfl) #[.int .i64 1] 3 1 1 (run_buildI1 1 rfl rfl _) ?_
  intro g225 V47 hge h0 hb
  have B46 := Lib.hid hb
  have C32_46 := Lib.hid (bel_step C32_45.out B45.out)
  have HS47 := Lib.hid (LaterB.step HS46.out (hb.mono C32_46.out.size))
  have M225 := Lib.hid (ib_cells1 h0)
  refine ⟨HS47.out, ?_⟩
  clear hge h0 hb
  simp only [Act.put, List.setIfInBounds_toArray, List.set_cons_zero, List.set_cons_succ]
  refine wpHeld_seg 2 HS47.out (by kernel_rfl) ?_
  simp only [List.take_succ_cons, List.take_zero, List.drop_succ_cons, List.drop_zero]
  refine wpQuiet_val (by kernel_rfl) (.agg #[.slice (some ⟨g225, 0, none⟩) 1 1, .slice none 0 0]) (fun v hv => (by unfold execOp; go_simp)) ?_
  simp only [Act.put, List.setIfInBounds_toArray, List.set_cons_zero, List.set_cons_succ]
  refine wpQuiet_val (by kernel_rfl) (.agg #[.slice O1 mO1 fO1]) (fun v hv => (exec_loadOp _ _ rfl rfl (heap_keep (heap_keep F12.out C13_32.out) (LaterB.of hv)))) ?_
  simp only [Act.put, List.setIfInBounds_toArray, List.set_cons_zero, List.set_cons_succ]
  refine wpQuiet_nil ?_
  have C0_46 := Lib.hid (bel_step C0_45.out B45.out)
  have C0_47 := Lib.hid (bel_step C0_46.out B46.out)
  have C12_46 := Lib.hid (bel_step C12_45.out B45.out)
  have C12_47 := Lib.hid (bel_step C12_46.out B46.out)
  refine wpHeld_call 13 Tryd.func13 (by kernel_rfl) (by kernel_rfl) _ _ #[.agg (celB root).toArray, .int .i64 3, .agg #[.slice (some ⟨g225, 0, none⟩) 1 1, .slice none 0 0], .agg #[.slice O1 mO1 fO1]] rfl (by kernel_rfl) (by kernel_rfl) ?_
  refine (verify_any root 3 (some ⟨g225, 0, none⟩) 1 1 [1] none 0 0 [] O1 mO1 fO1 [a, c] V47 Dr.out.1 Dr.out.2 M225.out (Pb.none_ _) (HO1.out.keep C12_47.out) (by decide) (HG.out.keep C0_47.out) (by omega) 1 (sx_ver2 _ _)).mono ?_
  rintro e V48 ⟨rfl, hb⟩
  have B47 := Lib.hid hb
  have C32_47 := Lib.hid (bel_step C32_46.out B46.out)
  have HS48 := Lib.hid (LaterB.step HS47.out (hb.mono C32_47.out.size))
  clear hb 
  refine ⟨_, rfl, HS48.out, ?_⟩
  simp only [Act.put, List.setIfInBounds_toArray, List.set_cons_zero, List.set_cons_succ]
  refine wpHeld_seg 6 HS48.out (by kernel_rfl) ?_
  simp only [List.take_succ_cons, List.take_zero, List.drop_succ_cons, List.drop_zero]
  refine wpQuiet_val (by kernel_rfl) (.bool true) (fun v hv => (by first | rfl | (unfold execOp; go_simp))) ?_
  simp only [Act.put, List.setIfInBounds_toArray, List.set_cons_zero, List.set_cons_succ]
  refine wpQuiet_val (by kernel_rfl) (.bool true) (fun v hv => rfl) ?_
  simp only [Act.put, List.setIfInBounds_toArray, List.set_cons_zero, List.set_cons_succ]
  refine wpQuiet_val (by kernel_rfl) (.bool true) (fun v hv => rfl) ?_
  simp only [Act.put, List.setIfInBounds_toArray, List.set_cons_zero, List.set_cons_succ]
  refine wpQuiet_val (by kernel_rfl) (.agg (celB root).toArray) (fun v hv => (exec_loadD Dr.out.1 (show RowB v 34 b6 root from (heap_keep (heap_keep F6.out C6_32.out) (LaterB.of hv))) rfl rfl)) ?_
  simp only [Act.put, List.setIfInBounds_toArray, List.set_cons_zero, List.set_cons_succ]
  refine wpQuiet_val (by kernel_rfl) (.agg #[.slice none 0 0, .slice none 0 0]) (fun v hv => (by unfold execOp; go_simp)) ?_
  simp only [Act.put, List.setIfInBounds_toArray, List.set_cons_zero, List.set_cons_succ]
  refine wpQuiet_val (by kernel_rfl) (.agg #[.slice O1 mO1 fO1]) (fun v hv => (exec_loadOp _ _ rfl rfl (heap_keep (heap_keep F12.out C13_32.out) (LaterB.of hv)))) ?_
  simp only [Act.put, List.setIfInBounds_toArray, List.set_cons_zero, List.set_cons_succ]
  refine wpQuiet_nil ?_
  have C0_48 := Lib.hid (bel_step C0_47.out B47.out)
  have C12_48 := Lib.hid (bel_step C12_47.out B47.out)
  refine wpHeld_call 13 Tryd.func13 (by kernel_rfl) (by kernel_rfl) _ _ #[.agg (celB root).toArray, .int .i64 0, .agg #[.slice none 0 0, .slice none 0 0], .agg #[.slice O1 mO1 fO1]] rfl (by kernel_rfl) (by kernel_rfl) ?_
  refine (verify_any root 0 none 0 0 [] none 0 0 [] O1 mO1 fO1 [a, c] V48 Dr.out.1 Dr.out.2 (Ib.none_ _) (Pb.none_ _) (HO1.out.keep C12_48.out) (by decide) (HG.out.keep C0_48.out) (by omega) 1 (sx_ver3 _ _)).mono ?_
  rintro e V49 ⟨rfl, hb⟩
  have B48 := Lib.hid hb
  have C32_48 := Lib.hid (bel_step C32_47.out B47.out)
  have HS49 := Lib.hid (LaterB.step HS48.out (hb.mono C32_48.out.size))
  clear hb 
  refine ⟨_, rfl, HS49.out, ?_⟩
  simp only [Act.put, List.setIfInBounds_toArray, List.set_cons_zero, List.set_cons_succ]
  refine wpHeld_seg 6 HS49.out (by kernel_rfl) ?_
  simp only [List.take_succ_cons, List.take_zero, List.drop_succ_cons, List.drop_zero]
  refine wpQuiet_val (by kernel_rfl) (.bool true) (fun v hv => (by first | rfl | (unfold execOp; go_simp))) ?_
  simp only [Act.put, List.setIfInBounds_toArray, List.set_cons_zero, List.set_cons_succ]
  refine wpQuiet_val (by kernel_rfl) (.bool true) (fun v hv => rfl) ?_
  simp only [Act.put, List.setIfInBounds_toArray, List.set_cons_zero, List.set_cons_succ]
  refine wpQuiet_val (by kernel_rfl) (.bool true) (fun v hv => rfl) ?_
  simp only [Act.put, List.setIfInBounds_toArray, List.set_cons_zero, List.set_cons_succ]
  refine wpQuiet_val (by kernel_rfl) (.agg (celB root).toArray) (fun v hv => (exec_loadD Dr.out.1 (show RowB v 34 b6 root from (heap_keep (heap_keep F6.out C6_32.out) (LaterB.of hv))) rfl rfl)) ?_
  simp only [Act.put, List.setIfInBounds_toArray, List.set_cons_zero, List.set_cons_succ]
  refine wpQuiet_val (by kernel_rfl) (.agg #[.slice none 0 0, .slice none 0 0]) (fun v hv => (by unfold execOp; go_simp)) ?_
  simp only [Act.put, List.setIfInBounds_toArray, List.set_cons_zero, List.set_cons_succ]
  refine wpQuiet_val (by kernel_rfl) (.agg #[.slice O1 mO1 fO1]) (fun v hv => (exec_loadOp _ _ rfl rfl (heap_keep (heap_keep F12.out C13_32.out) (LaterB.of hv)))) ?_
  simp only [Act.put, List.setIfInBounds_toArray, List.set_cons_zero, List.set_cons_succ]
  refine wpQuiet_nil ?_
  have C0_49 := Lib.hid (bel_step C0_48.out B48.out)
  have C12_49 := Lib.hid (bel_step C12_48.out B48.out)
  refine wpHeld_call 13 Tryd.func13 (by kernel_rfl) (by kernel_rfl) _ _ #[.agg (celB root).toArray, .int .i64 65537, .agg #[.slice none 0 0, .slice none 0 0], .agg #[.slice O1 mO1 fO1]] rfl (by kernel_rfl) (by kernel_rfl) ?_
  refine (verify_any root 65537 none 0 0 [] none 0 0 [] O1 mO1 fO1 [a, c] V49 Dr.out.1 Dr.out.2 (Ib.none_ _) (Pb.none_ _) (HO1.out.keep C12_49.out) (by decide) (HG.out.keep C0_49.out) (by omega) 2 (sx_ver4 _ _)).mono ?_
  rintro e V50 ⟨rfl, hb⟩
  have B49 := Lib.hid hb
  have C32_49 := Lib.hid (bel_step C32_48.out B48.out)
  have HS50 := Lib.hid (LaterB.step HS49.out (hb.mono C32_49.out.size))
  clear hb 
  refine ⟨_, rfl, HS50.out, ?_⟩
  simp only [Act.put, List.setIfInBounds_toArray, List.set_cons_zero, List.set_cons_succ]
  refine wpHeld_seg 5 HS50.out (by kernel_rfl) ?_
  simp only [List.take_succ_cons, List.take_zero, List.drop_succ_cons, List.drop_zero]
  refine wpQuiet_val (by kernel_rfl) (.bool true) (fun v hv => (by first | rfl | (unfold execOp; go_simp))) ?_
  simp only [Act.put, List.setIfInBounds_toArray, List.set_cons_zero, List.set_cons_succ]
  refine wpQuiet_val (by kernel_rfl) (.bool true) (fun v hv => rfl) ?_
  simp only [Act.put, List.setIfInBounds_toArray, List.set_cons_zero, List.set_cons_succ]
  refine wpQuiet_val (by kernel_rfl) (.bool true) (fun v hv => rfl) ?_
  simp only [Act.put, List.setIfInBounds_toArray, List.set_cons_zero, List.set_cons_succ]
  refine wpQuiet_val (by kernel_rfl) (.slice p2 n2 c2) (fun v hv => rfl) ?_
  simp only [Act.put, List.setIfInBounds_toArray, List.set_cons_zero, List.set_cons_succ]
  refine wpQuiet_val (by kernel_rfl) (.agg #[.int .i64 3, .int .i64 2, .slice e2 1 f2, .slice wA wn wc]) (fun v hv => (exec_loadMb _ _ _ _ _ rfl rfl (heap_keep (heap_keep F27.out B31.out) (LaterB.of hv)))) ?_
  simp only [Act.put, List.setIfInBounds_toArray, List.set_cons_zero, List.set_cons_succ]
  refine wpQuiet_nil ?_
  have C0_50 := Lib.hid (bel_step C0_49.out B49.out)
  have C24_43 := Lib.hid (bel_step C24_42.out B42.out)
  have C24_44 := Lib.hid (bel_step C24_43.out B43.out)
  have C24_45 := Lib.hid (bel_step C24_44.out B44.out)
  have C24_46 := Lib.hid (bel_step C24_45.out B45.out)
  have C24_47 := Lib.hid (bel_step C24_46.out B46.out)
  have C24_48 := Lib.hid (bel_step C24_47.out B47.out)
  have C24_49 := Lib.hid (bel_step C24_48.out B48.out)
  have C24_50 := Lib.hid (bel_step C24_49.out B49.out)
  have C1_31 := Lib.hid (bel_step C1_30.out B30.out)
  have C1_32 := Lib.hid (bel_step C1_31.out B31.out)
  have C1_33 := Lib.hid (bel_step C1_32.out B32.out)
  have C1_34 := Lib.hid (bel_step C1_33.out B33.out)
  have C1_35 := Lib.hid (bel_step C1_34.out B34.out)
  have C1_36 := Lib.hid (bel_step C1_35.out B35.out)
  have C1_37 := Lib.hid (bel_step C1_36.out B36.out)
  have C1_38 := Lib.hid (bel_step C1_37.out B37.out)
  have C1_39 := Lib.hid (bel_step C1_38.out B38.out)
  have C1_40 := Lib.hid (bel_step C1_39.out B39.out)
  have C1_41 := Lib.hid (bel_step C1_40.out B40.out)
  have C1_42 := Lib.hid (bel_step C1_41.out B41.out)
  have C1_43 := Lib.hid (bel_step C1_42.out B42.out)
  have C1_44 := Lib.hid (bel_step C1_43.out B43.out)
  have C1_45 := Lib.hid (bel_step C1_44.out B44.out)
  have C1_46 := Lib.hid (bel_step C1_45.out B45.out)
  have C1_47 := Lib.hid (bel_step C1_46.out B46.out)
  have C1_48 := Lib.hid (bel_step C1_47.out B47.out)
  have C1_49 := Lib.hid (bel_step C1_48.out B48.out)
  have C1_50 := Lib.hid (bel_step C1_49.out B49.out)
  have C22_40 := Lib.hid (bel_step C22_39.out B39.out)
  have C22_41 := Lib.hid (bel_step C22_40.out B40.out)
  have C22_42 := Lib.hid (bel_step C22_41.out B41.out)
  have C22_43 := Lib.hid (bel_step C22_42.out B42.out)
  have C22_44 := Lib.hid (bel_step C22_43.out B43.out)
  have C22_45 := Lib.hid (bel_step C22_44.out B44.out)
  have C22_46 := Lib.hid (bel_step C22_45.out B45.out)
  have C22_47 := Lib.hid (bel_step C22_46.out B46.out)
  have C22_48 := Lib.hid (bel_step C22_47.out B47.out)
  have C22_49 := Lib.hid (bel_step C22_48.out B48.out)
  have C22_50 := Lib.hid (bel_step C22_49.out B49.out)
  refine wpHeld_call 15 Tryd.func15 (by kernel_rfl) (by kernel_rfl) _ _ #[.slice p2 n2 c2, .agg #[.int .i64 3, .int .i64 2, .slice e2 1 f2, .slice wA wn wc]] rfl (by kernel_rfl) (by kernel_rfl) ?_
  refine (contains_any p2 n2 c2 [ab, c] 3 2 e2 1 f2 [99] wA wn wc [ab] V50 (Q2.out.keep C24_50.out) (E2.out.keep C1_50.out).sb (HWit.out.keep C22_50.out) (by decide) HN24.out (HG.out.keep C0_50.out) true Ec0.out).mono ?_
  rintro e V51 ⟨rfl, hb⟩
  have B50 := Lib.hid hb
  have C32_50 := Lib.hid (bel_step C32_49.out B49.out)
  have HS51 := Lib.hid (LaterB.step HS50.out (hb.mono C32_50.out.size))
  clear hb 
  refine ⟨_, rfl, HS51.out, ?_⟩
  simp only [Act.put, List.setIfInBounds_toArray, List.set_cons_zero, List.set_cons_succ]
  refine wpHeld_seg 4 HS51.out (by kernel_rfl) ?_
  simp only [List.take_succ_cons, List.take_zero, List.drop_succ_cons, List.drop_zero]
  refine wpQuiet_val (by kernel_rfl) (.bool true) (fun v hv => rfl) ?_
  simp only [Act.put, List.setIfInBounds_toArray, List.set_cons_zero, List.set_cons_succ]
  refine wpQuiet_val (by kernel_rfl) (.bool true) (fun v hv => rfl) ?_
  simp only [Act.put, List.setIfInBounds_toArray, List.set_cons_zero, List.set_cons_succ]
  refine wpQuiet_val (by kernel_rfl) (.slice p2 n2 c2) (fun v hv => rfl) ?_
  simp only [Act.put, List.setIfInBounds_toArray, List.set_cons_zero, List.set_cons_succ]
  refine wpQuiet_val (by kernel_rfl) (.agg #[.int .i64 3, .int .i64 1, .slice e2 1 f2, .slice wA wn wc]) (fun v hv => (exec_loadMb _ _ _ _ _ rfl rfl (heap_keep F28.out (LaterB.of hv)))) ?_
  simp only [Act.put, List.setIfInBounds_toArray, List.set_cons_zero, List.set_cons_succ]
  refine wpQuiet_nil ?_
  have C0_51 := Lib.hid (bel_step C0_50.out B50.out)
  have C24_51 := Lib.hid (bel_step C24_50.out B50.out)
  have C1_51 := Lib.hid (bel_step C1_50.out B50.out)
  have C22_51 := Lib.hid (bel_step C22_50.out B50.out)
  refine wpHeld_call 15 Tryd.func15 (by kernel_rfl) (by kernel_rfl) _ _ #[.slice p2 n2 c2, .agg #[.int .i64 3, .int .i64 1, .slice e2 1 f2, .slice wA wn wc]] rfl (by kernel_rfl) (by kernel_rfl) ?_
  refine (contains_any p2 n2 c2 [ab, c] 3 1 e2 1 f2 [99] wA wn wc [ab] V51 (Q2.out.keep C24_51.out) (E2.out.keep C1_51.out).sb (HWit.out.keep C22_51.out) (by decide) HN24.out (HG.out.keep C0_51.out) false (sx_con1 _ _)).mono ?_
  rintro e V52 ⟨rfl, hb⟩
  have B51 := Lib.hid hb
  have C32_51 := Lib.hid (bel_step C32_50.out B50.out)
  have HS52 := Lib.hid (LaterB.step HS51.out (hb.mono C32_51.out.size))
  clear hb 
  refine ⟨_, rfl, HS52.out, ?_⟩
  simp only [Act.put, List.setIfInBounds_toArray, List.set_cons_zero, List.set_cons_succ]
  refine wpHeld_seg 6 HS52.out (by kernel_rfl) ?_
  simp only [List.take_succ_cons, List.take_zero, List.drop_succ_cons, List.drop_zero]
  refine wpQuiet_val (by kernel_rfl) (.bool true) (fun v hv => rfl) ?_
  simp only [Act.put, List.setIfInBounds_toArray, List.set_cons_zero, List.set_cons_succ]
  refine wpQuiet_val (by kernel_rfl) (.bool true) (fun v hv => rfl) ?_
  simp only [Act.put, List.setIfInBounds_toArray, List.set_cons_zero, List.set_cons_succ]
  refine wpQuiet_val (by kernel_rfl) (.bool true) (fun v hv => rfl) ?_
  simp only [Act.put, List.setIfInBounds_toArray, List.set_cons_zero, List.set_cons_succ]
  refine wpQuiet_val (by kernel_rfl) (.slice p2 n2 c2) (fun v hv => rfl) ?_
  simp only [Act.put, List.setIfInBounds_toArray, List.set_cons_zero, List.set_cons_succ]
  refine wpQuiet_val (by kernel_rfl) (.slice p2 1 c2) (fun v hv => (exec_cut2 _ _ _ _ 1 (by have h1 := ((Q2.out.keep C24_32.out).keep (LaterB.of hv)).len; have h2 := ((Q2.out.keep C24_32.out).keep (LaterB.of hv)).cap; simp at h1; omega) rfl rfl rfl)) ?_
  simp only [Act.put, List.setIfInBounds_toArray, List.set_cons_zero, List.set_cons_succ]
  refine wpQuiet_val (by kernel_rfl) (.agg #[.int .i64 3, .int .i64 2, .slice e2 1 f2, .slice wA wn wc]) (fun v hv => (exec_loadMb _ _ _ _ _ rfl rfl (heap_keep (heap_keep F27.out B31.out) (LaterB.of hv)))) ?_
  simp only [Act.put, List.setIfInBounds_toArray, List.set_cons_zero, List.set_cons_succ]
  refine wpQuiet_nil ?_
  have C0_52 := Lib.hid (bel_step C0_51.out B51.out)
  have C24_52 := Lib.hid (bel_step C24_51.out B51.out)
  have C1_52 := Lib.hid (bel_step C1_51.out B51.out)
  have C22_52 := Lib.hid (bel_step C22_51.out B51.out)
  refine wpHeld_call 15 Tryd.func15 (by kernel_rfl) (by kernel_rfl) _ _ #[.slice p2 1 c2, .agg #[.int .i64 3, .int .i64 2, .slice e2 1 f2, .slice wA wn wc]] rfl (by kernel_rfl) (by kernel_rfl) ?_
  refine (contains_any p2 1 c2 [ab] 3 2 e2 1 f2 [99] wA wn wc [ab] V52 ((Q2.out.keep C24_52.out).take (k := 1) (by have := (Q2.out.keep C24_52.out).len; simp at this; omega)) (E2.out.keep C1_52.out).sb (HWit.out.keep C22_52.out) (by decide) (by omega) (HG.out.keep C0_52.out) false (sx_con2 _)).mono ?_
  rintro e V53 ⟨rfl, hb⟩
  have B52 := Lib.hid hb
  have C32_52 := Lib.hid (bel_step C32_51.out B51.out)
  have HS53 := Lib.hid (LaterB.step HS52.out (hb.mono C32_52.out.size))
  clear hb 
  refine ⟨_, rfl, HS53.out, ?_⟩
  simp only [Act.put, List.setIfInBounds_toArray, List.set_cons_zero, List.set_cons_succ]
  refine wpHeld_seg 2 HS53.out (by kernel_rfl) ?_
  simp only [List.take_succ_cons, List.take_zero, List.drop_succ_cons, List.drop_zero]
  refine wpQuiet_val (by kernel_rfl) (.bool true) (fun v hv => rfl) ?_
  simp only [Act.put, List.setIfInBounds_toArray, List.set_cons_zero, List.set_cons_succ]
  refine wpQuiet_val (by kernel_rfl) (.bool true) (fun v hv => rfl) ?_
  simp only [Act.put, List.setIfInBounds_toArray, List.set_cons_zero, List.set_cons_succ]
  refine wpQuiet_nil ?_
  refine wpHeld_nil ?_
  refine mOp_val (.bool true) rfl rfl rfl ?_
  go_wp2_with fail
  go_ret
  have C0_53 := Lib.hid (bel_step C0_52.out B52.out)
  exact ⟨rfl, C0_53.out⟩
end Go.Proofs.YtgkojdbepgonkaaDoor
