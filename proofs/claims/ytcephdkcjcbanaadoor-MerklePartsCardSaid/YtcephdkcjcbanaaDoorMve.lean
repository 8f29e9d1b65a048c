/- The walk of MerkleParts. -/
import Derived.Test.YtcephdkcjcbanaaDoorH23
namespace Go.Proofs.YtcephdkcjcbanaaDoor
set_option maxRecDepth 8000
set_option linter.unusedVariables false
set_option linter.unusedSimpArgs false
open Go.RowKit
attribute [local simp] z32_ne z32_run
attribute [-simp] Tryd.zeroValue31 Tryd.isAgg31 Tryd.sizeOf31
set_option maxHeartbeats 8000000 in
theorem merkleParts_any (A : Option Addr) (n c : Nat) (Ls : List (List Nat)) (bt : Nat) (w : World) (hP : Pb w A n c Ls) (hbt : bt < 2 ^ 64) (hG : Gl w) :
    Calls Tryd.prog 7 #[.agg #[.slice A n c, .int .u64 (bt : Int)]] w fun e w' => e = .returned (.bool true) ∧ Below w.heap.size w w' := by
  have HG := Lib.hid hG
  have HP0 := Lib.hid hP
  clear hP hG
  go_enter Tryd.func7, Tryd.ntmps7
  go_upto_region 1 with fail
  refine wp_named1 (fun V1 hb g0 hlt => ?_)
  have B0 := Lib.hid hb
  have FQ := Lib.hid g0
  clear hb g0 hlt
  refine wp_region_lit ?_
  refine wpList_call (by kernel_rfl) 9 Tryd.func9 (by kernel_rfl) (by kernel_rfl) _ _ #[] rfl (by kernel_rfl) ?_
  refine (sanity8_any V1 (HG.out.keep B0.out)).mono ?_
  rintro e V2 ⟨rfl, hb⟩
  have B1 := Lib.hid hb
  clear hb 
  refine ⟨_, rfl, ?_⟩
  simp only [Act.put, List.setIfInBounds_toArray, List.set_cons_zero, List.set_cons_succ]
  refine wpList_run (by kernel_rfl) (.bool true) V2 rfl ?_
  simp only [Act.put, List.setIfInBounds_toArray, List.set_cons_zero, List.set_cons_succ]
  refine wpList_nil ?_
  go_upto_region 2 with fail
  refine wp_region_lit ?_
  refine wpList_run (by kernel_rfl) (.agg #[.slice A n c, .int .u64 (bt : Int)]) V2 (exec_loadQ _ _ _ rfl rfl (heap_keep FQ.out B1.out)) ?_
  simp only [Act.put, List.setIfInBounds_toArray, List.set_cons_zero, List.set_cons_succ]
  have C0_2 := Lib.hid (bel_step B0.out B1.out)
  refine wpList_call (by kernel_rfl) 10 Tryd.func10 (by kernel_rfl) (by kernel_rfl) _ _ #[.agg #[.slice A n c, .int .u64 (bt : Int)]] rfl (by kernel_rfl) ?_
  refine (madeQ_as A n c Ls bt V2 (HP0.out.keep C0_2.out) hbt).mono ?_
  rintro e V3 ⟨ad, m, d, I, k, f, ml, is, rfl, hp, hi, hm, hs, hinc, hb⟩
  have B2 := Lib.hid hb
  obtain ⟨hm1, hm2, hkm, hmd⟩ := hm
  have HSM := Lib.hid hs
  have HINC := Lib.hid hinc
  have HML := Lib.hid hp.len
  have HKL := Lib.hid hi.len
  clear hs hinc
  have HP := Lib.hid hp
  have HI := Lib.hid hi
  clear hb hp hi
  refine ⟨_, rfl, ?_⟩
  simp only [Act.put, List.setIfInBounds_toArray, List.set_cons_zero, List.set_cons_succ]
  refine wpList_run (by kernel_rfl) (.tuple #[.slice (some ad) m d, .slice I k f]) V3 rfl ?_
  simp only [Act.put, List.setIfInBounds_toArray, List.set_cons_zero, List.set_cons_succ]
  refine wpList_run (by kernel_rfl) (.slice (some ad) m d) V3 rfl ?_
  simp only [Act.put, List.setIfInBounds_toArray, List.set_cons_zero, List.set_cons_succ]
  refine wpList_run (by kernel_rfl) (.slice I k f) V3 rfl ?_
  simp only [Act.put, List.setIfInBounds_toArray, List.set_cons_zero, List.set_cons_succ]
  refine wpList_run (by kernel_rfl) (.slice (some ad) m d) V3 rfl ?_
  simp only [Act.put, List.setIfInBounds_toArray, List.set_cons_zero, List.set_cons_succ]
  refine wpList_run (by kernel_rfl) (.slice I k f) V3 rfl ?_
  simp only [Act.put, List.setIfInBounds_toArray, List.set_cons_zero, List.set_cons_succ]
  refine wpList_nil ?_
  obtain ⟨root, h_root⟩ : ∃ x, rootN ml = x := ⟨_, rfl⟩
  have Dg_root := Lib.hid (show root.length = 32 ∧ ∀ x ∈ root, x < 256 by rw [← h_root]; exact ⟨rootN_length (by have := HML.out; omega), rootN_lt _⟩)
  have ER := Lib.hid h_root
  clear h_root
  go_upto_region 3 with fail
  refine wp_region_lit ?_
  refine wpList_run (by kernel_rfl) (.slice (some ad) m d) V3 rfl ?_
  simp only [Act.put, List.setIfInBounds_toArray, List.set_cons_zero, List.set_cons_succ]
  have C0_3 := Lib.hid (bel_step C0_2.out B2.out)
  refine wpList_call (by kernel_rfl) 11 Tryd.func11 (by kernel_rfl) (by kernel_rfl) _ _ #[.slice (some ad) m d] rfl (by kernel_rfl) ?_
  refine (root_yes (some ad) m d ml V3 HP.out (by omega) (by omega) HSM.out (HG.out.keep C0_3.out) root ER.out).mono ?_
  rintro e V4 ⟨rfl, hb⟩
  have B3 := Lib.hid hb
  clear hb 
  refine ⟨_, rfl, ?_⟩
  simp only [Act.put, List.setIfInBounds_toArray, List.set_cons_zero, List.set_cons_succ]
  refine wpList_run (by kernel_rfl) (.tuple #[.agg (celB root).toArray, .int .i64 0]) V4 rfl ?_
  simp only [Act.put, List.setIfInBounds_toArray, List.set_cons_zero, List.set_cons_succ]
  refine wpList_run (by kernel_rfl) (.agg (celB root).toArray) V4 rfl ?_
  simp only [Act.put, List.setIfInBounds_toArray, List.set_cons_zero, List.set_cons_succ]
  refine wpList_run (by kernel_rfl) (.int .i64 0) V4 rfl ?_
  simp only [Act.put, List.setIfInBounds_toArray, List.set_cons_zero, List.set_cons_succ]
  refine wpList_decl z32 (celB root).toArray 31 (by kernel_rfl) (run_allocD _ _ _ rfl) (fun _ => by kernel_rfl) (fun b W h0 => exec_storeD Dg_root.out.1 List.length_replicate (show RowB W 31 b (List.replicate 32 0) from h0) rfl rfl rfl) ?_
  intro b6 V5 hge h0 hb
  have B4 := Lib.hid hb
  have F6 := Lib.hid h0
  clear hge h0 hb
  simp only [ptr, Act.put, List.setIfInBounds_toArray, List.set_cons_zero, List.set_cons_succ]
  refine wpList_run (by kernel_rfl) (.int .i64 0) V5 rfl ?_
  simp only [Act.put, List.setIfInBounds_toArray, List.set_cons_zero, List.set_cons_succ]
  refine wpList_nil ?_
  by_cases hq : m = 1
  · obtain ⟨p0, hp0⟩ : ∃ p, ml = [p] := List.length_eq_one_iff.1 (by have := HML.out; omega)
    subst hp0
    subst hq
    have ER1 := Lib.hid (show shaN (0 :: p0) = root from ER.out)
    have C3_5 := Lib.hid (bel_step B3.out B4.out)
    obtain ⟨e0, m0, f0, he0⟩ := (HP.out.keep C3_5.out).el (i := 0) (p := p0) rfl
    have E0 := Lib.hid he0
    clear he0
    go_upto_region 4 with fail
    refine wp_region_lit ?_
    refine wpList_run (by kernel_rfl) (.slice (some ad) 1 d) V5 rfl ?_
    simp only [Act.put, List.setIfInBounds_toArray, List.set_cons_zero, List.set_cons_succ]
    refine wpList_run (by kernel_rfl) (.int .i64 1) V5 (by first | rfl | (unfold execOp; go_simp)) ?_
    simp only [Act.put, List.setIfInBounds_toArray, List.set_cons_zero, List.set_cons_succ]
    refine wpList_run (by kernel_rfl) (.bool true) V5 (by first | rfl | (unfold execOp; go_simp)) ?_
    simp only [Act.put, List.setIfInBounds_toArray, List.set_cons_zero, List.set_cons_succ]
    refine wpList_nil ?_
    go_upto_region 5 with fail
    try simp only [List.append_eq, List.cons_append, List.nil_append]
    refine Tl.wp_held_tailB 13 V5.heap.size (by kernel_rfl) (lexOK_of (by kernel_rfl) (by kernel_rfl)) (Tl.chainW_of (by kernel_rfl)) rfl (by kernel_rfl) (by kernel_rfl) (fun V6 hb hSW => ?_)
    simp only [List.take_succ_cons, List.take_zero]
    have HS6 := Lib.hid hSW
    have B5 := Lib.hid hb
    clear hb hSW
    refine wpHeld_seg 7 HS6.out (by kernel_rfl) ?_
    simp only [List.take_succ_cons, List.take_zero, List.drop_succ_cons, List.drop_zero]
    refine wpQuiet_val (by kernel_rfl) (.int .i64 0) (fun v hv => rfl) ?_
    simp only [Act.put, List.setIfInBounds_toArray, List.set_cons_zero, List.set_cons_succ]
    refine wpQuiet_val (by kernel_rfl) (.bool true) (fun v hv => (by first | rfl | (unfold execOp; go_simp))) ?_
    simp only [Act.put, List.setIfInBounds_toArray, List.set_cons_zero, List.set_cons_succ]
    refine wpQuiet_val (by kernel_rfl) (.bool true) (fun v hv => rfl) ?_
    simp only [Act.put, List.setIfInBounds_toArray, List.set_cons_zero, List.set_cons_succ]
    refine wpQuiet_val (by kernel_rfl) (.agg (celB root).toArray) (fun v hv => (exec_loadD Dg_root.out.1 (show RowB v 31 b6 root from (heap_keep F6.out (LaterB.of hv))) rfl rfl)) ?_
    simp only [Act.put, List.setIfInBounds_toArray, List.set_cons_zero, List.set_cons_succ]
    refine wpQuiet_val (by kernel_rfl) (.slice (some ad) 1 d) (fun v hv => rfl) ?_
    simp only [Act.put, List.setIfInBounds_toArray, List.set_cons_zero, List.set_cons_succ]
    refine wpQuiet_val (by kernel_rfl) (.pointer (some (ad.add 0))) (fun v hv => (exec_idxP _ ad 1 d 0 (by omega) rfl rfl rfl)) ?_
    simp only [Act.put, List.setIfInBounds_toArray, List.set_cons_zero, List.set_cons_succ]
    refine wpQuiet_val (by kernel_rfl) (.slice e0 m0 f0) (fun v hv => (exec_loadS _ _ _ _ (E0.out.keep (LaterB.of hv)).cell rfl rfl)) ?_
    simp only [Act.put, List.setIfInBounds_toArray, List.set_cons_zero, List.set_cons_succ]
    refine wpQuiet_nil ?_
    refine wpHeld_call 27 Tryd.func27 (by kernel_rfl) (by kernel_rfl) _ _ #[.slice e0 m0 f0] rfl (by kernel_rfl) (by kernel_rfl) ?_
    refine (rleaf_any e0 m0 f0 p0 V6 (E0.out.keep B5.out).sb (by have h := (E0.out.keep B5.out).sb.len; have h2 := HSM.out p0 (by simp); omega) root ER1.out).mono ?_
    rintro e V7 ⟨rfl, hb⟩
    have B6 := Lib.hid hb
    have HS7 := Lib.hid (LaterB.step HS6.out (hb.mono B5.out.size))
    clear hb 
    refine ⟨_, rfl, HS7.out, ?_⟩
    simp only [Act.put, List.setIfInBounds_toArray, List.set_cons_zero, List.set_cons_succ]
    refine wpHeld_seg 5 HS7.out (by kernel_rfl) ?_
    simp only [List.take_succ_cons, List.take_zero, List.drop_succ_cons, List.drop_zero]
    refine wpQuiet_val (by kernel_rfl) (.bool true) (fun v hv => (exec_cmpD rfl rfl rfl (run_eqD_same root Dg_root.out.1 Dg_root.out.2 _))) ?_
    simp only [Act.put, List.setIfInBounds_toArray, List.set_cons_zero, List.set_cons_succ]
    refine wpQuiet_val (by kernel_rfl) (.bool true) (fun v hv => rfl) ?_
    simp only [Act.put, List.setIfInBounds_toArray, List.set_cons_zero, List.set_cons_succ]
    refine wpQuiet_val (by kernel_rfl) (.bool true) (fun v hv => rfl) ?_
    simp only [Act.put, List.setIfInBounds_toArray, List.set_cons_zero, List.set_cons_succ]
    refine wpQuiet_val (by kernel_rfl) (.bool true) (fun v hv => rfl) ?_
    simp only [Act.put, List.setIfInBounds_toArray, List.set_cons_zero, List.set_cons_succ]
    refine wpQuiet_val (by kernel_rfl) (.bool true) (fun v hv => rfl) ?_
    simp only [Act.put, List.setIfInBounds_toArray, List.set_cons_zero, List.set_cons_succ]
    refine wpQuiet_nil ?_
    refine wpHeld_nil ?_
    refine mOp_val (.bool true) rfl rfl rfl ?_
    go_wp2_with fail
    go_ret
    have C0_4 := Lib.hid (bel_step C0_3.out B3.out)
    have C0_5 := Lib.hid (bel_step C0_4.out B4.out)
    have C0_6 := Lib.hid (bel_step C0_5.out B5.out)
    have C0_7 := Lib.hid (bel_step C0_6.out B6.out)
    exact ⟨rfl, C0_7.out⟩
  · have hq2 : ¬ ((m : Int) = 1) := by omega
    go_upto_region 4 with fail
    refine wp_region_lit ?_
    refine wpList_run (by kernel_rfl) (.slice (some ad) m d) V5 rfl ?_
    simp only [Act.put, List.setIfInBounds_toArray, List.set_cons_zero, List.set_cons_succ]
    refine wpList_run (by kernel_rfl) (.int .i64 ((m : Nat) : Int)) V5 (by first | rfl | (unfold execOp; go_simp)) ?_
    simp only [Act.put, List.setIfInBounds_toArray, List.set_cons_zero, List.set_cons_succ]
    refine wpList_run (by kernel_rfl) (.bool false) V5 (by first | rfl | (unfold execOp; go_simp)) ?_
    simp only [Act.put, List.setIfInBounds_toArray, List.set_cons_zero, List.set_cons_succ]
    refine wpList_nil ?_
    go_wp2_with fail
    go_loopw [8] (fun s wr => ∃ j k : Nat, k = 2 ^ j ∧ k < m ∧ s = .int .i64 k ∧ wr = V5) (fun s _ => m - (intOf s).toNat)
    case atStart => exact ⟨0, 1, rfl, by omega, rfl, rfl⟩
    case round =>
      obtain ⟨j, k2, hk, hkn, rfl, rfl⟩ := hrel
      have HK := Lib.hid hk
      have hk1 : 1 ≤ k2 := by rw [hk]; exact Nat.one_le_two_pow
      clear hk
      have hw1 : IntKind.i64.wrap (2 * (k2 : Int)) = 2 * (k2 : Int) := by rw [IntKind.wrap_i64]; omega
      by_cases hlt : 2 * k2 < m
      · have h1 : 2 * (k2 : Int) < (m : Int) := by omega
        go_wp2_with fail
        go_roundw
        case rel => exact ⟨j + 1, 2 * k2, by rw [Nat.pow_succ, HK.out]; omega, hlt, by go_num, by first | trivial | rfl⟩
        case measure => simp [intOf]; omega
      · have h1 : ¬ 2 * (k2 : Int) < (m : Int) := by omega
        have e : leftN m = k2 := by
          have h0 := HK.out
          have := leftN_of (n := m) (j := j) (by omega) (by omega)
          omega
        have HLK := Lib.hid e
        clear e
        obtain ⟨r1, h_r1⟩ : ∃ x, rootN (ml.take k2) = x := ⟨_, rfl⟩
        have Dg_r1 := Lib.hid (show r1.length = 32 ∧ ∀ x ∈ r1, x < 256 by rw [← h_r1]; exact ⟨rootN_length (by rw [List.length_take]; have := HML.out; omega), rootN_lt _⟩)
        have ER1 := Lib.hid h_r1
        clear h_r1
        obtain ⟨r2, h_r2⟩ : ∃ x, rootN (ml.drop k2) = x := ⟨_, rfl⟩
        have Dg_r2 := Lib.hid (show r2.length = 32 ∧ ∀ x ∈ r2, x < 256 by rw [← h_r2]; exact ⟨rootN_length (by rw [List.length_drop]; have := HML.out; omega), rootN_lt _⟩)
        have ER2 := Lib.hid h_r2
        clear h_r2
        have ES := Lib.hid (show shaN (1 :: (r1 ++ r2)) = root by rw [← ER.out, rootN_split (by have := HML.out; omega), ← HML.out, HLK.out, ER1.out, ER2.out])
        go_upto_region 9 with fail
        refine wp_region_lit ?_
        refine wpList_run (by kernel_rfl) (.slice (some ad) m d) wr rfl ?_
        simp only [Act.put, List.setIfInBounds_toArray, List.set_cons_zero, List.set_cons_succ]
        refine wpList_run (by kernel_rfl) (.int .i64 (k2 : Int)) wr rfl ?_
        simp only [Act.put, List.setIfInBounds_toArray, List.set_cons_zero, List.set_cons_succ]
        refine wpList_run (by kernel_rfl) (.slice (some ad) k2 d) wr (exec_takeP _ ad m d k2 (by omega) (by omega) rfl rfl rfl) ?_
        simp only [Act.put, List.setIfInBounds_toArray, List.set_cons_zero, List.set_cons_succ]
        have C3_5 := Lib.hid (bel_step B3.out B4.out)
        have C0_4 := Lib.hid (bel_step C0_3.out B3.out)
        have C0_5 := Lib.hid (bel_step C0_4.out B4.out)
        refine wpList_call (by kernel_rfl) 11 Tryd.func11 (by kernel_rfl) (by kernel_rfl) _ _ #[.slice (some ad) k2 d] rfl (by kernel_rfl) ?_
        refine (root_yes (some ad) k2 d (ml.take k2) wr ((HP.out.keep C3_5.out).take (k := k2) (by omega)) (by omega) (by omega) (fun l hl => HSM.out l (List.mem_of_mem_take hl)) (HG.out.keep C0_5.out) r1 ER1.out).mono ?_
        rintro e V6 ⟨rfl, hb⟩
        have B5 := Lib.hid hb
        clear hb 
        refine ⟨_, rfl, ?_⟩
        simp only [Act.put, List.setIfInBounds_toArray, List.set_cons_zero, List.set_cons_succ]
        refine wpList_run (by kernel_rfl) (.tuple #[.agg (celB r1).toArray, .int .i64 0]) V6 rfl ?_
        simp only [Act.put, List.setIfInBounds_toArray, List.set_cons_zero, List.set_cons_succ]
        refine wpList_run (by kernel_rfl) (.agg (celB r1).toArray) V6 rfl ?_
        simp only [Act.put, List.setIfInBounds_toArray, List.set_cons_zero, List.set_cons_succ]
        refine wpList_run (by kernel_rfl) (.int .i64 0) V6 rfl ?_
        simp only [Act.put, List.setIfInBounds_toArray, List.set_cons_zero, List.set_cons_succ]
        refine wpList_decl z32 (celB r1).toArray 31 (by kernel_rfl) (run_allocD _ _ _ rfl) (fun _ => by kernel_rfl) (fun b W h0 => exec_storeD Dg_r1.out.1 List.length_replicate (show RowB W 31 b (List.replicate 32 0) from h0) rfl rfl rfl) ?_
        intro b9 V7 hge h0 hb
        have B6 := Lib.hid hb
        have F9 := Lib.hid h0
        clear hge h0 hb
        simp only [ptr, Act.put, List.setIfInBounds_toArray, List.set_cons_zero, List.set_cons_succ]
        refine wpList_run (by kernel_rfl) (.int .i64 0) V7 rfl ?_
        simp only [Act.put, List.setIfInBounds_toArray, List.set_cons_zero, List.set_cons_succ]
        refine wpList_nil ?_
        go_upto_region 10 with fail
        refine wp_region_lit ?_
        refine wpList_run (by kernel_rfl) (.slice (some ad) m d) V7 rfl ?_
        simp only [Act.put, List.setIfInBounds_toArray, List.set_cons_zero, List.set_cons_succ]
        refine wpList_run (by kernel_rfl) (.int .i64 (k2 : Int)) V7 rfl ?_
        simp only [Act.put, List.setIfInBounds_toArray, List.set_cons_zero, List.set_cons_succ]
        refine wpList_run (by kernel_rfl) (.slice (some (ad.add k2)) (m - k2) (d - k2)) V7 (exec_dropP _ ad m d k2 (by omega) (by omega) rfl rfl rfl) ?_
        simp only [Act.put, List.setIfInBounds_toArray, List.set_cons_zero, List.set_cons_succ]
        have C3_6 := Lib.hid (bel_step C3_5.out B5.out)
        have C3_7 := Lib.hid (bel_step C3_6.out B6.out)
        have C0_6 := Lib.hid (bel_step C0_5.out B5.out)
        have C0_7 := Lib.hid (bel_step C0_6.out B6.out)
        refine wpList_call (by kernel_rfl) 11 Tryd.func11 (by kernel_rfl) (by kernel_rfl) _ _ #[.slice (some (ad.add k2)) (m - k2) (d - k2)] rfl (by kernel_rfl) ?_
        refine (root_yes (some (ad.add k2)) (m - k2) (d - k2) (ml.drop k2) V7 ((HP.out.keep C3_7.out).dropTo (k := k2) (by omega) (by omega)) (by omega) (by omega) (fun l hl => HSM.out l (List.mem_of_mem_drop hl)) (HG.out.keep C0_7.out) r2 ER2.out).mono ?_
        rintro e V8 ⟨rfl, hb⟩
        have B7 := Lib.hid hb
        clear hb 
        refine ⟨_, rfl, ?_⟩
        simp only [Act.put, List.setIfInBounds_toArray, List.set_cons_zero, List.set_cons_succ]
        refine wpList_run (by kernel_rfl) (.tuple #[.agg (celB r2).toArray, .int .i64 0]) V8 rfl ?_
        simp only [Act.put, List.setIfInBounds_toArray, List.set_cons_zero, List.set_cons_succ]
        refine wpList_run (by kernel_rfl) (.agg (celB r2).toArray) V8 rfl ?_
        simp only [Act.put, List.setIfInBounds_toArray, List.set_cons_zero, List.set_cons_succ]
        refine wpList_run (by kernel_rfl) (.int .i64 0) V8 rfl ?_
        simp only [Act.put, List.setIfInBounds_toArray, List.set_cons_zero, List.set_cons_succ]
        refine wpList_decl z32 (celB r2).toArray 31 (by kernel_rfl) (run_allocD _ _ _ rfl) (fun _ => by kernel_rfl) (fun b W h0 => exec_storeD Dg_r2.out.1 List.length_replicate (show RowB W 31 b (List.replicate 32 0) from h0) rfl rfl rfl) ?_
        intro b11 V9 hge h0 hb
        have B8 := Lib.hid hb
        have F11 := Lib.hid h0
        clear hge h0 hb
        simp only [ptr, Act.put, List.setIfInBounds_toArray, List.set_cons_zero, List.set_cons_succ]
        refine wpList_run (by kernel_rfl) (.int .i64 0) V9 rfl ?_
        simp only [Act.put, List.setIfInBounds_toArray, List.set_cons_zero, List.set_cons_succ]
        refine wpList_nil ?_
        go_upto_region 11 with fail
        try simp only [List.append_eq, List.cons_append, List.nil_append]
        refine Tl.wp_held_tailB 20 V9.heap.size (by kernel_rfl) (lexOK_of (by kernel_rfl) (by kernel_rfl)) (Tl.chainW_of (by kernel_rfl)) rfl (by kernel_rfl) (by kernel_rfl) (fun V10 hb hSW => ?_)
        simp only [List.take_succ_cons, List.take_zero]
        have HS10 := Lib.hid hSW
        have B9 := Lib.hid hb
        clear hb hSW
        refine wpHeld_seg 14 HS10.out (by kernel_rfl) ?_
        simp only [List.take_succ_cons, List.take_zero, List.drop_succ_cons, List.drop_zero]
        refine wpQuiet_val (by kernel_rfl) (.int .i64 0) (fun v hv => rfl) ?_
        simp only [Act.put, List.setIfInBounds_toArray, List.set_cons_zero, List.set_cons_succ]
        refine wpQuiet_val (by kernel_rfl) (.bool true) (fun v hv => (by first | rfl | (unfold execOp; go_simp))) ?_
        simp only [Act.put, List.setIfInBounds_toArray, List.set_cons_zero, List.set_cons_succ]
        refine wpQuiet_val (by kernel_rfl) (.bool true) (fun v hv => rfl) ?_
        simp only [Act.put, List.setIfInBounds_toArray, List.set_cons_zero, List.set_cons_succ]
        refine wpQuiet_val (by kernel_rfl) (.int .i64 0) (fun v hv => rfl) ?_
        simp only [Act.put, List.setIfInBounds_toArray, List.set_cons_zero, List.set_cons_succ]
        refine wpQuiet_val (by kernel_rfl) (.bool true) (fun v hv => (by first | rfl | (unfold execOp; go_simp))) ?_
        simp only [Act.put, List.setIfInBounds_toArray, List.set_cons_zero, List.set_cons_succ]
        refine wpQuiet_val (by kernel_rfl) (.bool true) (fun v hv => rfl) ?_
        simp only [Act.put, List.setIfInBounds_toArray, List.set_cons_zero, List.set_cons_succ]
        refine wpQuiet_val (by kernel_rfl) (.bool true) (fun v hv => rfl) ?_
        simp only [Act.put, List.setIfInBounds_toArray, List.set_cons_zero, List.set_cons_succ]
        refine wpQuiet_val (by kernel_rfl) (.int .i64 0) (fun v hv => rfl) ?_
        simp only [Act.put, List.setIfInBounds_toArray, List.set_cons_zero, List.set_cons_succ]
        refine wpQuiet_val (by kernel_rfl) (.bool true) (fun v hv => (by first | rfl | (unfold execOp; go_simp))) ?_
        simp only [Act.put, List.setIfInBounds_toArray, List.set_cons_zero, List.set_cons_succ]
        refine wpQuiet_val (by kernel_rfl) (.bool true) (fun v hv => rfl) ?_
        simp only [Act.put, List.setIfInBounds_toArray, List.set_cons_zero, List.set_cons_succ]
        refine wpQuiet_val (by kernel_rfl) (.bool true) (fun v hv => rfl) ?_
        simp only [Act.put, List.setIfInBounds_toArray, List.set_cons_zero, List.set_cons_succ]
        have C5_7 := Lib.hid (bel_step B5.out B6.out)
        have C5_8 := Lib.hid (bel_step C5_7.out B7.out)
        have C5_9 := Lib.hid (bel_step C5_8.out B8.out)
        refine wpQuiet_val (by kernel_rfl) (.agg (celB root).toArray) (fun v hv => (exec_loadD Dg_root.out.1 (show RowB v 31 b6 root from (heap_keep (heap_keep F6.out C5_9.out) (LaterB.of hv))) rfl rfl)) ?_
        simp only [Act.put, List.setIfInBounds_toArray, List.set_cons_zero, List.set_cons_succ]
        have C7_9 := Lib.hid (bel_step B7.out B8.out)
        refine wpQuiet_val (by kernel_rfl) (.agg (celB r1).toArray) (fun v hv => (exec_loadD Dg_r1.out.1 (show RowB v 31 b9 r1 from (heap_keep (heap_keep F9.out C7_9.out) (LaterB.of hv))) rfl rfl)) ?_
        simp only [Act.put, List.setIfInBounds_toArray, List.set_cons_zero, List.set_cons_succ]
        refine wpQuiet_val (by kernel_rfl) (.agg (celB r2).toArray) (fun v hv => (exec_loadD Dg_r2.out.1 (show RowB v 31 b11 r2 from (heap_keep F11.out (LaterB.of hv))) rfl rfl)) ?_
        simp only [Act.put, List.setIfInBounds_toArray, List.set_cons_zero, List.set_cons_succ]
        refine wpQuiet_nil ?_
        refine wpHeld_call 28 Tryd.func28 (by kernel_rfl) (by kernel_rfl) _ _ #[.agg (celB r1).toArray, .agg (celB r2).toArray] rfl (by kernel_rfl) (by kernel_rfl) ?_
        refine (rpair_any r1 r2 V10 Dg_r1.out.1 Dg_r2.out.1 Dg_r1.out.2 Dg_r2.out.2 root ES.out).mono ?_
        rintro e V11 ⟨rfl, hb⟩
        have B10 := Lib.hid hb
        have HS11 := Lib.hid (LaterB.step HS10.out (hb.mono B9.out.size))
        clear hb 
        refine ⟨_, rfl, HS11.out, ?_⟩
        simp only [Act.put, List.setIfInBounds_toArray, List.set_cons_zero, List.set_cons_succ]
        refine wpHeld_seg 5 HS11.out (by kernel_rfl) ?_
        simp only [List.take_succ_cons, List.take_zero, List.drop_succ_cons, List.drop_zero]
        refine wpQuiet_val (by kernel_rfl) (.bool true) (fun v hv => (exec_cmpD rfl rfl rfl (run_eqD_same root Dg_root.out.1 Dg_root.out.2 _))) ?_
        simp only [Act.put, List.setIfInBounds_toArray, List.set_cons_zero, List.set_cons_succ]
        refine wpQuiet_val (by kernel_rfl) (.bool true) (fun v hv => rfl) ?_
        simp only [Act.put, List.setIfInBounds_toArray, List.set_cons_zero, List.set_cons_succ]
        refine wpQuiet_val (by kernel_rfl) (.bool true) (fun v hv => rfl) ?_
        simp only [Act.put, List.setIfInBounds_toArray, List.set_cons_zero, List.set_cons_succ]
        refine wpQuiet_val (by kernel_rfl) (.bool true) (fun v hv => rfl) ?_
        simp only [Act.put, List.setIfInBounds_toArray, List.set_cons_zero, List.set_cons_succ]
        refine wpQuiet_val (by kernel_rfl) (.bool true) (fun v hv => rfl) ?_
        simp only [Act.put, List.setIfInBounds_toArray, List.set_cons_zero, List.set_cons_succ]
        refine wpQuiet_nil ?_
        refine wpHeld_nil ?_
        refine mOp_val (.bool true) rfl rfl rfl ?_
        go_wp2_with fail
        go_ret
        have C0_8 := Lib.hid (bel_step C0_7.out B7.out)
        have C0_9 := Lib.hid (bel_step C0_8.out B8.out)
        have C0_10 := Lib.hid (bel_step C0_9.out B9.out)
        have C0_11 := Lib.hid (bel_step C0_10.out B10.out)
        exact ⟨rfl, C0_11.out⟩
end Go.Proofs.YtcephdkcjcbanaaDoor
