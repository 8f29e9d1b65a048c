/- The walk of MerkleOpenings. -/
import Derived.Test.YtcephdkcjcbanaaDoorH23
namespace Go.Proofs.YtcephdkcjcbanaaDoor
set_option maxRecDepth 8000
set_option linter.unusedVariables false
set_option linter.unusedSimpArgs false
open Go.RowKit
attribute [local simp] z32_ne z32_run
attribute [-simp] Tryd.zeroValue31 Tryd.isAgg31 Tryd.sizeOf31
set_option maxHeartbeats 8000000 in
theorem merkleOpenings_any (A : Option Addr) (n c : Nat) (Ls : List (List Nat)) (bt : Nat) (w : World) (hP : Pb w A n c Ls) (hbt : bt < 2 ^ 64) (hG : Gl w) :
    Calls Tryd.prog 5 #[.agg #[.slice A n c, .int .u64 (bt : Int)]] w fun e w' => e = .returned (.bool true) ∧ Below w.heap.size w w' := by
  have HG := Lib.hid hG
  have HP0 := Lib.hid hP
  clear hP hG
  go_enter Tryd.func5, Tryd.ntmps5
  go_upto_region 1 with fail
  refine wp_named1 (fun V1 hb g0 hlt => ?_)
  have B0 := Lib.hid hb
  have FQ := Lib.hid g0
  clear hb g0 hlt
  refine wp_region_lit ?_
  refine wpList_call (by kernel_rfl) 9 Tryd.func9 (by kernel_rfl) (by kernel_rfl) _ _ #[] rfl (by kernel_rfl) ?_
  refine (sanity8_any V1 (HG.out.keep B0.out)).mono ?_
  rintro e V2 ⟨rfl, hb⟩
  have B1 := Lib.hid hb
  clear hb 
  refine ⟨_, rfl, ?_⟩
  simp only [Act.put, List.setIfInBounds_toArray, List.set_cons_zero, List.set_cons_succ]
  refine wpList_run (by kernel_rfl) (.bool true) V2 rfl ?_
  simp only [Act.put, List.setIfInBounds_toArray, List.set_cons_zero, List.set_cons_succ]
  refine wpList_nil ?_
  go_upto_region 2 with fail
  refine wp_region_lit ?_
  refine wpList_run (by kernel_rfl) (.agg #[.slice A n c, .int .u64 (bt : Int)]) V2 (exec_loadQ _ _ _ rfl rfl (heap_keep FQ.out B1.out)) ?_
  simp only [Act.put, List.setIfInBounds_toArray, List.set_cons_zero, List.set_cons_succ]
  have C0_2 := Lib.hid (bel_step B0.out B1.out)
  refine wpList_call (by kernel_rfl) 10 Tryd.func10 (by kernel_rfl) (by kernel_rfl) _ _ #[.agg #[.slice A n c, .int .u64 (bt : Int)]] rfl (by kernel_rfl) ?_
  refine (madeQ_as A n c Ls bt V2 (HP0.out.keep C0_2.out) hbt).mono ?_
  rintro e V3 ⟨ad, m, d, I, k, f, ml, is, rfl, hp, hi, hm, hs, hinc, hb⟩
  have B2 := Lib.hid hb
  obtain ⟨hm1, hm2, hkm, hmd⟩ := hm
  have HSM := Lib.hid hs
  have HINC := Lib.hid hinc
  have HML := Lib.hid hp.len
  have HKL := Lib.hid hi.len
  clear hs hinc
  have HP := Lib.hid hp
  have HI := Lib.hid hi
  clear hb hp hi
  refine ⟨_, rfl, ?_⟩
  simp only [Act.put, List.setIfInBounds_toArray, List.set_cons_zero, List.set_cons_succ]
  refine wpList_run (by kernel_rfl) (.tuple #[.slice (some ad) m d, .slice I k f]) V3 rfl ?_
  simp only [Act.put, List.setIfInBounds_toArray, List.set_cons_zero, List.set_cons_succ]
  refine wpList_run (by kernel_rfl) (.slice (some ad) m d) V3 rfl ?_
  simp only [Act.put, List.setIfInBounds_toArray, List.set_cons_zero, List.set_cons_succ]
  refine wpList_run (by kernel_rfl) (.slice I k f) V3 rfl ?_
  simp only [Act.put, List.setIfInBounds_toArray, List.set_cons_zero, List.set_cons_succ]
  refine wpList_run (by kernel_rfl) (.slice (some ad) m d) V3 rfl ?_
  simp only [Act.put, List.setIfInBounds_toArray, List.set_cons_zero, List.set_cons_succ]
  refine wpList_run (by kernel_rfl) (.slice I k f) V3 rfl ?_
  simp only [Act.put, List.setIfInBounds_toArray, List.set_cons_zero, List.set_cons_succ]
  refine wpList_nil ?_
  obtain ⟨root, h_root⟩ : ∃ x, rootN ml = x := ⟨_, rfl⟩
  have Dg_root := Lib.hid (show root.length = 32 ∧ ∀ x ∈ root, x < 256 by rw [← h_root]; exact ⟨rootN_length (by have := HML.out; omega), rootN_lt _⟩)
  have ER := Lib.hid h_root
  clear h_root
  go_upto_region 3 with fail
  refine wp_region_lit ?_
  refine wpList_run (by kernel_rfl) (.slice (some ad) m d) V3 rfl ?_
  simp only [Act.put, List.setIfInBounds_toArray, List.set_cons_zero, List.set_cons_succ]
  have C0_3 := Lib.hid (bel_step C0_2.out B2.out)
  refine wpList_call (by kernel_rfl) 11 Tryd.func11 (by kernel_rfl) (by kernel_rfl) _ _ #[.slice (some ad) m d] rfl (by kernel_rfl) ?_
  refine (root_yes (some ad) m d ml V3 HP.out (by omega) (by omega) HSM.out (HG.out.keep C0_3.out) root ER.out).mono ?_
  rintro e V4 ⟨rfl, hb⟩
  have B3 := Lib.hid hb
  clear hb 
  refine ⟨_, rfl, ?_⟩
  simp only [Act.put, List.setIfInBounds_toArray, List.set_cons_zero, List.set_cons_succ]
  refine wpList_run (by kernel_rfl) (.tuple #[.agg (celB root).toArray, .int .i64 0]) V4 rfl ?_
  simp only [Act.put, List.setIfInBounds_toArray, List.set_cons_zero, List.set_cons_succ]
  refine wpList_run (by kernel_rfl) (.agg (celB root).toArray) V4 rfl ?_
  simp only [Act.put, List.setIfInBounds_toArray, List.set_cons_zero, List.set_cons_succ]
  refine wpList_run (by kernel_rfl) (.int .i64 0) V4 rfl ?_
  simp only [Act.put, List.setIfInBounds_toArray, List.set_cons_zero, List.set_cons_succ]
  refine wpList_decl z32 (celB root).toArray 31 (by kernel_rfl) (run_allocD _ _ _ rfl) (fun _ => by kernel_rfl) (fun b W h0 => exec_storeD Dg_root.out.1 List.length_replicate (show RowB W 31 b (List.replicate 32 0) from h0) rfl rfl rfl) ?_
  intro b6 V5 hge h0 hb
  have B4 := Lib.hid hb
  have F6 := Lib.hid h0
  clear hge h0 hb
  simp only [ptr, Act.put, List.setIfInBounds_toArray, List.set_cons_zero, List.set_cons_succ]
  refine wpList_run (by kernel_rfl) (.int .i64 0) V5 rfl ?_
  simp only [Act.put, List.setIfInBounds_toArray, List.set_cons_zero, List.set_cons_succ]
  refine wpList_nil ?_
  obtain ⟨ns, h_ns⟩ : ∃ x, digsN ml (closedN 0 m is) = x := ⟨_, rfl⟩
  have ENS := Lib.hid h_ns
  clear h_ns
  go_upto_region 4 with fail
  refine wp_region_lit ?_
  refine wpList_run (by kernel_rfl) (.slice (some ad) m d) V5 rfl ?_
  simp only [Act.put, List.setIfInBounds_toArray, List.set_cons_zero, List.set_cons_succ]
  refine wpList_run (by kernel_rfl) (.slice I k f) V5 rfl ?_
  simp only [Act.put, List.setIfInBounds_toArray, List.set_cons_zero, List.set_cons_succ]
  have C3_5 := Lib.hid (bel_step B3.out B4.out)
  have C0_4 := Lib.hid (bel_step C0_3.out B3.out)
  have C0_5 := Lib.hid (bel_step C0_4.out B4.out)
  refine wpList_call (by kernel_rfl) 13 Tryd.func13 (by kernel_rfl) (by kernel_rfl) _ _ #[.slice (some ad) m d, .slice I k f] rfl (by kernel_rfl) ?_
  refine (open_yes (some ad) m d ml I k f is V5 (HP.out.keep C3_5.out) (HI.out.keep C3_5.out) (by omega) (by omega) HSM.out (HG.out.keep C0_5.out) HINC.out ns ENS.out).mono ?_
  rintro e V6 ⟨oA, on, oc, rfl, hd, hb⟩
  have B5 := Lib.hid hb
  have HO := Lib.hid hd
  clear hb hd
  refine ⟨_, rfl, ?_⟩
  simp only [Act.put, List.setIfInBounds_toArray, List.set_cons_zero, List.set_cons_succ]
  refine wpList_run (by kernel_rfl) (.tuple #[.agg #[.slice oA on oc], .int .i64 0]) V6 rfl ?_
  simp only [Act.put, List.setIfInBounds_toArray, List.set_cons_zero, List.set_cons_succ]
  refine wpList_run (by kernel_rfl) (.agg #[.slice oA on oc]) V6 rfl ?_
  simp only [Act.put, List.setIfInBounds_toArray, List.set_cons_zero, List.set_cons_succ]
  refine wpList_run (by kernel_rfl) (.int .i64 0) V6 rfl ?_
  simp only [Act.put, List.setIfInBounds_toArray, List.set_cons_zero, List.set_cons_succ]
  refine wpList_decl #[.slice none 0 0] #[.slice oA on oc] 37 (by kernel_rfl) (exec_allocOp _ rfl) (fun _ => by kernel_rfl) (fun b W h0 => exec_storeOp b _ _ _ _ rfl rfl rfl h0) ?_
  intro b8 V7 hge h0 hb
  have B6 := Lib.hid hb
  have F8 := Lib.hid h0
  clear hge h0 hb
  simp only [ptr, Act.put, List.setIfInBounds_toArray, List.set_cons_zero, List.set_cons_succ]
  refine wpList_run (by kernel_rfl) (.int .i64 0) V7 rfl ?_
  simp only [Act.put, List.setIfInBounds_toArray, List.set_cons_zero, List.set_cons_succ]
  refine wpList_nil ?_
  obtain ⟨bs, h_bs⟩ : ∃ x, (is.map fun z => ml.getD z.toNat []) = x := ⟨_, rfl⟩
  have EBS := Lib.hid h_bs
  clear h_bs
  have HBS := Lib.hid (show ∀ b ∈ bs, b.length ≤ 59999 by
    rw [← EBS.out]
    intro b hb
    obtain ⟨z, hz, rfl⟩ := List.mem_map.1 hb
    have hin := (incF_pw HINC.out).2 z hz
    have hml := HML.out
    have hlt : z.toNat < ml.length := by omega
    rw [List.getD_eq_getElem?_getD, List.getElem?_eq_getElem hlt]
    exact HSM.out _ (List.getElem_mem hlt))
  have EV := Lib.hid (show verN root (m : Int) is bs ns = 0 by rw [← ER.out, ← EBS.out, ← ENS.out]; exact ver_honest HML.out.symm hm1 (by omega) HINC.out)
  go_upto_region 5 with fail
  try simp only [List.append_eq, List.cons_append, List.nil_append]
  refine Tl.wp_held_tailB 20 V7.heap.size (by kernel_rfl) (lexOK_of (by kernel_rfl) (by kernel_rfl)) (Tl.chainW_of (by kernel_rfl)) rfl (by kernel_rfl) (by kernel_rfl) (fun V8 hb hSW => ?_)
  simp only [List.take_succ_cons, List.take_zero]
  have HS8 := Lib.hid hSW
  have B7 := Lib.hid hb
  clear hb hSW
  refine wpHeld_seg 12 HS8.out (by kernel_rfl) ?_
  simp only [List.take_succ_cons, List.take_zero, List.drop_succ_cons, List.drop_zero]
  refine wpQuiet_val (by kernel_rfl) (.int .i64 0) (fun v hv => rfl) ?_
  simp only [Act.put, List.setIfInBounds_toArray, List.set_cons_zero, List.set_cons_succ]
  refine wpQuiet_val (by kernel_rfl) (.bool true) (fun v hv => (by first | rfl | (unfold execOp; go_simp))) ?_
  simp only [Act.put, List.setIfInBounds_toArray, List.set_cons_zero, List.set_cons_succ]
  refine wpQuiet_val (by kernel_rfl) (.bool true) (fun v hv => rfl) ?_
  simp only [Act.put, List.setIfInBounds_toArray, List.set_cons_zero, List.set_cons_succ]
  refine wpQuiet_val (by kernel_rfl) (.int .i64 0) (fun v hv => rfl) ?_
  simp only [Act.put, List.setIfInBounds_toArray, List.set_cons_zero, List.set_cons_succ]
  refine wpQuiet_val (by kernel_rfl) (.bool true) (fun v hv => (by first | rfl | (unfold execOp; go_simp))) ?_
  simp only [Act.put, List.setIfInBounds_toArray, List.set_cons_zero, List.set_cons_succ]
  refine wpQuiet_val (by kernel_rfl) (.bool true) (fun v hv => rfl) ?_
  simp only [Act.put, List.setIfInBounds_toArray, List.set_cons_zero, List.set_cons_succ]
  refine wpQuiet_val (by kernel_rfl) (.bool true) (fun v hv => rfl) ?_
  simp only [Act.put, List.setIfInBounds_toArray, List.set_cons_zero, List.set_cons_succ]
  have C5_7 := Lib.hid (bel_step B5.out B6.out)
  refine wpQuiet_val (by kernel_rfl) (.agg (celB root).toArray) (fun v hv => (exec_loadD Dg_root.out.1 (show RowB v 31 b6 root from (heap_keep (heap_keep F6.out C5_7.out) (LaterB.of hv))) rfl rfl)) ?_
  simp only [Act.put, List.setIfInBounds_toArray, List.set_cons_zero, List.set_cons_succ]
  refine wpQuiet_val (by kernel_rfl) (.slice (some ad) m d) (fun v hv => rfl) ?_
  simp only [Act.put, List.setIfInBounds_toArray, List.set_cons_zero, List.set_cons_succ]
  refine wpQuiet_val (by kernel_rfl) (.int .i64 ((m : Nat) : Int)) (fun v hv => (by first | rfl | (unfold execOp; go_simp))) ?_
  simp only [Act.put, List.setIfInBounds_toArray, List.set_cons_zero, List.set_cons_succ]
  refine wpQuiet_val (by kernel_rfl) (.slice (some ad) m d) (fun v hv => rfl) ?_
  simp only [Act.put, List.setIfInBounds_toArray, List.set_cons_zero, List.set_cons_succ]
  refine wpQuiet_val (by kernel_rfl) (.slice I k f) (fun v hv => rfl) ?_
  simp only [Act.put, List.setIfInBounds_toArray, List.set_cons_zero, List.set_cons_succ]
  refine wpQuiet_nil ?_
  have C3_6 := Lib.hid (bel_step C3_5.out B5.out)
  have C3_7 := Lib.hid (bel_step C3_6.out B6.out)
  have C3_8 := Lib.hid (bel_step C3_7.out B7.out)
  refine wpHeld_call 26 Tryd.func26 (by kernel_rfl) (by kernel_rfl) _ _ #[.slice (some ad) m d, .slice I k f] rfl (by kernel_rfl) (by kernel_rfl) ?_
  refine (leaves_pb (some ad) m d ml I k f is V8 (HP.out.keep C3_8.out) (HI.out.keep C3_8.out) (by omega) (incF_pw HINC.out).2 bs EBS.out).mono ?_
  rintro e V9 ⟨lA, lc, rfl, hd, hb⟩
  have B8 := Lib.hid hb
  have HS9 := Lib.hid (LaterB.step HS8.out (hb.mono B7.out.size))
  have HLv := Lib.hid hd
  clear hb hd
  refine ⟨_, rfl, HS9.out, ?_⟩
  simp only [Act.put, List.setIfInBounds_toArray, List.set_cons_zero, List.set_cons_succ]
  refine wpHeld_seg 1 HS9.out (by kernel_rfl) ?_
  simp only [List.take_succ_cons, List.take_zero, List.drop_succ_cons, List.drop_zero]
  refine wpQuiet_val (by kernel_rfl) (.agg #[.slice oA on oc]) (fun v hv => (exec_loadOp _ _ rfl rfl (heap_keep F8.out (LaterB.of hv)))) ?_
  simp only [Act.put, List.setIfInBounds_toArray, List.set_cons_zero, List.set_cons_succ]
  refine wpQuiet_nil ?_
  have C3_9 := Lib.hid (bel_step C3_8.out B8.out)
  have C6_8 := Lib.hid (bel_step B6.out B7.out)
  have C6_9 := Lib.hid (bel_step C6_8.out B8.out)
  have C0_6 := Lib.hid (bel_step C0_5.out B5.out)
  have C0_7 := Lib.hid (bel_step C0_6.out B6.out)
  have C0_8 := Lib.hid (bel_step C0_7.out B7.out)
  have C0_9 := Lib.hid (bel_step C0_8.out B8.out)
  refine wpHeld_call 22 Tryd.func22 (by kernel_rfl) (by kernel_rfl) _ _ #[.agg (celB root).toArray, .int .i64 ((m : Nat) : Int), .agg #[.slice I k f, .slice lA k lc], .agg #[.slice oA on oc]] rfl (by kernel_rfl) (by kernel_rfl) ?_
  refine (verify_any root (m : Int) I k f is lA k lc bs oA on oc ns V9 Dg_root.out.1 Dg_root.out.2 (HI.out.keep C3_9.out) HLv.out (HO.out.keep C6_9.out) HBS.out (HG.out.keep C0_9.out) (by omega) 0 EV.out).mono ?_
  rintro e V10 ⟨rfl, hb⟩
  have B9 := Lib.hid hb
  have C7_9 := Lib.hid (bel_step B7.out B8.out)
  have HS10 := Lib.hid (LaterB.step HS9.out (hb.mono C7_9.out.size))
  clear hb 
  refine ⟨_, rfl, HS10.out, ?_⟩
  simp only [Act.put, List.setIfInBounds_toArray, List.set_cons_zero, List.set_cons_succ]
  refine wpHeld_seg 5 HS10.out (by kernel_rfl) ?_
  simp only [List.take_succ_cons, List.take_zero, List.drop_succ_cons, List.drop_zero]
  refine wpQuiet_val (by kernel_rfl) (.bool true) (fun v hv => (by first | rfl | (unfold execOp; go_simp))) ?_
  simp only [Act.put, List.setIfInBounds_toArray, List.set_cons_zero, List.set_cons_succ]
  refine wpQuiet_val (by kernel_rfl) (.bool true) (fun v hv => rfl) ?_
  simp only [Act.put, List.setIfInBounds_toArray, List.set_cons_zero, List.set_cons_succ]
  refine wpQuiet_val (by kernel_rfl) (.bool true) (fun v hv => rfl) ?_
  simp only [Act.put, List.setIfInBounds_toArray, List.set_cons_zero, List.set_cons_succ]
  refine wpQuiet_val (by kernel_rfl) (.bool true) (fun v hv => rfl) ?_
  simp only [Act.put, List.setIfInBounds_toArray, List.set_cons_zero, List.set_cons_succ]
  refine wpQuiet_val (by kernel_rfl) (.bool true) (fun v hv => rfl) ?_
  simp only [Act.put, List.setIfInBounds_toArray, List.set_cons_zero, List.set_cons_succ]
  refine wpQuiet_nil ?_
  refine wpHeld_nil ?_
  refine mOp_val (.bool true) rfl rfl rfl ?_
  go_wp2_with fail
  go_ret
  have C0_10 := Lib.hid (bel_step C0_9.out B9.out)
  exact ⟨rfl, C0_10.out⟩
end Go.Proofs.YtcephdkcjcbanaaDoor
