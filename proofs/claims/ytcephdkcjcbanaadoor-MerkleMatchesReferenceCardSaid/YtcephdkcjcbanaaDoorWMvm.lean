/- The walk of MerkleMatchesReference. -/
import Derived.Test.YtcephdkcjcbanaaDoorWMvq
namespace Go.Proofs.YtcephdkcjcbanaaDoor
set_option maxRecDepth 8000
set_option linter.unusedVariables false
set_option linter.unusedSimpArgs false
open Go.RowKit
attribute [local simp] z32_ne z32_run
attribute [-simp] Tryd.zeroValue31 Tryd.isAgg31 Tryd.sizeOf31
set_option maxHeartbeats 8000000 in
theorem merkleMatchesReference_any (A : Option Addr) (n c : Nat) (Ls : List (List Nat)) (bt : Nat) (A1 : Option Addr) (n1 c1 : Nat) (is1 : List Int) (ix : Int) (w : World) (hP : Pb w A n c Ls) (hbt : bt < 2 ^ 64) (hI1 : Ib w A1 n1 c1 is1) (_hix : -9223372036854775808 ≤ ix ∧ ix ≤ 9223372036854775807) (hG : Gl w) :
    Calls Tryd.prog 3 #[.agg #[.slice A n c, .int .u64 (bt : Int)], .slice A1 n1 c1, .int .i64 ix] w fun e w' => e = .returned (.bool true) ∧ Below w.heap.size w w' := by
  have HG := Lib.hid hG
  have HP0 := Lib.hid hP
  have HI1 := Lib.hid hI1
  clear hP hG hI1
  go_enter Tryd.func3, Tryd.ntmps3
  go_upto_region 1 with fail
  refine wp_named1 (fun V1 hb g0 hlt => ?_)
  have B0 := Lib.hid hb
  have FQ := Lib.hid g0
  clear hb g0 hlt
  refine wp_region_lit ?_
  refine wpList_call (by kernel_rfl) 9 Tryd.func9 (by kernel_rfl) (by kernel_rfl) _ _ #[] rfl (by kernel_rfl) ?_
  refine (sanity8_any V1 (HG.out.keep B0.out)).mono ?_
  rintro e V2 ⟨rfl, hb⟩
  have B1 := Lib.hid hb
  clear hb 
  refine ⟨_, rfl, ?_⟩
  simp only [Act.put, List.setIfInBounds_toArray, List.set_cons_zero, List.set_cons_succ]
  refine wpList_run (by kernel_rfl) (.bool true) V2 rfl ?_
  simp only [Act.put, List.setIfInBounds_toArray, List.set_cons_zero, List.set_cons_succ]
  refine wpList_nil ?_
  go_upto_region 2 with fail
  refine wp_region_lit ?_
  refine wpList_run (by kernel_rfl) (.agg #[.slice A n c, .int .u64 (bt : Int)]) V2 (exec_loadQ _ _ _ rfl rfl (heap_keep FQ.out B1.out)) ?_
  simp only [Act.put, List.setIfInBounds_toArray, List.set_cons_zero, List.set_cons_succ]
  have C0_2 := Lib.hid (bel_step B0.out B1.out)
  refine wpList_call (by kernel_rfl) 10 Tryd.func10 (by kernel_rfl) (by kernel_rfl) _ _ #[.agg #[.slice A n c, .int .u64 (bt : Int)]] rfl (by kernel_rfl) ?_
  refine (madeQ_as A n c Ls bt V2 (HP0.out.keep C0_2.out) hbt).mono ?_
  rintro e V3 ⟨ad, m, d, I, k, f, ml, is, rfl, hp, hi, hm, hs, hinc, hb⟩
  have B2 := Lib.hid hb
  obtain ⟨hm1, hm2, hkm, hmd⟩ := hm
  have HSM := Lib.hid hs
  have HINC := Lib.hid hinc
  have HML := Lib.hid hp.len
  have HKL := Lib.hid hi.len
  clear hs hinc
  have HP := Lib.hid hp
  have HI := Lib.hid hi
  clear hb hp hi
  refine ⟨_, rfl, ?_⟩
  simp only [Act.put, List.setIfInBounds_toArray, List.set_cons_zero, List.set_cons_succ]
  refine wpList_run (by kernel_rfl) (.tuple #[.slice (some ad) m d, .slice I k f]) V3 rfl ?_
  simp only [Act.put, List.setIfInBounds_toArray, List.set_cons_zero, List.set_cons_succ]
  refine wpList_run (by kernel_rfl) (.slice (some ad) m d) V3 rfl ?_
  simp only [Act.put, List.setIfInBounds_toArray, List.set_cons_zero, List.set_cons_succ]
  refine wpList_run (by kernel_rfl) (.slice I k f) V3 rfl ?_
  simp only [Act.put, List.setIfInBounds_toArray, List.set_cons_zero, List.set_cons_succ]
  refine wpList_run (by kernel_rfl) (.slice (some ad) m d) V3 rfl ?_
  simp only [Act.put, List.setIfInBounds_toArray, List.set_cons_zero, List.set_cons_succ]
  refine wpList_run (by kernel_rfl) (.slice I k f) V3 rfl ?_
  simp only [Act.put, List.setIfInBounds_toArray, List.set_cons_zero, List.set_cons_succ]
  refine wpList_nil ?_
  obtain ⟨root, h_root⟩ : ∃ x, rootN ml = x := ⟨_, rfl⟩
  have Dg_root := Lib.hid (show root.length = 32 ∧ ∀ x ∈ root, x < 256 by rw [← h_root]; exact ⟨rootN_length (by have := HML.out; omega), rootN_lt _⟩)
  have ER := Lib.hid h_root
  clear h_root
  obtain ⟨od, h_od⟩ : ∃ x, openD ml m is = x := ⟨_, rfl⟩
  have EOD := Lib.hid h_od
  clear h_od
  obtain ⟨oe, h_oe⟩ : ∃ x, openE m is = x := ⟨_, rfl⟩
  have EOE := Lib.hid h_oe
  clear h_oe
  obtain ⟨od1, h_od1⟩ : ∃ x, openD ml m is1 = x := ⟨_, rfl⟩
  have EOD1 := Lib.hid h_od1
  clear h_od1
  obtain ⟨oe1, h_oe1⟩ : ∃ x, openE m is1 = x := ⟨_, rfl⟩
  have EOE1 := Lib.hid h_oe1
  clear h_oe1
  obtain ⟨wd, h_wd⟩ : ∃ x, witD ml m ix = x := ⟨_, rfl⟩
  have EWD := Lib.hid h_wd
  clear h_wd
  obtain ⟨we, h_we⟩ : ∃ x, witE m ix = x := ⟨_, rfl⟩
  have EWE := Lib.hid h_we
  clear h_we
  go_upto_region 3 with fail
  refine wp_region_lit ?_
  refine wpList_run (by kernel_rfl) (.slice (some ad) m d) V3 rfl ?_
  simp only [Act.put, List.setIfInBounds_toArray, List.set_cons_zero, List.set_cons_succ]
  have C0_3 := Lib.hid (bel_step C0_2.out B2.out)
  refine wpList_call (by kernel_rfl) 11 Tryd.func11 (by kernel_rfl) (by kernel_rfl) _ _ #[.slice (some ad) m d] rfl (by kernel_rfl) ?_
  refine (root_yes (some ad) m d ml V3 HP.out (by omega) (by omega) HSM.out (HG.out.keep C0_3.out) root ER.out).mono ?_
  rintro e V4 ⟨rfl, hb⟩
  have B3 := Lib.hid hb
  clear hb 
  refine ⟨_, rfl, ?_⟩
  simp only [Act.put, List.setIfInBounds_toArray, List.set_cons_zero, List.set_cons_succ]
  refine wpList_run (by kernel_rfl) (.tuple #[.agg (celB root).toArray, .int .i64 0]) V4 rfl ?_
  simp only [Act.put, List.setIfInBounds_toArray, List.set_cons_zero, List.set_cons_succ]
  refine wpList_run (by kernel_rfl) (.agg (celB root).toArray) V4 rfl ?_
  simp only [Act.put, List.setIfInBounds_toArray, List.set_cons_zero, List.set_cons_succ]
  refine wpList_run (by kernel_rfl) (.int .i64 0) V4 rfl ?_
  simp only [Act.put, List.setIfInBounds_toArray, List.set_cons_zero, List.set_cons_succ]
  refine wpList_decl z32 (celB root).toArray 31 (by kernel_rfl) (run_allocD _ _ _ rfl) (fun _ => by kernel_rfl) (fun b W h0 => exec_storeD Dg_root.out.1 List.length_replicate (show RowB W 31 b (List.replicate 32 0) from h0) rfl rfl rfl) ?_
  intro b10 V5 hge h0 hb
  have B4 := Lib.hid hb
  have F10 := Lib.hid h0
  clear hge h0 hb
  simp only [ptr, Act.put, List.setIfInBounds_toArray, List.set_cons_zero, List.set_cons_succ]
  refine wpList_run (by kernel_rfl) (.int .i64 0) V5 rfl ?_
  simp only [Act.put, List.setIfInBounds_toArray, List.set_cons_zero, List.set_cons_succ]
  refine wpList_nil ?_
  go_upto_region 4 with fail
  refine wp_region_lit ?_
  refine wpList_run (by kernel_rfl) (.slice (some ad) m d) V5 rfl ?_
  simp only [Act.put, List.setIfInBounds_toArray, List.set_cons_zero, List.set_cons_succ]
  have C3_5 := Lib.hid (bel_step B3.out B4.out)
  refine wpList_call (by kernel_rfl) 12 Tryd.func12 (by kernel_rfl) (by kernel_rfl) _ _ #[.slice (some ad) m d] rfl (by kernel_rfl) ?_
  refine (rroot_yes (some ad) m d ml V5 (HP.out.keep C3_5.out) (by omega) (by omega) HSM.out root ER.out).mono ?_
  rintro e V6 ⟨rfl, hb⟩
  have B5 := Lib.hid hb
  clear hb 
  refine ⟨_, rfl, ?_⟩
  simp only [Act.put, List.setIfInBounds_toArray, List.set_cons_zero, List.set_cons_succ]
  refine wpList_run (by kernel_rfl) (.tuple #[.agg (celB root).toArray, .int .i64 0]) V6 rfl ?_
  simp only [Act.put, List.setIfInBounds_toArray, List.set_cons_zero, List.set_cons_succ]
  refine wpList_run (by kernel_rfl) (.agg (celB root).toArray) V6 rfl ?_
  simp only [Act.put, List.setIfInBounds_toArray, List.set_cons_zero, List.set_cons_succ]
  refine wpList_run (by kernel_rfl) (.int .i64 0) V6 rfl ?_
  simp only [Act.put, List.setIfInBounds_toArray, List.set_cons_zero, List.set_cons_succ]
  refine wpList_decl z32 (celB root).toArray 31 (by kernel_rfl) (run_allocD _ _ _ rfl) (fun _ => by kernel_rfl) (fun b W h0 => exec_storeD Dg_root.out.1 List.length_replicate (show RowB W 31 b (List.replicate 32 0) from h0) rfl rfl rfl) ?_
  intro b12 V7 hge h0 hb
  have B6 := Lib.hid hb
  have F12 := Lib.hid h0
  clear hge h0 hb
  simp only [ptr, Act.put, List.setIfInBounds_toArray, List.set_cons_zero, List.set_cons_succ]
  refine wpList_run (by kernel_rfl) (.int .i64 0) V7 rfl ?_
  simp only [Act.put, List.setIfInBounds_toArray, List.set_cons_zero, List.set_cons_succ]
  refine wpList_nil ?_
  go_upto_region 5 with fail
  refine wp_region_lit ?_
  refine wpList_run (by kernel_rfl) (.slice (some ad) m d) V7 rfl ?_
  simp only [Act.put, List.setIfInBounds_toArray, List.set_cons_zero, List.set_cons_succ]
  refine wpList_run (by kernel_rfl) (.slice I k f) V7 rfl ?_
  simp only [Act.put, List.setIfInBounds_toArray, List.set_cons_zero, List.set_cons_succ]
  have C0_4 := Lib.hid (bel_step C0_3.out B3.out)
  have C0_5 := Lib.hid (bel_step C0_4.out B4.out)
  have C0_6 := Lib.hid (bel_step C0_5.out B5.out)
  have C0_7 := Lib.hid (bel_step C0_6.out B6.out)
  have C3_6 := Lib.hid (bel_step C3_5.out B5.out)
  have C3_7 := Lib.hid (bel_step C3_6.out B6.out)
  refine wpList_call (by kernel_rfl) 13 Tryd.func13 (by kernel_rfl) (by kernel_rfl) _ _ #[.slice (some ad) m d, .slice I k f] rfl (by kernel_rfl) ?_
  refine (open_w (some ad) m d ml I k f is V7 (HP.out.keep C3_7.out) (HI.out.keep C3_7.out) hm1 (by omega) HSM.out (HG.out.keep C0_7.out) od EOD.out oe EOE.out).mono ?_
  rintro e V8 ⟨q1, q1n, q1c, rfl, hd, hb⟩
  have B7 := Lib.hid hb
  have HOP1 := Lib.hid hd
  clear hb hd
  refine ⟨_, rfl, ?_⟩
  simp only [Act.put, List.setIfInBounds_toArray, List.set_cons_zero, List.set_cons_succ]
  refine wpList_run (by kernel_rfl) (.tuple #[.agg #[.slice q1 q1n q1c], .int .i64 ((oe : Nat) : Int)]) V8 rfl ?_
  simp only [Act.put, List.setIfInBounds_toArray, List.set_cons_zero, List.set_cons_succ]
  refine wpList_run (by kernel_rfl) (.agg #[.slice q1 q1n q1c]) V8 rfl ?_
  simp only [Act.put, List.setIfInBounds_toArray, List.set_cons_zero, List.set_cons_succ]
  refine wpList_run (by kernel_rfl) (.int .i64 ((oe : Nat) : Int)) V8 rfl ?_
  simp only [Act.put, List.setIfInBounds_toArray, List.set_cons_zero, List.set_cons_succ]
  refine wpList_decl #[.slice none 0 0] #[.slice q1 q1n q1c] 37 (by kernel_rfl) (exec_allocOp _ rfl) (fun _ => by kernel_rfl) (fun b W h0 => exec_storeOp b _ _ _ _ rfl rfl rfl h0) ?_
  intro b14 V9 hge h0 hb
  have B8 := Lib.hid hb
  have F14 := Lib.hid h0
  clear hge h0 hb
  simp only [ptr, Act.put, List.setIfInBounds_toArray, List.set_cons_zero, List.set_cons_succ]
  refine wpList_run (by kernel_rfl) (.int .i64 ((oe : Nat) : Int)) V9 rfl ?_
  simp only [Act.put, List.setIfInBounds_toArray, List.set_cons_zero, List.set_cons_succ]
  refine wpList_nil ?_
  go_upto_region 6 with fail
  refine wp_region_lit ?_
  refine wpList_run (by kernel_rfl) (.slice (some ad) m d) V9 rfl ?_
  simp only [Act.put, List.setIfInBounds_toArray, List.set_cons_zero, List.set_cons_succ]
  refine wpList_run (by kernel_rfl) (.slice I k f) V9 rfl ?_
  simp only [Act.put, List.setIfInBounds_toArray, List.set_cons_zero, List.set_cons_succ]
  have C3_8 := Lib.hid (bel_step C3_7.out B7.out)
  have C3_9 := Lib.hid (bel_step C3_8.out B8.out)
  refine wpList_call (by kernel_rfl) 14 Tryd.func14 (by kernel_rfl) (by kernel_rfl) _ _ #[.slice (some ad) m d, .slice I k f] rfl (by kernel_rfl) ?_
  refine (ropen_w ad m d ml I k f is V9 (HP.out.keep C3_9.out) (HI.out.keep C3_9.out) hm1 (by omega) HSM.out od EOD.out oe EOE.out).mono ?_
  rintro e V10 ⟨q2, q2n, q2c, rfl, hd, hb⟩
  have B9 := Lib.hid hb
  have HOP2 := Lib.hid hd
  clear hb hd
  refine ⟨_, rfl, ?_⟩
  simp only [Act.put, List.setIfInBounds_toArray, List.set_cons_zero, List.set_cons_succ]
  refine wpList_run (by kernel_rfl) (.tuple #[.agg #[.slice q2 q2n q2c], .int .i64 ((oe : Nat) : Int)]) V10 rfl ?_
  simp only [Act.put, List.setIfInBounds_toArray, List.set_cons_zero, List.set_cons_succ]
  refine wpList_run (by kernel_rfl) (.agg #[.slice q2 q2n q2c]) V10 rfl ?_
  simp only [Act.put, List.setIfInBounds_toArray, List.set_cons_zero, List.set_cons_succ]
  refine wpList_run (by kernel_rfl) (.int .i64 ((oe : Nat) : Int)) V10 rfl ?_
  simp only [Act.put, List.setIfInBounds_toArray, List.set_cons_zero, List.set_cons_succ]
  refine wpList_decl #[.slice none 0 0] #[.slice q2 q2n q2c] 37 (by kernel_rfl) (exec_allocOp _ rfl) (fun _ => by kernel_rfl) (fun b W h0 => exec_storeOp b _ _ _ _ rfl rfl rfl h0) ?_
  intro b16 V11 hge h0 hb
  have B10 := Lib.hid hb
  have F16 := Lib.hid h0
  clear hge h0 hb
  simp only [ptr, Act.put, List.setIfInBounds_toArray, List.set_cons_zero, List.set_cons_succ]
  refine wpList_run (by kernel_rfl) (.int .i64 ((oe : Nat) : Int)) V11 rfl ?_
  simp only [Act.put, List.setIfInBounds_toArray, List.set_cons_zero, List.set_cons_succ]
  refine wpList_nil ?_
  by_cases hle : n1 ≤ 100
  · have hle2 : (n1 : Int) ≤ 100 := by omega
    go_upto_region 7 with fail
    refine wp_region_lit ?_
    refine wpList_run (by kernel_rfl) (.slice A1 n1 c1) V11 rfl ?_
    simp only [Act.put, List.setIfInBounds_toArray, List.set_cons_zero, List.set_cons_succ]
    refine wpList_run (by kernel_rfl) (.int .i64 ((n1 : Nat) : Int)) V11 (by first | rfl | (unfold execOp; go_simp)) ?_
    simp only [Act.put, List.setIfInBounds_toArray, List.set_cons_zero, List.set_cons_succ]
    refine wpList_run (by kernel_rfl) (.bool true) V11 (by unfold execOp; go_simp) ?_
    simp only [Act.put, List.setIfInBounds_toArray, List.set_cons_zero, List.set_cons_succ]
    refine wpList_nil ?_
    go_upto_region 8 with fail
    refine wp_region_lit ?_
    refine wpList_run (by kernel_rfl) (.slice (some ad) m d) V11 rfl ?_
    simp only [Act.put, List.setIfInBounds_toArray, List.set_cons_zero, List.set_cons_succ]
    refine wpList_run (by kernel_rfl) (.slice A1 n1 c1) V11 rfl ?_
    simp only [Act.put, List.setIfInBounds_toArray, List.set_cons_zero, List.set_cons_succ]
    have C0_8 := Lib.hid (bel_step C0_7.out B7.out)
    have C0_9 := Lib.hid (bel_step C0_8.out B8.out)
    have C0_10 := Lib.hid (bel_step C0_9.out B9.out)
    have C0_11 := Lib.hid (bel_step C0_10.out B10.out)
    have C3_10 := Lib.hid (bel_step C3_9.out B9.out)
    have C3_11 := Lib.hid (bel_step C3_10.out B10.out)
    refine wpList_call (by kernel_rfl) 13 Tryd.func13 (by kernel_rfl) (by kernel_rfl) _ _ #[.slice (some ad) m d, .slice A1 n1 c1] rfl (by kernel_rfl) ?_
    refine (open_w (some ad) m d ml A1 n1 c1 is1 V11 (HP.out.keep C3_11.out) (HI1.out.keep C0_11.out) hm1 (by omega) HSM.out (HG.out.keep C0_11.out) od1 EOD1.out oe1 EOE1.out).mono ?_
    rintro e V12 ⟨q3, q3n, q3c, rfl, hd, hb⟩
    have B11 := Lib.hid hb
    have HOP3 := Lib.hid hd
    clear hb hd
    refine ⟨_, rfl, ?_⟩
    simp only [Act.put, List.setIfInBounds_toArray, List.set_cons_zero, List.set_cons_succ]
    refine wpList_run (by kernel_rfl) (.tuple #[.agg #[.slice q3 q3n q3c], .int .i64 ((oe1 : Nat) : Int)]) V12 rfl ?_
    simp only [Act.put, List.setIfInBounds_toArray, List.set_cons_zero, List.set_cons_succ]
    refine wpList_run (by kernel_rfl) (.agg #[.slice q3 q3n q3c]) V12 rfl ?_
    simp only [Act.put, List.setIfInBounds_toArray, List.set_cons_zero, List.set_cons_succ]
    refine wpList_run (by kernel_rfl) (.int .i64 ((oe1 : Nat) : Int)) V12 rfl ?_
    simp only [Act.put, List.setIfInBounds_toArray, List.set_cons_zero, List.set_cons_succ]
    refine wpList_decl #[.slice none 0 0] #[.slice q3 q3n q3c] 37 (by kernel_rfl) (exec_allocOp _ rfl) (fun _ => by kernel_rfl) (fun b W h0 => exec_storeOp b _ _ _ _ rfl rfl rfl h0) ?_
    intro b18 V13 hge h0 hb
    have B12 := Lib.hid hb
    have F18 := Lib.hid h0
    clear hge h0 hb
    simp only [ptr, Act.put, List.setIfInBounds_toArray, List.set_cons_zero, List.set_cons_succ]
    refine wpList_run (by kernel_rfl) (.int .i64 ((oe1 : Nat) : Int)) V13 rfl ?_
    simp only [Act.put, List.setIfInBounds_toArray, List.set_cons_zero, List.set_cons_succ]
    refine wpList_nil ?_
    go_upto_region 9 with fail
    refine wp_region_lit ?_
    refine wpList_run (by kernel_rfl) (.slice (some ad) m d) V13 rfl ?_
    simp only [Act.put, List.setIfInBounds_toArray, List.set_cons_zero, List.set_cons_succ]
    refine wpList_run (by kernel_rfl) (.slice A1 n1 c1) V13 rfl ?_
    simp only [Act.put, List.setIfInBounds_toArray, List.set_cons_zero, List.set_cons_succ]
    have C3_12 := Lib.hid (bel_step C3_11.out B11.out)
    have C3_13 := Lib.hid (bel_step C3_12.out B12.out)
    have C0_12 := Lib.hid (bel_step C0_11.out B11.out)
    have C0_13 := Lib.hid (bel_step C0_12.out B12.out)
    refine wpList_call (by kernel_rfl) 14 Tryd.func14 (by kernel_rfl) (by kernel_rfl) _ _ #[.slice (some ad) m d, .slice A1 n1 c1] rfl (by kernel_rfl) ?_
    refine (ropen_w ad m d ml A1 n1 c1 is1 V13 (HP.out.keep C3_13.out) (HI1.out.keep C0_13.out) hm1 (by omega) HSM.out od1 EOD1.out oe1 EOE1.out).mono ?_
    rintro e V14 ⟨q4, q4n, q4c, rfl, hd, hb⟩
    have B13 := Lib.hid hb
    have HOP4 := Lib.hid hd
    clear hb hd
    refine ⟨_, rfl, ?_⟩
    simp only [Act.put, List.setIfInBounds_toArray, List.set_cons_zero, List.set_cons_succ]
    refine wpList_run (by kernel_rfl) (.tuple #[.agg #[.slice q4 q4n q4c], .int .i64 ((oe1 : Nat) : Int)]) V14 rfl ?_
    simp only [Act.put, List.setIfInBounds_toArray, List.set_cons_zero, List.set_cons_succ]
    refine wpList_run (by kernel_rfl) (.agg #[.slice q4 q4n q4c]) V14 rfl ?_
    simp only [Act.put, List.setIfInBounds_toArray, List.set_cons_zero, List.set_cons_succ]
    refine wpList_run (by kernel_rfl) (.int .i64 ((oe1 : Nat) : Int)) V14 rfl ?_
    simp only [Act.put, List.setIfInBounds_toArray, List.set_cons_zero, List.set_cons_succ]
    refine wpList_decl #[.slice none 0 0] #[.slice q4 q4n q4c] 37 (by kernel_rfl) (exec_allocOp _ rfl) (fun _ => by kernel_rfl) (fun b W h0 => exec_storeOp b _ _ _ _ rfl rfl rfl h0) ?_
    intro b20 V15 hge h0 hb
    have B14 := Lib.hid hb
    have F20 := Lib.hid h0
    clear hge h0 hb
    simp only [ptr, Act.put, List.setIfInBounds_toArray, List.set_cons_zero, List.set_cons_succ]
    refine wpList_run (by kernel_rfl) (.int .i64 ((oe1 : Nat) : Int)) V15 rfl ?_
    simp only [Act.put, List.setIfInBounds_toArray, List.set_cons_zero, List.set_cons_succ]
    refine wpList_nil ?_
    go_upto_region 10 with fail
    refine wp_region_lit ?_
    refine wpList_run (by kernel_rfl) (.pointer (some ⟨b18, 0, none⟩)) V15 (by unfold execOp; go_simp) ?_
    simp only [Act.put, List.setIfInBounds_toArray, List.set_cons_zero, List.set_cons_succ]
    have C13_15 := Lib.hid (bel_step B13.out B14.out)
    refine wpList_run (by kernel_rfl) (.slice q3 q3n q3c) V15 (exec_loadSD _ _ _ _ (cells_at (heap_keep F18.out C13_15.out) 0 rfl) rfl rfl) ?_
    simp only [Act.put, List.setIfInBounds_toArray, List.set_cons_zero, List.set_cons_succ]
    refine wpList_run (by kernel_rfl) (.pointer (some ⟨b20, 0, none⟩)) V15 (by unfold execOp; go_simp) ?_
    simp only [Act.put, List.setIfInBounds_toArray, List.set_cons_zero, List.set_cons_succ]
    refine wpList_run (by kernel_rfl) (.slice q4 q4n q4c) V15 (exec_loadSD _ _ _ _ (cells_at F20.out 0 rfl) rfl rfl) ?_
    simp only [Act.put, List.setIfInBounds_toArray, List.set_cons_zero, List.set_cons_succ]
    have C12_14 := Lib.hid (bel_step B12.out B13.out)
    have C12_15 := Lib.hid (bel_step C12_14.out B14.out)
    refine wpList_call (by kernel_rfl) 15 Tryd.func15 (by kernel_rfl) (by kernel_rfl) _ _ #[.slice q3 q3n q3c, .slice q4 q4n q4c] rfl (by kernel_rfl) ?_
    refine (same8_any q3 q3n q3c od1 q4 q4n q4c od1 V15 (HOP3.out.keep C12_15.out) (HOP4.out.keep B14.out) true (decide_eq_true rfl)).mono ?_
    rintro e V16 ⟨rfl, hb⟩
    have B15 := Lib.hid hb
    clear hb 
    refine ⟨_, rfl, ?_⟩
    simp only [Act.put, List.setIfInBounds_toArray, List.set_cons_zero, List.set_cons_succ]
    refine wpList_run (by kernel_rfl) (.bool false) V16 rfl ?_
    simp only [Act.put, List.setIfInBounds_toArray, List.set_cons_zero, List.set_cons_succ]
    refine wpList_run (by kernel_rfl) (.bool false) V16 rfl ?_
    simp only [Act.put, List.setIfInBounds_toArray, List.set_cons_zero, List.set_cons_succ]
    refine wpList_run (by kernel_rfl) (.int .i64 ((oe1 : Nat) : Int)) V16 rfl ?_
    simp only [Act.put, List.setIfInBounds_toArray, List.set_cons_zero, List.set_cons_succ]
    refine wpList_run (by kernel_rfl) (.int .i64 ((oe1 : Nat) : Int)) V16 rfl ?_
    simp only [Act.put, List.setIfInBounds_toArray, List.set_cons_zero, List.set_cons_succ]
    refine wpList_run (by kernel_rfl) (.bool false) V16 (by first | rfl | (unfold execOp; go_simp)) ?_
    simp only [Act.put, List.setIfInBounds_toArray, List.set_cons_zero, List.set_cons_succ]
    refine wpList_run (by kernel_rfl) (.bool false) V16 rfl ?_
    simp only [Act.put, List.setIfInBounds_toArray, List.set_cons_zero, List.set_cons_succ]
    refine wpList_nil ?_
    go_upto_region 12 with fail
    refine wp_region_lit ?_
    refine wpList_run (by kernel_rfl) (.slice (some ad) m d) V16 rfl ?_
    simp only [Act.put, List.setIfInBounds_toArray, List.set_cons_zero, List.set_cons_succ]
    refine wpList_run (by kernel_rfl) (.int .i64 ix) V16 rfl ?_
    simp only [Act.put, List.setIfInBounds_toArray, List.set_cons_zero, List.set_cons_succ]
    have C0_14 := Lib.hid (bel_step C0_13.out B13.out)
    have C0_15 := Lib.hid (bel_step C0_14.out B14.out)
    have C0_16 := Lib.hid (bel_step C0_15.out B15.out)
    have C3_14 := Lib.hid (bel_step C3_13.out B13.out)
    have C3_15 := Lib.hid (bel_step C3_14.out B14.out)
    have C3_16 := Lib.hid (bel_step C3_15.out B15.out)
    refine wpList_call (by kernel_rfl) 16 Tryd.func16 (by kernel_rfl) (by kernel_rfl) _ _ #[.slice (some ad) m d, .int .i64 ix] rfl (by kernel_rfl) ?_
    refine (wit_w (some ad) m d ml ix V16 (HP.out.keep C3_16.out) hm1 (by omega) HSM.out (HG.out.keep C0_16.out) wd EWD.out we EWE.out).mono ?_
    rintro e V17 ⟨u5, u5n, u5c, rfl, hd, hb⟩
    have B16 := Lib.hid hb
    have HWP5 := Lib.hid hd
    clear hb hd
    refine ⟨_, rfl, ?_⟩
    simp only [Act.put, List.setIfInBounds_toArray, List.set_cons_zero, List.set_cons_succ]
    refine wpList_run (by kernel_rfl) (.tuple #[.slice u5 u5n u5c, .int .i64 ((we : Nat) : Int)]) V17 rfl ?_
    simp only [Act.put, List.setIfInBounds_toArray, List.set_cons_zero, List.set_cons_succ]
    refine wpList_run (by kernel_rfl) (.slice u5 u5n u5c) V17 rfl ?_
    simp only [Act.put, List.setIfInBounds_toArray, List.set_cons_zero, List.set_cons_succ]
    refine wpList_run (by kernel_rfl) (.int .i64 ((we : Nat) : Int)) V17 rfl ?_
    simp only [Act.put, List.setIfInBounds_toArray, List.set_cons_zero, List.set_cons_succ]
    refine wpList_run (by kernel_rfl) (.slice u5 u5n u5c) V17 rfl ?_
    simp only [Act.put, List.setIfInBounds_toArray, List.set_cons_zero, List.set_cons_succ]
    refine wpList_run (by kernel_rfl) (.int .i64 ((we : Nat) : Int)) V17 rfl ?_
    simp only [Act.put, List.setIfInBounds_toArray, List.set_cons_zero, List.set_cons_succ]
    refine wpList_nil ?_
    go_upto_region 13 with fail
    refine wp_region_lit ?_
    refine wpList_run (by kernel_rfl) (.slice (some ad) m d) V17 rfl ?_
    simp only [Act.put, List.setIfInBounds_toArray, List.set_cons_zero, List.set_cons_succ]
    refine wpList_run (by kernel_rfl) (.int .i64 ix) V17 rfl ?_
    simp only [Act.put, List.setIfInBounds_toArray, List.set_cons_zero, List.set_cons_succ]
    have C3_17 := Lib.hid (bel_step C3_16.out B16.out)
    refine wpList_call (by kernel_rfl) 17 Tryd.func17 (by kernel_rfl) (by kernel_rfl) _ _ #[.slice (some ad) m d, .int .i64 ix] rfl (by kernel_rfl) ?_
    refine (rwit_w (some ad) m d ml ix V17 (HP.out.keep C3_17.out) (by omega) HSM.out wd EWD.out we EWE.out).mono ?_
    rintro e V18 ⟨u6, u6n, u6c, rfl, hd, hb⟩
    have B17 := Lib.hid hb
    have HWP6 := Lib.hid hd
    clear hb hd
    refine ⟨_, rfl, ?_⟩
    simp only [Act.put, List.setIfInBounds_toArray, List.set_cons_zero, List.set_cons_succ]
    refine wpList_run (by kernel_rfl) (.tuple #[.slice u6 u6n u6c, .int .i64 ((we : Nat) : Int)]) V18 rfl ?_
    simp only [Act.put, List.setIfInBounds_toArray, List.set_cons_zero, List.set_cons_succ]
    refine wpList_run (by kernel_rfl) (.slice u6 u6n u6c) V18 rfl ?_
    simp only [Act.put, List.setIfInBounds_toArray, List.set_cons_zero, List.set_cons_succ]
    refine wpList_run (by kernel_rfl) (.int .i64 ((we : Nat) : Int)) V18 rfl ?_
    simp only [Act.put, List.setIfInBounds_toArray, List.set_cons_zero, List.set_cons_succ]
    refine wpList_run (by kernel_rfl) (.slice u6 u6n u6c) V18 rfl ?_
    simp only [Act.put, List.setIfInBounds_toArray, List.set_cons_zero, List.set_cons_succ]
    refine wpList_run (by kernel_rfl) (.int .i64 ((we : Nat) : Int)) V18 rfl ?_
    simp only [Act.put, List.setIfInBounds_toArray, List.set_cons_zero, List.set_cons_succ]
    refine wpList_nil ?_
    go_upto_region 14 with fail
    refine wp_region_lit ?_
    refine wpList_mk (by kernel_rfl) #[] 31 0 0 (exec_box0 _ rfl) ?_
    intro g95 V19 hge h0 hb
    have B18 := Lib.hid hb
    have M95 := Lib.hid (db_nil V19 ⟨g95, 0, none⟩)
    clear hge h0 hb
    simp only [Act.put, List.setIfInBounds_toArray, List.set_cons_zero, List.set_cons_succ]
    refine wpList_mk (by kernel_rfl) #[] 31 0 0 (exec_box0 _ rfl) ?_
    intro g96 V20 hge h0 hb
    have B19 := Lib.hid hb
    have M96 := Lib.hid (db_nil V20 ⟨g96, 0, none⟩)
    clear hge h0 hb
    simp only [Act.put, List.setIfInBounds_toArray, List.set_cons_zero, List.set_cons_succ]
    refine wpList_run (by kernel_rfl) (.slice (some ⟨g95, 0, none⟩) 0 0) V20 rfl ?_
    simp only [Act.put, List.setIfInBounds_toArray, List.set_cons_zero, List.set_cons_succ]
    refine wpList_run (by kernel_rfl) (.slice (some ⟨g96, 0, none⟩) 0 0) V20 rfl ?_
    simp only [Act.put, List.setIfInBounds_toArray, List.set_cons_zero, List.set_cons_succ]
    refine wpList_nil ?_
    go_wp2_with fail
    go_loopw [26, 27, 28] (fun p q s wr => ∃ (j : Nat) (pa qa : Addr) (pn pc qc : Nat), j ≤ m ∧ pn ≤ 60000 ∧ onesN j = pn ∧ s = .int .i64 j ∧ p = .slice (some pa) pn pc ∧ q = .slice (some qa) pn qc ∧ Db wr (some pa) pn pc (peaksN (ml.take j)) ∧ Db wr (some qa) pn qc (peaksN (ml.take j)) ∧ Below V20.heap.size V20 wr) (fun _ _ s _ => m - (intOf s).toNat)
    case atStart => exact ⟨0, _, _, 0, 0, 0, Nat.zero_le _, by omega, rfl, rfl, rfl, rfl, (M95.out.keep B19.out), M96.out, Below.refl _ _⟩
    case round =>
      obtain ⟨wo, rfl⟩ : ∃ wo : World, wo = wr := ⟨_, rfl⟩
      obtain ⟨j, pa, qa, pn, pc, qc, hj, hpn, hon0, rfl, rfl, rfl, hpk, hqk, hb⟩ := hrel
      have B20 := Lib.hid hb
      have HPK := Lib.hid hpk
      have HQK := Lib.hid hqk
      have HON0 := Lib.hid hon0
      clear hb hpk hqk hon0
      by_cases hlt : j < m
      · have hlt2 : (j : Int) < (m : Int) := by omega
        obtain ⟨p, hp⟩ : ∃ p, ml[j]? = some p := ⟨_, List.getElem?_eq_getElem (by have := HML.out; omega)⟩
        have hpl : p.length ≤ 59999 := HSM.out p (List.mem_of_getElem? hp)
        have C3_18 := Lib.hid (bel_step C3_17.out B17.out)
        have C3_19 := Lib.hid (bel_step C3_18.out B18.out)
        have C3_20 := Lib.hid (bel_step C3_19.out B19.out)
        have C3_21 := Lib.hid (bel_step C3_20.out B20.out)
        obtain ⟨eB, em, ed, he⟩ := (HP.out.keep C3_21.out).el hp
        have EL := Lib.hid he
        have hem : em ≤ 59999 := by have := he.sb.len; omega
        have HTK := Lib.hid (show ml.take (j + 1) = ml.take j ++ [p] by rw [List.take_add_one, hp]; rfl)
        have HTL := Lib.hid (show (ml.take j).length = j by rw [List.length_take]; have := HML.out; omega)
        clear he hp
        obtain ⟨on, h_on⟩ : ∃ x, onesN (j + 1) = x := ⟨_, rfl⟩
        have HON := Lib.hid h_on
        clear h_on
        have hon : on ≤ 41 := by have := onesN_le (j + 1); have := HON.out; omega
        obtain ⟨pk, h_pk⟩ : ∃ x, peaksN (ml.take (j + 1)) = x := ⟨_, rfl⟩
        have HPE := Lib.hid h_pk
        clear h_pk
        have HD1 := Lib.hid (show pushN (peaksN (ml.take j)) j (lfN p) = pk by have h := push_leaf (ml.take j) p; rw [HTL.out, ← HTK.out, HPE.out] at h; exact h)
        have HN1 := Lib.hid (show pk.length = on by rw [← HPE.out, peaksN_length, List.length_take, Nat.min_eq_left (by have := HML.out; omega), HON.out])
        go_upto_region 18 with fail
        refine wp_region_lit ?_
        refine wpList_run (by kernel_rfl) (.slice (some pa) pn pc) wo rfl ?_
        simp only [Act.put, List.setIfInBounds_toArray, List.set_cons_zero, List.set_cons_succ]
        refine wpList_run (by kernel_rfl) (.int .i64 ((j : Nat) : Int)) wo rfl ?_
        simp only [Act.put, List.setIfInBounds_toArray, List.set_cons_zero, List.set_cons_succ]
        refine wpList_run (by kernel_rfl) (.slice (some ad) m d) wo rfl ?_
        simp only [Act.put, List.setIfInBounds_toArray, List.set_cons_zero, List.set_cons_succ]
        refine wpList_run (by kernel_rfl) (.int .i64 ((j : Nat) : Int)) wo rfl ?_
        simp only [Act.put, List.setIfInBounds_toArray, List.set_cons_zero, List.set_cons_succ]
        refine wpList_run (by kernel_rfl) (.pointer (some (ad.add j))) wo (exec_idxP _ ad m d j (by omega) rfl rfl rfl) ?_
        simp only [Act.put, List.setIfInBounds_toArray, List.set_cons_zero, List.set_cons_succ]
        refine wpList_run (by kernel_rfl) (.slice eB em ed) wo (exec_loadS _ _ _ _ EL.out.cell rfl rfl) ?_
        simp only [Act.put, List.setIfInBounds_toArray, List.set_cons_zero, List.set_cons_succ]
        have C0_17 := Lib.hid (bel_step C0_16.out B16.out)
        have C0_18 := Lib.hid (bel_step C0_17.out B17.out)
        have C0_19 := Lib.hid (bel_step C0_18.out B18.out)
        have C0_20 := Lib.hid (bel_step C0_19.out B19.out)
        have C0_21 := Lib.hid (bel_step C0_20.out B20.out)
        refine wpList_call (by kernel_rfl) 18 Tryd.func18 (by kernel_rfl) (by kernel_rfl) _ _ #[.slice (some pa) pn pc, .int .i64 ((j : Nat) : Int), .slice eB em ed] rfl (by kernel_rfl) ?_
        refine (push_dbs (some pa) pn pc _ j eB em ed p wo HPK.out hpn (by omega) EL.out.sb hem (HG.out.keep C0_21.out) pk HD1.out on HN1.out).mono ?_
        rintro e V22 ⟨na, naf, rfl, hd, hb⟩
        have B21 := Lib.hid hb
        have HNX := Lib.hid hd
        clear hb hd
        refine ⟨_, rfl, ?_⟩
        simp only [Act.put, List.setIfInBounds_toArray, List.set_cons_zero, List.set_cons_succ]
        refine wpList_run (by kernel_rfl) (.slice (some na) on naf) V22 rfl ?_
        simp only [Act.put, List.setIfInBounds_toArray, List.set_cons_zero, List.set_cons_succ]
        refine wpList_nil ?_
        go_upto_region 19 with fail
        refine wp_region_lit ?_
        refine wpList_run (by kernel_rfl) (.slice (some qa) pn qc) V22 rfl ?_
        simp only [Act.put, List.setIfInBounds_toArray, List.set_cons_zero, List.set_cons_succ]
        refine wpList_run (by kernel_rfl) (.int .i64 ((j : Nat) : Int)) V22 rfl ?_
        simp only [Act.put, List.setIfInBounds_toArray, List.set_cons_zero, List.set_cons_succ]
        refine wpList_run (by kernel_rfl) (.slice (some ad) m d) V22 rfl ?_
        simp only [Act.put, List.setIfInBounds_toArray, List.set_cons_zero, List.set_cons_succ]
        refine wpList_run (by kernel_rfl) (.int .i64 ((j : Nat) : Int)) V22 rfl ?_
        simp only [Act.put, List.setIfInBounds_toArray, List.set_cons_zero, List.set_cons_succ]
        refine wpList_run (by kernel_rfl) (.pointer (some (ad.add j))) V22 (exec_idxP _ ad m d j (by omega) rfl rfl rfl) ?_
        simp only [Act.put, List.setIfInBounds_toArray, List.set_cons_zero, List.set_cons_succ]
        refine wpList_run (by kernel_rfl) (.slice eB em ed) V22 (exec_loadS _ _ _ _ (EL.out.keep B21.out).cell rfl rfl) ?_
        simp only [Act.put, List.setIfInBounds_toArray, List.set_cons_zero, List.set_cons_succ]
        refine wpList_call (by kernel_rfl) 19 Tryd.func19 (by kernel_rfl) (by kernel_rfl) _ _ #[.slice (some qa) pn qc, .int .i64 ((j : Nat) : Int), .slice eB em ed] rfl (by kernel_rfl) ?_
        refine (rpush_dbs qa pn qc _ j eB em ed p V22 (HQK.out.keep B21.out) hpn (by omega) HON0.out (EL.out.keep B21.out).sb hem pk HD1.out on HN1.out).mono ?_
        rintro e V23 ⟨nb, nbf, rfl, hd, hb⟩
        have B22 := Lib.hid hb
        have HNY := Lib.hid hd
        clear hb hd
        refine ⟨_, rfl, ?_⟩
        simp only [Act.put, List.setIfInBounds_toArray, List.set_cons_zero, List.set_cons_succ]
        refine wpList_run (by kernel_rfl) (.slice (some nb) on nbf) V23 rfl ?_
        simp only [Act.put, List.setIfInBounds_toArray, List.set_cons_zero, List.set_cons_succ]
        refine wpList_nil ?_
        have C20_22 := Lib.hid (bel_step B20.out B21.out)
        have C20_23 := Lib.hid (bel_step C20_22.out B22.out)
        have hwj : IntKind.i64.wrap ((j : Int) + 1) = ((j + 1 : Nat) : Int) := by rw [IntKind.wrap_i64]; omega
        go_wp2_with fail
        go_roundw
        case rel => exact ⟨j + 1, na, nb, on, naf, nbf, by omega, by omega, HON.out, by first | rfl | go_num, rfl, rfl, by rw [HPE.out]; exact (HNX.out.keep B22.out), by rw [HPE.out]; exact HNY.out, C20_23.out⟩
        case measure => simp [intOf]; omega
      · have hlt2 : ¬ (j : Int) < (m : Int) := by omega
        have hjm : j = m := by omega
        obtain ⟨bg, h_bg⟩ : ∃ x, bagN (peaksN (ml.take j)) = x := ⟨_, rfl⟩
        have Dg_bg := Lib.hid (show bg.length = 32 ∧ ∀ x ∈ bg, x < 256 by rw [← h_bg]; exact bagN_size _ HPK.out.dig)
        have HBG := Lib.hid h_bg
        clear h_bg
        clear hlt
        go_upto_region 20 with fail
        refine wp_region_lit ?_
        have C5_7 := Lib.hid (bel_step B5.out B6.out)
        have C5_8 := Lib.hid (bel_step C5_7.out B7.out)
        have C5_9 := Lib.hid (bel_step C5_8.out B8.out)
        have C5_10 := Lib.hid (bel_step C5_9.out B9.out)
        have C5_11 := Lib.hid (bel_step C5_10.out B10.out)
        have C5_12 := Lib.hid (bel_step C5_11.out B11.out)
        have C5_13 := Lib.hid (bel_step C5_12.out B12.out)
        have C5_14 := Lib.hid (bel_step C5_13.out B13.out)
        have C5_15 := Lib.hid (bel_step C5_14.out B14.out)
        have C5_16 := Lib.hid (bel_step C5_15.out B15.out)
        have C5_17 := Lib.hid (bel_step C5_16.out B16.out)
        have C5_18 := Lib.hid (bel_step C5_17.out B17.out)
        have C5_19 := Lib.hid (bel_step C5_18.out B18.out)
        have C5_20 := Lib.hid (bel_step C5_19.out B19.out)
        have C5_21 := Lib.hid (bel_step C5_20.out B20.out)
        refine wpList_run (by kernel_rfl) (.agg (celB root).toArray) wo (exec_loadD Dg_root.out.1 (show RowB wo 31 b10 root from (heap_keep F10.out C5_21.out)) rfl rfl) ?_
        simp only [Act.put, List.setIfInBounds_toArray, List.set_cons_zero, List.set_cons_succ]
        have C7_9 := Lib.hid (bel_step B7.out B8.out)
        have C7_10 := Lib.hid (bel_step C7_9.out B9.out)
        have C7_11 := Lib.hid (bel_step C7_10.out B10.out)
        have C7_12 := Lib.hid (bel_step C7_11.out B11.out)
        have C7_13 := Lib.hid (bel_step C7_12.out B12.out)
        have C7_14 := Lib.hid (bel_step C7_13.out B13.out)
        have C7_15 := Lib.hid (bel_step C7_14.out B14.out)
        have C7_16 := Lib.hid (bel_step C7_15.out B15.out)
        have C7_17 := Lib.hid (bel_step C7_16.out B16.out)
        have C7_18 := Lib.hid (bel_step C7_17.out B17.out)
        have C7_19 := Lib.hid (bel_step C7_18.out B18.out)
        have C7_20 := Lib.hid (bel_step C7_19.out B19.out)
        have C7_21 := Lib.hid (bel_step C7_20.out B20.out)
        refine wpList_run (by kernel_rfl) (.agg (celB root).toArray) wo (exec_loadD Dg_root.out.1 (show RowB wo 31 b12 root from (heap_keep F12.out C7_21.out)) rfl rfl) ?_
        simp only [Act.put, List.setIfInBounds_toArray, List.set_cons_zero, List.set_cons_succ]
        refine wpList_run (by kernel_rfl) (.bool true) wo (exec_cmpD rfl rfl rfl (run_eqD_same root Dg_root.out.1 Dg_root.out.2 _)) ?_
        simp only [Act.put, List.setIfInBounds_toArray, List.set_cons_zero, List.set_cons_succ]
        refine wpList_run (by kernel_rfl) (.bool true) wo rfl ?_
        simp only [Act.put, List.setIfInBounds_toArray, List.set_cons_zero, List.set_cons_succ]
        refine wpList_run (by kernel_rfl) (.int .i64 0) wo rfl ?_
        simp only [Act.put, List.setIfInBounds_toArray, List.set_cons_zero, List.set_cons_succ]
        refine wpList_run (by kernel_rfl) (.int .i64 0) wo rfl ?_
        simp only [Act.put, List.setIfInBounds_toArray, List.set_cons_zero, List.set_cons_succ]
        refine wpList_run (by kernel_rfl) (.bool true) wo (by first | rfl | (unfold execOp; go_simp)) ?_
        simp only [Act.put, List.setIfInBounds_toArray, List.set_cons_zero, List.set_cons_succ]
        refine wpList_run (by kernel_rfl) (.bool true) wo rfl ?_
        simp only [Act.put, List.setIfInBounds_toArray, List.set_cons_zero, List.set_cons_succ]
        refine wpList_run (by kernel_rfl) (.bool true) wo rfl ?_
        simp only [Act.put, List.setIfInBounds_toArray, List.set_cons_zero, List.set_cons_succ]
        refine wpList_run (by kernel_rfl) (.pointer (some ⟨b14, 0, none⟩)) wo (by unfold execOp; go_simp) ?_
        simp only [Act.put, List.setIfInBounds_toArray, List.set_cons_zero, List.set_cons_succ]
        have C9_11 := Lib.hid (bel_step B9.out B10.out)
        have C9_12 := Lib.hid (bel_step C9_11.out B11.out)
        have C9_13 := Lib.hid (bel_step C9_12.out B12.out)
        have C9_14 := Lib.hid (bel_step C9_13.out B13.out)
        have C9_15 := Lib.hid (bel_step C9_14.out B14.out)
        have C9_16 := Lib.hid (bel_step C9_15.out B15.out)
        have C9_17 := Lib.hid (bel_step C9_16.out B16.out)
        have C9_18 := Lib.hid (bel_step C9_17.out B17.out)
        have C9_19 := Lib.hid (bel_step C9_18.out B18.out)
        have C9_20 := Lib.hid (bel_step C9_19.out B19.out)
        have C9_21 := Lib.hid (bel_step C9_20.out B20.out)
        refine wpList_run (by kernel_rfl) (.slice q1 q1n q1c) wo (exec_loadSD _ _ _ _ (cells_at (heap_keep F14.out C9_21.out) 0 rfl) rfl rfl) ?_
        simp only [Act.put, List.setIfInBounds_toArray, List.set_cons_zero, List.set_cons_succ]
        refine wpList_run (by kernel_rfl) (.pointer (some ⟨b16, 0, none⟩)) wo (by unfold execOp; go_simp) ?_
        simp only [Act.put, List.setIfInBounds_toArray, List.set_cons_zero, List.set_cons_succ]
        have C11_13 := Lib.hid (bel_step B11.out B12.out)
        have C11_14 := Lib.hid (bel_step C11_13.out B13.out)
        have C11_15 := Lib.hid (bel_step C11_14.out B14.out)
        have C11_16 := Lib.hid (bel_step C11_15.out B15.out)
        have C11_17 := Lib.hid (bel_step C11_16.out B16.out)
        have C11_18 := Lib.hid (bel_step C11_17.out B17.out)
        have C11_19 := Lib.hid (bel_step C11_18.out B18.out)
        have C11_20 := Lib.hid (bel_step C11_19.out B19.out)
        have C11_21 := Lib.hid (bel_step C11_20.out B20.out)
        refine wpList_run (by kernel_rfl) (.slice q2 q2n q2c) wo (exec_loadSD _ _ _ _ (cells_at (heap_keep F16.out C11_21.out) 0 rfl) rfl rfl) ?_
        simp only [Act.put, List.setIfInBounds_toArray, List.set_cons_zero, List.set_cons_succ]
        have C8_10 := Lib.hid (bel_step B8.out B9.out)
        have C8_11 := Lib.hid (bel_step C8_10.out B10.out)
        have C8_12 := Lib.hid (bel_step C8_11.out B11.out)
        have C8_13 := Lib.hid (bel_step C8_12.out B12.out)
        have C8_14 := Lib.hid (bel_step C8_13.out B13.out)
        have C8_15 := Lib.hid (bel_step C8_14.out B14.out)
        have C8_16 := Lib.hid (bel_step C8_15.out B15.out)
        have C8_17 := Lib.hid (bel_step C8_16.out B16.out)
        have C8_18 := Lib.hid (bel_step C8_17.out B17.out)
        have C8_19 := Lib.hid (bel_step C8_18.out B18.out)
        have C8_20 := Lib.hid (bel_step C8_19.out B19.out)
        have C8_21 := Lib.hid (bel_step C8_20.out B20.out)
        have C10_12 := Lib.hid (bel_step B10.out B11.out)
        have C10_13 := Lib.hid (bel_step C10_12.out B12.out)
        have C10_14 := Lib.hid (bel_step C10_13.out B13.out)
        have C10_15 := Lib.hid (bel_step C10_14.out B14.out)
        have C10_16 := Lib.hid (bel_step C10_15.out B15.out)
        have C10_17 := Lib.hid (bel_step C10_16.out B16.out)
        have C10_18 := Lib.hid (bel_step C10_17.out B17.out)
        have C10_19 := Lib.hid (bel_step C10_18.out B18.out)
        have C10_20 := Lib.hid (bel_step C10_19.out B19.out)
        have C10_21 := Lib.hid (bel_step C10_20.out B20.out)
        refine wpList_call (by kernel_rfl) 15 Tryd.func15 (by kernel_rfl) (by kernel_rfl) _ _ #[.slice q1 q1n q1c, .slice q2 q2n q2c] rfl (by kernel_rfl) ?_
        refine (same8_any q1 q1n q1c od q2 q2n q2c od wo (HOP1.out.keep C8_21.out) (HOP2.out.keep C10_21.out) true (decide_eq_true rfl)).mono ?_
        rintro e V22 ⟨rfl, hb⟩
        have B21 := Lib.hid hb
        clear hb 
        refine ⟨_, rfl, ?_⟩
        simp only [Act.put, List.setIfInBounds_toArray, List.set_cons_zero, List.set_cons_succ]
        refine wpList_run (by kernel_rfl) (.bool true) V22 rfl ?_
        simp only [Act.put, List.setIfInBounds_toArray, List.set_cons_zero, List.set_cons_succ]
        refine wpList_run (by kernel_rfl) (.bool true) V22 rfl ?_
        simp only [Act.put, List.setIfInBounds_toArray, List.set_cons_zero, List.set_cons_succ]
        refine wpList_run (by kernel_rfl) (.int .i64 ((oe : Nat) : Int)) V22 rfl ?_
        simp only [Act.put, List.setIfInBounds_toArray, List.set_cons_zero, List.set_cons_succ]
        refine wpList_run (by kernel_rfl) (.int .i64 ((oe : Nat) : Int)) V22 rfl ?_
        simp only [Act.put, List.setIfInBounds_toArray, List.set_cons_zero, List.set_cons_succ]
        refine wpList_run (by kernel_rfl) (.bool true) V22 (by first | rfl | (unfold execOp; go_simp)) ?_
        simp only [Act.put, List.setIfInBounds_toArray, List.set_cons_zero, List.set_cons_succ]
        refine wpList_run (by kernel_rfl) (.bool true) V22 rfl ?_
        simp only [Act.put, List.setIfInBounds_toArray, List.set_cons_zero, List.set_cons_succ]
        refine wpList_run (by kernel_rfl) (.bool true) V22 rfl ?_
        simp only [Act.put, List.setIfInBounds_toArray, List.set_cons_zero, List.set_cons_succ]
        refine wpList_run (by kernel_rfl) (.slice u5 u5n u5c) V22 rfl ?_
        simp only [Act.put, List.setIfInBounds_toArray, List.set_cons_zero, List.set_cons_succ]
        refine wpList_run (by kernel_rfl) (.slice u6 u6n u6c) V22 rfl ?_
        simp only [Act.put, List.setIfInBounds_toArray, List.set_cons_zero, List.set_cons_succ]
        have C17_19 := Lib.hid (bel_step B17.out B18.out)
        have C17_20 := Lib.hid (bel_step C17_19.out B19.out)
        have C17_21 := Lib.hid (bel_step C17_20.out B20.out)
        have C17_22 := Lib.hid (bel_step C17_21.out B21.out)
        have C18_20 := Lib.hid (bel_step B18.out B19.out)
        have C18_21 := Lib.hid (bel_step C18_20.out B20.out)
        have C18_22 := Lib.hid (bel_step C18_21.out B21.out)
        refine wpList_call (by kernel_rfl) 15 Tryd.func15 (by kernel_rfl) (by kernel_rfl) _ _ #[.slice u5 u5n u5c, .slice u6 u6n u6c] rfl (by kernel_rfl) ?_
        refine (same8_any u5 u5n u5c wd u6 u6n u6c wd V22 (HWP5.out.keep C17_22.out) (HWP6.out.keep C18_22.out) true (decide_eq_true rfl)).mono ?_
        rintro e V23 ⟨rfl, hb⟩
        have B22 := Lib.hid hb
        clear hb 
        refine ⟨_, rfl, ?_⟩
        simp only [Act.put, List.setIfInBounds_toArray, List.set_cons_zero, List.set_cons_succ]
        refine wpList_run (by kernel_rfl) (.bool true) V23 rfl ?_
        simp only [Act.put, List.setIfInBounds_toArray, List.set_cons_zero, List.set_cons_succ]
        refine wpList_run (by kernel_rfl) (.bool true) V23 rfl ?_
        simp only [Act.put, List.setIfInBounds_toArray, List.set_cons_zero, List.set_cons_succ]
        refine wpList_run (by kernel_rfl) (.int .i64 ((we : Nat) : Int)) V23 rfl ?_
        simp only [Act.put, List.setIfInBounds_toArray, List.set_cons_zero, List.set_cons_succ]
        refine wpList_run (by kernel_rfl) (.int .i64 ((we : Nat) : Int)) V23 rfl ?_
        simp only [Act.put, List.setIfInBounds_toArray, List.set_cons_zero, List.set_cons_succ]
        refine wpList_run (by kernel_rfl) (.bool true) V23 (by first | rfl | (unfold execOp; go_simp)) ?_
        simp only [Act.put, List.setIfInBounds_toArray, List.set_cons_zero, List.set_cons_succ]
        refine wpList_run (by kernel_rfl) (.bool true) V23 rfl ?_
        simp only [Act.put, List.setIfInBounds_toArray, List.set_cons_zero, List.set_cons_succ]
        refine wpList_run (by kernel_rfl) (.bool true) V23 rfl ?_
        simp only [Act.put, List.setIfInBounds_toArray, List.set_cons_zero, List.set_cons_succ]
        refine wpList_run (by kernel_rfl) (.slice (some pa) pn pc) V23 rfl ?_
        simp only [Act.put, List.setIfInBounds_toArray, List.set_cons_zero, List.set_cons_succ]
        refine wpList_run (by kernel_rfl) (.slice (some qa) pn qc) V23 rfl ?_
        simp only [Act.put, List.setIfInBounds_toArray, List.set_cons_zero, List.set_cons_succ]
        have C21_23 := Lib.hid (bel_step B21.out B22.out)
        refine wpList_call (by kernel_rfl) 15 Tryd.func15 (by kernel_rfl) (by kernel_rfl) _ _ #[.slice (some pa) pn pc, .slice (some qa) pn qc] rfl (by kernel_rfl) ?_
        refine (same8_any (some pa) pn pc (peaksN (ml.take j)) (some qa) pn qc (peaksN (ml.take j)) V23 (HPK.out.keep C21_23.out) (HQK.out.keep C21_23.out) true (decide_eq_true rfl)).mono ?_
        rintro e V24 ⟨rfl, hb⟩
        have B23 := Lib.hid hb
        clear hb 
        refine ⟨_, rfl, ?_⟩
        simp only [Act.put, List.setIfInBounds_toArray, List.set_cons_zero, List.set_cons_succ]
        refine wpList_run (by kernel_rfl) (.bool true) V24 rfl ?_
        simp only [Act.put, List.setIfInBounds_toArray, List.set_cons_zero, List.set_cons_succ]
        refine wpList_run (by kernel_rfl) (.bool true) V24 rfl ?_
        simp only [Act.put, List.setIfInBounds_toArray, List.set_cons_zero, List.set_cons_succ]
        refine wpList_run (by kernel_rfl) (.slice (some pa) pn pc) V24 rfl ?_
        simp only [Act.put, List.setIfInBounds_toArray, List.set_cons_zero, List.set_cons_succ]
        have C21_24 := Lib.hid (bel_step C21_23.out B23.out)
        have C0_17 := Lib.hid (bel_step C0_16.out B16.out)
        have C0_18 := Lib.hid (bel_step C0_17.out B17.out)
        have C0_19 := Lib.hid (bel_step C0_18.out B18.out)
        have C0_20 := Lib.hid (bel_step C0_19.out B19.out)
        have C0_21 := Lib.hid (bel_step C0_20.out B20.out)
        have C0_22 := Lib.hid (bel_step C0_21.out B21.out)
        have C0_23 := Lib.hid (bel_step C0_22.out B22.out)
        have C0_24 := Lib.hid (bel_step C0_23.out B23.out)
        refine wpList_call (by kernel_rfl) 20 Tryd.func20 (by kernel_rfl) (by kernel_rfl) _ _ #[.slice (some pa) pn pc] rfl (by kernel_rfl) ?_
        refine (bag_any (some pa) pn pc (peaksN (ml.take j)) V24 (HPK.out.keep C21_24.out) (by omega) (HG.out.keep C0_24.out) bg HBG.out).mono ?_
        rintro e V25 ⟨rfl, hb⟩
        have B24 := Lib.hid hb
        clear hb 
        refine ⟨_, rfl, ?_⟩
        simp only [Act.put, List.setIfInBounds_toArray, List.set_cons_zero, List.set_cons_succ]
        refine wpList_run (by kernel_rfl) (.slice (some qa) pn qc) V25 rfl ?_
        simp only [Act.put, List.setIfInBounds_toArray, List.set_cons_zero, List.set_cons_succ]
        have C21_25 := Lib.hid (bel_step C21_24.out B24.out)
        refine wpList_call (by kernel_rfl) 21 Tryd.func21 (by kernel_rfl) (by kernel_rfl) _ _ #[.slice (some qa) pn qc] rfl (by kernel_rfl) ?_
        refine (rbag_any (some qa) pn qc (peaksN (ml.take j)) V25 (HQK.out.keep C21_25.out) (by omega) bg HBG.out).mono ?_
        rintro e V26 ⟨rfl, hb⟩
        have B25 := Lib.hid hb
        clear hb 
        refine ⟨_, rfl, ?_⟩
        simp only [Act.put, List.setIfInBounds_toArray, List.set_cons_zero, List.set_cons_succ]
        refine wpList_run (by kernel_rfl) (.bool true) V26 (exec_cmpD rfl rfl rfl (run_eqD_same bg Dg_bg.out.1 Dg_bg.out.2 _)) ?_
        simp only [Act.put, List.setIfInBounds_toArray, List.set_cons_zero, List.set_cons_succ]
        refine wpList_run (by kernel_rfl) (.bool true) V26 rfl ?_
        simp only [Act.put, List.setIfInBounds_toArray, List.set_cons_zero, List.set_cons_succ]
        refine wpList_run (by kernel_rfl) (.bool true) V26 rfl ?_
        simp only [Act.put, List.setIfInBounds_toArray, List.set_cons_zero, List.set_cons_succ]
        refine wpList_run (by kernel_rfl) (.bool true) V26 rfl ?_
        simp only [Act.put, List.setIfInBounds_toArray, List.set_cons_zero, List.set_cons_succ]
        refine wpList_run (by kernel_rfl) (.bool true) V26 rfl ?_
        simp only [Act.put, List.setIfInBounds_toArray, List.set_cons_zero, List.set_cons_succ]
        refine wpList_run (by kernel_rfl) (.bool true) V26 rfl ?_
        simp only [Act.put, List.setIfInBounds_toArray, List.set_cons_zero, List.set_cons_succ]
        refine wpList_nil ?_
        go_wp2_with fail
        go_ret
        have C0_25 := Lib.hid (bel_step C0_24.out B24.out)
        have C0_26 := Lib.hid (bel_step C0_25.out B25.out)
        exact ⟨rfl, C0_26.out⟩
  · have hle2 : ¬ (n1 : Int) ≤ 100 := by omega
    go_upto_region 7 with fail
    refine wp_region_lit ?_
    refine wpList_run (by kernel_rfl) (.slice A1 n1 c1) V11 rfl ?_
    simp only [Act.put, List.setIfInBounds_toArray, List.set_cons_zero, List.set_cons_succ]
    refine wpList_run (by kernel_rfl) (.int .i64 ((n1 : Nat) : Int)) V11 (by first | rfl | (unfold execOp; go_simp)) ?_
    simp only [Act.put, List.setIfInBounds_toArray, List.set_cons_zero, List.set_cons_succ]
    refine wpList_run (by kernel_rfl) (.bool false) V11 (by unfold execOp; go_simp) ?_
    simp only [Act.put, List.setIfInBounds_toArray, List.set_cons_zero, List.set_cons_succ]
    refine wpList_nil ?_
    go_upto_region 12 with fail
    refine wp_region_lit ?_
    refine wpList_run (by kernel_rfl) (.slice (some ad) m d) V11 rfl ?_
    simp only [Act.put, List.setIfInBounds_toArray, List.set_cons_zero, List.set_cons_succ]
    refine wpList_run (by kernel_rfl) (.int .i64 ix) V11 rfl ?_
    simp only [Act.put, List.setIfInBounds_toArray, List.set_cons_zero, List.set_cons_succ]
    have C0_8 := Lib.hid (bel_step C0_7.out B7.out)
    have C0_9 := Lib.hid (bel_step C0_8.out B8.out)
    have C0_10 := Lib.hid (bel_step C0_9.out B9.out)
    have C0_11 := Lib.hid (bel_step C0_10.out B10.out)
    have C3_10 := Lib.hid (bel_step C3_9.out B9.out)
    have C3_11 := Lib.hid (bel_step C3_10.out B10.out)
    refine wpList_call (by kernel_rfl) 16 Tryd.func16 (by kernel_rfl) (by kernel_rfl) _ _ #[.slice (some ad) m d, .int .i64 ix] rfl (by kernel_rfl) ?_
    refine (wit_w (some ad) m d ml ix V11 (HP.out.keep C3_11.out) hm1 (by omega) HSM.out (HG.out.keep C0_11.out) wd EWD.out we EWE.out).mono ?_
    rintro e V12 ⟨u3, u3n, u3c, rfl, hd, hb⟩
    have B11 := Lib.hid hb
    have HWP3 := Lib.hid hd
    clear hb hd
    refine ⟨_, rfl, ?_⟩
    simp only [Act.put, List.setIfInBounds_toArray, List.set_cons_zero, List.set_cons_succ]
    refine wpList_run (by kernel_rfl) (.tuple #[.slice u3 u3n u3c, .int .i64 ((we : Nat) : Int)]) V12 rfl ?_
    simp only [Act.put, List.setIfInBounds_toArray, List.set_cons_zero, List.set_cons_succ]
    refine wpList_run (by kernel_rfl) (.slice u3 u3n u3c) V12 rfl ?_
    simp only [Act.put, List.setIfInBounds_toArray, List.set_cons_zero, List.set_cons_succ]
    refine wpList_run (by kernel_rfl) (.int .i64 ((we : Nat) : Int)) V12 rfl ?_
    simp only [Act.put, List.setIfInBounds_toArray, List.set_cons_zero, List.set_cons_succ]
    refine wpList_run (by kernel_rfl) (.slice u3 u3n u3c) V12 rfl ?_
    simp only [Act.put, List.setIfInBounds_toArray, List.set_cons_zero, List.set_cons_succ]
    refine wpList_run (by kernel_rfl) (.int .i64 ((we : Nat) : Int)) V12 rfl ?_
    simp only [Act.put, List.setIfInBounds_toArray, List.set_cons_zero, List.set_cons_succ]
    refine wpList_nil ?_
    go_upto_region 13 with fail
    refine wp_region_lit ?_
    refine wpList_run (by kernel_rfl) (.slice (some ad) m d) V12 rfl ?_
    simp only [Act.put, List.setIfInBounds_toArray, List.set_cons_zero, List.set_cons_succ]
    refine wpList_run (by kernel_rfl) (.int .i64 ix) V12 rfl ?_
    simp only [Act.put, List.setIfInBounds_toArray, List.set_cons_zero, List.set_cons_succ]
    have C3_12 := Lib.hid (bel_step C3_11.out B11.out)
    refine wpList_call (by kernel_rfl) 17 Tryd.func17 (by kernel_rfl) (by kernel_rfl) _ _ #[.slice (some ad) m d, .int .i64 ix] rfl (by kernel_rfl) ?_
    refine (rwit_w (some ad) m d ml ix V12 (HP.out.keep C3_12.out) (by omega) HSM.out wd EWD.out we EWE.out).mono ?_
    rintro e V13 ⟨u4, u4n, u4c, rfl, hd, hb⟩
    have B12 := Lib.hid hb
    have HWP4 := Lib.hid hd
    clear hb hd
    refine ⟨_, rfl, ?_⟩
    simp only [Act.put, List.setIfInBounds_toArray, List.set_cons_zero, List.set_cons_succ]
    refine wpList_run (by kernel_rfl) (.tuple #[.slice u4 u4n u4c, .int .i64 ((we : Nat) : Int)]) V13 rfl ?_
    simp only [Act.put, List.setIfInBounds_toArray, List.set_cons_zero, List.set_cons_succ]
    refine wpList_run (by kernel_rfl) (.slice u4 u4n u4c) V13 rfl ?_
    simp only [Act.put, List.setIfInBounds_toArray, List.set_cons_zero, List.set_cons_succ]
    refine wpList_run (by kernel_rfl) (.int .i64 ((we : Nat) : Int)) V13 rfl ?_
    simp only [Act.put, List.setIfInBounds_toArray, List.set_cons_zero, List.set_cons_succ]
    refine wpList_run (by kernel_rfl) (.slice u4 u4n u4c) V13 rfl ?_
    simp only [Act.put, List.setIfInBounds_toArray, List.set_cons_zero, List.set_cons_succ]
    refine wpList_run (by kernel_rfl) (.int .i64 ((we : Nat) : Int)) V13 rfl ?_
    simp only [Act.put, List.setIfInBounds_toArray, List.set_cons_zero, List.set_cons_succ]
    refine wpList_nil ?_
    go_upto_region 14 with fail
    refine wp_region_lit ?_
    refine wpList_mk (by kernel_rfl) #[] 31 0 0 (exec_box0 _ rfl) ?_
    intro g95 V14 hge h0 hb
    have B13 := Lib.hid hb
    have M95 := Lib.hid (db_nil V14 ⟨g95, 0, none⟩)
    clear hge h0 hb
    simp only [Act.put, List.setIfInBounds_toArray, List.set_cons_zero, List.set_cons_succ]
    refine wpList_mk (by kernel_rfl) #[] 31 0 0 (exec_box0 _ rfl) ?_
    intro g96 V15 hge h0 hb
    have B14 := Lib.hid hb
    have M96 := Lib.hid (db_nil V15 ⟨g96, 0, none⟩)
    clear hge h0 hb
    simp only [Act.put, List.setIfInBounds_toArray, List.set_cons_zero, List.set_cons_succ]
    refine wpList_run (by kernel_rfl) (.slice (some ⟨g95, 0, none⟩) 0 0) V15 rfl ?_
    simp only [Act.put, List.setIfInBounds_toArray, List.set_cons_zero, List.set_cons_succ]
    refine wpList_run (by kernel_rfl) (.slice (some ⟨g96, 0, none⟩) 0 0) V15 rfl ?_
    simp only [Act.put, List.setIfInBounds_toArray, List.set_cons_zero, List.set_cons_succ]
    refine wpList_nil ?_
    go_wp2_with fail
    go_loopw [26, 27, 28] (fun p q s wr => ∃ (j : Nat) (pa qa : Addr) (pn pc qc : Nat), j ≤ m ∧ pn ≤ 60000 ∧ onesN j = pn ∧ s = .int .i64 j ∧ p = .slice (some pa) pn pc ∧ q = .slice (some qa) pn qc ∧ Db wr (some pa) pn pc (peaksN (ml.take j)) ∧ Db wr (some qa) pn qc (peaksN (ml.take j)) ∧ Below V15.heap.size V15 wr) (fun _ _ s _ => m - (intOf s).toNat)
    case atStart => exact ⟨0, _, _, 0, 0, 0, Nat.zero_le _, by omega, rfl, rfl, rfl, rfl, (M95.out.keep B14.out), M96.out, Below.refl _ _⟩
    case round =>
      obtain ⟨wo, rfl⟩ : ∃ wo : World, wo = wr := ⟨_, rfl⟩
      obtain ⟨j, pa, qa, pn, pc, qc, hj, hpn, hon0, rfl, rfl, rfl, hpk, hqk, hb⟩ := hrel
      have B15 := Lib.hid hb
      have HPK := Lib.hid hpk
      have HQK := Lib.hid hqk
      have HON0 := Lib.hid hon0
      clear hb hpk hqk hon0
      by_cases hlt : j < m
      · have hlt2 : (j : Int) < (m : Int) := by omega
        obtain ⟨p, hp⟩ : ∃ p, ml[j]? = some p := ⟨_, List.getElem?_eq_getElem (by have := HML.out; omega)⟩
        have hpl : p.length ≤ 59999 := HSM.out p (List.mem_of_getElem? hp)
        have C3_13 := Lib.hid (bel_step C3_12.out B12.out)
        have C3_14 := Lib.hid (bel_step C3_13.out B13.out)
        have C3_15 := Lib.hid (bel_step C3_14.out B14.out)
        have C3_16 := Lib.hid (bel_step C3_15.out B15.out)
        obtain ⟨eB, em, ed, he⟩ := (HP.out.keep C3_16.out).el hp
        have EL := Lib.hid he
        have hem : em ≤ 59999 := by have := he.sb.len; omega
        have HTK := Lib.hid (show ml.take (j + 1) = ml.take j ++ [p] by rw [List.take_add_one, hp]; rfl)
        have HTL := Lib.hid (show (ml.take j).length = j by rw [List.length_take]; have := HML.out; omega)
        clear he hp
        obtain ⟨on, h_on⟩ : ∃ x, onesN (j + 1) = x := ⟨_, rfl⟩
        have HON := Lib.hid h_on
        clear h_on
        have hon : on ≤ 41 := by have := onesN_le (j + 1); have := HON.out; omega
        obtain ⟨pk, h_pk⟩ : ∃ x, peaksN (ml.take (j + 1)) = x := ⟨_, rfl⟩
        have HPE := Lib.hid h_pk
        clear h_pk
        have HD1 := Lib.hid (show pushN (peaksN (ml.take j)) j (lfN p) = pk by have h := push_leaf (ml.take j) p; rw [HTL.out, ← HTK.out, HPE.out] at h; exact h)
        have HN1 := Lib.hid (show pk.length = on by rw [← HPE.out, peaksN_length, List.length_take, Nat.min_eq_left (by have := HML.out; omega), HON.out])
        go_upto_region 18 with fail
        refine wp_region_lit ?_
        refine wpList_run (by kernel_rfl) (.slice (some pa) pn pc) wo rfl ?_
        simp only [Act.put, List.setIfInBounds_toArray, List.set_cons_zero, List.set_cons_succ]
        refine wpList_run (by kernel_rfl) (.int .i64 ((j : Nat) : Int)) wo rfl ?_
        simp only [Act.put, List.setIfInBounds_toArray, List.set_cons_zero, List.set_cons_succ]
        refine wpList_run (by kernel_rfl) (.slice (some ad) m d) wo rfl ?_
        simp only [Act.put, List.setIfInBounds_toArray, List.set_cons_zero, List.set_cons_succ]
        refine wpList_run (by kernel_rfl) (.int .i64 ((j : Nat) : Int)) wo rfl ?_
        simp only [Act.put, List.setIfInBounds_toArray, List.set_cons_zero, List.set_cons_succ]
        refine wpList_run (by kernel_rfl) (.pointer (some (ad.add j))) wo (exec_idxP _ ad m d j (by omega) rfl rfl rfl) ?_
        simp only [Act.put, List.setIfInBounds_toArray, List.set_cons_zero, List.set_cons_succ]
        refine wpList_run (by kernel_rfl) (.slice eB em ed) wo (exec_loadS _ _ _ _ EL.out.cell rfl rfl) ?_
        simp only [Act.put, List.setIfInBounds_toArray, List.set_cons_zero, List.set_cons_succ]
        have C0_12 := Lib.hid (bel_step C0_11.out B11.out)
        have C0_13 := Lib.hid (bel_step C0_12.out B12.out)
        have C0_14 := Lib.hid (bel_step C0_13.out B13.out)
        have C0_15 := Lib.hid (bel_step C0_14.out B14.out)
        have C0_16 := Lib.hid (bel_step C0_15.out B15.out)
        refine wpList_call (by kernel_rfl) 18 Tryd.func18 (by kernel_rfl) (by kernel_rfl) _ _ #[.slice (some pa) pn pc, .int .i64 ((j : Nat) : Int), .slice eB em ed] rfl (by kernel_rfl) ?_
        refine (push_dbs (some pa) pn pc _ j eB em ed p wo HPK.out hpn (by omega) EL.out.sb hem (HG.out.keep C0_16.out) pk HD1.out on HN1.out).mono ?_
        rintro e V17 ⟨na, naf, rfl, hd, hb⟩
        have B16 := Lib.hid hb
        have HNX := Lib.hid hd
        clear hb hd
        refine ⟨_, rfl, ?_⟩
        simp only [Act.put, List.setIfInBounds_toArray, List.set_cons_zero, List.set_cons_succ]
        refine wpList_run (by kernel_rfl) (.slice (some na) on naf) V17 rfl ?_
        simp only [Act.put, List.setIfInBounds_toArray, List.set_cons_zero, List.set_cons_succ]
        refine wpList_nil ?_
        go_upto_region 19 with fail
        refine wp_region_lit ?_
        refine wpList_run (by kernel_rfl) (.slice (some qa) pn qc) V17 rfl ?_
        simp only [Act.put, List.setIfInBounds_toArray, List.set_cons_zero, List.set_cons_succ]
        refine wpList_run (by kernel_rfl) (.int .i64 ((j : Nat) : Int)) V17 rfl ?_
        simp only [Act.put, List.setIfInBounds_toArray, List.set_cons_zero, List.set_cons_succ]
        refine wpList_run (by kernel_rfl) (.slice (some ad) m d) V17 rfl ?_
        simp only [Act.put, List.setIfInBounds_toArray, List.set_cons_zero, List.set_cons_succ]
        refine wpList_run (by kernel_rfl) (.int .i64 ((j : Nat) : Int)) V17 rfl ?_
        simp only [Act.put, List.setIfInBounds_toArray, List.set_cons_zero, List.set_cons_succ]
        refine wpList_run (by kernel_rfl) (.pointer (some (ad.add j))) V17 (exec_idxP _ ad m d j (by omega) rfl rfl rfl) ?_
        simp only [Act.put, List.setIfInBounds_toArray, List.set_cons_zero, List.set_cons_succ]
        refine wpList_run (by kernel_rfl) (.slice eB em ed) V17 (exec_loadS _ _ _ _ (EL.out.keep B16.out).cell rfl rfl) ?_
        simp only [Act.put, List.setIfInBounds_toArray, List.set_cons_zero, List.set_cons_succ]
        refine wpList_call (by kernel_rfl) 19 Tryd.func19 (by kernel_rfl) (by kernel_rfl) _ _ #[.slice (some qa) pn qc, .int .i64 ((j : Nat) : Int), .slice eB em ed] rfl (by kernel_rfl) ?_
        refine (rpush_dbs qa pn qc _ j eB em ed p V17 (HQK.out.keep B16.out) hpn (by omega) HON0.out (EL.out.keep B16.out).sb hem pk HD1.out on HN1.out).mono ?_
        rintro e V18 ⟨nb, nbf, rfl, hd, hb⟩
        have B17 := Lib.hid hb
        have HNY := Lib.hid hd
        clear hb hd
        refine ⟨_, rfl, ?_⟩
        simp only [Act.put, List.setIfInBounds_toArray, List.set_cons_zero, List.set_cons_succ]
        refine wpList_run (by kernel_rfl) (.slice (some nb) on nbf) V18 rfl ?_
        simp only [Act.put, List.setIfInBounds_toArray, List.set_cons_zero, List.set_cons_succ]
        refine wpList_nil ?_
        have C15_17 := Lib.hid (bel_step B15.out B16.out)
        have C15_18 := Lib.hid (bel_step C15_17.out B17.out)
        have hwj : IntKind.i64.wrap ((j : Int) + 1) = ((j + 1 : Nat) : Int) := by rw [IntKind.wrap_i64]; omega
        go_wp2_with fail
        go_roundw
        case rel => exact ⟨j + 1, na, nb, on, naf, nbf, by omega, by omega, HON.out, by first | rfl | go_num, rfl, rfl, by rw [HPE.out]; exact (HNX.out.keep B17.out), by rw [HPE.out]; exact HNY.out, C15_18.out⟩
        case measure => simp [intOf]; omega
      · have hlt2 : ¬ (j : Int) < (m : Int) := by omega
        have hjm : j = m := by omega
        obtain ⟨bg, h_bg⟩ : ∃ x, bagN (peaksN (ml.take j)) = x := ⟨_, rfl⟩
        have Dg_bg := Lib.hid (show bg.length = 32 ∧ ∀ x ∈ bg, x < 256 by rw [← h_bg]; exact bagN_size _ HPK.out.dig)
        have HBG := Lib.hid h_bg
        clear h_bg
        clear hlt
        go_upto_region 20 with fail
        refine wp_region_lit ?_
        have C5_7 := Lib.hid (bel_step B5.out B6.out)
        have C5_8 := Lib.hid (bel_step C5_7.out B7.out)
        have C5_9 := Lib.hid (bel_step C5_8.out B8.out)
        have C5_10 := Lib.hid (bel_step C5_9.out B9.out)
        have C5_11 := Lib.hid (bel_step C5_10.out B10.out)
        have C5_12 := Lib.hid (bel_step C5_11.out B11.out)
        have C5_13 := Lib.hid (bel_step C5_12.out B12.out)
        have C5_14 := Lib.hid (bel_step C5_13.out B13.out)
        have C5_15 := Lib.hid (bel_step C5_14.out B14.out)
        have C5_16 := Lib.hid (bel_step C5_15.out B15.out)
        refine wpList_run (by kernel_rfl) (.agg (celB root).toArray) wo (exec_loadD Dg_root.out.1 (show RowB wo 31 b10 root from (heap_keep F10.out C5_16.out)) rfl rfl) ?_
        simp only [Act.put, List.setIfInBounds_toArray, List.set_cons_zero, List.set_cons_succ]
        have C7_9 := Lib.hid (bel_step B7.out B8.out)
        have C7_10 := Lib.hid (bel_step C7_9.out B9.out)
        have C7_11 := Lib.hid (bel_step C7_10.out B10.out)
        have C7_12 := Lib.hid (bel_step C7_11.out B11.out)
        have C7_13 := Lib.hid (bel_step C7_12.out B12.out)
        have C7_14 := Lib.hid (bel_step C7_13.out B13.out)
        have C7_15 := Lib.hid (bel_step C7_14.out B14.out)
        have C7_16 := Lib.hid (bel_step C7_15.out B15.out)
        refine wpList_run (by kernel_rfl) (.agg (celB root).toArray) wo (exec_loadD Dg_root.out.1 (show RowB wo 31 b12 root from (heap_keep F12.out C7_16.out)) rfl rfl) ?_
        simp only [Act.put, List.setIfInBounds_toArray, List.set_cons_zero, List.set_cons_succ]
        refine wpList_run (by kernel_rfl) (.bool true) wo (exec_cmpD rfl rfl rfl (run_eqD_same root Dg_root.out.1 Dg_root.out.2 _)) ?_
        simp only [Act.put, List.setIfInBounds_toArray, List.set_cons_zero, List.set_cons_succ]
        refine wpList_run (by kernel_rfl) (.bool true) wo rfl ?_
        simp only [Act.put, List.setIfInBounds_toArray, List.set_cons_zero, List.set_cons_succ]
        refine wpList_run (by kernel_rfl) (.int .i64 0) wo rfl ?_
        simp only [Act.put, List.setIfInBounds_toArray, List.set_cons_zero, List.set_cons_succ]
        refine wpList_run (by kernel_rfl) (.int .i64 0) wo rfl ?_
        simp only [Act.put, List.setIfInBounds_toArray, List.set_cons_zero, List.set_cons_succ]
        refine wpList_run (by kernel_rfl) (.bool true) wo (by first | rfl | (unfold execOp; go_simp)) ?_
        simp only [Act.put, List.setIfInBounds_toArray, List.set_cons_zero, List.set_cons_succ]
        refine wpList_run (by kernel_rfl) (.bool true) wo rfl ?_
        simp only [Act.put, List.setIfInBounds_toArray, List.set_cons_zero, List.set_cons_succ]
        refine wpList_run (by kernel_rfl) (.bool true) wo rfl ?_
        simp only [Act.put, List.setIfInBounds_toArray, List.set_cons_zero, List.set_cons_succ]
        refine wpList_run (by kernel_rfl) (.pointer (some ⟨b14, 0, none⟩)) wo (by unfold execOp; go_simp) ?_
        simp only [Act.put, List.setIfInBounds_toArray, List.set_cons_zero, List.set_cons_succ]
        have C9_11 := Lib.hid (bel_step B9.out B10.out)
        have C9_12 := Lib.hid (bel_step C9_11.out B11.out)
        have C9_13 := Lib.hid (bel_step C9_12.out B12.out)
        have C9_14 := Lib.hid (bel_step C9_13.out B13.out)
        have C9_15 := Lib.hid (bel_step C9_14.out B14.out)
        have C9_16 := Lib.hid (bel_step C9_15.out B15.out)
        refine wpList_run (by kernel_rfl) (.slice q1 q1n q1c) wo (exec_loadSD _ _ _ _ (cells_at (heap_keep F14.out C9_16.out) 0 rfl) rfl rfl) ?_
        simp only [Act.put, List.setIfInBounds_toArray, List.set_cons_zero, List.set_cons_succ]
        refine wpList_run (by kernel_rfl) (.pointer (some ⟨b16, 0, none⟩)) wo (by unfold execOp; go_simp) ?_
        simp only [Act.put, List.setIfInBounds_toArray, List.set_cons_zero, List.set_cons_succ]
        have C11_13 := Lib.hid (bel_step B11.out B12.out)
        have C11_14 := Lib.hid (bel_step C11_13.out B13.out)
        have C11_15 := Lib.hid (bel_step C11_14.out B14.out)
        have C11_16 := Lib.hid (bel_step C11_15.out B15.out)
        refine wpList_run (by kernel_rfl) (.slice q2 q2n q2c) wo (exec_loadSD _ _ _ _ (cells_at (heap_keep F16.out C11_16.out) 0 rfl) rfl rfl) ?_
        simp only [Act.put, List.setIfInBounds_toArray, List.set_cons_zero, List.set_cons_succ]
        have C8_10 := Lib.hid (bel_step B8.out B9.out)
        have C8_11 := Lib.hid (bel_step C8_10.out B10.out)
        have C8_12 := Lib.hid (bel_step C8_11.out B11.out)
        have C8_13 := Lib.hid (bel_step C8_12.out B12.out)
        have C8_14 := Lib.hid (bel_step C8_13.out B13.out)
        have C8_15 := Lib.hid (bel_step C8_14.out B14.out)
        have C8_16 := Lib.hid (bel_step C8_15.out B15.out)
        have C10_12 := Lib.hid (bel_step B10.out B11.out)
        have C10_13 := Lib.hid (bel_step C10_12.out B12.out)
        have C10_14 := Lib.hid (bel_step C10_13.out B13.out)
        have C10_15 := Lib.hid (bel_step C10_14.out B14.out)
        have C10_16 := Lib.hid (bel_step C10_15.out B15.out)
        refine wpList_call (by kernel_rfl) 15 Tryd.func15 (by kernel_rfl) (by kernel_rfl) _ _ #[.slice q1 q1n q1c, .slice q2 q2n q2c] rfl (by kernel_rfl) ?_
        refine (same8_any q1 q1n q1c od q2 q2n q2c od wo (HOP1.out.keep C8_16.out) (HOP2.out.keep C10_16.out) true (decide_eq_true rfl)).mono ?_
        rintro e V17 ⟨rfl, hb⟩
        have B16 := Lib.hid hb
        clear hb 
        refine ⟨_, rfl, ?_⟩
        simp only [Act.put, List.setIfInBounds_toArray, List.set_cons_zero, List.set_cons_succ]
        refine wpList_run (by kernel_rfl) (.bool true) V17 rfl ?_
        simp only [Act.put, List.setIfInBounds_toArray, List.set_cons_zero, List.set_cons_succ]
        refine wpList_run (by kernel_rfl) (.bool true) V17 rfl ?_
        simp only [Act.put, List.setIfInBounds_toArray, List.set_cons_zero, List.set_cons_succ]
        refine wpList_run (by kernel_rfl) (.int .i64 ((oe : Nat) : Int)) V17 rfl ?_
        simp only [Act.put, List.setIfInBounds_toArray, List.set_cons_zero, List.set_cons_succ]
        refine wpList_run (by kernel_rfl) (.int .i64 ((oe : Nat) : Int)) V17 rfl ?_
        simp only [Act.put, List.setIfInBounds_toArray, List.set_cons_zero, List.set_cons_succ]
        refine wpList_run (by kernel_rfl) (.bool true) V17 (by first | rfl | (unfold execOp; go_simp)) ?_
        simp only [Act.put, List.setIfInBounds_toArray, List.set_cons_zero, List.set_cons_succ]
        refine wpList_run (by kernel_rfl) (.bool true) V17 rfl ?_
        simp only [Act.put, List.setIfInBounds_toArray, List.set_cons_zero, List.set_cons_succ]
        refine wpList_run (by kernel_rfl) (.bool true) V17 rfl ?_
        simp only [Act.put, List.setIfInBounds_toArray, List.set_cons_zero, List.set_cons_succ]
        refine wpList_run (by kernel_rfl) (.slice u3 u3n u3c) V17 rfl ?_
        simp only [Act.put, List.setIfInBounds_toArray, List.set_cons_zero, List.set_cons_succ]
        refine wpList_run (by kernel_rfl) (.slice u4 u4n u4c) V17 rfl ?_
        simp only [Act.put, List.setIfInBounds_toArray, List.set_cons_zero, List.set_cons_succ]
        have C12_14 := Lib.hid (bel_step B12.out B13.out)
        have C12_15 := Lib.hid (bel_step C12_14.out B14.out)
        have C12_16 := Lib.hid (bel_step C12_15.out B15.out)
        have C12_17 := Lib.hid (bel_step C12_16.out B16.out)
        have C13_15 := Lib.hid (bel_step B13.out B14.out)
        have C13_16 := Lib.hid (bel_step C13_15.out B15.out)
        have C13_17 := Lib.hid (bel_step C13_16.out B16.out)
        refine wpList_call (by kernel_rfl) 15 Tryd.func15 (by kernel_rfl) (by kernel_rfl) _ _ #[.slice u3 u3n u3c, .slice u4 u4n u4c] rfl (by kernel_rfl) ?_
        refine (same8_any u3 u3n u3c wd u4 u4n u4c wd V17 (HWP3.out.keep C12_17.out) (HWP4.out.keep C13_17.out) true (decide_eq_true rfl)).mono ?_
        rintro e V18 ⟨rfl, hb⟩
        have B17 := Lib.hid hb
        clear hb 
        refine ⟨_, rfl, ?_⟩
        simp only [Act.put, List.setIfInBounds_toArray, List.set_cons_zero, List.set_cons_succ]
        refine wpList_run (by kernel_rfl) (.bool true) V18 rfl ?_
        simp only [Act.put, List.setIfInBounds_toArray, List.set_cons_zero, List.set_cons_succ]
        refine wpList_run (by kernel_rfl) (.bool true) V18 rfl ?_
        simp only [Act.put, List.setIfInBounds_toArray, List.set_cons_zero, List.set_cons_succ]
        refine wpList_run (by kernel_rfl) (.int .i64 ((we : Nat) : Int)) V18 rfl ?_
        simp only [Act.put, List.setIfInBounds_toArray, List.set_cons_zero, List.set_cons_succ]
        refine wpList_run (by kernel_rfl) (.int .i64 ((we : Nat) : Int)) V18 rfl ?_
        simp only [Act.put, List.setIfInBounds_toArray, List.set_cons_zero, List.set_cons_succ]
        refine wpList_run (by kernel_rfl) (.bool true) V18 (by first | rfl | (unfold execOp; go_simp)) ?_
        simp only [Act.put, List.setIfInBounds_toArray, List.set_cons_zero, List.set_cons_succ]
        refine wpList_run (by kernel_rfl) (.bool true) V18 rfl ?_
        simp only [Act.put, List.setIfInBounds_toArray, List.set_cons_zero, List.set_cons_succ]
        refine wpList_run (by kernel_rfl) (.bool true) V18 rfl ?_
        simp only [Act.put, List.setIfInBounds_toArray, List.set_cons_zero, List.set_cons_succ]
        refine wpList_run (by kernel_rfl) (.slice (some pa) pn pc) V18 rfl ?_
        simp only [Act.put, List.setIfInBounds_toArray, List.set_cons_zero, List.set_cons_succ]
        refine wpList_run (by kernel_rfl) (.slice (some qa) pn qc) V18 rfl ?_
        simp only [Act.put, List.setIfInBounds_toArray, List.set_cons_zero, List.set_cons_succ]
        have C16_18 := Lib.hid (bel_step B16.out B17.out)
        refine wpList_call (by kernel_rfl) 15 Tryd.func15 (by kernel_rfl) (by kernel_rfl) _ _ #[.slice (some pa) pn pc, .slice (some qa) pn qc] rfl (by kernel_rfl) ?_
        refine (same8_any (some pa) pn pc (peaksN (ml.take j)) (some qa) pn qc (peaksN (ml.take j)) V18 (HPK.out.keep C16_18.out) (HQK.out.keep C16_18.out) true (decide_eq_true rfl)).mono ?_
        rintro e V19 ⟨rfl, hb⟩
        have B18 := Lib.hid hb
        clear hb 
        refine ⟨_, rfl, ?_⟩
        simp only [Act.put, List.setIfInBounds_toArray, List.set_cons_zero, List.set_cons_succ]
        refine wpList_run (by kernel_rfl) (.bool true) V19 rfl ?_
        simp only [Act.put, List.setIfInBounds_toArray, List.set_cons_zero, List.set_cons_succ]
        refine wpList_run (by kernel_rfl) (.bool true) V19 rfl ?_
        simp only [Act.put, List.setIfInBounds_toArray, List.set_cons_zero, List.set_cons_succ]
        refine wpList_run (by kernel_rfl) (.slice (some pa) pn pc) V19 rfl ?_
        simp only [Act.put, List.setIfInBounds_toArray, List.set_cons_zero, List.set_cons_succ]
        have C16_19 := Lib.hid (bel_step C16_18.out B18.out)
        have C0_12 := Lib.hid (bel_step C0_11.out B11.out)
        have C0_13 := Lib.hid (bel_step C0_12.out B12.out)
        have C0_14 := Lib.hid (bel_step C0_13.out B13.out)
        have C0_15 := Lib.hid (bel_step C0_14.out B14.out)
        have C0_16 := Lib.hid (bel_step C0_15.out B15.out)
        have C0_17 := Lib.hid (bel_step C0_16.out B16.out)
        have C0_18 := Lib.hid (bel_step C0_17.out B17.out)
        have C0_19 := Lib.hid (bel_step C0_18.out B18.out)
        refine wpList_call (by kernel_rfl) 20 Tryd.func20 (by kernel_rfl) (by kernel_rfl) _ _ #[.slice (some pa) pn pc] rfl (by kernel_rfl) ?_
        refine (bag_any (some pa) pn pc (peaksN (ml.take j)) V19 (HPK.out.keep C16_19.out) (by omega) (HG.out.keep C0_19.out) bg HBG.out).mono ?_
        rintro e V20 ⟨rfl, hb⟩
        have B19 := Lib.hid hb
        clear hb 
        refine ⟨_, rfl, ?_⟩
        simp only [Act.put, List.setIfInBounds_toArray, List.set_cons_zero, List.set_cons_succ]
        refine wpList_run (by kernel_rfl) (.slice (some qa) pn qc) V20 rfl ?_
        simp only [Act.put, List.setIfInBounds_toArray, List.set_cons_zero, List.set_cons_succ]
        have C16_20 := Lib.hid (bel_step C16_19.out B19.out)
        refine wpList_call (by kernel_rfl) 21 Tryd.func21 (by kernel_rfl) (by kernel_rfl) _ _ #[.slice (some qa) pn qc] rfl (by kernel_rfl) ?_
        refine (rbag_any (some qa) pn qc (peaksN (ml.take j)) V20 (HQK.out.keep C16_20.out) (by omega) bg HBG.out).mono ?_
        rintro e V21 ⟨rfl, hb⟩
        have B20 := Lib.hid hb
        clear hb 
        refine ⟨_, rfl, ?_⟩
        simp only [Act.put, List.setIfInBounds_toArray, List.set_cons_zero, List.set_cons_succ]
        refine wpList_run (by kernel_rfl) (.bool true) V21 (exec_cmpD rfl rfl rfl (run_eqD_same bg Dg_bg.out.1 Dg_bg.out.2 _)) ?_
        simp only [Act.put, List.setIfInBounds_toArray, List.set_cons_zero, List.set_cons_succ]
        refine wpList_run (by kernel_rfl) (.bool true) V21 rfl ?_
        simp only [Act.put, List.setIfInBounds_toArray, List.set_cons_zero, List.set_cons_succ]
        refine wpList_run (by kernel_rfl) (.bool true) V21 rfl ?_
        simp only [Act.put, List.setIfInBounds_toArray, List.set_cons_zero, List.set_cons_succ]
        refine wpList_run (by kernel_rfl) (.bool true) V21 rfl ?_
        simp only [Act.put, List.setIfInBounds_toArray, List.set_cons_zero, List.set_cons_succ]
        refine wpList_run (by kernel_rfl) (.bool true) V21 rfl ?_
        simp only [Act.put, List.setIfInBounds_toArray, List.set_cons_zero, List.set_cons_succ]
        refine wpList_run (by kernel_rfl) (.bool true) V21 rfl ?_
        simp only [Act.put, List.setIfInBounds_toArray, List.set_cons_zero, List.set_cons_succ]
        refine wpList_nil ?_
        go_wp2_with fail
        go_ret
        have C0_20 := Lib.hid (bel_step C0_19.out B19.out)
        have C0_21 := Lib.hid (bel_step C0_20.out B20.out)
        exact ⟨rfl, C0_21.out⟩
end Go.Proofs.YtcephdkcjcbanaaDoor
