/- A law of stage 10: HashInputs. -/
import Derived.Test.YtcaoajeplinopaaDoorH15
namespace Go.Proofs.YtcaoajeplinopaaDoor
set_option linter.unusedVariables false
set_option linter.unusedSimpArgs false
set_option maxRecDepth 8000
open Go.RowKit Gold
open Go.Shelf
attribute [local simp] z32_ne z32_run
attribute [-simp] Tryd.zeroValue30 Tryd.isAgg30 Tryd.sizeOf30
attribute [-simp] Tryd.zeroValue32 Tryd.isAgg32 Tryd.sizeOf32
attribute [local simp] z33_ne z33_run
attribute [local irreducible] wpList wpQuiet
set_option maxRecDepth 100000 in
set_option maxHeartbeats 16000000 in
theorem tHashInputs_any (ls : ByteArray) (A1 : Option Addr) (n1 c1 : Nat) (bs : List Nat) (A2 : Option Addr) (n2 c2 : Nat) (xs : List (Nat × Nat)) (A3 : Option Addr) (n3 c3 : Nat) (is : List Int) (A4 : Option Addr) (n4 c4 : Nat) (st : List Nat) (cnt : Nat) (w : World)
    (hS1 : Sb w A1 n1 c1 bs) (hS2 : XbT w A2 n2 c2 xs) (hS3 : Ib w A3 n3 c3 is) (hS4 : Sb w A4 n4 c4 st) (hc : cnt < 18446744073709551616) (hG : Gl w) :
    Calls Tryd.prog 10 #[.agg #[.string ls, .slice A1 n1 c1, .slice A2 n2 c2, .slice A3 n3 c3, .slice A4 n4 c4, .int .u64 (cnt : Int)]] w fun e w' => e = .returned (.bool true) ∧ Below w.heap.size w w' := by
  obtain ⟨s, hs⟩ : ∃ s, madeN st = s := ⟨_, rfl⟩
  have HDs := Lib.hid (show s.length = 32 ∧ ∀ x ∈ s, x < 256 by rw [← hs]; exact ⟨madeN_length _, madeN_lt hS4.byte⟩)
  have HSM := Lib.hid hs
  have hcap1 := hS1.cap
  have hlen1 := hS1.len
  have hcap2 := hS2.cap
  have hlen2 := hS2.len
  have hcap3 := hS3.cap
  have hlen3 := hS3.len
  have HL1 := Lib.hid hlen1
  have HL2 := Lib.hid hlen2
  have HL3 := Lib.hid hlen3
  have HS1 := Lib.hid hS1
  have HS2 := Lib.hid hS2
  have HS3 := Lib.hid hS3
  have HS4 := Lib.hid hS4
  clear hs hS1 hS2 hS3 hS4 hlen1 hlen2 hlen3
  have HG := Lib.hid hG
  clear hG
  go_enter Tryd.func10, Tryd.ntmps10
  go_upto_region 1 with fail
  refine wp_named1 (fun V1 hb g0 hlt => ?_)
  have B0 := Lib.hid hb
  have Fv0_1 : Hid (V1.heap[w.heap.size]? = some (.cells #[.string ls, .slice A1 n1 c1, .slice A2 n2 c2, .slice A3 n3 c3, .slice A4 n4 c4, .int .u64 (cnt : Int)] 27 (0, 0))) := Lib.hid (g0)
  have Gb0 : Hid (w.heap.size ≤ w.heap.size) := Lib.hid (by omega)
  clear hb g0 hlt
  refine wp_region_lit ?_
  refine wpList_call (by kernel_rfl) 11 Tryd.func11 (by kernel_rfl) (by kernel_rfl) _ _ #[] rfl (by kernel_rfl) ?_
  refine (sanity10_any V1 (HG.out.keep B0.out)).mono ?_
  rintro e V2 ⟨rfl, hb⟩
  have B1 := Lib.hid hb
  clear hb 
  refine ⟨_, rfl, ?_⟩
  simp only [Act.put, List.setIfInBounds_toArray, List.set_cons_zero, List.set_cons_succ]
  refine wpList_run (by kernel_rfl) (.bool true) V2 rfl ?_
  simp only [Act.put, List.setIfInBounds_toArray, List.set_cons_zero, List.set_cons_succ]
  refine wpList_nil ?_
  go_upto_region 2 with fail
  refine wp_region_lit ?_
  refine wpList_run (by kernel_rfl) (.agg #[.string ls, .slice A1 n1 c1, .slice A2 n2 c2, .slice A3 n3 c3, .slice A4 n4 c4, .int .u64 (cnt : Int)]) V2 (xo_loadW w.heap.size _ (heap_keep Fv0_1.out B1.out) Tryd.underlying27 rfl (by kernel_rfl) rfl rfl) ?_
  simp only [Act.put, List.setIfInBounds_toArray, List.set_cons_zero, List.set_cons_succ]
  have C0_2 := Lib.hid (bel_step B0.out B1.out)
  refine wpList_call (by kernel_rfl) 12 Tryd.func12 (by kernel_rfl) (by kernel_rfl) _ _ #[.agg #[.string ls, .slice A1 n1 c1, .slice A2 n2 c2, .slice A3 n3 c3, .slice A4 n4 c4, .int .u64 (cnt : Int)]] rfl (by kernel_rfl) ?_
  refine (made10_any ls A1 n1 c1 bs A2 n2 c2 xs A3 n3 c3 is A4 n4 c4 st cnt V2 (HS1.out.keep C0_2.out) (HS2.out.keep C0_2.out) (HS3.out.keep C0_2.out) (HS4.out.keep C0_2.out) hc s HSM.out).mono ?_
  rintro e V3 ⟨lb, v, rfl, hlb, hox, hb⟩
  have B2 := Lib.hid hb
  obtain ⟨A5, c5, rfl, hxb⟩ := hox.xb redX_lt
  have HY := Lib.hid hxb
  clear hb hxb
  refine ⟨_, rfl, ?_⟩
  simp only [Act.put, List.setIfInBounds_toArray, List.set_cons_zero, List.set_cons_succ]
  refine wpList_run (by kernel_rfl) (.tuple #[.agg (trC s cnt), .string lb, .agg #[.string ByteArray.empty, .slice A1 (min n1 200) c1, .slice A5 (min n2 12) c5, .slice A3 (min n3 12) c3, .slice none 0 0, .int .u64 0]]) V3 rfl ?_
  simp only [Act.put, List.setIfInBounds_toArray, List.set_cons_zero, List.set_cons_succ]
  refine wpList_run (by kernel_rfl) (.agg (trC s cnt)) V3 rfl ?_
  simp only [Act.put, List.setIfInBounds_toArray, List.set_cons_zero, List.set_cons_succ]
  refine wpList_run (by kernel_rfl) (.string lb) V3 rfl ?_
  simp only [Act.put, List.setIfInBounds_toArray, List.set_cons_zero, List.set_cons_succ]
  refine wpList_run (by kernel_rfl) (.agg #[.string ByteArray.empty, .slice A1 (min n1 200) c1, .slice A5 (min n2 12) c5, .slice A3 (min n3 12) c3, .slice none 0 0, .int .u64 0]) V3 rfl ?_
  simp only [Act.put, List.setIfInBounds_toArray, List.set_cons_zero, List.set_cons_succ]
  refine wpList_new z33 32 (by kernel_rfl) (exec_allocT V3 rfl) ?_
  intro b4 V4 hge h0 hb
  have C1_3 := Lib.hid (bel_step B1.out B2.out)
  have N4_0 : Hid (w.heap.size ≠ b4) := Lib.hid (xp_lt0 (heap_keep Fv0_1.out C1_3.out) hge)
  have Ge4 : Hid (V3.heap.size ≤ b4) := Lib.hid hge
  have B3 := Lib.hid hb
  have Fv1_4 : Hid (RowT V4 b4 (List.replicate 32 0) 0) := Lib.hid (h0)
  clear hge h0 hb
  simp only [ptr, Act.put, List.setIfInBounds_toArray, List.set_cons_zero, List.set_cons_succ]
  refine wpList_new #[.string ByteArray.empty, .slice none 0 0, .slice none 0 0, .slice none 0 0, .slice none 0 0, .int .u64 0] 27 (by kernel_rfl) (exec_allocN rfl V4) ?_
  intro b6 V5 hge h0 hb
  have C1_4 := Lib.hid (bel_step C1_3.out B3.out)
  have N6_0 : Hid (w.heap.size ≠ b6) := Lib.hid (xp_lt0 (heap_keep Fv0_1.out C1_4.out) hge)
  have N6_1 : Hid (b4 ≠ b6) := Lib.hid (xp_lt0 Fv1_4.out hge)
  have Ge6 : Hid (V4.heap.size ≤ b6) := Lib.hid hge
  have B4 := Lib.hid hb
  have Fv2_6 : Hid (V5.heap[b6]? = some (.cells #[.string ByteArray.empty, .slice none 0 0, .slice none 0 0, .slice none 0 0, .slice none 0 0, .int .u64 0] 27 (0, 0))) := Lib.hid (h0)
  clear hge h0 hb
  simp only [ptr, Act.put, List.setIfInBounds_toArray, List.set_cons_zero, List.set_cons_succ]
  refine wpList_storeW b4 (trC (List.replicate 32 0) 0) (trC s cnt) 32 (by kernel_rfl) (Fv1_4.out.keep B4.out) (exec_storeT b4 (List.replicate 32 0) 0 s cnt List.length_replicate HDs.out.1 (Fv1_4.out.keep B4.out) rfl rfl rfl) ?_
  intro X5_0 h1 hfar hbel hsz
  have YFv2_6 : X5_0.heap[b6]? = some (.cells #[.string ByteArray.empty, .slice none 0 0, .slice none 0 0, .slice none 0 0, .slice none 0 0, .int .u64 0] 27 (0, 0)) := hfar _ _ (Ne.symm N6_1.out) Fv2_6.out
  have Gs1 : Hid (V3.heap.size ≤ b6) := Lib.hid (Nat.le_trans B3.out.size Ge6.out)
  have C3_5 := Lib.hid (bel_step B3.out B4.out)
  have hbr := hbel _ _ Ge4.out C3_5.out
  clear B3
  have B3 := Lib.hid hbr
  clear hbr
  clear Fv2_6
  have Fv2_6 : Hid (X5_0.heap[b6]? = some (.cells #[.string ByteArray.empty, .slice none 0 0, .slice none 0 0, .slice none 0 0, .slice none 0 0, .int .u64 0] 27 (0, 0))) := Lib.hid YFv2_6
  clear YFv2_6
  clear Fv1_4
  have Fv1_4 : Hid (RowT X5_0 b4 s cnt) := Lib.hid (h1)
  clear h1 hfar hbel hsz
  simp only [ptr, Act.put, List.setIfInBounds_toArray, List.set_cons_zero, List.set_cons_succ]
  refine wpList_run (by kernel_rfl) (.string lb) X5_0 rfl ?_
  simp only [Act.put, List.setIfInBounds_toArray, List.set_cons_zero, List.set_cons_succ]
  refine wpList_storeW b6 #[.string ByteArray.empty, .slice none 0 0, .slice none 0 0, .slice none 0 0, .slice none 0 0, .int .u64 0] #[.string ByteArray.empty, .slice A1 (min n1 200) c1, .slice A5 (min n2 12) c5, .slice A3 (min n3 12) c3, .slice none 0 0, .int .u64 0] 27 (by kernel_rfl) Fv2_6.out (xo_storeW b6 #[.string ByteArray.empty, .slice none 0 0, .slice none 0 0, .slice none 0 0, .slice none 0 0, .int .u64 0] #[.string ByteArray.empty, .slice A1 (min n1 200) c1, .slice A5 (min n2 12) c5, .slice A3 (min n3 12) c3, .slice none 0 0, .int .u64 0] Fv2_6.out (by kernel_rfl) rfl (by simp [Value.oneCell']) rfl rfl rfl) ?_
  intro X4_2 h1 hfar hbel hsz
  have YFv1_4 : RowT X4_2 b4 s cnt := hfar _ _ N6_1.out Fv1_4.out
  have hbr := hbel _ _ Gs1.out B3.out
  clear B3
  have B3 := Lib.hid hbr
  clear hbr
  clear Fv1_4
  have Fv1_4 : Hid (RowT X4_2 b4 s cnt) := Lib.hid YFv1_4
  clear YFv1_4
  clear Fv2_6
  have Fv2_6 : Hid (X4_2.heap[b6]? = some (.cells #[.string ByteArray.empty, .slice A1 (min n1 200) c1, .slice A5 (min n2 12) c5, .slice A3 (min n3 12) c3, .slice none 0 0, .int .u64 0] 27 (0, 0))) := Lib.hid (h1)
  clear h1 hfar hbel hsz
  simp only [ptr, Act.put, List.setIfInBounds_toArray, List.set_cons_zero, List.set_cons_succ]
  refine wpList_nil ?_
  go_upto_region 3 with fail
  refine wp_region_lit ?_
  refine wpList_run (by kernel_rfl) (.pointer (some ⟨b4, 0, none⟩)) X4_2 (exec_fT0 b4 rfl rfl X4_2) ?_
  simp only [Act.put, List.setIfInBounds_toArray, List.set_cons_zero, List.set_cons_succ]
  refine wpList_run (by kernel_rfl) (.agg (celB s).toArray) X4_2 (exec_loadTs b4 s cnt HDs.out.1 Fv1_4.out rfl rfl) ?_
  simp only [Act.put, List.setIfInBounds_toArray, List.set_cons_zero, List.set_cons_succ]
  refine wpList_call (by kernel_rfl) 34 Tryd.func34 (by kernel_rfl) (by kernel_rfl) _ _ #[.agg (celB s).toArray] rfl (by kernel_rfl) ?_
  refine (rbytes_any s X4_2 HDs.out.1 HDs.out.2).mono ?_
  rintro e V5 ⟨CJ4_3, fJ4_3, rfl, hs, hb⟩
  have B4 := Lib.hid hb
  have J4_3 := Lib.hid hs
  clear hb hs
  refine ⟨_, rfl, ?_⟩
  simp only [Act.put, List.setIfInBounds_toArray, List.set_cons_zero, List.set_cons_succ]
  refine wpList_run (by kernel_rfl) (.slice CJ4_3 32 fJ4_3) V5 rfl ?_
  simp only [Act.put, List.setIfInBounds_toArray, List.set_cons_zero, List.set_cons_succ]
  refine wpList_nil ?_
  obtain ⟨P1, hP1⟩ : ∃ l, s ++ [1, lb.size] ++ bytS lb = l := ⟨_, rfl⟩
  obtain ⟨P2, hP2⟩ : ∃ l, s ++ [2, lb.size] ++ bytS lb = l := ⟨_, rfl⟩
  have HP1 := Lib.hid hP1
  have HP2 := Lib.hid hP2
  clear hP1 hP2
  obtain ⟨m, hm⟩ : ∃ m, min n1 200 = m := ⟨_, rfl⟩
  have hm200 : m ≤ 200 := by omega
  have hmn : m ≤ n1 := by omega
  have YFv2_6 := Fv2_6.out
  rw [hm] at YFv2_6
  clear Fv2_6
  have Fv2_6 := Lib.hid YFv2_6
  clear YFv2_6
  rw [hm]
  clear hm
  go_upto_region 4 with fail
  refine wp_region_lit ?_
  refine wpList_mk (by kernel_rfl) #[] 5 0 0 (xo_empty (size := 1) Tryd.underlying22 (by kernel_rfl) rfl V5) ?_
  intro g26 V6 hge h0 hb
  have hge2 := Nat.le_trans (Below.refl V5.heap.size V5).size hge
  have B5 := Lib.hid hb
  have Ow26 : Hid (V6.ownsRow V5.heap.size 5 1 (.slice (some ⟨g26, 0, none⟩) 0 0) 0 (celB [])) := Lib.hid (own_new h0 hge2)
  clear hge hge2 h0 hb
  simp only [ptr, Act.put, List.setIfInBounds_toArray, List.set_cons_zero, List.set_cons_succ]
  refine wpList_run (by kernel_rfl) (.slice CJ4_3 32 fJ4_3) V6 rfl ?_
  simp only [Act.put, List.setIfInBounds_toArray, List.set_cons_zero, List.set_cons_succ]
  refine wpList_app2 (size := 1) (by kernel_rfl) (.tmp 26) (.tmp 27) 22 rfl (.int .u8 0) 1 Tryd.underlying22 (by kernel_rfl) rfl (by decide) rfl Ow26.out CJ4_3 32 fJ4_3 (celB s) rfl (J4_3.out.keep B5.out).src (by unfold maxLen; omega) (by omega) B5.out.size ?_
  intro v28 X6_4 ho hb1 hg hloc
  have hox : X6_4.ownsRow V5.heap.size 5 1 v28 32 (celB s) := by simpa [celB] using ho
  have hbr := B5.out.trans hb1
  clear B5
  have B5 := Lib.hid hbr
  clear hbr
  have Ow28 := Lib.hid hox
  clear ho hox hb1 hg hloc
  simp only [ptr, Act.put, List.setIfInBounds_toArray, List.set_cons_zero, List.set_cons_succ]
  refine wpList_run (by kernel_rfl) (v28) X6_4 rfl ?_
  simp only [Act.put, List.setIfInBounds_toArray, List.set_cons_zero, List.set_cons_succ]
  refine wpList_nil ?_
  go_upto_region 5 with fail
  refine wp_region_lit ?_
  refine wpList_run (by kernel_rfl) (v28) X6_4 rfl ?_
  simp only [Act.put, List.setIfInBounds_toArray, List.set_cons_zero, List.set_cons_succ]
  refine wpList_run (by kernel_rfl) (.string lb) X6_4 rfl ?_
  simp only [Act.put, List.setIfInBounds_toArray, List.set_cons_zero, List.set_cons_succ]
  refine wpList_run (by kernel_rfl) (.int .i64 ((lb.size : Nat) : Int)) X6_4 (exec_lenS lb rfl rfl X6_4) ?_
  simp only [Act.put, List.setIfInBounds_toArray, List.set_cons_zero, List.set_cons_succ]
  refine wpList_run (by kernel_rfl) (.int .u8 ((lb.size : Nat) : Int)) X6_4 (exec_cvtL lb.size (by omega) X6_4 rfl rfl) ?_
  simp only [Act.put, List.setIfInBounds_toArray, List.set_cons_zero, List.set_cons_succ]
  refine wpList_mk (by kernel_rfl) #[.int .u8 ((1 : Nat) : Int), .int .u8 ((lb.size : Nat) : Int)] 5 2 2 (run_buildB2 1 lb.size rfl rfl rfl _) ?_
  intro g33 V7 hge h0 hb
  have B6 := Lib.hid hb
  have M33 := Lib.hid (sb_cells2 (by omega) (by omega) h0)
  clear hge h0 hb
  simp only [Act.put, List.setIfInBounds_toArray, List.set_cons_zero, List.set_cons_succ]
  have C5_7 := Lib.hid (bel_step B5.out B6.out)
  refine wpList_app2 (size := 1) (by kernel_rfl) (.tmp 29) (.tmp 33) 22 rfl (.int .u8 0) 1 Tryd.underlying22 (by kernel_rfl) rfl (by decide) rfl (own_keep Ow28.out B6.out) (some ⟨g33, 0, none⟩) 2 2 (celB ([1, lb.size])) rfl M33.out.src (by unfold maxLen; omega) (by omega) C5_7.out.size ?_
  intro v34 X7_5 ho hb1 hg hloc
  have hox : X7_5.ownsRow V5.heap.size 5 1 v34 34 (celB (s ++ [1, lb.size])) := by rw [celB_append]; exact ho
  have hbr := C5_7.out.trans hb1
  clear B5
  have B5 := Lib.hid hbr
  clear hbr
  have Ow34 := Lib.hid hox
  clear ho hox hb1 hg hloc
  simp only [ptr, Act.put, List.setIfInBounds_toArray, List.set_cons_zero, List.set_cons_succ]
  refine wpList_run (by kernel_rfl) (v34) X7_5 rfl ?_
  simp only [Act.put, List.setIfInBounds_toArray, List.set_cons_zero, List.set_cons_succ]
  refine wpList_nil ?_
  go_upto_region 6 with fail
  refine wp_region_lit ?_
  refine wpList_run (by kernel_rfl) (v34) X7_5 rfl ?_
  simp only [Act.put, List.setIfInBounds_toArray, List.set_cons_zero, List.set_cons_succ]
  refine wpList_run (by kernel_rfl) (.string lb) X7_5 rfl ?_
  simp only [Act.put, List.setIfInBounds_toArray, List.set_cons_zero, List.set_cons_succ]
  refine wpList_convS (by kernel_rfl) lb (by omega) rfl rfl ?_
  intro g37 c37 V7 hge h0 hb
  have B6 := Lib.hid hb
  have M37 := Lib.hid h0
  clear hge h0 hb
  simp only [Act.put, List.setIfInBounds_toArray, List.set_cons_zero, List.set_cons_succ]
  have C5_7 := Lib.hid (bel_step B5.out B6.out)
  refine wpList_app2 (size := 1) (by kernel_rfl) (.tmp 35) (.tmp 37) 22 rfl (.int .u8 0) 1 Tryd.underlying22 (by kernel_rfl) rfl (by decide) rfl (own_keep Ow34.out B6.out) (some ⟨g37, 0, none⟩) lb.size c37 (celB (bytS lb)) rfl M37.out.src (by unfold maxLen; omega) (by omega) C5_7.out.size ?_
  intro v38 X7_6 ho hb1 hg hloc
  have hox : X7_6.ownsRow V5.heap.size 5 1 v38 (34 + lb.size) (celB P1) := by rw [← HP1.out, celB_append (s ++ [1, lb.size])]; exact ho
  have hbr := C5_7.out.trans hb1
  clear B5
  have B5 := Lib.hid hbr
  clear hbr
  have Ow38 := Lib.hid hox
  clear ho hox hb1 hg hloc
  simp only [ptr, Act.put, List.setIfInBounds_toArray, List.set_cons_zero, List.set_cons_succ]
  refine wpList_run (by kernel_rfl) (v38) X7_6 rfl ?_
  simp only [Act.put, List.setIfInBounds_toArray, List.set_cons_zero, List.set_cons_succ]
  refine wpList_nil ?_
  go_upto_region 7 with fail
  refine wp_region_lit ?_
  refine wpList_mk (by kernel_rfl) #[] 5 0 0 (xo_empty (size := 1) Tryd.underlying22 (by kernel_rfl) rfl X7_6) ?_
  intro g39 V7 hge h0 hb
  have Ap7 : Hid (ApartV (v38) (.slice (some ⟨g39, 0, none⟩) 0 0)) := Lib.hid (ApartV.new Ow38.out hge)
  have hge2 := Nat.le_trans B5.out.size hge
  have B6 := Lib.hid hb
  have Ow39 : Hid (V7.ownsRow V5.heap.size 5 1 (.slice (some ⟨g39, 0, none⟩) 0 0) 0 (celB [])) := Lib.hid (own_new h0 hge2)
  clear hge hge2 h0 hb
  simp only [ptr, Act.put, List.setIfInBounds_toArray, List.set_cons_zero, List.set_cons_succ]
  refine wpList_run (by kernel_rfl) (.slice CJ4_3 32 fJ4_3) V7 rfl ?_
  simp only [Act.put, List.setIfInBounds_toArray, List.set_cons_zero, List.set_cons_succ]
  have C5_7 := Lib.hid (bel_step B5.out B6.out)
  refine wpList_app2 (size := 1) (by kernel_rfl) (.tmp 39) (.tmp 40) 22 rfl (.int .u8 0) 1 Tryd.underlying22 (by kernel_rfl) rfl (by decide) rfl Ow39.out CJ4_3 32 fJ4_3 (celB s) rfl (J4_3.out.keep C5_7.out).src (by unfold maxLen; omega) (by omega) C5_7.out.size ?_
  intro v41 X7_8 ho hb1 hg hloc
  have hox : X7_8.ownsRow V5.heap.size 5 1 v41 32 (celB s) := by simpa [celB] using ho
  have hzOw38 := own_other (own_keep Ow38.out B6.out) hg Ap7.out.symm
  have hpOw38 := ApartV.grow Ap7.out.symm hloc (own_keep Ow38.out B6.out)
  have hbr := C5_7.out.trans hb1
  clear B5
  have B5 := Lib.hid hbr
  clear hbr
  have Ow41 := Lib.hid hox
  clear Ow38
  have Ow38 := Lib.hid hzOw38
  have Ap9 := Lib.hid hpOw38
  clear hzOw38 hpOw38
  clear ho hox hb1 hg hloc
  simp only [ptr, Act.put, List.setIfInBounds_toArray, List.set_cons_zero, List.set_cons_succ]
  refine wpList_run (by kernel_rfl) (v41) X7_8 rfl ?_
  simp only [Act.put, List.setIfInBounds_toArray, List.set_cons_zero, List.set_cons_succ]
  refine wpList_nil ?_
  go_upto_region 8 with fail
  refine wp_region_lit ?_
  refine wpList_run (by kernel_rfl) (v41) X7_8 rfl ?_
  simp only [Act.put, List.setIfInBounds_toArray, List.set_cons_zero, List.set_cons_succ]
  refine wpList_run (by kernel_rfl) (.string lb) X7_8 rfl ?_
  simp only [Act.put, List.setIfInBounds_toArray, List.set_cons_zero, List.set_cons_succ]
  refine wpList_run (by kernel_rfl) (.int .i64 ((lb.size : Nat) : Int)) X7_8 (exec_lenS lb rfl rfl X7_8) ?_
  simp only [Act.put, List.setIfInBounds_toArray, List.set_cons_zero, List.set_cons_succ]
  refine wpList_run (by kernel_rfl) (.int .u8 ((lb.size : Nat) : Int)) X7_8 (exec_cvtL lb.size (by omega) X7_8 rfl rfl) ?_
  simp only [Act.put, List.setIfInBounds_toArray, List.set_cons_zero, List.set_cons_succ]
  refine wpList_mk (by kernel_rfl) #[.int .u8 ((2 : Nat) : Int), .int .u8 ((lb.size : Nat) : Int)] 5 2 2 (run_buildB2 2 lb.size rfl rfl rfl _) ?_
  intro g46 V7 hge h0 hb
  have B6 := Lib.hid hb
  have M46 := Lib.hid (sb_cells2 (by omega) (by omega) h0)
  clear hge h0 hb
  simp only [Act.put, List.setIfInBounds_toArray, List.set_cons_zero, List.set_cons_succ]
  have C5_7 := Lib.hid (bel_step B5.out B6.out)
  refine wpList_app2 (size := 1) (by kernel_rfl) (.tmp 42) (.tmp 46) 22 rfl (.int .u8 0) 1 Tryd.underlying22 (by kernel_rfl) rfl (by decide) rfl (own_keep Ow41.out B6.out) (some ⟨g46, 0, none⟩) 2 2 (celB ([2, lb.size])) rfl M46.out.src (by unfold maxLen; omega) (by omega) C5_7.out.size ?_
  intro v47 X7_10 ho hb1 hg hloc
  have hox : X7_10.ownsRow V5.heap.size 5 1 v47 34 (celB (s ++ [2, lb.size])) := by rw [celB_append]; exact ho
  have hzOw38 := own_other (own_keep Ow38.out B6.out) hg Ap9.out
  have hpOw38 := ApartV.grow Ap9.out hloc (own_keep Ow38.out B6.out)
  have hbr := C5_7.out.trans hb1
  clear B5
  have B5 := Lib.hid hbr
  clear hbr
  have Ow47 := Lib.hid hox
  clear Ow38
  have Ow38 := Lib.hid hzOw38
  have Ap11 := Lib.hid hpOw38
  clear hzOw38 hpOw38
  clear ho hox hb1 hg hloc
  simp only [ptr, Act.put, List.setIfInBounds_toArray, List.set_cons_zero, List.set_cons_succ]
  refine wpList_run (by kernel_rfl) (v47) X7_10 rfl ?_
  simp only [Act.put, List.setIfInBounds_toArray, List.set_cons_zero, List.set_cons_succ]
  refine wpList_nil ?_
  go_upto_region 9 with fail
  refine wp_region_lit ?_
  refine wpList_run (by kernel_rfl) (v47) X7_10 rfl ?_
  simp only [Act.put, List.setIfInBounds_toArray, List.set_cons_zero, List.set_cons_succ]
  refine wpList_run (by kernel_rfl) (.string lb) X7_10 rfl ?_
  simp only [Act.put, List.setIfInBounds_toArray, List.set_cons_zero, List.set_cons_succ]
  refine wpList_convS (by kernel_rfl) lb (by omega) rfl rfl ?_
  intro g50 c50 V7 hge h0 hb
  have B6 := Lib.hid hb
  have M50 := Lib.hid h0
  clear hge h0 hb
  simp only [Act.put, List.setIfInBounds_toArray, List.set_cons_zero, List.set_cons_succ]
  have C5_7 := Lib.hid (bel_step B5.out B6.out)
  refine wpList_app2 (size := 1) (by kernel_rfl) (.tmp 48) (.tmp 50) 22 rfl (.int .u8 0) 1 Tryd.underlying22 (by kernel_rfl) rfl (by decide) rfl (own_keep Ow47.out B6.out) (some ⟨g50, 0, none⟩) lb.size c50 (celB (bytS lb)) rfl M50.out.src (by unfold maxLen; omega) (by omega) C5_7.out.size ?_
  intro v51 X7_12 ho hb1 hg hloc
  have hox : X7_12.ownsRow V5.heap.size 5 1 v51 (34 + lb.size) (celB P2) := by rw [← HP2.out, celB_append (s ++ [2, lb.size])]; exact ho
  have hzOw38 := own_other (own_keep Ow38.out B6.out) hg Ap11.out
  have hpOw38 := ApartV.grow Ap11.out hloc (own_keep Ow38.out B6.out)
  have hbr := C5_7.out.trans hb1
  clear B5
  have B5 := Lib.hid hbr
  clear hbr
  have Ow51 := Lib.hid hox
  clear Ow38
  have Ow38 := Lib.hid hzOw38
  have Ap13 := Lib.hid hpOw38
  clear hzOw38 hpOw38
  clear ho hox hb1 hg hloc
  simp only [ptr, Act.put, List.setIfInBounds_toArray, List.set_cons_zero, List.set_cons_succ]
  refine wpList_run (by kernel_rfl) (v51) X7_12 rfl ?_
  simp only [Act.put, List.setIfInBounds_toArray, List.set_cons_zero, List.set_cons_succ]
  refine wpList_nil ?_
  have O8 := Ow38.out
  have O9 := Ow51.out
  have OA : ApartV v38 v51 := Ap13.out.symm
  have BB := B5.out
  have C0_3 := Lib.hid (bel_step C0_2.out B2.out)
  have C0_4 := Lib.hid (bel_step C0_3.out B3.out)
  have C0_5 := Lib.hid (bel_step C0_4.out B4.out)
  have ZB := C0_5.out
  go_wp2_with fail
  go_loopw [8, 9, 10] (fun x y p wr => ∃ i : Nat, i ≤ 8 ∧ p = .int .i64 i ∧ wr.ownsRow V5.heap.size 5 1 x (34 + lb.size + i) (celB (P1 ++ leK m i)) ∧ wr.ownsRow V5.heap.size 5 1 y (34 + lb.size + i) (celB (P2 ++ leK cnt i)) ∧ ApartV x y ∧ Below V5.heap.size V5 wr) (fun _ _ p _ => 8 - (intOf p).toNat)
  case atStart => exact ⟨0, by omega, rfl, by simpa [leK] using O8, by simpa [leK] using O9, OA, BB⟩
  case round =>
    clear O8 O9 OA BB
    obtain ⟨wo, rfl⟩ : ∃ wo : World, wo = wr := ⟨_, rfl⟩
    obtain ⟨i, hi, rfl, ho8, ho9, hap, hb⟩ := hrel
    have hbr := hb
    clear B5
    have B5 := Lib.hid hbr
    clear hbr
    have OW8 := Lib.hid ho8
    have OW9 := Lib.hid ho9
    have AP := Lib.hid hap
    clear hb ho8 ho9 hap
    by_cases hlt : i < 8
    · have hk1 : (i : Int) < 8 := by omega
      have hk0 : (0 : Int) ≤ (i : Int) := by omega
      go_upto_region 13 with fail
      refine wp_region_lit ?_
      refine wpList_run (by kernel_rfl) (u8) wo rfl ?_
      simp only [Act.put, List.setIfInBounds_toArray, List.set_cons_zero, List.set_cons_succ]
      refine wpList_run (by kernel_rfl) (.pointer (some ⟨b6, 1, none⟩)) wo (xo_fld0 1 b6 1 (by kernel_rfl) rfl rfl) ?_
      simp only [Act.put, List.setIfInBounds_toArray, List.set_cons_zero, List.set_cons_succ]
      have C4_6 := Lib.hid (bel_step B4.out B5.out)
      refine wpList_run (by kernel_rfl) (.slice A1 m c1) wo (xo_load1 ⟨b6, 1, none⟩ _ (cells_at (heap_keep Fv2_6.out C4_6.out) 1 rfl) Tryd.underlying22 rfl rfl rfl) ?_
      simp only [Act.put, List.setIfInBounds_toArray, List.set_cons_zero, List.set_cons_succ]
      refine wpList_run (by kernel_rfl) (.int .i64 (m : Int)) wo (xo_len A1 m c1 Tryd.underlying22 rfl rfl) ?_
      simp only [Act.put, List.setIfInBounds_toArray, List.set_cons_zero, List.set_cons_succ]
      refine wpList_run (by kernel_rfl) (.int .u64 (m : Int)) wo (xo_cvt .i64 .u64 (m : Int) (m : Int) (wrapU (by omega) (by omega)) Tryd.underlying25 Tryd.underlying3 rfl rfl) ?_
      simp only [Act.put, List.setIfInBounds_toArray, List.set_cons_zero, List.set_cons_succ]
      refine wpList_run (by kernel_rfl) (.int .i64 (i : Int)) wo rfl ?_
      simp only [Act.put, List.setIfInBounds_toArray, List.set_cons_zero, List.set_cons_succ]
      refine wpList_run (by kernel_rfl) (.int .i64 ((8 * i : Nat) : Int)) wo (xo_mulI 8 (i : Int) ((8 * i : Nat) : Int) (by omega) (by omega) (by omega) rfl rfl rfl) ?_
      simp only [Act.put, List.setIfInBounds_toArray, List.set_cons_zero, List.set_cons_succ]
      refine wpList_run (by kernel_rfl) (.int .u64 ((m / 2 ^ (8 * i) : Nat) : Int)) wo (xo_shrN .u64 .i64 m (8 * i) (m / 2 ^ (8 * i)) (by show 8 * i < 64; omega) rfl rfl rfl rfl) ?_
      simp only [Act.put, List.setIfInBounds_toArray, List.set_cons_zero, List.set_cons_succ]
      refine wpList_run (by kernel_rfl) (.int .u8 ((((m / 2 ^ (8 * i)) % 256) : Nat) : Int)) wo (xo_cvt .u64 .u8 ((m / 2 ^ (8 * i) : Nat) : Int) (((m / 2 ^ (8 * i)) % 256 : Nat) : Int) (by rw [IntKind.wrap_u8]; omega) Tryd.underlying5 Tryd.underlying25 rfl rfl) ?_
      simp only [Act.put, List.setIfInBounds_toArray, List.set_cons_zero, List.set_cons_succ]
      refine wpList_mk (by kernel_rfl) #[.int .u8 ((((m / 2 ^ (8 * i)) % 256) : Nat) : Int)] 5 1 1 (run_buildB1 ((m / 2 ^ (8 * i)) % 256) rfl rfl _) ?_
      intro g65 V7 hge h0 hb
      have B6 := Lib.hid hb
      have M65 := Lib.hid (sb_cells1 (by omega) h0)
      clear hge h0 hb
      simp only [Act.put, List.setIfInBounds_toArray, List.set_cons_zero, List.set_cons_succ]
      have C5_7 := Lib.hid (bel_step B5.out B6.out)
      refine wpList_app2 (size := 1) (by kernel_rfl) (.tmp 56) (.tmp 65) 22 rfl (.int .u8 0) 1 Tryd.underlying22 (by kernel_rfl) rfl (by decide) rfl (own_keep OW8.out B6.out) (some ⟨g65, 0, none⟩) 1 1 (celB ([((m / 2 ^ (8 * i)) % 256)])) rfl M65.out.src (by unfold maxLen; omega) (by omega) C5_7.out.size ?_
      intro v66 X7_14 ho hb1 hg hloc
      have hox : X7_14.ownsRow V5.heap.size 5 1 v66 (34 + lb.size + (i + 1)) (celB (P1 ++ leK m (i + 1))) := by rw [leK_succ, ← List.append_assoc, celB_append (P1 ++ leK m i)]; exact ho
      have hzOW9 := own_other (own_keep OW9.out B6.out) hg AP.out
      have hpOW9 := ApartV.grow AP.out hloc (own_keep OW9.out B6.out)
      have hbr := C5_7.out.trans hb1
      clear B5
      have B5 := Lib.hid hbr
      clear hbr
      have Ow66 := Lib.hid hox
      clear OW9
      have OW9 := Lib.hid hzOW9
      have Ap15 := Lib.hid hpOW9
      clear hzOW9 hpOW9
      clear ho hox hb1 hg hloc
      simp only [ptr, Act.put, List.setIfInBounds_toArray, List.set_cons_zero, List.set_cons_succ]
      refine wpList_run (by kernel_rfl) (v66) X7_14 rfl ?_
      simp only [Act.put, List.setIfInBounds_toArray, List.set_cons_zero, List.set_cons_succ]
      refine wpList_nil ?_
      go_upto_region 14 with fail
      refine wp_region_lit ?_
      refine wpList_run (by kernel_rfl) (u9) X7_14 rfl ?_
      simp only [Act.put, List.setIfInBounds_toArray, List.set_cons_zero, List.set_cons_succ]
      refine wpList_run (by kernel_rfl) (.pointer (some ⟨b4, 32, none⟩)) X7_14 (exec_fT1 b4 rfl rfl X7_14) ?_
      simp only [Act.put, List.setIfInBounds_toArray, List.set_cons_zero, List.set_cons_succ]
      have C4_6 := Lib.hid (bel_step B4.out B5.out)
      refine wpList_run (by kernel_rfl) (.int .u64 ((cnt : Nat) : Int)) X7_14 (exec_loadU ⟨b4, 32, none⟩ _ ((Fv1_4.out.keep C4_6.out).count HDs.out.1) rfl rfl) ?_
      simp only [Act.put, List.setIfInBounds_toArray, List.set_cons_zero, List.set_cons_succ]
      refine wpList_run (by kernel_rfl) (.int .i64 (i : Int)) X7_14 rfl ?_
      simp only [Act.put, List.setIfInBounds_toArray, List.set_cons_zero, List.set_cons_succ]
      refine wpList_run (by kernel_rfl) (.int .i64 ((8 * i : Nat) : Int)) X7_14 (xo_mulI 8 (i : Int) ((8 * i : Nat) : Int) (by omega) (by omega) (by omega) rfl rfl rfl) ?_
      simp only [Act.put, List.setIfInBounds_toArray, List.set_cons_zero, List.set_cons_succ]
      refine wpList_run (by kernel_rfl) (.int .u64 ((cnt / 2 ^ (8 * i) : Nat) : Int)) X7_14 (xo_shrN .u64 .i64 cnt (8 * i) (cnt / 2 ^ (8 * i)) (by show 8 * i < 64; omega) rfl rfl rfl rfl) ?_
      simp only [Act.put, List.setIfInBounds_toArray, List.set_cons_zero, List.set_cons_succ]
      refine wpList_run (by kernel_rfl) (.int .u8 ((((cnt / 2 ^ (8 * i)) % 256) : Nat) : Int)) X7_14 (xo_cvt .u64 .u8 ((cnt / 2 ^ (8 * i) : Nat) : Int) (((cnt / 2 ^ (8 * i)) % 256 : Nat) : Int) (by rw [IntKind.wrap_u8]; omega) Tryd.underlying5 Tryd.underlying25 rfl rfl) ?_
      simp only [Act.put, List.setIfInBounds_toArray, List.set_cons_zero, List.set_cons_succ]
      refine wpList_mk (by kernel_rfl) #[.int .u8 ((((cnt / 2 ^ (8 * i)) % 256) : Nat) : Int)] 5 1 1 (run_buildB1 ((cnt / 2 ^ (8 * i)) % 256) rfl rfl _) ?_
      intro g74 V7 hge h0 hb
      have B6 := Lib.hid hb
      have M74 := Lib.hid (sb_cells1 (by omega) h0)
      clear hge h0 hb
      simp only [Act.put, List.setIfInBounds_toArray, List.set_cons_zero, List.set_cons_succ]
      have C5_7 := Lib.hid (bel_step B5.out B6.out)
      refine wpList_app2 (size := 1) (by kernel_rfl) (.tmp 67) (.tmp 74) 22 rfl (.int .u8 0) 1 Tryd.underlying22 (by kernel_rfl) rfl (by decide) rfl (own_keep OW9.out B6.out) (some ⟨g74, 0, none⟩) 1 1 (celB ([((cnt / 2 ^ (8 * i)) % 256)])) rfl M74.out.src (by unfold maxLen; omega) (by omega) C5_7.out.size ?_
      intro v75 X7_16 ho hb1 hg hloc
      have hox : X7_16.ownsRow V5.heap.size 5 1 v75 (34 + lb.size + (i + 1)) (celB (P2 ++ leK cnt (i + 1))) := by rw [leK_succ, ← List.append_assoc, celB_append (P2 ++ leK cnt i)]; exact ho
      have hzOw66 := own_other (own_keep Ow66.out B6.out) hg Ap15.out.symm
      have hpOw66 := ApartV.grow Ap15.out.symm hloc (own_keep Ow66.out B6.out)
      have hbr := C5_7.out.trans hb1
      clear B5
      have B5 := Lib.hid hbr
      clear hbr
      have Ow75 := Lib.hid hox
      clear Ow66
      have Ow66 := Lib.hid hzOw66
      have Ap17 := Lib.hid hpOw66
      clear hzOw66 hpOw66
      clear ho hox hb1 hg hloc
      simp only [ptr, Act.put, List.setIfInBounds_toArray, List.set_cons_zero, List.set_cons_succ]
      refine wpList_run (by kernel_rfl) (v75) X7_16 rfl ?_
      simp only [Act.put, List.setIfInBounds_toArray, List.set_cons_zero, List.set_cons_succ]
      refine wpList_nil ?_
      have q8 := Ow66.out
      have q9 := Ow75.out
      have qa : ApartV v66 v75 := Ap17.out.symm
      go_wp2_with fail
      go_roundw
      case rel => exact ⟨i + 1, by omega, by go_num, q8, q9, qa, B5.out⟩
      case measure => simp [intOf]; omega
    · obtain rfl : i = 8 := by omega
      have hk1 : ¬ (((8 : Nat) : Int) < 8) := by omega
      go_upto_region 15 with fail
      refine wp_region_lit ?_
      refine wpList_run (by kernel_rfl) (u8) wo rfl ?_
      simp only [Act.put, List.setIfInBounds_toArray, List.set_cons_zero, List.set_cons_succ]
      refine wpList_run (by kernel_rfl) (.pointer (some ⟨b6, 1, none⟩)) wo (xo_fld0 1 b6 1 (by kernel_rfl) rfl rfl) ?_
      simp only [Act.put, List.setIfInBounds_toArray, List.set_cons_zero, List.set_cons_succ]
      have C4_6 := Lib.hid (bel_step B4.out B5.out)
      refine wpList_run (by kernel_rfl) (.slice A1 m c1) wo (xo_load1 ⟨b6, 1, none⟩ _ (cells_at (heap_keep Fv2_6.out C4_6.out) 1 rfl) Tryd.underlying22 rfl rfl rfl) ?_
      simp only [Act.put, List.setIfInBounds_toArray, List.set_cons_zero, List.set_cons_succ]
      have C0_6 := Lib.hid (bel_step C0_5.out B5.out)
      refine wpList_app2 (size := 1) (by kernel_rfl) (.tmp 76) (.tmp 78) 22 rfl (.int .u8 0) 1 Tryd.underlying22 (by kernel_rfl) rfl (by decide) rfl OW8.out A1 m c1 (celB (bs.take m)) rfl ((HS1.out.keep C0_6.out).take (k := m) (by omega)).src (by unfold maxLen; omega) (by omega) B5.out.size ?_
      intro v79 X6_14 ho hb1 hg hloc
      have hox : X6_14.ownsRow V5.heap.size 5 1 v79 (34 + lb.size + 8 + m) (celB (P1 ++ leK m 8 ++ bs.take m)) := by rw [celB_append (P1 ++ leK m 8)]; exact ho
      have hzOW9 := own_other OW9.out hg AP.out
      have hpOW9 := ApartV.grow AP.out hloc OW9.out
      have hbr := B5.out.trans hb1
      clear B5
      have B5 := Lib.hid hbr
      clear hbr
      have Ow79 := Lib.hid hox
      clear OW9
      have OW9 := Lib.hid hzOW9
      have Ap15 := Lib.hid hpOW9
      clear hzOW9 hpOW9
      clear ho hox hb1 hg hloc
      simp only [ptr, Act.put, List.setIfInBounds_toArray, List.set_cons_zero, List.set_cons_succ]
      refine wpList_run (by kernel_rfl) (v79) X6_14 rfl ?_
      simp only [Act.put, List.setIfInBounds_toArray, List.set_cons_zero, List.set_cons_succ]
      refine wpList_nil ?_
      have hsb : ∀ x ∈ P1 ++ leK m 8 ++ bs.take m, x < 256 := by
        intro x hx
        rw [← HP1.out] at hx
        simp only [List.mem_append] at hx
        rcases hx with (((h | h) | h) | h) | h
        · exact HDs.out.2 x h
        · simp at h; omega
        · exact bytS_lt _ x h
        · exact leK_lt _ _ x h
        · exact HS1.out.byte x (List.mem_of_mem_take h)
      have hsb2 : ∀ x ∈ P2 ++ leK cnt 8, x < 256 := by
        intro x hx
        rw [← HP2.out] at hx
        simp only [List.mem_append] at hx
        rcases hx with ((h | h) | h) | h
        · exact HDs.out.2 x h
        · simp at h; omega
        · exact bytS_lt _ x h
        · exact leK_lt _ _ x h
      obtain ⟨C8, f8, hv8, hs8⟩ := own_sb Ow79.out hsb
      obtain ⟨C9, f9, hv9, hs9⟩ := own_sb OW9.out hsb2
      subst hv8 hv9
      have SB8 := Lib.hid hs8
      have SB9 := Lib.hid hs9
      clear hs8 hs9 hsb hsb2
      obtain ⟨c2, hc2⟩ : ∃ c, (cnt + 1) % 18446744073709551616 = c := ⟨_, rfl⟩
      obtain ⟨Dz, hDz⟩ : ∃ D, outT s 2 lb cnt = D := ⟨_, rfl⟩
      have HDz := Lib.hid hDz
      clear hDz
      obtain ⟨xz, hxz⟩ : ∃ z, leV Dz 0 % 18446744069414584321 = z := ⟨_, rfl⟩
      have Hxz := Lib.hid hxz
      have hlxz : xz < 18446744069414584321 := by rw [← hxz]; exact Nat.mod_lt _ (by decide)
      clear hxz
      obtain ⟨yz, hyz⟩ : ∃ z, leV Dz 8 % 18446744069414584321 = z := ⟨_, rfl⟩
      have Hyz := Lib.hid hyz
      have hlyz : yz < 18446744069414584321 := by rw [← hyz]; exact Nat.mod_lt _ (by decide)
      clear hyz
      have HDz2 := Lib.hid (show shaN (P2 ++ leK cnt 8) = Dz by rw [← HDz.out, ← HP2.out]; unfold outT leN; simp only [List.append_assoc])
      have DgDz := Lib.hid (show Dz.length = 32 ∧ ∀ x ∈ Dz, x < 256 by rw [← HDz.out]; exact ⟨outT_length _ _ _ _, outT_lt _ _ _ _⟩)
      obtain ⟨DA, hDA⟩ : ∃ D, shaN (s ++ ([1, lb.size] ++ (bytS lb ++ (leN m ++ bs.take m)))) = D := ⟨_, rfl⟩
      have DgDA := Lib.hid (show DA.length = 32 ∧ ∀ x ∈ DA, x < 256 by rw [← hDA]; exact ⟨shaN_length _, shaN_lt _⟩)
      have EDA := Lib.hid hDA
      clear hDA
      have EDA2 := Lib.hid (show shaN (P1 ++ leK m 8 ++ bs.take m) = DA by rw [← EDA.out, ← HP1.out]; unfold leN; simp only [List.append_assoc])
      obtain ⟨DN, hDN⟩ : ∃ D, shaN ([97, 116, 116, 101, 115, 116, 111, 114, 0] ++ bytS lb) = D := ⟨_, rfl⟩
      have DgDN := Lib.hid (show DN.length = 32 ∧ ∀ x ∈ DN, x < 256 by rw [← hDN]; exact ⟨shaN_length _, shaN_lt _⟩)
      have EDN := Lib.hid hDN
      clear hDN
      go_upto_region 16 with fail
      refine wp_region_lit ?_
      refine wpList_run (by kernel_rfl) (.slice C9 (34 + lb.size + 8) f9) X6_14 rfl ?_
      simp only [Act.put, List.setIfInBounds_toArray, List.set_cons_zero, List.set_cons_succ]
      refine wpList_call (by kernel_rfl) 35 Tryd.func35 (by kernel_rfl) (by kernel_rfl) _ _ #[.slice C9 (34 + lb.size + 8) f9] rfl (by kernel_rfl) ?_
      refine (rsum_any C9 (34 + lb.size + 8) f9 (P2 ++ leK cnt 8) X6_14 SB9.out (by omega) Dz HDz2.out).mono ?_
      rintro e V7 ⟨rfl, hb⟩
      have B6 := Lib.hid hb
      clear hb 
      refine ⟨_, rfl, ?_⟩
      simp only [Act.put, List.setIfInBounds_toArray, List.set_cons_zero, List.set_cons_succ]
      refine wpList_call (by kernel_rfl) 34 Tryd.func34 (by kernel_rfl) (by kernel_rfl) _ _ #[.agg (celB Dz).toArray] rfl (by kernel_rfl) ?_
      refine (rbytes_any Dz V7 DgDz.out.1 DgDz.out.2).mono ?_
      rintro e V8 ⟨CJ7_16, fJ7_16, rfl, hs, hb⟩
      have B7 := Lib.hid hb
      have J7_16 := Lib.hid hs
      clear hb hs
      refine ⟨_, rfl, ?_⟩
      simp only [Act.put, List.setIfInBounds_toArray, List.set_cons_zero, List.set_cons_succ]
      refine wpList_run (by kernel_rfl) (.slice CJ7_16 32 fJ7_16) V8 rfl ?_
      simp only [Act.put, List.setIfInBounds_toArray, List.set_cons_zero, List.set_cons_succ]
      refine wpList_nil ?_
      go_upto_region 17 with fail
      refine wp_region_lit ?_
      have C4_6 := Lib.hid (bel_step B4.out B5.out)
      have C4_7 := Lib.hid (bel_step C4_6.out B6.out)
      have C4_8 := Lib.hid (bel_step C4_7.out B7.out)
      refine wpList_run (by kernel_rfl) (.agg (trC s cnt)) V8 (exec_loadT b4 s cnt HDs.out.1 (Fv1_4.out.keep C4_8.out) rfl rfl) ?_
      simp only [Act.put, List.setIfInBounds_toArray, List.set_cons_zero, List.set_cons_succ]
      refine wpList_run (by kernel_rfl) (.string lb) V8 rfl ?_
      simp only [Act.put, List.setIfInBounds_toArray, List.set_cons_zero, List.set_cons_succ]
      have C0_6 := Lib.hid (bel_step C0_5.out B5.out)
      have C0_7 := Lib.hid (bel_step C0_6.out B6.out)
      have C0_8 := Lib.hid (bel_step C0_7.out B7.out)
      refine wpList_call (by kernel_rfl) 13 Tryd.func13 (by kernel_rfl) (by kernel_rfl) _ _ #[.agg (trC s cnt), .string lb] rfl (by kernel_rfl) ?_
      refine (challenge_any s lb cnt V8 HDs.out.1 HDs.out.2 (by omega) (by omega) (HG.out.keep C0_8.out) Dz HDz.out c2 (by omega) xz yz Hxz.out Hyz.out).mono ?_
      rintro e V9 ⟨rfl, hb⟩
      have B8 := Lib.hid hb
      clear hb 
      refine ⟨_, rfl, ?_⟩
      simp only [Act.put, List.setIfInBounds_toArray, List.set_cons_zero, List.set_cons_succ]
      refine wpList_run (by kernel_rfl) (.tuple #[.agg (trC s c2), .agg #[.int .u64 (xz : Int), .int .u64 (yz : Int)]]) V9 rfl ?_
      simp only [Act.put, List.setIfInBounds_toArray, List.set_cons_zero, List.set_cons_succ]
      refine wpList_run (by kernel_rfl) (.agg (trC s c2)) V9 rfl ?_
      simp only [Act.put, List.setIfInBounds_toArray, List.set_cons_zero, List.set_cons_succ]
      refine wpList_run (by kernel_rfl) (.agg #[.int .u64 (xz : Int), .int .u64 (yz : Int)]) V9 rfl ?_
      simp only [Act.put, List.setIfInBounds_toArray, List.set_cons_zero, List.set_cons_succ]
      refine wpList_new z33 32 (by kernel_rfl) (exec_allocT V9 rfl) ?_
      intro b12 V10 hge h0 hb
      have C1_4 := Lib.hid (bel_step C1_3.out B3.out)
      have C1_5 := Lib.hid (bel_step C1_4.out B4.out)
      have C1_6 := Lib.hid (bel_step C1_5.out B5.out)
      have C1_7 := Lib.hid (bel_step C1_6.out B6.out)
      have C1_8 := Lib.hid (bel_step C1_7.out B7.out)
      have C1_9 := Lib.hid (bel_step C1_8.out B8.out)
      have N12_0 : Hid (w.heap.size ≠ b12) := Lib.hid (xp_lt0 (heap_keep Fv0_1.out C1_9.out) hge)
      have C4_9 := Lib.hid (bel_step C4_8.out B8.out)
      have N12_1 : Hid (b4 ≠ b12) := Lib.hid (xp_lt0 (Fv1_4.out.keep C4_9.out) hge)
      have N12_2 : Hid (b6 ≠ b12) := Lib.hid (xp_lt0 (heap_keep Fv2_6.out C4_9.out) hge)
      have Ge12 : Hid (V9.heap.size ≤ b12) := Lib.hid hge
      have B9 := Lib.hid hb
      have Fv3_12 : Hid (RowT V10 b12 (List.replicate 32 0) 0) := Lib.hid (h0)
      clear hge h0 hb
      simp only [ptr, Act.put, List.setIfInBounds_toArray, List.set_cons_zero, List.set_cons_succ]
      refine wpList_new #[.int .u64 0, .int .u64 0] 36 (by kernel_rfl) (exec_allocE V10 rfl) ?_
      intro b13 V11 hge h0 hb
      have C1_10 := Lib.hid (bel_step C1_9.out B9.out)
      have N13_0 : Hid (w.heap.size ≠ b13) := Lib.hid (xp_lt0 (heap_keep Fv0_1.out C1_10.out) hge)
      have C4_10 := Lib.hid (bel_step C4_9.out B9.out)
      have N13_1 : Hid (b4 ≠ b13) := Lib.hid (xp_lt0 (Fv1_4.out.keep C4_10.out) hge)
      have N13_2 : Hid (b6 ≠ b13) := Lib.hid (xp_lt0 (heap_keep Fv2_6.out C4_10.out) hge)
      have N13_3 : Hid (b12 ≠ b13) := Lib.hid (xp_lt0 Fv3_12.out hge)
      have Ge13 : Hid (V10.heap.size ≤ b13) := Lib.hid hge
      have B10 := Lib.hid hb
      have Fv4_13 : Hid (V11.heap[b13]? = some (.cells #[.int .u64 0, .int .u64 0] 36 (0, 0))) := Lib.hid (h0)
      clear hge h0 hb
      simp only [ptr, Act.put, List.setIfInBounds_toArray, List.set_cons_zero, List.set_cons_succ]
      refine wpList_storeW b12 (trC (List.replicate 32 0) 0) (trC s c2) 32 (by kernel_rfl) (Fv3_12.out.keep B10.out) (exec_storeT b12 (List.replicate 32 0) 0 s c2 List.length_replicate HDs.out.1 (Fv3_12.out.keep B10.out) rfl rfl rfl) ?_
      intro X11_17 h1 hfar hbel hsz
      have YFv4_13 : X11_17.heap[b13]? = some (.cells #[.int .u64 0, .int .u64 0] 36 (0, 0)) := hfar _ _ (Ne.symm N13_3.out) Fv4_13.out
      have Gs18 : Hid (V9.heap.size ≤ b13) := Lib.hid (Nat.le_trans B9.out.size Ge13.out)
      have C9_11 := Lib.hid (bel_step B9.out B10.out)
      have hbr := hbel _ _ Ge12.out C9_11.out
      clear B9
      have B9 := Lib.hid hbr
      clear hbr
      clear Fv4_13
      have Fv4_13 : Hid (X11_17.heap[b13]? = some (.cells #[.int .u64 0, .int .u64 0] 36 (0, 0))) := Lib.hid YFv4_13
      clear YFv4_13
      clear Fv3_12
      have Fv3_12 : Hid (RowT X11_17 b12 s c2) := Lib.hid (h1)
      clear h1 hfar hbel hsz
      simp only [ptr, Act.put, List.setIfInBounds_toArray, List.set_cons_zero, List.set_cons_succ]
      refine wpList_storeW b13 #[.int .u64 0, .int .u64 0] #[.int .u64 (xz : Int), .int .u64 (yz : Int)] 36 (by kernel_rfl) Fv4_13.out (xo_storeW b13 #[.int .u64 0, .int .u64 0] #[.int .u64 (xz : Int), .int .u64 (yz : Int)] Fv4_13.out (by kernel_rfl) rfl (by simp [Value.oneCell']) rfl rfl rfl) ?_
      intro X10_19 h1 hfar hbel hsz
      have YFv3_12 : RowT X10_19 b12 s c2 := hfar _ _ N13_3.out Fv3_12.out
      have hbr := hbel _ _ Gs18.out B9.out
      clear B9
      have B9 := Lib.hid hbr
      clear hbr
      clear Fv3_12
      have Fv3_12 : Hid (RowT X10_19 b12 s c2) := Lib.hid YFv3_12
      clear YFv3_12
      clear Fv4_13
      have Fv4_13 : Hid (X10_19.heap[b13]? = some (.cells #[.int .u64 (xz : Int), .int .u64 (yz : Int)] 36 (0, 0))) := Lib.hid (h1)
      clear h1 hfar hbel hsz
      simp only [ptr, Act.put, List.setIfInBounds_toArray, List.set_cons_zero, List.set_cons_succ]
      refine wpList_nil ?_
      go_upto_region 18 with fail
      refine wp_region_lit ?_
      have C4_10 := Lib.hid (bel_step C4_9.out B9.out)
      refine wpList_run (by kernel_rfl) (.agg (trC s cnt)) X10_19 (exec_loadT b4 s cnt HDs.out.1 (Fv1_4.out.keep C4_10.out) rfl rfl) ?_
      simp only [Act.put, List.setIfInBounds_toArray, List.set_cons_zero, List.set_cons_succ]
      refine wpList_run (by kernel_rfl) (.string lb) X10_19 rfl ?_
      simp only [Act.put, List.setIfInBounds_toArray, List.set_cons_zero, List.set_cons_succ]
      refine wpList_run (by kernel_rfl) (.pointer (some ⟨b6, 1, none⟩)) X10_19 (xo_fld0 1 b6 1 (by kernel_rfl) rfl rfl) ?_
      simp only [Act.put, List.setIfInBounds_toArray, List.set_cons_zero, List.set_cons_succ]
      refine wpList_run (by kernel_rfl) (.slice A1 m c1) X10_19 (xo_load1 ⟨b6, 1, none⟩ _ (cells_at (heap_keep Fv2_6.out C4_10.out) 1 rfl) Tryd.underlying22 rfl rfl rfl) ?_
      simp only [Act.put, List.setIfInBounds_toArray, List.set_cons_zero, List.set_cons_succ]
      have C0_9 := Lib.hid (bel_step C0_8.out B8.out)
      have C0_10 := Lib.hid (bel_step C0_9.out B9.out)
      refine wpList_call (by kernel_rfl) 17 Tryd.func17 (by kernel_rfl) (by kernel_rfl) _ _ #[.agg (trC s cnt), .string lb, .slice A1 m c1] rfl (by kernel_rfl) ?_
      refine (absorb_any s cnt lb A1 m c1 (bs.take m) X10_19 HDs.out.1 HDs.out.2 (by omega) ((HS1.out.keep C0_10.out).take (k := m) (by omega)) (by omega) (HG.out.keep C0_10.out) DA EDA.out).mono ?_
      rintro e V11 ⟨rfl, hb⟩
      have B10 := Lib.hid hb
      clear hb 
      refine ⟨_, rfl, ?_⟩
      simp only [Act.put, List.setIfInBounds_toArray, List.set_cons_zero, List.set_cons_succ]
      refine wpList_new z33 32 (by kernel_rfl) (exec_allocT V11 rfl) ?_
      intro b14 V12 hge h0 hb
      have C1_10 := Lib.hid (bel_step C1_9.out B9.out)
      have C1_11 := Lib.hid (bel_step C1_10.out B10.out)
      have N14_0 : Hid (w.heap.size ≠ b14) := Lib.hid (xp_lt0 (heap_keep Fv0_1.out C1_11.out) hge)
      have C4_11 := Lib.hid (bel_step C4_10.out B10.out)
      have N14_1 : Hid (b4 ≠ b14) := Lib.hid (xp_lt0 (Fv1_4.out.keep C4_11.out) hge)
      have N14_2 : Hid (b6 ≠ b14) := Lib.hid (xp_lt0 (heap_keep Fv2_6.out C4_11.out) hge)
      have N14_3 : Hid (b12 ≠ b14) := Lib.hid (xp_lt0 (Fv3_12.out.keep B10.out) hge)
      have N14_4 : Hid (b13 ≠ b14) := Lib.hid (xp_lt0 (heap_keep Fv4_13.out B10.out) hge)
      have Ge14 : Hid (V11.heap.size ≤ b14) := Lib.hid hge
      have B11 := Lib.hid hb
      have Fv5_14 : Hid (RowT V12 b14 (List.replicate 32 0) 0) := Lib.hid (h0)
      clear hge h0 hb
      simp only [ptr, Act.put, List.setIfInBounds_toArray, List.set_cons_zero, List.set_cons_succ]
      refine wpList_storeW b14 (trC (List.replicate 32 0) 0) (trC DA 0) 32 (by kernel_rfl) Fv5_14.out (exec_storeT b14 (List.replicate 32 0) 0 DA 0 List.length_replicate DgDA.out.1 Fv5_14.out rfl rfl rfl) ?_
      intro X12_20 h1 hfar hbel hsz
      have hbr := hbel _ _ Ge14.out B11.out
      clear B11
      have B11 := Lib.hid hbr
      clear hbr
      clear Fv5_14
      have Fv5_14 : Hid (RowT X12_20 b14 DA 0) := Lib.hid (h1)
      clear h1 hfar hbel hsz
      simp only [ptr, Act.put, List.setIfInBounds_toArray, List.set_cons_zero, List.set_cons_succ]
      refine wpList_nil ?_
      go_upto_region 19 with fail
      refine wp_region_lit ?_
      refine wpList_constB [97, 116, 116, 101, 115, 116, 111, 114] 8 rfl (by decide) (by omega) (by kernel_rfl) (by unfold execOp; go_simp; rfl) (by kernel_rfl) rfl rfl ?_
      intro g95 V13 hge h0 hb
      have B12 := Lib.hid hb
      have M95 := Lib.hid h0
      clear hge h0 hb
      simp only [Act.put, List.setIfInBounds_toArray, List.set_cons_zero, List.set_cons_succ]
      refine wpList_mk (by kernel_rfl) #[.int .u8 ((0 : Nat) : Int)] 5 1 1 (run_buildB1 0 rfl rfl _) ?_
      intro g96 V14 hge h0 hb
      have B13 := Lib.hid hb
      have M96 := Lib.hid (sb_cells1 (by omega) h0)
      clear hge h0 hb
      simp only [Act.put, List.setIfInBounds_toArray, List.set_cons_zero, List.set_cons_succ]
      refine wpList_appFull (size := 1) (by kernel_rfl) (.tmp 95) (.tmp 96) 22 rfl (.int .u8 0) 1 Tryd.underlying22 (by kernel_rfl) rfl (by decide) ⟨g95, 0, none⟩ rfl (M95.out.keep B13.out).src ⟨g96, 0, none⟩ 1 1 (celB [0]) rfl M96.out.src (by decide) (by unfold maxLen; omega) (by omega) ?_
      intro v97 V15 ho hb
      rw [← celB_append] at ho
      have B14 := Lib.hid hb
      have Ow97 := Lib.hid ho
      clear ho hb
      simp only [ptr, Act.put, List.setIfInBounds_toArray, List.set_cons_zero, List.set_cons_succ]
      refine wpList_run (by kernel_rfl) (v97) V15 rfl ?_
      simp only [Act.put, List.setIfInBounds_toArray, List.set_cons_zero, List.set_cons_succ]
      refine wpList_nil ?_
      go_upto_region 20 with fail
      refine wp_region_lit ?_
      refine wpList_run (by kernel_rfl) (v97) V15 rfl ?_
      simp only [Act.put, List.setIfInBounds_toArray, List.set_cons_zero, List.set_cons_succ]
      refine wpList_run (by kernel_rfl) (.string lb) V15 rfl ?_
      simp only [Act.put, List.setIfInBounds_toArray, List.set_cons_zero, List.set_cons_succ]
      refine wpList_convS (by kernel_rfl) lb (by omega) rfl rfl ?_
      intro g100 c100 V16 hge h0 hb
      have B15 := Lib.hid hb
      have M100 := Lib.hid h0
      clear hge h0 hb
      simp only [Act.put, List.setIfInBounds_toArray, List.set_cons_zero, List.set_cons_succ]
      have C14_16 := Lib.hid (bel_step B14.out B15.out)
      refine wpList_app2 (size := 1) (by kernel_rfl) (.tmp 98) (.tmp 100) 22 rfl (.int .u8 0) 1 Tryd.underlying22 (by kernel_rfl) rfl (by decide) rfl (own_keep Ow97.out B15.out) (some ⟨g100, 0, none⟩) lb.size c100 (celB (bytS lb)) rfl M100.out.src (by unfold maxLen; omega) (by omega) C14_16.out.size ?_
      intro v101 X16_22 ho hb1 hg hloc
      have hox : X16_22.ownsRow V14.heap.size 5 1 v101 (9 + lb.size) (celB ([97, 116, 116, 101, 115, 116, 111, 114, 0] ++ bytS lb)) := by rw [celB_append]; exact ho
      have hbr := C14_16.out.trans hb1
      clear B14
      have B14 := Lib.hid hbr
      clear hbr
      have Ow101 := Lib.hid hox
      clear ho hox hb1 hg hloc
      simp only [ptr, Act.put, List.setIfInBounds_toArray, List.set_cons_zero, List.set_cons_succ]
      refine wpList_run (by kernel_rfl) (v101) X16_22 rfl ?_
      simp only [Act.put, List.setIfInBounds_toArray, List.set_cons_zero, List.set_cons_succ]
      refine wpList_nil ?_
      have hsb : ∀ x ∈ [97, 116, 116, 101, 115, 116, 111, 114, 0] ++ bytS lb, x < 256 := by
        intro x hx
        rcases List.mem_append.1 hx with h | h
        · simp at h; omega
        · exact bytS_lt _ x h
      obtain ⟨C15, f15, hv15, hs15⟩ := own_sb Ow101.out hsb
      subst hv15
      have SB15 := Lib.hid hs15
      clear hs15 hsb
      go_upto_region 21 with fail
      try simp only [List.append_eq, List.cons_append, List.nil_append]
      refine Tl.wp_held_tailB 32 X16_22.heap.size (by kernel_rfl) (lexOK_of (by kernel_rfl) (by kernel_rfl)) (Tl.chainW_of (by kernel_rfl)) rfl (by kernel_rfl) (by kernel_rfl) (fun V16 hb hSW => ?_)
      simp only [List.take_succ_cons, List.take_zero]
      have HS16 := Lib.hid hSW
      have B15 := Lib.hid hb
      clear hb hSW
      refine wpHeld_seg 3 HS16.out (by kernel_rfl) ?_
      simp only [List.take_succ_cons, List.take_zero, List.drop_succ_cons, List.drop_zero]
      refine wpQuiet_val (by kernel_rfl) (.pointer (some ⟨b14, 0, none⟩)) (fun v hv => (exec_fT0 b14 rfl rfl v)) ?_
      simp only [Act.put, List.setIfInBounds_toArray, List.set_cons_zero, List.set_cons_succ]
      have C12_14 := Lib.hid (bel_step B12.out B13.out)
      have C12_15 := Lib.hid (bel_step C12_14.out B14.out)
      refine wpQuiet_val (by kernel_rfl) (.agg (celB DA).toArray) (fun v hv => (exec_loadTs b14 DA 0 DgDA.out.1 ((Fv5_14.out.keep C12_15.out).keep (LaterB.of hv)) rfl rfl)) ?_
      simp only [Act.put, List.setIfInBounds_toArray, List.set_cons_zero, List.set_cons_succ]
      refine wpQuiet_val (by kernel_rfl) (.slice C8 (34 + lb.size + 8 + m) f8) (fun v hv => rfl) ?_
      simp only [Act.put, List.setIfInBounds_toArray, List.set_cons_zero, List.set_cons_succ]
      refine wpQuiet_nil ?_
      have C6_8 := Lib.hid (bel_step B6.out B7.out)
      have C6_9 := Lib.hid (bel_step C6_8.out B8.out)
      have C6_10 := Lib.hid (bel_step C6_9.out B9.out)
      have C6_11 := Lib.hid (bel_step C6_10.out B10.out)
      have C6_12 := Lib.hid (bel_step C6_11.out B11.out)
      have C6_13 := Lib.hid (bel_step C6_12.out B12.out)
      have C6_14 := Lib.hid (bel_step C6_13.out B13.out)
      have C6_15 := Lib.hid (bel_step C6_14.out B14.out)
      have C6_16 := Lib.hid (bel_step C6_15.out B15.out)
      refine wpHeld_call 35 Tryd.func35 (by kernel_rfl) (by kernel_rfl) _ _ #[.slice C8 (34 + lb.size + 8 + m) f8] rfl (by kernel_rfl) (by kernel_rfl) ?_
      refine (rsum_any C8 (34 + lb.size + 8 + m) f8 (P1 ++ leK m 8 ++ bs.take m) V16 (SB8.out.keep C6_16.out) (by omega) DA EDA2.out).mono ?_
      rintro e V17 ⟨rfl, hb⟩
      have B16 := Lib.hid hb
      have HS17 := Lib.hid (LaterB.step HS16.out (hb.mono B15.out.size))
      clear hb 
      refine ⟨_, rfl, HS17.out, ?_⟩
      simp only [Act.put, List.setIfInBounds_toArray, List.set_cons_zero, List.set_cons_succ]
      refine wpHeld_seg 5 HS17.out (by kernel_rfl) ?_
      simp only [List.take_succ_cons, List.take_zero, List.drop_succ_cons, List.drop_zero]
      refine wpQuiet_val (by kernel_rfl) (.bool true) (fun v hv => (exec_cmpD rfl rfl rfl (run_eqD_same DA DgDA.out.1 DgDA.out.2 _))) ?_
      simp only [Act.put, List.setIfInBounds_toArray, List.set_cons_zero, List.set_cons_succ]
      refine wpQuiet_val (by kernel_rfl) (.bool true) (fun v hv => rfl) ?_
      simp only [Act.put, List.setIfInBounds_toArray, List.set_cons_zero, List.set_cons_succ]
      refine wpQuiet_val (by kernel_rfl) (.pointer (some ⟨b13, 0, none⟩)) (fun v hv => (xo_fld0 0 b13 0 (by kernel_rfl) rfl rfl)) ?_
      simp only [Act.put, List.setIfInBounds_toArray, List.set_cons_zero, List.set_cons_succ]
      have C10_12 := Lib.hid (bel_step B10.out B11.out)
      have C10_13 := Lib.hid (bel_step C10_12.out B12.out)
      have C10_14 := Lib.hid (bel_step C10_13.out B13.out)
      have C10_15 := Lib.hid (bel_step C10_14.out B14.out)
      refine wpQuiet_val (by kernel_rfl) (.int .u64 (xz : Int)) (fun v hv => (xo_load1 ⟨b13, 0, none⟩ _ (cells_at (heap_keep (heap_keep Fv4_13.out C10_15.out) (LaterB.of hv)) 0 rfl) Tryd.underlying25 rfl rfl rfl)) ?_
      simp only [Act.put, List.setIfInBounds_toArray, List.set_cons_zero, List.set_cons_succ]
      refine wpQuiet_val (by kernel_rfl) (.slice CJ7_16 32 fJ7_16) (fun v hv => rfl) ?_
      simp only [Act.put, List.setIfInBounds_toArray, List.set_cons_zero, List.set_cons_succ]
      refine wpQuiet_nil ?_
      have C8_10 := Lib.hid (bel_step B8.out B9.out)
      have C8_11 := Lib.hid (bel_step C8_10.out B10.out)
      have C8_12 := Lib.hid (bel_step C8_11.out B11.out)
      have C8_13 := Lib.hid (bel_step C8_12.out B12.out)
      have C8_14 := Lib.hid (bel_step C8_13.out B13.out)
      have C8_15 := Lib.hid (bel_step C8_14.out B14.out)
      have C8_16 := Lib.hid (bel_step C8_15.out B15.out)
      have C8_17 := Lib.hid (bel_step C8_16.out B16.out)
      refine wpHeld_call 31 Tryd.func31 (by kernel_rfl) (by kernel_rfl) _ _ #[.slice CJ7_16 32 fJ7_16, .int .i64 0] rfl (by kernel_rfl) (by kernel_rfl) ?_
      refine (value_any CJ7_16 32 fJ7_16 Dz 0 V17 (J7_16.out.keep C8_17.out) (by omega)).mono ?_
      rintro e W1 ⟨rfl, hw1⟩
      rw [hw1]
      clear hw1 W1
      refine ⟨_, rfl, HS17.out, ?_⟩
      simp only [Act.put, List.setIfInBounds_toArray, List.set_cons_zero, List.set_cons_succ]
      refine wpHeld_seg 7 HS17.out (by kernel_rfl) ?_
      simp only [List.take_succ_cons, List.take_zero, List.drop_succ_cons, List.drop_zero]
      refine wpQuiet_val (by kernel_rfl) (.int .u64 ((xz : Nat) : Int)) (fun v hv => (xo_remN .u64 (leV Dz 0) 18446744069414584321 xz (by omega) Hxz.out rfl rfl rfl)) ?_
      simp only [Act.put, List.setIfInBounds_toArray, List.set_cons_zero, List.set_cons_succ]
      refine wpQuiet_val (by kernel_rfl) (.bool true) (fun v hv => (xo_eqlT .u64 (xz : Int) (xz : Int) (by omega) rfl rfl rfl)) ?_
      simp only [Act.put, List.setIfInBounds_toArray, List.set_cons_zero, List.set_cons_succ]
      refine wpQuiet_val (by kernel_rfl) (.bool true) (fun v hv => rfl) ?_
      simp only [Act.put, List.setIfInBounds_toArray, List.set_cons_zero, List.set_cons_succ]
      refine wpQuiet_val (by kernel_rfl) (.bool true) (fun v hv => rfl) ?_
      simp only [Act.put, List.setIfInBounds_toArray, List.set_cons_zero, List.set_cons_succ]
      refine wpQuiet_val (by kernel_rfl) (.pointer (some ⟨b13, 1, none⟩)) (fun v hv => (xo_fld0 1 b13 1 (by kernel_rfl) rfl rfl)) ?_
      simp only [Act.put, List.setIfInBounds_toArray, List.set_cons_zero, List.set_cons_succ]
      refine wpQuiet_val (by kernel_rfl) (.int .u64 (yz : Int)) (fun v hv => (xo_load1 ⟨b13, 1, none⟩ _ (cells_at (heap_keep (heap_keep Fv4_13.out C10_15.out) (LaterB.of hv)) 1 rfl) Tryd.underlying25 rfl rfl rfl)) ?_
      simp only [Act.put, List.setIfInBounds_toArray, List.set_cons_zero, List.set_cons_succ]
      refine wpQuiet_val (by kernel_rfl) (.slice CJ7_16 32 fJ7_16) (fun v hv => rfl) ?_
      simp only [Act.put, List.setIfInBounds_toArray, List.set_cons_zero, List.set_cons_succ]
      refine wpQuiet_nil ?_
      refine wpHeld_call 31 Tryd.func31 (by kernel_rfl) (by kernel_rfl) _ _ #[.slice CJ7_16 32 fJ7_16, .int .i64 8] rfl (by kernel_rfl) (by kernel_rfl) ?_
      refine (value_any CJ7_16 32 fJ7_16 Dz 8 V17 (J7_16.out.keep C8_17.out) (by omega)).mono ?_
      rintro e W1 ⟨rfl, hw1⟩
      rw [hw1]
      clear hw1 W1
      refine ⟨_, rfl, HS17.out, ?_⟩
      simp only [Act.put, List.setIfInBounds_toArray, List.set_cons_zero, List.set_cons_succ]
      refine wpHeld_seg 5 HS17.out (by kernel_rfl) ?_
      simp only [List.take_succ_cons, List.take_zero, List.drop_succ_cons, List.drop_zero]
      refine wpQuiet_val (by kernel_rfl) (.int .u64 ((yz : Nat) : Int)) (fun v hv => (xo_remN .u64 (leV Dz 8) 18446744069414584321 yz (by omega) Hyz.out rfl rfl rfl)) ?_
      simp only [Act.put, List.setIfInBounds_toArray, List.set_cons_zero, List.set_cons_succ]
      refine wpQuiet_val (by kernel_rfl) (.bool true) (fun v hv => (xo_eqlT .u64 (yz : Int) (yz : Int) (by omega) rfl rfl rfl)) ?_
      simp only [Act.put, List.setIfInBounds_toArray, List.set_cons_zero, List.set_cons_succ]
      refine wpQuiet_val (by kernel_rfl) (.bool true) (fun v hv => rfl) ?_
      simp only [Act.put, List.setIfInBounds_toArray, List.set_cons_zero, List.set_cons_succ]
      refine wpQuiet_val (by kernel_rfl) (.bool true) (fun v hv => rfl) ?_
      simp only [Act.put, List.setIfInBounds_toArray, List.set_cons_zero, List.set_cons_succ]
      refine wpQuiet_val (by kernel_rfl) (.string lb) (fun v hv => rfl) ?_
      simp only [Act.put, List.setIfInBounds_toArray, List.set_cons_zero, List.set_cons_succ]
      refine wpQuiet_nil ?_
      have C0_11 := Lib.hid (bel_step C0_10.out B10.out)
      have C0_12 := Lib.hid (bel_step C0_11.out B11.out)
      have C0_13 := Lib.hid (bel_step C0_12.out B12.out)
      have C0_14 := Lib.hid (bel_step C0_13.out B13.out)
      have C0_15 := Lib.hid (bel_step C0_14.out B14.out)
      have C0_16 := Lib.hid (bel_step C0_15.out B15.out)
      have C0_17 := Lib.hid (bel_step C0_16.out B16.out)
      refine wpHeld_call 15 Tryd.func15 (by kernel_rfl) (by kernel_rfl) _ _ #[.string lb] rfl (by kernel_rfl) (by kernel_rfl) ?_
      refine (new_any lb V17 (by omega) (HG.out.keep C0_17.out) DN EDN.out).mono ?_
      rintro e V18 ⟨rfl, hb⟩
      have B17 := Lib.hid hb
      have C15_17 := Lib.hid (bel_step B15.out B16.out)
      have HS18 := Lib.hid (LaterB.step HS17.out (hb.mono C15_17.out.size))
      clear hb 
      refine ⟨_, rfl, HS18.out, ?_⟩
      simp only [Act.put, List.setIfInBounds_toArray, List.set_cons_zero, List.set_cons_succ]
      refine wpHeld_seg 2 HS18.out (by kernel_rfl) ?_
      simp only [List.take_succ_cons, List.take_zero, List.drop_succ_cons, List.drop_zero]
      refine wpQuiet_val (by kernel_rfl) (.agg (celB DN).toArray) (fun v hv => (exec_fieldTr0 DN 0 DgDN.out.1 rfl rfl v)) ?_
      simp only [Act.put, List.setIfInBounds_toArray, List.set_cons_zero, List.set_cons_succ]
      refine wpQuiet_val (by kernel_rfl) (.slice C15 (9 + lb.size) f15) (fun v hv => rfl) ?_
      simp only [Act.put, List.setIfInBounds_toArray, List.set_cons_zero, List.set_cons_succ]
      refine wpQuiet_nil ?_
      have C15_18 := Lib.hid (bel_step C15_17.out B17.out)
      refine wpHeld_call 35 Tryd.func35 (by kernel_rfl) (by kernel_rfl) _ _ #[.slice C15 (9 + lb.size) f15] rfl (by kernel_rfl) (by kernel_rfl) ?_
      refine (rsum_any C15 (9 + lb.size) f15 ([97, 116, 116, 101, 115, 116, 111, 114, 0] ++ bytS lb) V18 (SB15.out.keep C15_18.out) (by omega) DN EDN.out).mono ?_
      rintro e V19 ⟨rfl, hb⟩
      have B18 := Lib.hid hb
      have HS19 := Lib.hid (LaterB.step HS18.out (hb.mono C15_18.out.size))
      clear hb 
      refine ⟨_, rfl, HS19.out, ?_⟩
      simp only [Act.put, List.setIfInBounds_toArray, List.set_cons_zero, List.set_cons_succ]
      refine wpHeld_seg 5 HS19.out (by kernel_rfl) ?_
      simp only [List.take_succ_cons, List.take_zero, List.drop_succ_cons, List.drop_zero]
      refine wpQuiet_val (by kernel_rfl) (.bool true) (fun v hv => (exec_cmpD rfl rfl rfl (run_eqD_same DN DgDN.out.1 DgDN.out.2 _))) ?_
      simp only [Act.put, List.setIfInBounds_toArray, List.set_cons_zero, List.set_cons_succ]
      refine wpQuiet_val (by kernel_rfl) (.bool true) (fun v hv => rfl) ?_
      simp only [Act.put, List.setIfInBounds_toArray, List.set_cons_zero, List.set_cons_succ]
      refine wpQuiet_val (by kernel_rfl) (.bool true) (fun v hv => rfl) ?_
      simp only [Act.put, List.setIfInBounds_toArray, List.set_cons_zero, List.set_cons_succ]
      refine wpQuiet_val (by kernel_rfl) (.bool true) (fun v hv => rfl) ?_
      simp only [Act.put, List.setIfInBounds_toArray, List.set_cons_zero, List.set_cons_succ]
      refine wpQuiet_val (by kernel_rfl) (.bool true) (fun v hv => rfl) ?_
      simp only [Act.put, List.setIfInBounds_toArray, List.set_cons_zero, List.set_cons_succ]
      refine wpQuiet_nil ?_
      refine wpHeld_nil ?_
      refine mOp_val (.bool true) rfl rfl rfl ?_
      try simp only [List.getElem_toArray, List.getElem_cons_succ, List.getElem_cons_zero, ptr, Act.put, List.setIfInBounds_toArray, List.set_cons_zero, List.set_cons_succ]
      go_wp2_with fail
      go_ret
      have C0_18 := Lib.hid (bel_step C0_17.out B17.out)
      have C0_19 := Lib.hid (bel_step C0_18.out B18.out)
      exact ⟨rfl, C0_19.out⟩
end Go.Proofs.YtcaoajeplinopaaDoor
