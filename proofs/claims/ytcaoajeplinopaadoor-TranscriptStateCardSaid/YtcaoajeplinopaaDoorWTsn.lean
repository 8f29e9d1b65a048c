/- A law of stage 10: State. -/
import Derived.Test.YtcaoajeplinopaaDoorH15
namespace Go.Proofs.YtcaoajeplinopaaDoor
set_option linter.unusedVariables false
set_option linter.unusedSimpArgs false
set_option maxRecDepth 8000
open Go.RowKit Gold
open Go.Shelf
attribute [local simp] z32_ne z32_run
attribute [-simp] Tryd.zeroValue30 Tryd.isAgg30 Tryd.sizeOf30
attribute [-simp] Tryd.zeroValue32 Tryd.isAgg32 Tryd.sizeOf32
attribute [local simp] z33_ne z33_run
attribute [local irreducible] wpList wpQuiet
set_option maxRecDepth 100000 in
set_option maxHeartbeats 16000000 in
theorem tState_any (ls : ByteArray) (A1 : Option Addr) (n1 c1 : Nat) (bs : List Nat) (A2 : Option Addr) (n2 c2 : Nat) (xs : List (Nat × Nat)) (A3 : Option Addr) (n3 c3 : Nat) (is : List Int) (A4 : Option Addr) (n4 c4 : Nat) (st : List Nat) (cnt : Nat) (nn : Nat) (w : World)
    (hS1 : Sb w A1 n1 c1 bs) (hS2 : XbT w A2 n2 c2 xs) (hS3 : Ib w A3 n3 c3 is) (hS4 : Sb w A4 n4 c4 st) (hc : cnt < 18446744073709551616) (hnn : nn < 256) (hG : Gl w) :
    Calls Tryd.prog 5 #[.agg #[.string ls, .slice A1 n1 c1, .slice A2 n2 c2, .slice A3 n3 c3, .slice A4 n4 c4, .int .u64 (cnt : Int)], .int .u8 (nn : Int)] w fun e w' => e = .returned (.bool true) ∧ Below w.heap.size w w' := by
  obtain ⟨s, hs⟩ : ∃ s, madeN st = s := ⟨_, rfl⟩
  have HDs := Lib.hid (show s.length = 32 ∧ ∀ x ∈ s, x < 256 by rw [← hs]; exact ⟨madeN_length _, madeN_lt hS4.byte⟩)
  have HSM := Lib.hid hs
  have hcap1 := hS1.cap
  have hlen1 := hS1.len
  have hcap2 := hS2.cap
  have hlen2 := hS2.len
  have hcap3 := hS3.cap
  have hlen3 := hS3.len
  have HL1 := Lib.hid hlen1
  have HL2 := Lib.hid hlen2
  have HL3 := Lib.hid hlen3
  have HS1 := Lib.hid hS1
  have HS2 := Lib.hid hS2
  have HS3 := Lib.hid hS3
  have HS4 := Lib.hid hS4
  clear hs hS1 hS2 hS3 hS4 hlen1 hlen2 hlen3
  have HG := Lib.hid hG
  clear hG
  go_enter Tryd.func5, Tryd.ntmps5
  go_upto_region 1 with fail
  refine wp_named1 (fun V1 hb g0 hlt => ?_)
  have B0 := Lib.hid hb
  have Fv0_2 : Hid (V1.heap[w.heap.size]? = some (.cells #[.string ls, .slice A1 n1 c1, .slice A2 n2 c2, .slice A3 n3 c3, .slice A4 n4 c4, .int .u64 (cnt : Int)] 27 (0, 0))) := Lib.hid (g0)
  have Gb0 : Hid (w.heap.size ≤ w.heap.size) := Lib.hid (by omega)
  clear hb g0 hlt
  refine wp_region_lit ?_
  refine wpList_call (by kernel_rfl) 11 Tryd.func11 (by kernel_rfl) (by kernel_rfl) _ _ #[] rfl (by kernel_rfl) ?_
  refine (sanity10_any V1 (HG.out.keep B0.out)).mono ?_
  rintro e V2 ⟨rfl, hb⟩
  have B1 := Lib.hid hb
  clear hb 
  refine ⟨_, rfl, ?_⟩
  simp only [Act.put, List.setIfInBounds_toArray, List.set_cons_zero, List.set_cons_succ]
  refine wpList_run (by kernel_rfl) (.bool true) V2 rfl ?_
  simp only [Act.put, List.setIfInBounds_toArray, List.set_cons_zero, List.set_cons_succ]
  refine wpList_nil ?_
  go_upto_region 2 with fail
  refine wp_region_lit ?_
  refine wpList_run (by kernel_rfl) (.agg #[.string ls, .slice A1 n1 c1, .slice A2 n2 c2, .slice A3 n3 c3, .slice A4 n4 c4, .int .u64 (cnt : Int)]) V2 (xo_loadW w.heap.size _ (heap_keep Fv0_2.out B1.out) Tryd.underlying27 rfl (by kernel_rfl) rfl rfl) ?_
  simp only [Act.put, List.setIfInBounds_toArray, List.set_cons_zero, List.set_cons_succ]
  have C0_2 := Lib.hid (bel_step B0.out B1.out)
  refine wpList_call (by kernel_rfl) 12 Tryd.func12 (by kernel_rfl) (by kernel_rfl) _ _ #[.agg #[.string ls, .slice A1 n1 c1, .slice A2 n2 c2, .slice A3 n3 c3, .slice A4 n4 c4, .int .u64 (cnt : Int)]] rfl (by kernel_rfl) ?_
  refine (made10_any ls A1 n1 c1 bs A2 n2 c2 xs A3 n3 c3 is A4 n4 c4 st cnt V2 (HS1.out.keep C0_2.out) (HS2.out.keep C0_2.out) (HS3.out.keep C0_2.out) (HS4.out.keep C0_2.out) hc s HSM.out).mono ?_
  rintro e V3 ⟨lb, v, rfl, hlb, hox, hb⟩
  have B2 := Lib.hid hb
  obtain ⟨A5, c5, rfl, hxb⟩ := hox.xb redX_lt
  have HY := Lib.hid hxb
  clear hb hxb
  refine ⟨_, rfl, ?_⟩
  simp only [Act.put, List.setIfInBounds_toArray, List.set_cons_zero, List.set_cons_succ]
  refine wpList_run (by kernel_rfl) (.tuple #[.agg (trC s cnt), .string lb, .agg #[.string ByteArray.empty, .slice A1 (min n1 200) c1, .slice A5 (min n2 12) c5, .slice A3 (min n3 12) c3, .slice none 0 0, .int .u64 0]]) V3 rfl ?_
  simp only [Act.put, List.setIfInBounds_toArray, List.set_cons_zero, List.set_cons_succ]
  refine wpList_run (by kernel_rfl) (.agg (trC s cnt)) V3 rfl ?_
  simp only [Act.put, List.setIfInBounds_toArray, List.set_cons_zero, List.set_cons_succ]
  refine wpList_run (by kernel_rfl) (.string lb) V3 rfl ?_
  simp only [Act.put, List.setIfInBounds_toArray, List.set_cons_zero, List.set_cons_succ]
  refine wpList_run (by kernel_rfl) (.agg #[.string ByteArray.empty, .slice A1 (min n1 200) c1, .slice A5 (min n2 12) c5, .slice A3 (min n3 12) c3, .slice none 0 0, .int .u64 0]) V3 rfl ?_
  simp only [Act.put, List.setIfInBounds_toArray, List.set_cons_zero, List.set_cons_succ]
  refine wpList_new z33 32 (by kernel_rfl) (exec_allocT V3 rfl) ?_
  intro b6 V4 hge h0 hb
  have C1_3 := Lib.hid (bel_step B1.out B2.out)
  have N6_0 : Hid (w.heap.size ≠ b6) := Lib.hid (xp_lt0 (heap_keep Fv0_2.out C1_3.out) hge)
  have Ge6 : Hid (V3.heap.size ≤ b6) := Lib.hid hge
  have B3 := Lib.hid hb
  have Fv1_6 : Hid (RowT V4 b6 (List.replicate 32 0) 0) := Lib.hid (h0)
  clear hge h0 hb
  simp only [ptr, Act.put, List.setIfInBounds_toArray, List.set_cons_zero, List.set_cons_succ]
  refine wpList_new #[.string ByteArray.empty, .slice none 0 0, .slice none 0 0, .slice none 0 0, .slice none 0 0, .int .u64 0] 27 (by kernel_rfl) (exec_allocN rfl V4) ?_
  intro b8 V5 hge h0 hb
  have C1_4 := Lib.hid (bel_step C1_3.out B3.out)
  have N8_0 : Hid (w.heap.size ≠ b8) := Lib.hid (xp_lt0 (heap_keep Fv0_2.out C1_4.out) hge)
  have N8_1 : Hid (b6 ≠ b8) := Lib.hid (xp_lt0 Fv1_6.out hge)
  have Ge8 : Hid (V4.heap.size ≤ b8) := Lib.hid hge
  have B4 := Lib.hid hb
  have Fv2_8 : Hid (V5.heap[b8]? = some (.cells #[.string ByteArray.empty, .slice none 0 0, .slice none 0 0, .slice none 0 0, .slice none 0 0, .int .u64 0] 27 (0, 0))) := Lib.hid (h0)
  clear hge h0 hb
  simp only [ptr, Act.put, List.setIfInBounds_toArray, List.set_cons_zero, List.set_cons_succ]
  refine wpList_storeW b6 (trC (List.replicate 32 0) 0) (trC s cnt) 32 (by kernel_rfl) (Fv1_6.out.keep B4.out) (exec_storeT b6 (List.replicate 32 0) 0 s cnt List.length_replicate HDs.out.1 (Fv1_6.out.keep B4.out) rfl rfl rfl) ?_
  intro X5_0 h1 hfar hbel hsz
  have YFv2_8 : X5_0.heap[b8]? = some (.cells #[.string ByteArray.empty, .slice none 0 0, .slice none 0 0, .slice none 0 0, .slice none 0 0, .int .u64 0] 27 (0, 0)) := hfar _ _ (Ne.symm N8_1.out) Fv2_8.out
  have Gs1 : Hid (V3.heap.size ≤ b8) := Lib.hid (Nat.le_trans B3.out.size Ge8.out)
  have C3_5 := Lib.hid (bel_step B3.out B4.out)
  have hbr := hbel _ _ Ge6.out C3_5.out
  clear B3
  have B3 := Lib.hid hbr
  clear hbr
  clear Fv2_8
  have Fv2_8 : Hid (X5_0.heap[b8]? = some (.cells #[.string ByteArray.empty, .slice none 0 0, .slice none 0 0, .slice none 0 0, .slice none 0 0, .int .u64 0] 27 (0, 0))) := Lib.hid YFv2_8
  clear YFv2_8
  clear Fv1_6
  have Fv1_6 : Hid (RowT X5_0 b6 s cnt) := Lib.hid (h1)
  clear h1 hfar hbel hsz
  simp only [ptr, Act.put, List.setIfInBounds_toArray, List.set_cons_zero, List.set_cons_succ]
  refine wpList_run (by kernel_rfl) (.string lb) X5_0 rfl ?_
  simp only [Act.put, List.setIfInBounds_toArray, List.set_cons_zero, List.set_cons_succ]
  refine wpList_storeW b8 #[.string ByteArray.empty, .slice none 0 0, .slice none 0 0, .slice none 0 0, .slice none 0 0, .int .u64 0] #[.string ByteArray.empty, .slice A1 (min n1 200) c1, .slice A5 (min n2 12) c5, .slice A3 (min n3 12) c3, .slice none 0 0, .int .u64 0] 27 (by kernel_rfl) Fv2_8.out (xo_storeW b8 #[.string ByteArray.empty, .slice none 0 0, .slice none 0 0, .slice none 0 0, .slice none 0 0, .int .u64 0] #[.string ByteArray.empty, .slice A1 (min n1 200) c1, .slice A5 (min n2 12) c5, .slice A3 (min n3 12) c3, .slice none 0 0, .int .u64 0] Fv2_8.out (by kernel_rfl) rfl (by simp [Value.oneCell']) rfl rfl rfl) ?_
  intro X4_2 h1 hfar hbel hsz
  have YFv1_6 : RowT X4_2 b6 s cnt := hfar _ _ N8_1.out Fv1_6.out
  have hbr := hbel _ _ Gs1.out B3.out
  clear B3
  have B3 := Lib.hid hbr
  clear hbr
  clear Fv1_6
  have Fv1_6 : Hid (RowT X4_2 b6 s cnt) := Lib.hid YFv1_6
  clear YFv1_6
  clear Fv2_8
  have Fv2_8 : Hid (X4_2.heap[b8]? = some (.cells #[.string ByteArray.empty, .slice A1 (min n1 200) c1, .slice A5 (min n2 12) c5, .slice A3 (min n3 12) c3, .slice none 0 0, .int .u64 0] 27 (0, 0))) := Lib.hid (h1)
  clear h1 hfar hbel hsz
  simp only [ptr, Act.put, List.setIfInBounds_toArray, List.set_cons_zero, List.set_cons_succ]
  refine wpList_nil ?_
  obtain ⟨cc, hcc⟩ : ∃ cc, cnt / 2 = cc := ⟨_, rfl⟩
  have hcc2 : cc < 9223372036854775808 := by omega
  go_upto_region 3 with fail
  refine wp_region_lit ?_
  refine wpList_run (by kernel_rfl) (.pointer (some ⟨b6, 32, none⟩)) X4_2 (exec_fT1 b6 rfl rfl X4_2) ?_
  simp only [Act.put, List.setIfInBounds_toArray, List.set_cons_zero, List.set_cons_succ]
  refine wpList_run (by kernel_rfl) (.int .u64 ((cnt : Nat) : Int)) X4_2 (exec_loadU ⟨b6, 32, none⟩ _ (Fv1_6.out.count HDs.out.1) rfl rfl) ?_
  simp only [Act.put, List.setIfInBounds_toArray, List.set_cons_zero, List.set_cons_succ]
  refine wpList_run (by kernel_rfl) (.int .u64 (cc : Int)) X4_2 (xo_shrN .u64 .u64 cnt 1 cc (by decide) hcc rfl rfl rfl) ?_
  simp only [Act.put, List.setIfInBounds_toArray, List.set_cons_zero, List.set_cons_succ]
  refine wpList_run (by kernel_rfl) (.pointer (some ⟨b6, 32, none⟩)) X4_2 (exec_fT1 b6 rfl rfl X4_2) ?_
  simp only [Act.put, List.setIfInBounds_toArray, List.set_cons_zero, List.set_cons_succ]
  refine wpList_store1 b6 32 (trC s cnt) (.int .u64 (cc : Int)) 32 (by kernel_rfl) Fv1_6.out (xo_store1 b6 32 (trC s cnt) _ (.int .u64 (cc : Int)) Fv1_6.out (trC_count HDs.out.1 _) (by kernel_rfl) rfl rfl rfl rfl) ?_
  intro X4_3 h1 hfar hbel hsz
  have YFv2_8 : X4_3.heap[b8]? = some (.cells #[.string ByteArray.empty, .slice A1 (min n1 200) c1, .slice A5 (min n2 12) c5, .slice A3 (min n3 12) c3, .slice none 0 0, .int .u64 0] 27 (0, 0)) := hfar _ _ (Ne.symm N8_1.out) Fv2_8.out
  have hbr := hbel _ _ Ge6.out B3.out
  clear B3
  have B3 := Lib.hid hbr
  clear hbr
  clear Fv2_8
  have Fv2_8 : Hid (X4_3.heap[b8]? = some (.cells #[.string ByteArray.empty, .slice A1 (min n1 200) c1, .slice A5 (min n2 12) c5, .slice A3 (min n3 12) c3, .slice none 0 0, .int .u64 0] 27 (0, 0))) := Lib.hid YFv2_8
  clear YFv2_8
  clear Fv1_6
  have Fv1_6 : Hid (RowT X4_3 b6 s cc) := Lib.hid ((by have h2 := h1; rw [trC_set HDs.out.1 cnt cc] at h2; exact h2))
  clear h1 hfar hbel hsz
  simp only [ptr, Act.put, List.setIfInBounds_toArray, List.set_cons_zero, List.set_cons_succ]
  refine wpList_nil ?_
  obtain ⟨q, hq⟩ : ∃ k, nn % 65 = k := ⟨_, rfl⟩
  have hq8 : q ≤ 64 := by omega
  obtain ⟨Dz, hDz⟩ : ∃ D, outT s 2 lb cc = D := ⟨_, rfl⟩
  have HDz := Lib.hid hDz
  clear hDz
  obtain ⟨xz, hxz⟩ : ∃ z, leV Dz 0 % 18446744069414584321 = z := ⟨_, rfl⟩
  have Hxz := Lib.hid hxz
  have hlxz : xz < 18446744069414584321 := by rw [← hxz]; exact Nat.mod_lt _ (by decide)
  clear hxz
  obtain ⟨yz, hyz⟩ : ∃ z, leV Dz 8 % 18446744069414584321 = z := ⟨_, rfl⟩
  have Hyz := Lib.hid hyz
  have hlyz : yz < 18446744069414584321 := by rw [← hyz]; exact Nat.mod_lt _ (by decide)
  clear hyz
  go_upto_region 4 with fail
  refine wp_region_lit ?_
  refine wpList_run (by kernel_rfl) (.agg (trC s cc)) X4_3 (exec_loadT b6 s cc HDs.out.1 Fv1_6.out rfl rfl) ?_
  simp only [Act.put, List.setIfInBounds_toArray, List.set_cons_zero, List.set_cons_succ]
  refine wpList_run (by kernel_rfl) (.string lb) X4_3 rfl ?_
  simp only [Act.put, List.setIfInBounds_toArray, List.set_cons_zero, List.set_cons_succ]
  have C0_3 := Lib.hid (bel_step C0_2.out B2.out)
  have C0_4 := Lib.hid (bel_step C0_3.out B3.out)
  refine wpList_call (by kernel_rfl) 13 Tryd.func13 (by kernel_rfl) (by kernel_rfl) _ _ #[.agg (trC s cc), .string lb] rfl (by kernel_rfl) ?_
  refine (challenge_any s lb cc X4_3 HDs.out.1 HDs.out.2 (by omega) (by omega) (HG.out.keep C0_4.out) Dz HDz.out (cc + 1) (by omega) xz yz Hxz.out Hyz.out).mono ?_
  rintro e V5 ⟨rfl, hb⟩
  have B4 := Lib.hid hb
  clear hb 
  refine ⟨_, rfl, ?_⟩
  simp only [Act.put, List.setIfInBounds_toArray, List.set_cons_zero, List.set_cons_succ]
  refine wpList_run (by kernel_rfl) (.tuple #[.agg (trC s (cc + 1)), .agg #[.int .u64 (xz : Int), .int .u64 (yz : Int)]]) V5 rfl ?_
  simp only [Act.put, List.setIfInBounds_toArray, List.set_cons_zero, List.set_cons_succ]
  refine wpList_run (by kernel_rfl) (.agg (trC s (cc + 1))) V5 rfl ?_
  simp only [Act.put, List.setIfInBounds_toArray, List.set_cons_zero, List.set_cons_succ]
  refine wpList_run (by kernel_rfl) (.agg #[.int .u64 (xz : Int), .int .u64 (yz : Int)]) V5 rfl ?_
  simp only [Act.put, List.setIfInBounds_toArray, List.set_cons_zero, List.set_cons_succ]
  refine wpList_new z33 32 (by kernel_rfl) (exec_allocT V5 rfl) ?_
  intro b9 V6 hge h0 hb
  have C1_4 := Lib.hid (bel_step C1_3.out B3.out)
  have C1_5 := Lib.hid (bel_step C1_4.out B4.out)
  have N9_0 : Hid (w.heap.size ≠ b9) := Lib.hid (xp_lt0 (heap_keep Fv0_2.out C1_5.out) hge)
  have N9_1 : Hid (b6 ≠ b9) := Lib.hid (xp_lt0 (Fv1_6.out.keep B4.out) hge)
  have N9_2 : Hid (b8 ≠ b9) := Lib.hid (xp_lt0 (heap_keep Fv2_8.out B4.out) hge)
  have Ge9 : Hid (V5.heap.size ≤ b9) := Lib.hid hge
  have B5 := Lib.hid hb
  have Fv3_9 : Hid (RowT V6 b9 (List.replicate 32 0) 0) := Lib.hid (h0)
  clear hge h0 hb
  simp only [ptr, Act.put, List.setIfInBounds_toArray, List.set_cons_zero, List.set_cons_succ]
  refine wpList_new #[.int .u64 0, .int .u64 0] 36 (by kernel_rfl) (exec_allocE V6 rfl) ?_
  intro b10 V7 hge h0 hb
  have C1_6 := Lib.hid (bel_step C1_5.out B5.out)
  have N10_0 : Hid (w.heap.size ≠ b10) := Lib.hid (xp_lt0 (heap_keep Fv0_2.out C1_6.out) hge)
  have C4_6 := Lib.hid (bel_step B4.out B5.out)
  have N10_1 : Hid (b6 ≠ b10) := Lib.hid (xp_lt0 (Fv1_6.out.keep C4_6.out) hge)
  have N10_2 : Hid (b8 ≠ b10) := Lib.hid (xp_lt0 (heap_keep Fv2_8.out C4_6.out) hge)
  have N10_3 : Hid (b9 ≠ b10) := Lib.hid (xp_lt0 Fv3_9.out hge)
  have Ge10 : Hid (V6.heap.size ≤ b10) := Lib.hid hge
  have B6 := Lib.hid hb
  have Fv4_10 : Hid (V7.heap[b10]? = some (.cells #[.int .u64 0, .int .u64 0] 36 (0, 0))) := Lib.hid (h0)
  clear hge h0 hb
  simp only [ptr, Act.put, List.setIfInBounds_toArray, List.set_cons_zero, List.set_cons_succ]
  refine wpList_storeW b9 (trC (List.replicate 32 0) 0) (trC s (cc + 1)) 32 (by kernel_rfl) (Fv3_9.out.keep B6.out) (exec_storeT b9 (List.replicate 32 0) 0 s (cc + 1) List.length_replicate HDs.out.1 (Fv3_9.out.keep B6.out) rfl rfl rfl) ?_
  intro X7_4 h1 hfar hbel hsz
  have YFv4_10 : X7_4.heap[b10]? = some (.cells #[.int .u64 0, .int .u64 0] 36 (0, 0)) := hfar _ _ (Ne.symm N10_3.out) Fv4_10.out
  have Gs5 : Hid (V5.heap.size ≤ b10) := Lib.hid (Nat.le_trans B5.out.size Ge10.out)
  have C5_7 := Lib.hid (bel_step B5.out B6.out)
  have hbr := hbel _ _ Ge9.out C5_7.out
  clear B5
  have B5 := Lib.hid hbr
  clear hbr
  clear Fv4_10
  have Fv4_10 : Hid (X7_4.heap[b10]? = some (.cells #[.int .u64 0, .int .u64 0] 36 (0, 0))) := Lib.hid YFv4_10
  clear YFv4_10
  clear Fv3_9
  have Fv3_9 : Hid (RowT X7_4 b9 s (cc + 1)) := Lib.hid (h1)
  clear h1 hfar hbel hsz
  simp only [ptr, Act.put, List.setIfInBounds_toArray, List.set_cons_zero, List.set_cons_succ]
  refine wpList_storeW b10 #[.int .u64 0, .int .u64 0] #[.int .u64 (xz : Int), .int .u64 (yz : Int)] 36 (by kernel_rfl) Fv4_10.out (xo_storeW b10 #[.int .u64 0, .int .u64 0] #[.int .u64 (xz : Int), .int .u64 (yz : Int)] Fv4_10.out (by kernel_rfl) rfl (by simp [Value.oneCell']) rfl rfl rfl) ?_
  intro X6_6 h1 hfar hbel hsz
  have YFv3_9 : RowT X6_6 b9 s (cc + 1) := hfar _ _ N10_3.out Fv3_9.out
  have hbr := hbel _ _ Gs5.out B5.out
  clear B5
  have B5 := Lib.hid hbr
  clear hbr
  clear Fv3_9
  have Fv3_9 : Hid (RowT X6_6 b9 s (cc + 1)) := Lib.hid YFv3_9
  clear YFv3_9
  clear Fv4_10
  have Fv4_10 : Hid (X6_6.heap[b10]? = some (.cells #[.int .u64 (xz : Int), .int .u64 (yz : Int)] 36 (0, 0))) := Lib.hid (h1)
  clear h1 hfar hbel hsz
  simp only [ptr, Act.put, List.setIfInBounds_toArray, List.set_cons_zero, List.set_cons_succ]
  refine wpList_nil ?_
  obtain ⟨f, hf⟩ : ∃ f, cdF s lb cc 256 = f := ⟨_, rfl⟩
  obtain ⟨R, hR⟩ : ∃ R, pickT f q 256 16384 = R := ⟨_, rfl⟩
  obtain ⟨ci, hci⟩ : ∃ c, lastC cc (stopT f q 16384) = c := ⟨_, rfl⟩
  have hci2 : cc + (q + 3) / 4 ≤ ci := by
    have h1 := stopT_ge (f := f) (n := q) (K := 16384) (by omega)
    have h2 := stopT_le f q 16384
    rw [← hci, lastC_small hcc2 _ h2]
    omega
  have HF := Lib.hid hf
  have HR := Lib.hid hR
  have HCI := Lib.hid hci
  clear hf hR hci
  go_upto_region 5 with fail
  refine wp_region_lit ?_
  have C4_6 := Lib.hid (bel_step B4.out B5.out)
  refine wpList_run (by kernel_rfl) (.agg (trC s cc)) X6_6 (exec_loadT b6 s cc HDs.out.1 (Fv1_6.out.keep C4_6.out) rfl rfl) ?_
  simp only [Act.put, List.setIfInBounds_toArray, List.set_cons_zero, List.set_cons_succ]
  refine wpList_run (by kernel_rfl) (.string lb) X6_6 rfl ?_
  simp only [Act.put, List.setIfInBounds_toArray, List.set_cons_zero, List.set_cons_succ]
  refine wpList_run (by kernel_rfl) (.int .u8 (nn : Int)) X6_6 rfl ?_
  simp only [Act.put, List.setIfInBounds_toArray, List.set_cons_zero, List.set_cons_succ]
  refine wpList_run (by kernel_rfl) (.int .i64 (nn : Int)) X6_6 (xo_cvt .u8 .i64 (nn : Int) (nn : Int) (wrapI (by omega) (by omega)) Tryd.underlying3 Tryd.underlying5 rfl rfl) ?_
  simp only [Act.put, List.setIfInBounds_toArray, List.set_cons_zero, List.set_cons_succ]
  refine wpList_run (by kernel_rfl) (.int .i64 (q : Int)) X6_6 (xo_remN .i64 nn 65 q (by omega) hq rfl rfl rfl) ?_
  simp only [Act.put, List.setIfInBounds_toArray, List.set_cons_zero, List.set_cons_succ]
  refine wpList_run (by kernel_rfl) (.agg #[.int .i64 256, .int .i64 (q : Int)]) X6_6 (exec_buildDr2 256 (q : Int) rfl rfl rfl X6_6) ?_
  simp only [Act.put, List.setIfInBounds_toArray, List.set_cons_zero, List.set_cons_succ]
  have C0_5 := Lib.hid (bel_step C0_4.out B4.out)
  have C0_6 := Lib.hid (bel_step C0_5.out B5.out)
  refine wpList_call (by kernel_rfl) 26 Tryd.func26 (by kernel_rfl) (by kernel_rfl) _ _ #[.agg (trC s cc), .string lb, .agg #[.int .i64 256, .int .i64 (q : Int)]] rfl (by kernel_rfl) ?_
  refine (indices_all s cc lb 256 q HDs.out.1 HDs.out.2 (by omega) (by omega) (by omega) (by omega) (by omega) (by omega) X6_6 (HG.out.keep C0_6.out) f HF.out R HR.out ci HCI.out _ _ rfl rfl).mono ?_
  rintro e V7 ⟨LI, kI, rfl, ho, hb⟩
  have B6 := Lib.hid hb
  have HI := Lib.hid ho
  clear hb ho
  refine ⟨_, rfl, ?_⟩
  simp only [Act.put, List.setIfInBounds_toArray, List.set_cons_zero, List.set_cons_succ]
  refine wpList_run (by kernel_rfl) (.tuple #[.agg (trC s ci), .slice LI q kI]) V7 rfl ?_
  simp only [Act.put, List.setIfInBounds_toArray, List.set_cons_zero, List.set_cons_succ]
  refine wpList_run (by kernel_rfl) (.agg (trC s ci)) V7 rfl ?_
  simp only [Act.put, List.setIfInBounds_toArray, List.set_cons_zero, List.set_cons_succ]
  refine wpList_run (by kernel_rfl) (.slice LI q kI) V7 rfl ?_
  simp only [Act.put, List.setIfInBounds_toArray, List.set_cons_zero, List.set_cons_succ]
  refine wpList_new z33 32 (by kernel_rfl) (exec_allocT V7 rfl) ?_
  intro b11 V8 hge h0 hb
  have C1_6 := Lib.hid (bel_step C1_5.out B5.out)
  have C1_7 := Lib.hid (bel_step C1_6.out B6.out)
  have N11_0 : Hid (w.heap.size ≠ b11) := Lib.hid (xp_lt0 (heap_keep Fv0_2.out C1_7.out) hge)
  have C4_7 := Lib.hid (bel_step C4_6.out B6.out)
  have N11_1 : Hid (b6 ≠ b11) := Lib.hid (xp_lt0 (Fv1_6.out.keep C4_7.out) hge)
  have N11_2 : Hid (b8 ≠ b11) := Lib.hid (xp_lt0 (heap_keep Fv2_8.out C4_7.out) hge)
  have N11_3 : Hid (b9 ≠ b11) := Lib.hid (xp_lt0 (Fv3_9.out.keep B6.out) hge)
  have N11_4 : Hid (b10 ≠ b11) := Lib.hid (xp_lt0 (heap_keep Fv4_10.out B6.out) hge)
  have Ge11 : Hid (V7.heap.size ≤ b11) := Lib.hid hge
  have B7 := Lib.hid hb
  have Fv5_11 : Hid (RowT V8 b11 (List.replicate 32 0) 0) := Lib.hid (h0)
  clear hge h0 hb
  simp only [ptr, Act.put, List.setIfInBounds_toArray, List.set_cons_zero, List.set_cons_succ]
  refine wpList_storeW b11 (trC (List.replicate 32 0) 0) (trC s ci) 32 (by kernel_rfl) Fv5_11.out (exec_storeT b11 (List.replicate 32 0) 0 s ci List.length_replicate HDs.out.1 Fv5_11.out rfl rfl rfl) ?_
  intro X8_7 h1 hfar hbel hsz
  have hbr := hbel _ _ Ge11.out B7.out
  clear B7
  have B7 := Lib.hid hbr
  clear hbr
  clear Fv5_11
  have Fv5_11 : Hid (RowT X8_7 b11 s ci) := Lib.hid (h1)
  clear h1 hfar hbel hsz
  simp only [ptr, Act.put, List.setIfInBounds_toArray, List.set_cons_zero, List.set_cons_succ]
  refine wpList_run (by kernel_rfl) (.slice LI q kI) X8_7 rfl ?_
  simp only [Act.put, List.setIfInBounds_toArray, List.set_cons_zero, List.set_cons_succ]
  refine wpList_nil ?_
  clear hcc hq
  obtain ⟨DA, hDA⟩ : ∃ D, shaN (s ++ ([1, lb.size] ++ (bytS lb ++ (leN (min n1 200) ++ bs.take (min n1 200))))) = D := ⟨_, rfl⟩
  have DgDA := Lib.hid (show DA.length = 32 ∧ ∀ x ∈ DA, x < 256 by rw [← hDA]; exact ⟨shaN_length _, shaN_lt _⟩)
  have EDA := Lib.hid hDA
  clear hDA
  obtain ⟨DE, hDE⟩ : ∃ D, shaN (s ++ ([1, lb.size] ++ (bytS lb ++ (leN (16 * min n2 12) ++ extsN ((xs.take (min n2 12)).map redX))))) = D := ⟨_, rfl⟩
  have DgDE := Lib.hid (show DE.length = 32 ∧ ∀ x ∈ DE, x < 256 by rw [← hDE]; exact ⟨shaN_length _, shaN_lt _⟩)
  have EDE := Lib.hid hDE
  clear hDE
  obtain ⟨DN, hDN⟩ : ∃ D, shaN (s ++ ([1, lb.size] ++ (bytS lb ++ (leN (8 * min n3 12) ++ intsB ((is.take (min n3 12)).map u64N))))) = D := ⟨_, rfl⟩
  have DgDN := Lib.hid (show DN.length = 32 ∧ ∀ x ∈ DN, x < 256 by rw [← hDN]; exact ⟨shaN_length _, shaN_lt _⟩)
  have EDN := Lib.hid hDN
  clear hDN
  go_upto_region 6 with fail
  refine wp_region_lit ?_
  have C4_8 := Lib.hid (bel_step C4_7.out B7.out)
  refine wpList_run (by kernel_rfl) (.agg (trC s cc)) X8_7 (exec_loadT b6 s cc HDs.out.1 (Fv1_6.out.keep C4_8.out) rfl rfl) ?_
  simp only [Act.put, List.setIfInBounds_toArray, List.set_cons_zero, List.set_cons_succ]
  refine wpList_run (by kernel_rfl) (.string lb) X8_7 rfl ?_
  simp only [Act.put, List.setIfInBounds_toArray, List.set_cons_zero, List.set_cons_succ]
  refine wpList_run (by kernel_rfl) (.pointer (some ⟨b8, 1, none⟩)) X8_7 (xo_fld0 1 b8 1 (by kernel_rfl) rfl rfl) ?_
  simp only [Act.put, List.setIfInBounds_toArray, List.set_cons_zero, List.set_cons_succ]
  refine wpList_run (by kernel_rfl) (.slice A1 (min n1 200) c1) X8_7 (xo_load1 ⟨b8, 1, none⟩ _ (cells_at (heap_keep Fv2_8.out C4_8.out) 1 rfl) Tryd.underlying22 rfl rfl rfl) ?_
  simp only [Act.put, List.setIfInBounds_toArray, List.set_cons_zero, List.set_cons_succ]
  have C0_7 := Lib.hid (bel_step C0_6.out B6.out)
  have C0_8 := Lib.hid (bel_step C0_7.out B7.out)
  refine wpList_call (by kernel_rfl) 17 Tryd.func17 (by kernel_rfl) (by kernel_rfl) _ _ #[.agg (trC s cc), .string lb, .slice A1 (min n1 200) c1] rfl (by kernel_rfl) ?_
  refine (absorb_any s cc lb A1 (min n1 200) c1 (bs.take (min n1 200)) X8_7 HDs.out.1 HDs.out.2 (by omega) ((HS1.out.keep C0_8.out).take (k := min n1 200) (by omega)) (by omega) (HG.out.keep C0_8.out) DA EDA.out).mono ?_
  rintro e V9 ⟨rfl, hb⟩
  have B8 := Lib.hid hb
  clear hb 
  refine ⟨_, rfl, ?_⟩
  simp only [Act.put, List.setIfInBounds_toArray, List.set_cons_zero, List.set_cons_succ]
  refine wpList_new z33 32 (by kernel_rfl) (exec_allocT V9 rfl) ?_
  intro b13 V10 hge h0 hb
  have C1_8 := Lib.hid (bel_step C1_7.out B7.out)
  have C1_9 := Lib.hid (bel_step C1_8.out B8.out)
  have N13_0 : Hid (w.heap.size ≠ b13) := Lib.hid (xp_lt0 (heap_keep Fv0_2.out C1_9.out) hge)
  have C4_9 := Lib.hid (bel_step C4_8.out B8.out)
  have N13_1 : Hid (b6 ≠ b13) := Lib.hid (xp_lt0 (Fv1_6.out.keep C4_9.out) hge)
  have N13_2 : Hid (b8 ≠ b13) := Lib.hid (xp_lt0 (heap_keep Fv2_8.out C4_9.out) hge)
  have C6_8 := Lib.hid (bel_step B6.out B7.out)
  have C6_9 := Lib.hid (bel_step C6_8.out B8.out)
  have N13_3 : Hid (b9 ≠ b13) := Lib.hid (xp_lt0 (Fv3_9.out.keep C6_9.out) hge)
  have N13_4 : Hid (b10 ≠ b13) := Lib.hid (xp_lt0 (heap_keep Fv4_10.out C6_9.out) hge)
  have N13_5 : Hid (b11 ≠ b13) := Lib.hid (xp_lt0 (Fv5_11.out.keep B8.out) hge)
  have Ge13 : Hid (V9.heap.size ≤ b13) := Lib.hid hge
  have B9 := Lib.hid hb
  have Fv6_13 : Hid (RowT V10 b13 (List.replicate 32 0) 0) := Lib.hid (h0)
  clear hge h0 hb
  simp only [ptr, Act.put, List.setIfInBounds_toArray, List.set_cons_zero, List.set_cons_succ]
  refine wpList_storeW b13 (trC (List.replicate 32 0) 0) (trC DA 0) 32 (by kernel_rfl) Fv6_13.out (exec_storeT b13 (List.replicate 32 0) 0 DA 0 List.length_replicate DgDA.out.1 Fv6_13.out rfl rfl rfl) ?_
  intro X10_8 h1 hfar hbel hsz
  have hbr := hbel _ _ Ge13.out B9.out
  clear B9
  have B9 := Lib.hid hbr
  clear hbr
  clear Fv6_13
  have Fv6_13 : Hid (RowT X10_8 b13 DA 0) := Lib.hid (h1)
  clear h1 hfar hbel hsz
  simp only [ptr, Act.put, List.setIfInBounds_toArray, List.set_cons_zero, List.set_cons_succ]
  refine wpList_nil ?_
  go_upto_region 7 with fail
  refine wp_region_lit ?_
  refine wpList_run (by kernel_rfl) (.pointer (some ⟨b9, 0, none⟩)) X10_8 (exec_fT0 b9 rfl rfl X10_8) ?_
  simp only [Act.put, List.setIfInBounds_toArray, List.set_cons_zero, List.set_cons_succ]
  have C6_10 := Lib.hid (bel_step C6_9.out B9.out)
  refine wpList_run (by kernel_rfl) (.agg (celB s).toArray) X10_8 (exec_loadTs b9 s (cc + 1) HDs.out.1 (Fv3_9.out.keep C6_10.out) rfl rfl) ?_
  simp only [Act.put, List.setIfInBounds_toArray, List.set_cons_zero, List.set_cons_succ]
  refine wpList_run (by kernel_rfl) (.pointer (some ⟨b6, 0, none⟩)) X10_8 (exec_fT0 b6 rfl rfl X10_8) ?_
  simp only [Act.put, List.setIfInBounds_toArray, List.set_cons_zero, List.set_cons_succ]
  have C4_10 := Lib.hid (bel_step C4_9.out B9.out)
  refine wpList_run (by kernel_rfl) (.agg (celB s).toArray) X10_8 (exec_loadTs b6 s cc HDs.out.1 (Fv1_6.out.keep C4_10.out) rfl rfl) ?_
  simp only [Act.put, List.setIfInBounds_toArray, List.set_cons_zero, List.set_cons_succ]
  refine wpList_run (by kernel_rfl) (.bool false) X10_8 (exec_cmpD rfl rfl rfl (run_neD_same s HDs.out.1 HDs.out.2 _)) ?_
  simp only [Act.put, List.setIfInBounds_toArray, List.set_cons_zero, List.set_cons_succ]
  refine wpList_run (by kernel_rfl) (.bool false) X10_8 rfl ?_
  simp only [Act.put, List.setIfInBounds_toArray, List.set_cons_zero, List.set_cons_succ]
  refine wpList_run (by kernel_rfl) (.pointer (some ⟨b9, 32, none⟩)) X10_8 (exec_fT1 b9 rfl rfl X10_8) ?_
  simp only [Act.put, List.setIfInBounds_toArray, List.set_cons_zero, List.set_cons_succ]
  refine wpList_run (by kernel_rfl) (.int .u64 (((cc + 1) : Nat) : Int)) X10_8 (exec_loadU ⟨b9, 32, none⟩ _ ((Fv3_9.out.keep C6_10.out).count HDs.out.1) rfl rfl) ?_
  simp only [Act.put, List.setIfInBounds_toArray, List.set_cons_zero, List.set_cons_succ]
  refine wpList_run (by kernel_rfl) (.pointer (some ⟨b6, 32, none⟩)) X10_8 (exec_fT1 b6 rfl rfl X10_8) ?_
  simp only [Act.put, List.setIfInBounds_toArray, List.set_cons_zero, List.set_cons_succ]
  refine wpList_run (by kernel_rfl) (.int .u64 ((cc : Nat) : Int)) X10_8 (exec_loadU ⟨b6, 32, none⟩ _ ((Fv1_6.out.keep C4_10.out).count HDs.out.1) rfl rfl) ?_
  simp only [Act.put, List.setIfInBounds_toArray, List.set_cons_zero, List.set_cons_succ]
  refine wpList_run (by kernel_rfl) (.int .u64 ((cc + 1 : Nat) : Int)) X10_8 (xo_addU cc 1 (cc + 1) (by omega) rfl rfl rfl) ?_
  simp only [Act.put, List.setIfInBounds_toArray, List.set_cons_zero, List.set_cons_succ]
  refine wpList_run (by kernel_rfl) (.bool false) X10_8 (xo_neqF .u64 ((cc + 1 : Nat) : Int) ((cc + 1 : Nat) : Int) (by omega) rfl rfl rfl) ?_
  simp only [Act.put, List.setIfInBounds_toArray, List.set_cons_zero, List.set_cons_succ]
  refine wpList_run (by kernel_rfl) (.bool false) X10_8 rfl ?_
  simp only [Act.put, List.setIfInBounds_toArray, List.set_cons_zero, List.set_cons_succ]
  refine wpList_run (by kernel_rfl) (.bool false) X10_8 rfl ?_
  simp only [Act.put, List.setIfInBounds_toArray, List.set_cons_zero, List.set_cons_succ]
  refine wpList_run (by kernel_rfl) (.pointer (some ⟨b11, 0, none⟩)) X10_8 (exec_fT0 b11 rfl rfl X10_8) ?_
  simp only [Act.put, List.setIfInBounds_toArray, List.set_cons_zero, List.set_cons_succ]
  have C8_10 := Lib.hid (bel_step B8.out B9.out)
  refine wpList_run (by kernel_rfl) (.agg (celB s).toArray) X10_8 (exec_loadTs b11 s ci HDs.out.1 (Fv5_11.out.keep C8_10.out) rfl rfl) ?_
  simp only [Act.put, List.setIfInBounds_toArray, List.set_cons_zero, List.set_cons_succ]
  refine wpList_run (by kernel_rfl) (.pointer (some ⟨b6, 0, none⟩)) X10_8 (exec_fT0 b6 rfl rfl X10_8) ?_
  simp only [Act.put, List.setIfInBounds_toArray, List.set_cons_zero, List.set_cons_succ]
  refine wpList_run (by kernel_rfl) (.agg (celB s).toArray) X10_8 (exec_loadTs b6 s cc HDs.out.1 (Fv1_6.out.keep C4_10.out) rfl rfl) ?_
  simp only [Act.put, List.setIfInBounds_toArray, List.set_cons_zero, List.set_cons_succ]
  refine wpList_run (by kernel_rfl) (.bool false) X10_8 (exec_cmpD rfl rfl rfl (run_neD_same s HDs.out.1 HDs.out.2 _)) ?_
  simp only [Act.put, List.setIfInBounds_toArray, List.set_cons_zero, List.set_cons_succ]
  refine wpList_run (by kernel_rfl) (.bool false) X10_8 rfl ?_
  simp only [Act.put, List.setIfInBounds_toArray, List.set_cons_zero, List.set_cons_succ]
  refine wpList_run (by kernel_rfl) (.bool false) X10_8 rfl ?_
  simp only [Act.put, List.setIfInBounds_toArray, List.set_cons_zero, List.set_cons_succ]
  refine wpList_run (by kernel_rfl) (.pointer (some ⟨b11, 32, none⟩)) X10_8 (exec_fT1 b11 rfl rfl X10_8) ?_
  simp only [Act.put, List.setIfInBounds_toArray, List.set_cons_zero, List.set_cons_succ]
  refine wpList_run (by kernel_rfl) (.int .u64 ((ci : Nat) : Int)) X10_8 (exec_loadU ⟨b11, 32, none⟩ _ ((Fv5_11.out.keep C8_10.out).count HDs.out.1) rfl rfl) ?_
  simp only [Act.put, List.setIfInBounds_toArray, List.set_cons_zero, List.set_cons_succ]
  refine wpList_run (by kernel_rfl) (.pointer (some ⟨b6, 32, none⟩)) X10_8 (exec_fT1 b6 rfl rfl X10_8) ?_
  simp only [Act.put, List.setIfInBounds_toArray, List.set_cons_zero, List.set_cons_succ]
  refine wpList_run (by kernel_rfl) (.int .u64 ((cc : Nat) : Int)) X10_8 (exec_loadU ⟨b6, 32, none⟩ _ ((Fv1_6.out.keep C4_10.out).count HDs.out.1) rfl rfl) ?_
  simp only [Act.put, List.setIfInBounds_toArray, List.set_cons_zero, List.set_cons_succ]
  refine wpList_run (by kernel_rfl) (.slice LI q kI) X10_8 rfl ?_
  simp only [Act.put, List.setIfInBounds_toArray, List.set_cons_zero, List.set_cons_succ]
  refine wpList_run (by kernel_rfl) (.int .i64 (q : Int)) X10_8 (xo_len LI q kI Tryd.underlying48 rfl rfl) ?_
  simp only [Act.put, List.setIfInBounds_toArray, List.set_cons_zero, List.set_cons_succ]
  refine wpList_run (by kernel_rfl) (.int .i64 ((q + 3 : Nat) : Int)) X10_8 (xo_addI (q : Int) 3 ((q + 3 : Nat) : Int) (by omega) (by omega) (by omega) rfl rfl rfl) ?_
  simp only [Act.put, List.setIfInBounds_toArray, List.set_cons_zero, List.set_cons_succ]
  refine wpList_run (by kernel_rfl) (.int .u64 ((q + 3 : Nat) : Int)) X10_8 (xo_cvt .i64 .u64 ((q + 3 : Nat) : Int) ((q + 3 : Nat) : Int) (wrapU (by omega) (by omega)) Tryd.underlying25 Tryd.underlying3 rfl rfl) ?_
  simp only [Act.put, List.setIfInBounds_toArray, List.set_cons_zero, List.set_cons_succ]
  refine wpList_run (by kernel_rfl) (.int .u64 (((q + 3) / 4 : Nat) : Int)) X10_8 (xo_quoU (q + 3) 4 ((q + 3) / 4) (by omega) rfl (by omega) rfl rfl rfl) ?_
  simp only [Act.put, List.setIfInBounds_toArray, List.set_cons_zero, List.set_cons_succ]
  refine wpList_run (by kernel_rfl) (.int .u64 ((cc + ((q + 3) / 4) : Nat) : Int)) X10_8 (xo_addU cc ((q + 3) / 4) (cc + ((q + 3) / 4)) (by omega) rfl rfl rfl) ?_
  simp only [Act.put, List.setIfInBounds_toArray, List.set_cons_zero, List.set_cons_succ]
  refine wpList_run (by kernel_rfl) (.bool false) X10_8 (xo_lssF .u64 (ci : Int) ((cc + ((q + 3) / 4) : Nat) : Int) (by omega) rfl rfl rfl) ?_
  simp only [Act.put, List.setIfInBounds_toArray, List.set_cons_zero, List.set_cons_succ]
  refine wpList_run (by kernel_rfl) (.bool false) X10_8 rfl ?_
  simp only [Act.put, List.setIfInBounds_toArray, List.set_cons_zero, List.set_cons_succ]
  refine wpList_run (by kernel_rfl) (.bool false) X10_8 rfl ?_
  simp only [Act.put, List.setIfInBounds_toArray, List.set_cons_zero, List.set_cons_succ]
  refine wpList_run (by kernel_rfl) (.pointer (some ⟨b13, 32, none⟩)) X10_8 (exec_fT1 b13 rfl rfl X10_8) ?_
  simp only [Act.put, List.setIfInBounds_toArray, List.set_cons_zero, List.set_cons_succ]
  refine wpList_run (by kernel_rfl) (.int .u64 ((0 : Nat) : Int)) X10_8 (exec_loadU ⟨b13, 32, none⟩ _ (Fv6_13.out.count DgDA.out.1) rfl rfl) ?_
  simp only [Act.put, List.setIfInBounds_toArray, List.set_cons_zero, List.set_cons_succ]
  refine wpList_run (by kernel_rfl) (.bool false) X10_8 (xo_neqF .u64 0 0 (by omega) rfl rfl rfl) ?_
  simp only [Act.put, List.setIfInBounds_toArray, List.set_cons_zero, List.set_cons_succ]
  refine wpList_run (by kernel_rfl) (.bool false) X10_8 rfl ?_
  simp only [Act.put, List.setIfInBounds_toArray, List.set_cons_zero, List.set_cons_succ]
  refine wpList_nil ?_
  go_upto_region 9 with fail
  refine wp_region_lit ?_
  refine wpList_run (by kernel_rfl) (.agg (trC s cc)) X10_8 (exec_loadT b6 s cc HDs.out.1 (Fv1_6.out.keep C4_10.out) rfl rfl) ?_
  simp only [Act.put, List.setIfInBounds_toArray, List.set_cons_zero, List.set_cons_succ]
  refine wpList_new z33 32 (by kernel_rfl) (exec_allocT X10_8 rfl) ?_
  intro b14 V11 hge h0 hb
  have C1_10 := Lib.hid (bel_step C1_9.out B9.out)
  have N14_0 : Hid (w.heap.size ≠ b14) := Lib.hid (xp_lt0 (heap_keep Fv0_2.out C1_10.out) hge)
  have N14_1 : Hid (b6 ≠ b14) := Lib.hid (xp_lt0 (Fv1_6.out.keep C4_10.out) hge)
  have N14_2 : Hid (b8 ≠ b14) := Lib.hid (xp_lt0 (heap_keep Fv2_8.out C4_10.out) hge)
  have N14_3 : Hid (b9 ≠ b14) := Lib.hid (xp_lt0 (Fv3_9.out.keep C6_10.out) hge)
  have N14_4 : Hid (b10 ≠ b14) := Lib.hid (xp_lt0 (heap_keep Fv4_10.out C6_10.out) hge)
  have N14_5 : Hid (b11 ≠ b14) := Lib.hid (xp_lt0 (Fv5_11.out.keep C8_10.out) hge)
  have N14_6 : Hid (b13 ≠ b14) := Lib.hid (xp_lt0 Fv6_13.out hge)
  have Ge14 : Hid (X10_8.heap.size ≤ b14) := Lib.hid hge
  have B10 := Lib.hid hb
  have Fv7_14 : Hid (RowT V11 b14 (List.replicate 32 0) 0) := Lib.hid (h0)
  clear hge h0 hb
  simp only [ptr, Act.put, List.setIfInBounds_toArray, List.set_cons_zero, List.set_cons_succ]
  refine wpList_storeW b14 (trC (List.replicate 32 0) 0) (trC s cc) 32 (by kernel_rfl) Fv7_14.out (exec_storeT b14 (List.replicate 32 0) 0 s cc List.length_replicate HDs.out.1 Fv7_14.out rfl rfl rfl) ?_
  intro X11_9 h1 hfar hbel hsz
  have hbr := hbel _ _ Ge14.out B10.out
  clear B10
  have B10 := Lib.hid hbr
  clear hbr
  clear Fv7_14
  have Fv7_14 : Hid (RowT X11_9 b14 s cc) := Lib.hid (h1)
  clear h1 hfar hbel hsz
  simp only [ptr, Act.put, List.setIfInBounds_toArray, List.set_cons_zero, List.set_cons_succ]
  refine wpList_nil ?_
  go_upto_region 10 with fail
  refine wp_region_lit ?_
  refine wpList_run (by kernel_rfl) (.pointer (some ⟨b14, 32, none⟩)) X11_9 (exec_fT1 b14 rfl rfl X11_9) ?_
  simp only [Act.put, List.setIfInBounds_toArray, List.set_cons_zero, List.set_cons_succ]
  refine wpList_store1 b14 32 (trC s cc) (.int .u64 ((0 : Nat) : Int)) 32 (by kernel_rfl) Fv7_14.out (xo_store1 b14 32 (trC s cc) _ (.int .u64 ((0 : Nat) : Int)) Fv7_14.out (trC_count HDs.out.1 _) (by kernel_rfl) rfl rfl rfl rfl) ?_
  intro X11_10 h1 hfar hbel hsz
  have hbr := hbel _ _ Ge14.out B10.out
  clear B10
  have B10 := Lib.hid hbr
  clear hbr
  clear Fv7_14
  have Fv7_14 : Hid (RowT X11_10 b14 s 0) := Lib.hid ((by have h2 := h1; rw [trC_set HDs.out.1 cc 0] at h2; exact h2))
  clear h1 hfar hbel hsz
  simp only [ptr, Act.put, List.setIfInBounds_toArray, List.set_cons_zero, List.set_cons_succ]
  refine wpList_nil ?_
  go_upto_region 11 with fail
  try simp only [List.append_eq, List.cons_append, List.nil_append]
  refine Tl.wp_held_tailB 38 X11_10.heap.size (by kernel_rfl) (lexOK_of (by kernel_rfl) (by kernel_rfl)) (Tl.chainW_of (by kernel_rfl)) rfl (by kernel_rfl) (by kernel_rfl) (fun V12 hb hSW => ?_)
  simp only [List.take_succ_cons, List.take_zero]
  have HS12 := Lib.hid hSW
  have B11 := Lib.hid hb
  clear hb hSW
  refine wpHeld_seg 4 HS12.out (by kernel_rfl) ?_
  simp only [List.take_succ_cons, List.take_zero, List.drop_succ_cons, List.drop_zero]
  refine wpQuiet_val (by kernel_rfl) (.agg (trC s 0)) (fun v hv => (exec_loadT b14 s 0 HDs.out.1 (Fv7_14.out.keep (LaterB.of hv)) rfl rfl)) ?_
  simp only [Act.put, List.setIfInBounds_toArray, List.set_cons_zero, List.set_cons_succ]
  refine wpQuiet_val (by kernel_rfl) (.string lb) (fun v hv => rfl) ?_
  simp only [Act.put, List.setIfInBounds_toArray, List.set_cons_zero, List.set_cons_succ]
  refine wpQuiet_val (by kernel_rfl) (.pointer (some ⟨b8, 1, none⟩)) (fun v hv => (xo_fld0 1 b8 1 (by kernel_rfl) rfl rfl)) ?_
  simp only [Act.put, List.setIfInBounds_toArray, List.set_cons_zero, List.set_cons_succ]
  have C4_11 := Lib.hid (bel_step C4_10.out B10.out)
  refine wpQuiet_val (by kernel_rfl) (.slice A1 (min n1 200) c1) (fun v hv => (xo_load1 ⟨b8, 1, none⟩ _ (cells_at (heap_keep (heap_keep Fv2_8.out C4_11.out) (LaterB.of hv)) 1 rfl) Tryd.underlying22 rfl rfl rfl)) ?_
  simp only [Act.put, List.setIfInBounds_toArray, List.set_cons_zero, List.set_cons_succ]
  refine wpQuiet_nil ?_
  have C0_9 := Lib.hid (bel_step C0_8.out B8.out)
  have C0_10 := Lib.hid (bel_step C0_9.out B9.out)
  have C0_11 := Lib.hid (bel_step C0_10.out B10.out)
  have C0_12 := Lib.hid (bel_step C0_11.out B11.out)
  refine wpHeld_call 17 Tryd.func17 (by kernel_rfl) (by kernel_rfl) _ _ #[.agg (trC s 0), .string lb, .slice A1 (min n1 200) c1] rfl (by kernel_rfl) (by kernel_rfl) ?_
  refine (absorb_any s 0 lb A1 (min n1 200) c1 (bs.take (min n1 200)) V12 HDs.out.1 HDs.out.2 (by omega) ((HS1.out.keep C0_12.out).take (k := min n1 200) (by omega)) (by omega) (HG.out.keep C0_12.out) DA EDA.out).mono ?_
  rintro e V13 ⟨rfl, hb⟩
  have B12 := Lib.hid hb
  have HS13 := Lib.hid (LaterB.step HS12.out (hb.mono B11.out.size))
  clear hb 
  refine ⟨_, rfl, HS13.out, ?_⟩
  simp only [Act.put, List.setIfInBounds_toArray, List.set_cons_zero, List.set_cons_succ]
  refine wpHeld_seg 7 HS13.out (by kernel_rfl) ?_
  simp only [List.take_succ_cons, List.take_zero, List.drop_succ_cons, List.drop_zero]
  refine wpQuiet_val (by kernel_rfl) (.agg (trC DA 0)) (fun v hv => (exec_loadT b13 DA 0 DgDA.out.1 ((Fv6_13.out.keep B10.out).keep (LaterB.of hv)) rfl rfl)) ?_
  simp only [Act.put, List.setIfInBounds_toArray, List.set_cons_zero, List.set_cons_succ]
  refine wpQuiet_val (by kernel_rfl) (.bool true) (fun v hv => (exec_eqTr DA 0 DgDA.out.1 DgDA.out.2 rfl rfl rfl v)) ?_
  simp only [Act.put, List.setIfInBounds_toArray, List.set_cons_zero, List.set_cons_succ]
  refine wpQuiet_val (by kernel_rfl) (.bool true) (fun v hv => rfl) ?_
  simp only [Act.put, List.setIfInBounds_toArray, List.set_cons_zero, List.set_cons_succ]
  refine wpQuiet_val (by kernel_rfl) (.agg (trC s cc)) (fun v hv => (exec_loadT b6 s cc HDs.out.1 ((Fv1_6.out.keep C4_11.out).keep (LaterB.of hv)) rfl rfl)) ?_
  simp only [Act.put, List.setIfInBounds_toArray, List.set_cons_zero, List.set_cons_succ]
  refine wpQuiet_val (by kernel_rfl) (.string lb) (fun v hv => rfl) ?_
  simp only [Act.put, List.setIfInBounds_toArray, List.set_cons_zero, List.set_cons_succ]
  refine wpQuiet_val (by kernel_rfl) (.pointer (some ⟨b8, 2, none⟩)) (fun v hv => (xo_fld0 2 b8 2 (by kernel_rfl) rfl rfl)) ?_
  simp only [Act.put, List.setIfInBounds_toArray, List.set_cons_zero, List.set_cons_succ]
  refine wpQuiet_val (by kernel_rfl) (.slice A5 (min n2 12) c5) (fun v hv => (xo_load1 ⟨b8, 2, none⟩ _ (cells_at (heap_keep (heap_keep Fv2_8.out C4_11.out) (LaterB.of hv)) 2 rfl) Tryd.underlying23 rfl rfl rfl)) ?_
  simp only [Act.put, List.setIfInBounds_toArray, List.set_cons_zero, List.set_cons_succ]
  refine wpQuiet_nil ?_
  have C3_5 := Lib.hid (bel_step B3.out B4.out)
  have C3_6 := Lib.hid (bel_step C3_5.out B5.out)
  have C3_7 := Lib.hid (bel_step C3_6.out B6.out)
  have C3_8 := Lib.hid (bel_step C3_7.out B7.out)
  have C3_9 := Lib.hid (bel_step C3_8.out B8.out)
  have C3_10 := Lib.hid (bel_step C3_9.out B9.out)
  have C3_11 := Lib.hid (bel_step C3_10.out B10.out)
  have C3_12 := Lib.hid (bel_step C3_11.out B11.out)
  have C3_13 := Lib.hid (bel_step C3_12.out B12.out)
  have C0_13 := Lib.hid (bel_step C0_12.out B12.out)
  refine wpHeld_call 19 Tryd.func19 (by kernel_rfl) (by kernel_rfl) _ _ #[.agg (trC s cc), .string lb, .slice A5 (min n2 12) c5] rfl (by kernel_rfl) (by kernel_rfl) ?_
  refine (absorbExt_any s cc lb A5 (min n2 12) c5 ((xs.take (min n2 12)).map redX) V13 HDs.out.1 HDs.out.2 (by omega) (HY.out.keep C3_13.out) (by omega) (HG.out.keep C0_13.out) DE EDE.out).mono ?_
  rintro e V14 ⟨rfl, hb⟩
  have B13 := Lib.hid hb
  have C11_13 := Lib.hid (bel_step B11.out B12.out)
  have HS14 := Lib.hid (LaterB.step HS13.out (hb.mono C11_13.out.size))
  clear hb 
  refine ⟨_, rfl, HS14.out, ?_⟩
  simp only [Act.put, List.setIfInBounds_toArray, List.set_cons_zero, List.set_cons_succ]
  refine wpHeld_seg 4 HS14.out (by kernel_rfl) ?_
  simp only [List.take_succ_cons, List.take_zero, List.drop_succ_cons, List.drop_zero]
  refine wpQuiet_val (by kernel_rfl) (.agg (trC s cc)) (fun v hv => (exec_loadT b6 s cc HDs.out.1 ((Fv1_6.out.keep C4_11.out).keep (LaterB.of hv)) rfl rfl)) ?_
  simp only [Act.put, List.setIfInBounds_toArray, List.set_cons_zero, List.set_cons_succ]
  refine wpQuiet_val (by kernel_rfl) (.string lb) (fun v hv => rfl) ?_
  simp only [Act.put, List.setIfInBounds_toArray, List.set_cons_zero, List.set_cons_succ]
  refine wpQuiet_val (by kernel_rfl) (.pointer (some ⟨b8, 2, none⟩)) (fun v hv => (xo_fld0 2 b8 2 (by kernel_rfl) rfl rfl)) ?_
  simp only [Act.put, List.setIfInBounds_toArray, List.set_cons_zero, List.set_cons_succ]
  refine wpQuiet_val (by kernel_rfl) (.slice A5 (min n2 12) c5) (fun v hv => (xo_load1 ⟨b8, 2, none⟩ _ (cells_at (heap_keep (heap_keep Fv2_8.out C4_11.out) (LaterB.of hv)) 2 rfl) Tryd.underlying23 rfl rfl rfl)) ?_
  simp only [Act.put, List.setIfInBounds_toArray, List.set_cons_zero, List.set_cons_succ]
  refine wpQuiet_nil ?_
  have C3_14 := Lib.hid (bel_step C3_13.out B13.out)
  refine wpHeld_call 24 Tryd.func24 (by kernel_rfl) (by kernel_rfl) _ _ #[.slice A5 (min n2 12) c5] rfl (by kernel_rfl) (by kernel_rfl) ?_
  refine (bytes_any A5 (min n2 12) c5 ((xs.take (min n2 12)).map redX) V14 (HY.out.keep C3_14.out) (by omega)).mono ?_
  rintro e V15 ⟨v, rfl, ho, hb⟩
  have B14 := Lib.hid hb
  have C11_14 := Lib.hid (bel_step C11_13.out B13.out)
  have HS15 := Lib.hid (LaterB.step HS14.out (hb.mono C11_14.out.size))
  obtain ⟨Mb, jb, rfl, hbx⟩ := OwB.sl ho
  have HBX := Lib.hid hbx
  clear hb hbx
  refine ⟨_, rfl, HS15.out, ?_⟩
  simp only [Act.put, List.setIfInBounds_toArray, List.set_cons_zero, List.set_cons_succ]
  have C0_14 := Lib.hid (bel_step C0_13.out B13.out)
  have C0_15 := Lib.hid (bel_step C0_14.out B14.out)
  refine wpHeld_call 17 Tryd.func17 (by kernel_rfl) (by kernel_rfl) _ _ #[.agg (trC s cc), .string lb, .slice Mb (16 * (min n2 12)) jb] rfl (by kernel_rfl) (by kernel_rfl) ?_
  refine (absorb_any s cc lb Mb (16 * (min n2 12)) jb (extsN ((xs.take (min n2 12)).map redX)) V15 HDs.out.1 HDs.out.2 (by omega) HBX.out (by omega) (HG.out.keep C0_15.out) DE EDE.out).mono ?_
  rintro e V16 ⟨rfl, hb⟩
  have B15 := Lib.hid hb
  have C11_15 := Lib.hid (bel_step C11_14.out B14.out)
  have HS16 := Lib.hid (LaterB.step HS15.out (hb.mono C11_15.out.size))
  clear hb 
  refine ⟨_, rfl, HS16.out, ?_⟩
  simp only [Act.put, List.setIfInBounds_toArray, List.set_cons_zero, List.set_cons_succ]
  refine wpHeld_seg 7 HS16.out (by kernel_rfl) ?_
  simp only [List.take_succ_cons, List.take_zero, List.drop_succ_cons, List.drop_zero]
  refine wpQuiet_val (by kernel_rfl) (.bool true) (fun v hv => (exec_eqTr DE 0 DgDE.out.1 DgDE.out.2 rfl rfl rfl v)) ?_
  simp only [Act.put, List.setIfInBounds_toArray, List.set_cons_zero, List.set_cons_succ]
  refine wpQuiet_val (by kernel_rfl) (.bool true) (fun v hv => rfl) ?_
  simp only [Act.put, List.setIfInBounds_toArray, List.set_cons_zero, List.set_cons_succ]
  refine wpQuiet_val (by kernel_rfl) (.bool true) (fun v hv => rfl) ?_
  simp only [Act.put, List.setIfInBounds_toArray, List.set_cons_zero, List.set_cons_succ]
  refine wpQuiet_val (by kernel_rfl) (.agg (trC s cc)) (fun v hv => (exec_loadT b6 s cc HDs.out.1 ((Fv1_6.out.keep C4_11.out).keep (LaterB.of hv)) rfl rfl)) ?_
  simp only [Act.put, List.setIfInBounds_toArray, List.set_cons_zero, List.set_cons_succ]
  refine wpQuiet_val (by kernel_rfl) (.string lb) (fun v hv => rfl) ?_
  simp only [Act.put, List.setIfInBounds_toArray, List.set_cons_zero, List.set_cons_succ]
  refine wpQuiet_val (by kernel_rfl) (.pointer (some ⟨b8, 3, none⟩)) (fun v hv => (xo_fld0 3 b8 3 (by kernel_rfl) rfl rfl)) ?_
  simp only [Act.put, List.setIfInBounds_toArray, List.set_cons_zero, List.set_cons_succ]
  refine wpQuiet_val (by kernel_rfl) (.slice A3 (min n3 12) c3) (fun v hv => (xo_load1 ⟨b8, 3, none⟩ _ (cells_at (heap_keep (heap_keep Fv2_8.out C4_11.out) (LaterB.of hv)) 3 rfl) Tryd.underlying24 rfl rfl rfl)) ?_
  simp only [Act.put, List.setIfInBounds_toArray, List.set_cons_zero, List.set_cons_succ]
  refine wpQuiet_nil ?_
  have C0_16 := Lib.hid (bel_step C0_15.out B15.out)
  refine wpHeld_call 21 Tryd.func21 (by kernel_rfl) (by kernel_rfl) _ _ #[.agg (trC s cc), .string lb, .slice A3 (min n3 12) c3] rfl (by kernel_rfl) (by kernel_rfl) ?_
  refine (absorbInts_any s cc lb A3 (min n3 12) c3 (is.take (min n3 12)) V16 HDs.out.1 HDs.out.2 (by omega) ((HS3.out.keep C0_16.out).take (k := min n3 12) (by omega)) (by omega) (HG.out.keep C0_16.out) DN EDN.out).mono ?_
  rintro e V17 ⟨rfl, hb⟩
  have B16 := Lib.hid hb
  have C11_16 := Lib.hid (bel_step C11_15.out B15.out)
  have HS17 := Lib.hid (LaterB.step HS16.out (hb.mono C11_16.out.size))
  clear hb 
  refine ⟨_, rfl, HS17.out, ?_⟩
  simp only [Act.put, List.setIfInBounds_toArray, List.set_cons_zero, List.set_cons_succ]
  refine wpHeld_seg 4 HS17.out (by kernel_rfl) ?_
  simp only [List.take_succ_cons, List.take_zero, List.drop_succ_cons, List.drop_zero]
  refine wpQuiet_val (by kernel_rfl) (.agg (trC s cc)) (fun v hv => (exec_loadT b6 s cc HDs.out.1 ((Fv1_6.out.keep C4_11.out).keep (LaterB.of hv)) rfl rfl)) ?_
  simp only [Act.put, List.setIfInBounds_toArray, List.set_cons_zero, List.set_cons_succ]
  refine wpQuiet_val (by kernel_rfl) (.string lb) (fun v hv => rfl) ?_
  simp only [Act.put, List.setIfInBounds_toArray, List.set_cons_zero, List.set_cons_succ]
  refine wpQuiet_val (by kernel_rfl) (.pointer (some ⟨b8, 3, none⟩)) (fun v hv => (xo_fld0 3 b8 3 (by kernel_rfl) rfl rfl)) ?_
  simp only [Act.put, List.setIfInBounds_toArray, List.set_cons_zero, List.set_cons_succ]
  refine wpQuiet_val (by kernel_rfl) (.slice A3 (min n3 12) c3) (fun v hv => (xo_load1 ⟨b8, 3, none⟩ _ (cells_at (heap_keep (heap_keep Fv2_8.out C4_11.out) (LaterB.of hv)) 3 rfl) Tryd.underlying24 rfl rfl rfl)) ?_
  simp only [Act.put, List.setIfInBounds_toArray, List.set_cons_zero, List.set_cons_succ]
  refine wpQuiet_nil ?_
  have C0_17 := Lib.hid (bel_step C0_16.out B16.out)
  refine wpHeld_call 29 Tryd.func29 (by kernel_rfl) (by kernel_rfl) _ _ #[.slice A3 (min n3 12) c3] rfl (by kernel_rfl) (by kernel_rfl) ?_
  refine (rintBytes_any A3 (min n3 12) c3 (is.take (min n3 12)) V17 ((HS3.out.keep C0_17.out).take (k := min n3 12) (by omega)) (by omega)).mono ?_
  rintro e V18 ⟨Mi, ji, rfl, hs, hb⟩
  have B17 := Lib.hid hb
  have C11_17 := Lib.hid (bel_step C11_16.out B16.out)
  have HS18 := Lib.hid (LaterB.step HS17.out (hb.mono C11_17.out.size))
  have HBI := Lib.hid hs
  clear hb hs
  refine ⟨_, rfl, HS18.out, ?_⟩
  simp only [Act.put, List.setIfInBounds_toArray, List.set_cons_zero, List.set_cons_succ]
  have C0_18 := Lib.hid (bel_step C0_17.out B17.out)
  refine wpHeld_call 17 Tryd.func17 (by kernel_rfl) (by kernel_rfl) _ _ #[.agg (trC s cc), .string lb, .slice Mi (8 * (min n3 12)) ji] rfl (by kernel_rfl) (by kernel_rfl) ?_
  refine (absorb_any s cc lb Mi (8 * (min n3 12)) ji (intsB ((is.take (min n3 12)).map u64N)) V18 HDs.out.1 HDs.out.2 (by omega) HBI.out (by omega) (HG.out.keep C0_18.out) DN EDN.out).mono ?_
  rintro e V19 ⟨rfl, hb⟩
  have B18 := Lib.hid hb
  have C11_18 := Lib.hid (bel_step C11_17.out B17.out)
  have HS19 := Lib.hid (LaterB.step HS18.out (hb.mono C11_18.out.size))
  clear hb 
  refine ⟨_, rfl, HS19.out, ?_⟩
  simp only [Act.put, List.setIfInBounds_toArray, List.set_cons_zero, List.set_cons_succ]
  refine wpHeld_seg 5 HS19.out (by kernel_rfl) ?_
  simp only [List.take_succ_cons, List.take_zero, List.drop_succ_cons, List.drop_zero]
  refine wpQuiet_val (by kernel_rfl) (.bool true) (fun v hv => (exec_eqTr DN 0 DgDN.out.1 DgDN.out.2 rfl rfl rfl v)) ?_
  simp only [Act.put, List.setIfInBounds_toArray, List.set_cons_zero, List.set_cons_succ]
  refine wpQuiet_val (by kernel_rfl) (.bool true) (fun v hv => rfl) ?_
  simp only [Act.put, List.setIfInBounds_toArray, List.set_cons_zero, List.set_cons_succ]
  refine wpQuiet_val (by kernel_rfl) (.bool true) (fun v hv => rfl) ?_
  simp only [Act.put, List.setIfInBounds_toArray, List.set_cons_zero, List.set_cons_succ]
  refine wpQuiet_val (by kernel_rfl) (.bool true) (fun v hv => rfl) ?_
  simp only [Act.put, List.setIfInBounds_toArray, List.set_cons_zero, List.set_cons_succ]
  refine wpQuiet_val (by kernel_rfl) (.bool true) (fun v hv => rfl) ?_
  simp only [Act.put, List.setIfInBounds_toArray, List.set_cons_zero, List.set_cons_succ]
  refine wpQuiet_nil ?_
  refine wpHeld_nil ?_
  refine mOp_val (.bool true) rfl rfl rfl ?_
  try simp only [List.getElem_toArray, List.getElem_cons_succ, List.getElem_cons_zero, ptr, Act.put, List.setIfInBounds_toArray, List.set_cons_zero, List.set_cons_succ]
  go_wp2_with fail
  go_ret
  have C0_19 := Lib.hid (bel_step C0_18.out B18.out)
  exact ⟨rfl, C0_19.out⟩
end Go.Proofs.YtcaoajeplinopaaDoor
