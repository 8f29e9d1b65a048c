/- A law of stage 10: MatchesReference. -/
import Derived.Test.YtcaoajeplinopaaDoorH16
namespace Go.Proofs.YtcaoajeplinopaaDoor
set_option linter.unusedVariables false
set_option linter.unusedSimpArgs false
set_option maxRecDepth 8000
open Go.RowKit Gold
open Go.Shelf
attribute [local simp] z32_ne z32_run
attribute [-simp] Tryd.zeroValue30 Tryd.isAgg30 Tryd.sizeOf30
attribute [-simp] Tryd.zeroValue32 Tryd.isAgg32 Tryd.sizeOf32
attribute [local simp] z33_ne z33_run
attribute [local irreducible] wpList wpQuiet
set_option maxRecDepth 100000 in
set_option maxHeartbeats 16000000 in
theorem tMatchesReference_any (ls : ByteArray) (A1 : Option Addr) (n1 c1 : Nat) (bs : List Nat) (A2 : Option Addr) (n2 c2 : Nat) (xs : List (Nat × Nat)) (A3 : Option Addr) (n3 c3 : Nat) (is : List Int) (A4 : Option Addr) (n4 c4 : Nat) (st : List Nat) (cnt : Nat) (w : World)
    (hS1 : Sb w A1 n1 c1 bs) (hS2 : XbT w A2 n2 c2 xs) (hS3 : Ib w A3 n3 c3 is) (hS4 : Sb w A4 n4 c4 st) (hc : cnt < 18446744073709551616) (hG : Gl w) :
    Calls Tryd.prog 3 #[.agg #[.string ls, .slice A1 n1 c1, .slice A2 n2 c2, .slice A3 n3 c3, .slice A4 n4 c4, .int .u64 (cnt : Int)]] w fun e w' => e = .returned (.bool true) ∧ Below w.heap.size w w' := by
  obtain ⟨s, hs⟩ : ∃ s, madeN st = s := ⟨_, rfl⟩
  have HDs := Lib.hid (show s.length = 32 ∧ ∀ x ∈ s, x < 256 by rw [← hs]; exact ⟨madeN_length _, madeN_lt hS4.byte⟩)
  have HSM := Lib.hid hs
  have hcap1 := hS1.cap
  have hlen1 := hS1.len
  have hcap2 := hS2.cap
  have hlen2 := hS2.len
  have hcap3 := hS3.cap
  have hlen3 := hS3.len
  have HL1 := Lib.hid hlen1
  have HL2 := Lib.hid hlen2
  have HL3 := Lib.hid hlen3
  have HS1 := Lib.hid hS1
  have HS2 := Lib.hid hS2
  have HS3 := Lib.hid hS3
  have HS4 := Lib.hid hS4
  clear hs hS1 hS2 hS3 hS4 hlen1 hlen2 hlen3
  have HG := Lib.hid hG
  clear hG
  go_enter Tryd.func3, Tryd.ntmps3
  go_upto_region 1 with fail
  refine wp_named1 (fun V1 hb g0 hlt => ?_)
  have B0 := Lib.hid hb
  have Fv0_1 : Hid (V1.heap[w.heap.size]? = some (.cells #[.string ls, .slice A1 n1 c1, .slice A2 n2 c2, .slice A3 n3 c3, .slice A4 n4 c4, .int .u64 (cnt : Int)] 27 (0, 0))) := Lib.hid (g0)
  have Gb0 : Hid (w.heap.size ≤ w.heap.size) := Lib.hid (by omega)
  clear hb g0 hlt
  refine wp_region_lit ?_
  refine wpList_call (by kernel_rfl) 11 Tryd.func11 (by kernel_rfl) (by kernel_rfl) _ _ #[] rfl (by kernel_rfl) ?_
  refine (sanity10_any V1 (HG.out.keep B0.out)).mono ?_
  rintro e V2 ⟨rfl, hb⟩
  have B1 := Lib.hid hb
  clear hb 
  refine ⟨_, rfl, ?_⟩
  simp only [Act.put, List.setIfInBounds_toArray, List.set_cons_zero, List.set_cons_succ]
  refine wpList_run (by kernel_rfl) (.bool true) V2 rfl ?_
  simp only [Act.put, List.setIfInBounds_toArray, List.set_cons_zero, List.set_cons_succ]
  refine wpList_nil ?_
  go_upto_region 2 with fail
  refine wp_region_lit ?_
  refine wpList_run (by kernel_rfl) (.agg #[.string ls, .slice A1 n1 c1, .slice A2 n2 c2, .slice A3 n3 c3, .slice A4 n4 c4, .int .u64 (cnt : Int)]) V2 (xo_loadW w.heap.size _ (heap_keep Fv0_1.out B1.out) Tryd.underlying27 rfl (by kernel_rfl) rfl rfl) ?_
  simp only [Act.put, List.setIfInBounds_toArray, List.set_cons_zero, List.set_cons_succ]
  have C0_2 := Lib.hid (bel_step B0.out B1.out)
  refine wpList_call (by kernel_rfl) 12 Tryd.func12 (by kernel_rfl) (by kernel_rfl) _ _ #[.agg #[.string ls, .slice A1 n1 c1, .slice A2 n2 c2, .slice A3 n3 c3, .slice A4 n4 c4, .int .u64 (cnt : Int)]] rfl (by kernel_rfl) ?_
  refine (made10_any ls A1 n1 c1 bs A2 n2 c2 xs A3 n3 c3 is A4 n4 c4 st cnt V2 (HS1.out.keep C0_2.out) (HS2.out.keep C0_2.out) (HS3.out.keep C0_2.out) (HS4.out.keep C0_2.out) hc s HSM.out).mono ?_
  rintro e V3 ⟨lb, v, rfl, hlb, hox, hb⟩
  have B2 := Lib.hid hb
  obtain ⟨A5, c5, rfl, hxb⟩ := hox.xb redX_lt
  have HY := Lib.hid hxb
  clear hb hxb
  refine ⟨_, rfl, ?_⟩
  simp only [Act.put, List.setIfInBounds_toArray, List.set_cons_zero, List.set_cons_succ]
  refine wpList_run (by kernel_rfl) (.tuple #[.agg (trC s cnt), .string lb, .agg #[.string ByteArray.empty, .slice A1 (min n1 200) c1, .slice A5 (min n2 12) c5, .slice A3 (min n3 12) c3, .slice none 0 0, .int .u64 0]]) V3 rfl ?_
  simp only [Act.put, List.setIfInBounds_toArray, List.set_cons_zero, List.set_cons_succ]
  refine wpList_run (by kernel_rfl) (.agg (trC s cnt)) V3 rfl ?_
  simp only [Act.put, List.setIfInBounds_toArray, List.set_cons_zero, List.set_cons_succ]
  refine wpList_run (by kernel_rfl) (.string lb) V3 rfl ?_
  simp only [Act.put, List.setIfInBounds_toArray, List.set_cons_zero, List.set_cons_succ]
  refine wpList_run (by kernel_rfl) (.agg #[.string ByteArray.empty, .slice A1 (min n1 200) c1, .slice A5 (min n2 12) c5, .slice A3 (min n3 12) c3, .slice none 0 0, .int .u64 0]) V3 rfl ?_
  simp only [Act.put, List.setIfInBounds_toArray, List.set_cons_zero, List.set_cons_succ]
  refine wpList_new z33 32 (by kernel_rfl) (exec_allocT V3 rfl) ?_
  intro b4 V4 hge h0 hb
  have C1_3 := Lib.hid (bel_step B1.out B2.out)
  have N4_0 : Hid (w.heap.size ≠ b4) := Lib.hid (xp_lt0 (heap_keep Fv0_1.out C1_3.out) hge)
  have Ge4 : Hid (V3.heap.size ≤ b4) := Lib.hid hge
  have B3 := Lib.hid hb
  have Fv1_4 : Hid (RowT V4 b4 (List.replicate 32 0) 0) := Lib.hid (h0)
  clear hge h0 hb
  simp only [ptr, Act.put, List.setIfInBounds_toArray, List.set_cons_zero, List.set_cons_succ]
  refine wpList_new #[.string ByteArray.empty, .slice none 0 0, .slice none 0 0, .slice none 0 0, .slice none 0 0, .int .u64 0] 27 (by kernel_rfl) (exec_allocN rfl V4) ?_
  intro b6 V5 hge h0 hb
  have C1_4 := Lib.hid (bel_step C1_3.out B3.out)
  have N6_0 : Hid (w.heap.size ≠ b6) := Lib.hid (xp_lt0 (heap_keep Fv0_1.out C1_4.out) hge)
  have N6_1 : Hid (b4 ≠ b6) := Lib.hid (xp_lt0 Fv1_4.out hge)
  have Ge6 : Hid (V4.heap.size ≤ b6) := Lib.hid hge
  have B4 := Lib.hid hb
  have Fv2_6 : Hid (V5.heap[b6]? = some (.cells #[.string ByteArray.empty, .slice none 0 0, .slice none 0 0, .slice none 0 0, .slice none 0 0, .int .u64 0] 27 (0, 0))) := Lib.hid (h0)
  clear hge h0 hb
  simp only [ptr, Act.put, List.setIfInBounds_toArray, List.set_cons_zero, List.set_cons_succ]
  refine wpList_storeW b4 (trC (List.replicate 32 0) 0) (trC s cnt) 32 (by kernel_rfl) (Fv1_4.out.keep B4.out) (exec_storeT b4 (List.replicate 32 0) 0 s cnt List.length_replicate HDs.out.1 (Fv1_4.out.keep B4.out) rfl rfl rfl) ?_
  intro X5_0 h1 hfar hbel hsz
  have YFv2_6 : X5_0.heap[b6]? = some (.cells #[.string ByteArray.empty, .slice none 0 0, .slice none 0 0, .slice none 0 0, .slice none 0 0, .int .u64 0] 27 (0, 0)) := hfar _ _ (Ne.symm N6_1.out) Fv2_6.out
  have Gs1 : Hid (V3.heap.size ≤ b6) := Lib.hid (Nat.le_trans B3.out.size Ge6.out)
  have C3_5 := Lib.hid (bel_step B3.out B4.out)
  have hbr := hbel _ _ Ge4.out C3_5.out
  clear B3
  have B3 := Lib.hid hbr
  clear hbr
  clear Fv2_6
  have Fv2_6 : Hid (X5_0.heap[b6]? = some (.cells #[.string ByteArray.empty, .slice none 0 0, .slice none 0 0, .slice none 0 0, .slice none 0 0, .int .u64 0] 27 (0, 0))) := Lib.hid YFv2_6
  clear YFv2_6
  clear Fv1_4
  have Fv1_4 : Hid (RowT X5_0 b4 s cnt) := Lib.hid (h1)
  clear h1 hfar hbel hsz
  simp only [ptr, Act.put, List.setIfInBounds_toArray, List.set_cons_zero, List.set_cons_succ]
  refine wpList_run (by kernel_rfl) (.string lb) X5_0 rfl ?_
  simp only [Act.put, List.setIfInBounds_toArray, List.set_cons_zero, List.set_cons_succ]
  refine wpList_storeW b6 #[.string ByteArray.empty, .slice none 0 0, .slice none 0 0, .slice none 0 0, .slice none 0 0, .int .u64 0] #[.string ByteArray.empty, .slice A1 (min n1 200) c1, .slice A5 (min n2 12) c5, .slice A3 (min n3 12) c3, .slice none 0 0, .int .u64 0] 27 (by kernel_rfl) Fv2_6.out (xo_storeW b6 #[.string ByteArray.empty, .slice none 0 0, .slice none 0 0, .slice none 0 0, .slice none 0 0, .int .u64 0] #[.string ByteArray.empty, .slice A1 (min n1 200) c1, .slice A5 (min n2 12) c5, .slice A3 (min n3 12) c3, .slice none 0 0, .int .u64 0] Fv2_6.out (by kernel_rfl) rfl (by simp [Value.oneCell']) rfl rfl rfl) ?_
  intro X4_2 h1 hfar hbel hsz
  have YFv1_4 : RowT X4_2 b4 s cnt := hfar _ _ N6_1.out Fv1_4.out
  have hbr := hbel _ _ Gs1.out B3.out
  clear B3
  have B3 := Lib.hid hbr
  clear hbr
  clear Fv1_4
  have Fv1_4 : Hid (RowT X4_2 b4 s cnt) := Lib.hid YFv1_4
  clear YFv1_4
  clear Fv2_6
  have Fv2_6 : Hid (X4_2.heap[b6]? = some (.cells #[.string ByteArray.empty, .slice A1 (min n1 200) c1, .slice A5 (min n2 12) c5, .slice A3 (min n3 12) c3, .slice none 0 0, .int .u64 0] 27 (0, 0))) := Lib.hid (h1)
  clear h1 hfar hbel hsz
  simp only [ptr, Act.put, List.setIfInBounds_toArray, List.set_cons_zero, List.set_cons_succ]
  refine wpList_nil ?_
  obtain ⟨c2, hc2⟩ : ∃ c, (cnt + 1) % 18446744073709551616 = c := ⟨_, rfl⟩
  obtain ⟨Dz, hDz⟩ : ∃ D, outT s 2 lb cnt = D := ⟨_, rfl⟩
  have HDz := Lib.hid hDz
  clear hDz
  obtain ⟨xz, hxz⟩ : ∃ z, leV Dz 0 % 18446744069414584321 = z := ⟨_, rfl⟩
  have Hxz := Lib.hid hxz
  have hlxz : xz < 18446744069414584321 := by rw [← hxz]; exact Nat.mod_lt _ (by decide)
  clear hxz
  obtain ⟨yz, hyz⟩ : ∃ z, leV Dz 8 % 18446744069414584321 = z := ⟨_, rfl⟩
  have Hyz := Lib.hid hyz
  have hlyz : yz < 18446744069414584321 := by rw [← hyz]; exact Nat.mod_lt _ (by decide)
  clear hyz
  go_upto_region 3 with fail
  refine wp_region_lit ?_
  refine wpList_run (by kernel_rfl) (.agg (trC s cnt)) X4_2 (exec_loadT b4 s cnt HDs.out.1 Fv1_4.out rfl rfl) ?_
  simp only [Act.put, List.setIfInBounds_toArray, List.set_cons_zero, List.set_cons_succ]
  refine wpList_run (by kernel_rfl) (.string lb) X4_2 rfl ?_
  simp only [Act.put, List.setIfInBounds_toArray, List.set_cons_zero, List.set_cons_succ]
  have C0_3 := Lib.hid (bel_step C0_2.out B2.out)
  have C0_4 := Lib.hid (bel_step C0_3.out B3.out)
  refine wpList_call (by kernel_rfl) 13 Tryd.func13 (by kernel_rfl) (by kernel_rfl) _ _ #[.agg (trC s cnt), .string lb] rfl (by kernel_rfl) ?_
  refine (challenge_any s lb cnt X4_2 HDs.out.1 HDs.out.2 (by omega) (by omega) (HG.out.keep C0_4.out) Dz HDz.out c2 (by omega) xz yz Hxz.out Hyz.out).mono ?_
  rintro e V5 ⟨rfl, hb⟩
  have B4 := Lib.hid hb
  clear hb 
  refine ⟨_, rfl, ?_⟩
  simp only [Act.put, List.setIfInBounds_toArray, List.set_cons_zero, List.set_cons_succ]
  refine wpList_run (by kernel_rfl) (.tuple #[.agg (trC s c2), .agg #[.int .u64 (xz : Int), .int .u64 (yz : Int)]]) V5 rfl ?_
  simp only [Act.put, List.setIfInBounds_toArray, List.set_cons_zero, List.set_cons_succ]
  refine wpList_run (by kernel_rfl) (.agg (trC s c2)) V5 rfl ?_
  simp only [Act.put, List.setIfInBounds_toArray, List.set_cons_zero, List.set_cons_succ]
  refine wpList_run (by kernel_rfl) (.agg #[.int .u64 (xz : Int), .int .u64 (yz : Int)]) V5 rfl ?_
  simp only [Act.put, List.setIfInBounds_toArray, List.set_cons_zero, List.set_cons_succ]
  refine wpList_new z33 32 (by kernel_rfl) (exec_allocT V5 rfl) ?_
  intro b7 V6 hge h0 hb
  have C1_4 := Lib.hid (bel_step C1_3.out B3.out)
  have C1_5 := Lib.hid (bel_step C1_4.out B4.out)
  have N7_0 : Hid (w.heap.size ≠ b7) := Lib.hid (xp_lt0 (heap_keep Fv0_1.out C1_5.out) hge)
  have N7_1 : Hid (b4 ≠ b7) := Lib.hid (xp_lt0 (Fv1_4.out.keep B4.out) hge)
  have N7_2 : Hid (b6 ≠ b7) := Lib.hid (xp_lt0 (heap_keep Fv2_6.out B4.out) hge)
  have Ge7 : Hid (V5.heap.size ≤ b7) := Lib.hid hge
  have B5 := Lib.hid hb
  have Fv3_7 : Hid (RowT V6 b7 (List.replicate 32 0) 0) := Lib.hid (h0)
  clear hge h0 hb
  simp only [ptr, Act.put, List.setIfInBounds_toArray, List.set_cons_zero, List.set_cons_succ]
  refine wpList_new #[.int .u64 0, .int .u64 0] 36 (by kernel_rfl) (exec_allocE V6 rfl) ?_
  intro b8 V7 hge h0 hb
  have C1_6 := Lib.hid (bel_step C1_5.out B5.out)
  have N8_0 : Hid (w.heap.size ≠ b8) := Lib.hid (xp_lt0 (heap_keep Fv0_1.out C1_6.out) hge)
  have C4_6 := Lib.hid (bel_step B4.out B5.out)
  have N8_1 : Hid (b4 ≠ b8) := Lib.hid (xp_lt0 (Fv1_4.out.keep C4_6.out) hge)
  have N8_2 : Hid (b6 ≠ b8) := Lib.hid (xp_lt0 (heap_keep Fv2_6.out C4_6.out) hge)
  have N8_3 : Hid (b7 ≠ b8) := Lib.hid (xp_lt0 Fv3_7.out hge)
  have Ge8 : Hid (V6.heap.size ≤ b8) := Lib.hid hge
  have B6 := Lib.hid hb
  have Fv4_8 : Hid (V7.heap[b8]? = some (.cells #[.int .u64 0, .int .u64 0] 36 (0, 0))) := Lib.hid (h0)
  clear hge h0 hb
  simp only [ptr, Act.put, List.setIfInBounds_toArray, List.set_cons_zero, List.set_cons_succ]
  refine wpList_storeW b7 (trC (List.replicate 32 0) 0) (trC s c2) 32 (by kernel_rfl) (Fv3_7.out.keep B6.out) (exec_storeT b7 (List.replicate 32 0) 0 s c2 List.length_replicate HDs.out.1 (Fv3_7.out.keep B6.out) rfl rfl rfl) ?_
  intro X7_3 h1 hfar hbel hsz
  have YFv4_8 : X7_3.heap[b8]? = some (.cells #[.int .u64 0, .int .u64 0] 36 (0, 0)) := hfar _ _ (Ne.symm N8_3.out) Fv4_8.out
  have Gs4 : Hid (V5.heap.size ≤ b8) := Lib.hid (Nat.le_trans B5.out.size Ge8.out)
  have C5_7 := Lib.hid (bel_step B5.out B6.out)
  have hbr := hbel _ _ Ge7.out C5_7.out
  clear B5
  have B5 := Lib.hid hbr
  clear hbr
  clear Fv4_8
  have Fv4_8 : Hid (X7_3.heap[b8]? = some (.cells #[.int .u64 0, .int .u64 0] 36 (0, 0))) := Lib.hid YFv4_8
  clear YFv4_8
  clear Fv3_7
  have Fv3_7 : Hid (RowT X7_3 b7 s c2) := Lib.hid (h1)
  clear h1 hfar hbel hsz
  simp only [ptr, Act.put, List.setIfInBounds_toArray, List.set_cons_zero, List.set_cons_succ]
  refine wpList_storeW b8 #[.int .u64 0, .int .u64 0] #[.int .u64 (xz : Int), .int .u64 (yz : Int)] 36 (by kernel_rfl) Fv4_8.out (xo_storeW b8 #[.int .u64 0, .int .u64 0] #[.int .u64 (xz : Int), .int .u64 (yz : Int)] Fv4_8.out (by kernel_rfl) rfl (by simp [Value.oneCell']) rfl rfl rfl) ?_
  intro X6_5 h1 hfar hbel hsz
  have YFv3_7 : RowT X6_5 b7 s c2 := hfar _ _ N8_3.out Fv3_7.out
  have hbr := hbel _ _ Gs4.out B5.out
  clear B5
  have B5 := Lib.hid hbr
  clear hbr
  clear Fv3_7
  have Fv3_7 : Hid (RowT X6_5 b7 s c2) := Lib.hid YFv3_7
  clear YFv3_7
  clear Fv4_8
  have Fv4_8 : Hid (X6_5.heap[b8]? = some (.cells #[.int .u64 (xz : Int), .int .u64 (yz : Int)] 36 (0, 0))) := Lib.hid (h1)
  clear h1 hfar hbel hsz
  simp only [ptr, Act.put, List.setIfInBounds_toArray, List.set_cons_zero, List.set_cons_succ]
  refine wpList_nil ?_
  go_upto_region 4 with fail
  refine wp_region_lit ?_
  have C4_6 := Lib.hid (bel_step B4.out B5.out)
  refine wpList_run (by kernel_rfl) (.agg (trC s cnt)) X6_5 (exec_loadT b4 s cnt HDs.out.1 (Fv1_4.out.keep C4_6.out) rfl rfl) ?_
  simp only [Act.put, List.setIfInBounds_toArray, List.set_cons_zero, List.set_cons_succ]
  refine wpList_run (by kernel_rfl) (.string lb) X6_5 rfl ?_
  simp only [Act.put, List.setIfInBounds_toArray, List.set_cons_zero, List.set_cons_succ]
  have C0_5 := Lib.hid (bel_step C0_4.out B4.out)
  have C0_6 := Lib.hid (bel_step C0_5.out B5.out)
  refine wpList_call (by kernel_rfl) 14 Tryd.func14 (by kernel_rfl) (by kernel_rfl) _ _ #[.agg (trC s cnt), .string lb] rfl (by kernel_rfl) ?_
  refine (rchallenge_any s lb cnt X6_5 HDs.out.1 HDs.out.2 (by omega) (by omega) Dz HDz.out c2 (by omega) xz yz Hxz.out Hyz.out).mono ?_
  rintro e V7 ⟨rfl, hb⟩
  have B6 := Lib.hid hb
  clear hb 
  refine ⟨_, rfl, ?_⟩
  simp only [Act.put, List.setIfInBounds_toArray, List.set_cons_zero, List.set_cons_succ]
  refine wpList_run (by kernel_rfl) (.tuple #[.agg (trC s c2), .agg #[.int .u64 (xz : Int), .int .u64 (yz : Int)]]) V7 rfl ?_
  simp only [Act.put, List.setIfInBounds_toArray, List.set_cons_zero, List.set_cons_succ]
  refine wpList_run (by kernel_rfl) (.agg (trC s c2)) V7 rfl ?_
  simp only [Act.put, List.setIfInBounds_toArray, List.set_cons_zero, List.set_cons_succ]
  refine wpList_run (by kernel_rfl) (.agg #[.int .u64 (xz : Int), .int .u64 (yz : Int)]) V7 rfl ?_
  simp only [Act.put, List.setIfInBounds_toArray, List.set_cons_zero, List.set_cons_succ]
  refine wpList_new z33 32 (by kernel_rfl) (exec_allocT V7 rfl) ?_
  intro b9 V8 hge h0 hb
  have C1_6 := Lib.hid (bel_step C1_5.out B5.out)
  have C1_7 := Lib.hid (bel_step C1_6.out B6.out)
  have N9_0 : Hid (w.heap.size ≠ b9) := Lib.hid (xp_lt0 (heap_keep Fv0_1.out C1_7.out) hge)
  have C4_7 := Lib.hid (bel_step C4_6.out B6.out)
  have N9_1 : Hid (b4 ≠ b9) := Lib.hid (xp_lt0 (Fv1_4.out.keep C4_7.out) hge)
  have N9_2 : Hid (b6 ≠ b9) := Lib.hid (xp_lt0 (heap_keep Fv2_6.out C4_7.out) hge)
  have N9_3 : Hid (b7 ≠ b9) := Lib.hid (xp_lt0 (Fv3_7.out.keep B6.out) hge)
  have N9_4 : Hid (b8 ≠ b9) := Lib.hid (xp_lt0 (heap_keep Fv4_8.out B6.out) hge)
  have Ge9 : Hid (V7.heap.size ≤ b9) := Lib.hid hge
  have B7 := Lib.hid hb
  have Fv5_9 : Hid (RowT V8 b9 (List.replicate 32 0) 0) := Lib.hid (h0)
  clear hge h0 hb
  simp only [ptr, Act.put, List.setIfInBounds_toArray, List.set_cons_zero, List.set_cons_succ]
  refine wpList_new #[.int .u64 0, .int .u64 0] 36 (by kernel_rfl) (exec_allocE V8 rfl) ?_
  intro b10 V9 hge h0 hb
  have C1_8 := Lib.hid (bel_step C1_7.out B7.out)
  have N10_0 : Hid (w.heap.size ≠ b10) := Lib.hid (xp_lt0 (heap_keep Fv0_1.out C1_8.out) hge)
  have C4_8 := Lib.hid (bel_step C4_7.out B7.out)
  have N10_1 : Hid (b4 ≠ b10) := Lib.hid (xp_lt0 (Fv1_4.out.keep C4_8.out) hge)
  have N10_2 : Hid (b6 ≠ b10) := Lib.hid (xp_lt0 (heap_keep Fv2_6.out C4_8.out) hge)
  have C6_8 := Lib.hid (bel_step B6.out B7.out)
  have N10_3 : Hid (b7 ≠ b10) := Lib.hid (xp_lt0 (Fv3_7.out.keep C6_8.out) hge)
  have N10_4 : Hid (b8 ≠ b10) := Lib.hid (xp_lt0 (heap_keep Fv4_8.out C6_8.out) hge)
  have N10_5 : Hid (b9 ≠ b10) := Lib.hid (xp_lt0 Fv5_9.out hge)
  have Ge10 : Hid (V8.heap.size ≤ b10) := Lib.hid hge
  have B8 := Lib.hid hb
  have Fv6_10 : Hid (V9.heap[b10]? = some (.cells #[.int .u64 0, .int .u64 0] 36 (0, 0))) := Lib.hid (h0)
  clear hge h0 hb
  simp only [ptr, Act.put, List.setIfInBounds_toArray, List.set_cons_zero, List.set_cons_succ]
  refine wpList_storeW b9 (trC (List.replicate 32 0) 0) (trC s c2) 32 (by kernel_rfl) (Fv5_9.out.keep B8.out) (exec_storeT b9 (List.replicate 32 0) 0 s c2 List.length_replicate HDs.out.1 (Fv5_9.out.keep B8.out) rfl rfl rfl) ?_
  intro X9_6 h1 hfar hbel hsz
  have YFv6_10 : X9_6.heap[b10]? = some (.cells #[.int .u64 0, .int .u64 0] 36 (0, 0)) := hfar _ _ (Ne.symm N10_5.out) Fv6_10.out
  have Gs7 : Hid (V7.heap.size ≤ b10) := Lib.hid (Nat.le_trans B7.out.size Ge10.out)
  have C7_9 := Lib.hid (bel_step B7.out B8.out)
  have hbr := hbel _ _ Ge9.out C7_9.out
  clear B7
  have B7 := Lib.hid hbr
  clear hbr
  clear Fv6_10
  have Fv6_10 : Hid (X9_6.heap[b10]? = some (.cells #[.int .u64 0, .int .u64 0] 36 (0, 0))) := Lib.hid YFv6_10
  clear YFv6_10
  clear Fv5_9
  have Fv5_9 : Hid (RowT X9_6 b9 s c2) := Lib.hid (h1)
  clear h1 hfar hbel hsz
  simp only [ptr, Act.put, List.setIfInBounds_toArray, List.set_cons_zero, List.set_cons_succ]
  refine wpList_storeW b10 #[.int .u64 0, .int .u64 0] #[.int .u64 (xz : Int), .int .u64 (yz : Int)] 36 (by kernel_rfl) Fv6_10.out (xo_storeW b10 #[.int .u64 0, .int .u64 0] #[.int .u64 (xz : Int), .int .u64 (yz : Int)] Fv6_10.out (by kernel_rfl) rfl (by simp [Value.oneCell']) rfl rfl rfl) ?_
  intro X8_8 h1 hfar hbel hsz
  have YFv5_9 : RowT X8_8 b9 s c2 := hfar _ _ N10_5.out Fv5_9.out
  have hbr := hbel _ _ Gs7.out B7.out
  clear B7
  have B7 := Lib.hid hbr
  clear hbr
  clear Fv5_9
  have Fv5_9 : Hid (RowT X8_8 b9 s c2) := Lib.hid YFv5_9
  clear YFv5_9
  clear Fv6_10
  have Fv6_10 : Hid (X8_8.heap[b10]? = some (.cells #[.int .u64 (xz : Int), .int .u64 (yz : Int)] 36 (0, 0))) := Lib.hid (h1)
  clear h1 hfar hbel hsz
  simp only [ptr, Act.put, List.setIfInBounds_toArray, List.set_cons_zero, List.set_cons_succ]
  refine wpList_nil ?_
  obtain ⟨DS, hDS⟩ : ∃ D, shaN ([97, 116, 116, 101, 115, 116, 111, 114, 0] ++ bytS lb) = D := ⟨_, rfl⟩
  have DgDS := Lib.hid (show DS.length = 32 ∧ ∀ x ∈ DS, x < 256 by rw [← hDS]; exact ⟨shaN_length _, shaN_lt _⟩)
  have EDS := Lib.hid hDS
  clear hDS
  obtain ⟨DA, hDA⟩ : ∃ D, shaN (s ++ ([1, lb.size] ++ (bytS lb ++ (leN (min n1 200) ++ bs.take (min n1 200))))) = D := ⟨_, rfl⟩
  have DgDA := Lib.hid (show DA.length = 32 ∧ ∀ x ∈ DA, x < 256 by rw [← hDA]; exact ⟨shaN_length _, shaN_lt _⟩)
  have EDA := Lib.hid hDA
  clear hDA
  obtain ⟨DE, hDE⟩ : ∃ D, shaN (s ++ ([1, lb.size] ++ (bytS lb ++ (leN (16 * min n2 12) ++ extsN ((xs.take (min n2 12)).map redX))))) = D := ⟨_, rfl⟩
  have DgDE := Lib.hid (show DE.length = 32 ∧ ∀ x ∈ DE, x < 256 by rw [← hDE]; exact ⟨shaN_length _, shaN_lt _⟩)
  have EDE := Lib.hid hDE
  clear hDE
  obtain ⟨DN, hDN⟩ : ∃ D, shaN (s ++ ([1, lb.size] ++ (bytS lb ++ (leN (8 * min n3 12) ++ intsB ((is.take (min n3 12)).map u64N))))) = D := ⟨_, rfl⟩
  have DgDN := Lib.hid (show DN.length = 32 ∧ ∀ x ∈ DN, x < 256 by rw [← hDN]; exact ⟨shaN_length _, shaN_lt _⟩)
  have EDN := Lib.hid hDN
  clear hDN
  go_upto_region 5 with fail
  try simp only [List.append_eq, List.cons_append, List.nil_append]
  refine Tl.wp_held_tailB 66 X8_8.heap.size (by kernel_rfl) (lexOK_of (by kernel_rfl) (by kernel_rfl)) (Tl.chainW_of (by kernel_rfl)) rfl (by kernel_rfl) (by kernel_rfl) (fun V9 hb hSW => ?_)
  simp only [List.take_succ_cons, List.take_zero]
  have HS9 := Lib.hid hSW
  have B8 := Lib.hid hb
  clear hb hSW
  refine wpHeld_seg 1 HS9.out (by kernel_rfl) ?_
  simp only [List.take_succ_cons, List.take_zero, List.drop_succ_cons, List.drop_zero]
  refine wpQuiet_val (by kernel_rfl) (.string lb) (fun v hv => rfl) ?_
  simp only [Act.put, List.setIfInBounds_toArray, List.set_cons_zero, List.set_cons_succ]
  refine wpQuiet_nil ?_
  have C0_7 := Lib.hid (bel_step C0_6.out B6.out)
  have C0_8 := Lib.hid (bel_step C0_7.out B7.out)
  have C0_9 := Lib.hid (bel_step C0_8.out B8.out)
  refine wpHeld_call 15 Tryd.func15 (by kernel_rfl) (by kernel_rfl) _ _ #[.string lb] rfl (by kernel_rfl) (by kernel_rfl) ?_
  refine (new_any lb V9 (by omega) (HG.out.keep C0_9.out) DS EDS.out).mono ?_
  rintro e V10 ⟨rfl, hb⟩
  have B9 := Lib.hid hb
  have HS10 := Lib.hid (LaterB.step HS9.out (hb.mono B8.out.size))
  clear hb 
  refine ⟨_, rfl, HS10.out, ?_⟩
  simp only [Act.put, List.setIfInBounds_toArray, List.set_cons_zero, List.set_cons_succ]
  refine wpHeld_seg 1 HS10.out (by kernel_rfl) ?_
  simp only [List.take_succ_cons, List.take_zero, List.drop_succ_cons, List.drop_zero]
  refine wpQuiet_val (by kernel_rfl) (.string lb) (fun v hv => rfl) ?_
  simp only [Act.put, List.setIfInBounds_toArray, List.set_cons_zero, List.set_cons_succ]
  refine wpQuiet_nil ?_
  refine wpHeld_call 16 Tryd.func16 (by kernel_rfl) (by kernel_rfl) _ _ #[.string lb] rfl (by kernel_rfl) (by kernel_rfl) ?_
  refine (rnew_any lb V10 (by omega) DS EDS.out).mono ?_
  rintro e V11 ⟨rfl, hb⟩
  have B10 := Lib.hid hb
  have C8_10 := Lib.hid (bel_step B8.out B9.out)
  have HS11 := Lib.hid (LaterB.step HS10.out (hb.mono C8_10.out.size))
  clear hb 
  refine ⟨_, rfl, HS11.out, ?_⟩
  simp only [Act.put, List.setIfInBounds_toArray, List.set_cons_zero, List.set_cons_succ]
  refine wpHeld_seg 6 HS11.out (by kernel_rfl) ?_
  simp only [List.take_succ_cons, List.take_zero, List.drop_succ_cons, List.drop_zero]
  refine wpQuiet_val (by kernel_rfl) (.bool true) (fun v hv => (exec_eqTr DS 0 DgDS.out.1 DgDS.out.2 rfl rfl rfl v)) ?_
  simp only [Act.put, List.setIfInBounds_toArray, List.set_cons_zero, List.set_cons_succ]
  refine wpQuiet_val (by kernel_rfl) (.bool true) (fun v hv => rfl) ?_
  simp only [Act.put, List.setIfInBounds_toArray, List.set_cons_zero, List.set_cons_succ]
  have C4_8 := Lib.hid (bel_step C4_7.out B7.out)
  refine wpQuiet_val (by kernel_rfl) (.agg (trC s cnt)) (fun v hv => (exec_loadT b4 s cnt HDs.out.1 ((Fv1_4.out.keep C4_8.out).keep (LaterB.of hv)) rfl rfl)) ?_
  simp only [Act.put, List.setIfInBounds_toArray, List.set_cons_zero, List.set_cons_succ]
  refine wpQuiet_val (by kernel_rfl) (.string lb) (fun v hv => rfl) ?_
  simp only [Act.put, List.setIfInBounds_toArray, List.set_cons_zero, List.set_cons_succ]
  refine wpQuiet_val (by kernel_rfl) (.pointer (some ⟨b6, 1, none⟩)) (fun v hv => (xo_fld0 1 b6 1 (by kernel_rfl) rfl rfl)) ?_
  simp only [Act.put, List.setIfInBounds_toArray, List.set_cons_zero, List.set_cons_succ]
  refine wpQuiet_val (by kernel_rfl) (.slice A1 (min n1 200) c1) (fun v hv => (xo_load1 ⟨b6, 1, none⟩ _ (cells_at (heap_keep (heap_keep Fv2_6.out C4_8.out) (LaterB.of hv)) 1 rfl) Tryd.underlying22 rfl rfl rfl)) ?_
  simp only [Act.put, List.setIfInBounds_toArray, List.set_cons_zero, List.set_cons_succ]
  refine wpQuiet_nil ?_
  have C0_10 := Lib.hid (bel_step C0_9.out B9.out)
  have C0_11 := Lib.hid (bel_step C0_10.out B10.out)
  refine wpHeld_call 17 Tryd.func17 (by kernel_rfl) (by kernel_rfl) _ _ #[.agg (trC s cnt), .string lb, .slice A1 (min n1 200) c1] rfl (by kernel_rfl) (by kernel_rfl) ?_
  refine (absorb_any s cnt lb A1 (min n1 200) c1 (bs.take (min n1 200)) V11 HDs.out.1 HDs.out.2 (by omega) ((HS1.out.keep C0_11.out).take (k := min n1 200) (by omega)) (by omega) (HG.out.keep C0_11.out) DA EDA.out).mono ?_
  rintro e V12 ⟨rfl, hb⟩
  have B11 := Lib.hid hb
  have C8_11 := Lib.hid (bel_step C8_10.out B10.out)
  have HS12 := Lib.hid (LaterB.step HS11.out (hb.mono C8_11.out.size))
  clear hb 
  refine ⟨_, rfl, HS12.out, ?_⟩
  simp only [Act.put, List.setIfInBounds_toArray, List.set_cons_zero, List.set_cons_succ]
  refine wpHeld_seg 4 HS12.out (by kernel_rfl) ?_
  simp only [List.take_succ_cons, List.take_zero, List.drop_succ_cons, List.drop_zero]
  refine wpQuiet_val (by kernel_rfl) (.agg (trC s cnt)) (fun v hv => (exec_loadT b4 s cnt HDs.out.1 ((Fv1_4.out.keep C4_8.out).keep (LaterB.of hv)) rfl rfl)) ?_
  simp only [Act.put, List.setIfInBounds_toArray, List.set_cons_zero, List.set_cons_succ]
  refine wpQuiet_val (by kernel_rfl) (.string lb) (fun v hv => rfl) ?_
  simp only [Act.put, List.setIfInBounds_toArray, List.set_cons_zero, List.set_cons_succ]
  refine wpQuiet_val (by kernel_rfl) (.pointer (some ⟨b6, 1, none⟩)) (fun v hv => (xo_fld0 1 b6 1 (by kernel_rfl) rfl rfl)) ?_
  simp only [Act.put, List.setIfInBounds_toArray, List.set_cons_zero, List.set_cons_succ]
  refine wpQuiet_val (by kernel_rfl) (.slice A1 (min n1 200) c1) (fun v hv => (xo_load1 ⟨b6, 1, none⟩ _ (cells_at (heap_keep (heap_keep Fv2_6.out C4_8.out) (LaterB.of hv)) 1 rfl) Tryd.underlying22 rfl rfl rfl)) ?_
  simp only [Act.put, List.setIfInBounds_toArray, List.set_cons_zero, List.set_cons_succ]
  refine wpQuiet_nil ?_
  have C0_12 := Lib.hid (bel_step C0_11.out B11.out)
  refine wpHeld_call 18 Tryd.func18 (by kernel_rfl) (by kernel_rfl) _ _ #[.agg (trC s cnt), .string lb, .slice A1 (min n1 200) c1] rfl (by kernel_rfl) (by kernel_rfl) ?_
  refine (rabsorb_any s cnt lb A1 (min n1 200) c1 (bs.take (min n1 200)) V12 HDs.out.1 HDs.out.2 (by omega) ((HS1.out.keep C0_12.out).take (k := min n1 200) (by omega)) (by omega) DA EDA.out).mono ?_
  rintro e V13 ⟨rfl, hb⟩
  have B12 := Lib.hid hb
  have C8_12 := Lib.hid (bel_step C8_11.out B11.out)
  have HS13 := Lib.hid (LaterB.step HS12.out (hb.mono C8_12.out.size))
  clear hb 
  refine ⟨_, rfl, HS13.out, ?_⟩
  simp only [Act.put, List.setIfInBounds_toArray, List.set_cons_zero, List.set_cons_succ]
  refine wpHeld_seg 7 HS13.out (by kernel_rfl) ?_
  simp only [List.take_succ_cons, List.take_zero, List.drop_succ_cons, List.drop_zero]
  refine wpQuiet_val (by kernel_rfl) (.bool true) (fun v hv => (exec_eqTr DA 0 DgDA.out.1 DgDA.out.2 rfl rfl rfl v)) ?_
  simp only [Act.put, List.setIfInBounds_toArray, List.set_cons_zero, List.set_cons_succ]
  refine wpQuiet_val (by kernel_rfl) (.bool true) (fun v hv => rfl) ?_
  simp only [Act.put, List.setIfInBounds_toArray, List.set_cons_zero, List.set_cons_succ]
  refine wpQuiet_val (by kernel_rfl) (.bool true) (fun v hv => rfl) ?_
  simp only [Act.put, List.setIfInBounds_toArray, List.set_cons_zero, List.set_cons_succ]
  refine wpQuiet_val (by kernel_rfl) (.agg (trC s cnt)) (fun v hv => (exec_loadT b4 s cnt HDs.out.1 ((Fv1_4.out.keep C4_8.out).keep (LaterB.of hv)) rfl rfl)) ?_
  simp only [Act.put, List.setIfInBounds_toArray, List.set_cons_zero, List.set_cons_succ]
  refine wpQuiet_val (by kernel_rfl) (.string lb) (fun v hv => rfl) ?_
  simp only [Act.put, List.setIfInBounds_toArray, List.set_cons_zero, List.set_cons_succ]
  refine wpQuiet_val (by kernel_rfl) (.pointer (some ⟨b6, 2, none⟩)) (fun v hv => (xo_fld0 2 b6 2 (by kernel_rfl) rfl rfl)) ?_
  simp only [Act.put, List.setIfInBounds_toArray, List.set_cons_zero, List.set_cons_succ]
  refine wpQuiet_val (by kernel_rfl) (.slice A5 (min n2 12) c5) (fun v hv => (xo_load1 ⟨b6, 2, none⟩ _ (cells_at (heap_keep (heap_keep Fv2_6.out C4_8.out) (LaterB.of hv)) 2 rfl) Tryd.underlying23 rfl rfl rfl)) ?_
  simp only [Act.put, List.setIfInBounds_toArray, List.set_cons_zero, List.set_cons_succ]
  refine wpQuiet_nil ?_
  have C0_13 := Lib.hid (bel_step C0_12.out B12.out)
  have C3_5 := Lib.hid (bel_step B3.out B4.out)
  have C3_6 := Lib.hid (bel_step C3_5.out B5.out)
  have C3_7 := Lib.hid (bel_step C3_6.out B6.out)
  have C3_8 := Lib.hid (bel_step C3_7.out B7.out)
  have C3_9 := Lib.hid (bel_step C3_8.out B8.out)
  have C3_10 := Lib.hid (bel_step C3_9.out B9.out)
  have C3_11 := Lib.hid (bel_step C3_10.out B10.out)
  have C3_12 := Lib.hid (bel_step C3_11.out B11.out)
  have C3_13 := Lib.hid (bel_step C3_12.out B12.out)
  refine wpHeld_call 19 Tryd.func19 (by kernel_rfl) (by kernel_rfl) _ _ #[.agg (trC s cnt), .string lb, .slice A5 (min n2 12) c5] rfl (by kernel_rfl) (by kernel_rfl) ?_
  refine (absorbExt_any s cnt lb A5 (min n2 12) c5 ((xs.take (min n2 12)).map redX) V13 HDs.out.1 HDs.out.2 (by omega) (HY.out.keep C3_13.out) (by omega) (HG.out.keep C0_13.out) DE EDE.out).mono ?_
  rintro e V14 ⟨rfl, hb⟩
  have B13 := Lib.hid hb
  have C8_13 := Lib.hid (bel_step C8_12.out B12.out)
  have HS14 := Lib.hid (LaterB.step HS13.out (hb.mono C8_13.out.size))
  clear hb 
  refine ⟨_, rfl, HS14.out, ?_⟩
  simp only [Act.put, List.setIfInBounds_toArray, List.set_cons_zero, List.set_cons_succ]
  refine wpHeld_seg 4 HS14.out (by kernel_rfl) ?_
  simp only [List.take_succ_cons, List.take_zero, List.drop_succ_cons, List.drop_zero]
  refine wpQuiet_val (by kernel_rfl) (.agg (trC s cnt)) (fun v hv => (exec_loadT b4 s cnt HDs.out.1 ((Fv1_4.out.keep C4_8.out).keep (LaterB.of hv)) rfl rfl)) ?_
  simp only [Act.put, List.setIfInBounds_toArray, List.set_cons_zero, List.set_cons_succ]
  refine wpQuiet_val (by kernel_rfl) (.string lb) (fun v hv => rfl) ?_
  simp only [Act.put, List.setIfInBounds_toArray, List.set_cons_zero, List.set_cons_succ]
  refine wpQuiet_val (by kernel_rfl) (.pointer (some ⟨b6, 2, none⟩)) (fun v hv => (xo_fld0 2 b6 2 (by kernel_rfl) rfl rfl)) ?_
  simp only [Act.put, List.setIfInBounds_toArray, List.set_cons_zero, List.set_cons_succ]
  refine wpQuiet_val (by kernel_rfl) (.slice A5 (min n2 12) c5) (fun v hv => (xo_load1 ⟨b6, 2, none⟩ _ (cells_at (heap_keep (heap_keep Fv2_6.out C4_8.out) (LaterB.of hv)) 2 rfl) Tryd.underlying23 rfl rfl rfl)) ?_
  simp only [Act.put, List.setIfInBounds_toArray, List.set_cons_zero, List.set_cons_succ]
  refine wpQuiet_nil ?_
  have C3_14 := Lib.hid (bel_step C3_13.out B13.out)
  refine wpHeld_call 20 Tryd.func20 (by kernel_rfl) (by kernel_rfl) _ _ #[.agg (trC s cnt), .string lb, .slice A5 (min n2 12) c5] rfl (by kernel_rfl) (by kernel_rfl) ?_
  refine (rabsorbExt_any s cnt lb A5 (min n2 12) c5 ((xs.take (min n2 12)).map redX) V14 HDs.out.1 HDs.out.2 (by omega) (HY.out.keep C3_14.out) (by omega) DE EDE.out).mono ?_
  rintro e V15 ⟨rfl, hb⟩
  have B14 := Lib.hid hb
  have C8_14 := Lib.hid (bel_step C8_13.out B13.out)
  have HS15 := Lib.hid (LaterB.step HS14.out (hb.mono C8_14.out.size))
  clear hb 
  refine ⟨_, rfl, HS15.out, ?_⟩
  simp only [Act.put, List.setIfInBounds_toArray, List.set_cons_zero, List.set_cons_succ]
  refine wpHeld_seg 7 HS15.out (by kernel_rfl) ?_
  simp only [List.take_succ_cons, List.take_zero, List.drop_succ_cons, List.drop_zero]
  refine wpQuiet_val (by kernel_rfl) (.bool true) (fun v hv => (exec_eqTr DE 0 DgDE.out.1 DgDE.out.2 rfl rfl rfl v)) ?_
  simp only [Act.put, List.setIfInBounds_toArray, List.set_cons_zero, List.set_cons_succ]
  refine wpQuiet_val (by kernel_rfl) (.bool true) (fun v hv => rfl) ?_
  simp only [Act.put, List.setIfInBounds_toArray, List.set_cons_zero, List.set_cons_succ]
  refine wpQuiet_val (by kernel_rfl) (.bool true) (fun v hv => rfl) ?_
  simp only [Act.put, List.setIfInBounds_toArray, List.set_cons_zero, List.set_cons_succ]
  refine wpQuiet_val (by kernel_rfl) (.agg (trC s cnt)) (fun v hv => (exec_loadT b4 s cnt HDs.out.1 ((Fv1_4.out.keep C4_8.out).keep (LaterB.of hv)) rfl rfl)) ?_
  simp only [Act.put, List.setIfInBounds_toArray, List.set_cons_zero, List.set_cons_succ]
  refine wpQuiet_val (by kernel_rfl) (.string lb) (fun v hv => rfl) ?_
  simp only [Act.put, List.setIfInBounds_toArray, List.set_cons_zero, List.set_cons_succ]
  refine wpQuiet_val (by kernel_rfl) (.pointer (some ⟨b6, 3, none⟩)) (fun v hv => (xo_fld0 3 b6 3 (by kernel_rfl) rfl rfl)) ?_
  simp only [Act.put, List.setIfInBounds_toArray, List.set_cons_zero, List.set_cons_succ]
  refine wpQuiet_val (by kernel_rfl) (.slice A3 (min n3 12) c3) (fun v hv => (xo_load1 ⟨b6, 3, none⟩ _ (cells_at (heap_keep (heap_keep Fv2_6.out C4_8.out) (LaterB.of hv)) 3 rfl) Tryd.underlying24 rfl rfl rfl)) ?_
  simp only [Act.put, List.setIfInBounds_toArray, List.set_cons_zero, List.set_cons_succ]
  refine wpQuiet_nil ?_
  have C0_14 := Lib.hid (bel_step C0_13.out B13.out)
  have C0_15 := Lib.hid (bel_step C0_14.out B14.out)
  refine wpHeld_call 21 Tryd.func21 (by kernel_rfl) (by kernel_rfl) _ _ #[.agg (trC s cnt), .string lb, .slice A3 (min n3 12) c3] rfl (by kernel_rfl) (by kernel_rfl) ?_
  refine (absorbInts_any s cnt lb A3 (min n3 12) c3 (is.take (min n3 12)) V15 HDs.out.1 HDs.out.2 (by omega) ((HS3.out.keep C0_15.out).take (k := min n3 12) (by omega)) (by omega) (HG.out.keep C0_15.out) DN EDN.out).mono ?_
  rintro e V16 ⟨rfl, hb⟩
  have B15 := Lib.hid hb
  have C8_15 := Lib.hid (bel_step C8_14.out B14.out)
  have HS16 := Lib.hid (LaterB.step HS15.out (hb.mono C8_15.out.size))
  clear hb 
  refine ⟨_, rfl, HS16.out, ?_⟩
  simp only [Act.put, List.setIfInBounds_toArray, List.set_cons_zero, List.set_cons_succ]
  refine wpHeld_seg 4 HS16.out (by kernel_rfl) ?_
  simp only [List.take_succ_cons, List.take_zero, List.drop_succ_cons, List.drop_zero]
  refine wpQuiet_val (by kernel_rfl) (.agg (trC s cnt)) (fun v hv => (exec_loadT b4 s cnt HDs.out.1 ((Fv1_4.out.keep C4_8.out).keep (LaterB.of hv)) rfl rfl)) ?_
  simp only [Act.put, List.setIfInBounds_toArray, List.set_cons_zero, List.set_cons_succ]
  refine wpQuiet_val (by kernel_rfl) (.string lb) (fun v hv => rfl) ?_
  simp only [Act.put, List.setIfInBounds_toArray, List.set_cons_zero, List.set_cons_succ]
  refine wpQuiet_val (by kernel_rfl) (.pointer (some ⟨b6, 3, none⟩)) (fun v hv => (xo_fld0 3 b6 3 (by kernel_rfl) rfl rfl)) ?_
  simp only [Act.put, List.setIfInBounds_toArray, List.set_cons_zero, List.set_cons_succ]
  refine wpQuiet_val (by kernel_rfl) (.slice A3 (min n3 12) c3) (fun v hv => (xo_load1 ⟨b6, 3, none⟩ _ (cells_at (heap_keep (heap_keep Fv2_6.out C4_8.out) (LaterB.of hv)) 3 rfl) Tryd.underlying24 rfl rfl rfl)) ?_
  simp only [Act.put, List.setIfInBounds_toArray, List.set_cons_zero, List.set_cons_succ]
  refine wpQuiet_nil ?_
  have C0_16 := Lib.hid (bel_step C0_15.out B15.out)
  refine wpHeld_call 22 Tryd.func22 (by kernel_rfl) (by kernel_rfl) _ _ #[.agg (trC s cnt), .string lb, .slice A3 (min n3 12) c3] rfl (by kernel_rfl) (by kernel_rfl) ?_
  refine (rabsorbInts_any s cnt lb A3 (min n3 12) c3 (is.take (min n3 12)) V16 HDs.out.1 HDs.out.2 (by omega) ((HS3.out.keep C0_16.out).take (k := min n3 12) (by omega)) (by omega) DN EDN.out).mono ?_
  rintro e V17 ⟨rfl, hb⟩
  have B16 := Lib.hid hb
  have C8_16 := Lib.hid (bel_step C8_15.out B15.out)
  have HS17 := Lib.hid (LaterB.step HS16.out (hb.mono C8_16.out.size))
  clear hb 
  refine ⟨_, rfl, HS17.out, ?_⟩
  simp only [Act.put, List.setIfInBounds_toArray, List.set_cons_zero, List.set_cons_succ]
  refine wpHeld_seg 5 HS17.out (by kernel_rfl) ?_
  simp only [List.take_succ_cons, List.take_zero, List.drop_succ_cons, List.drop_zero]
  refine wpQuiet_val (by kernel_rfl) (.bool true) (fun v hv => (exec_eqTr DN 0 DgDN.out.1 DgDN.out.2 rfl rfl rfl v)) ?_
  simp only [Act.put, List.setIfInBounds_toArray, List.set_cons_zero, List.set_cons_succ]
  refine wpQuiet_val (by kernel_rfl) (.bool true) (fun v hv => rfl) ?_
  simp only [Act.put, List.setIfInBounds_toArray, List.set_cons_zero, List.set_cons_succ]
  refine wpQuiet_val (by kernel_rfl) (.bool true) (fun v hv => rfl) ?_
  simp only [Act.put, List.setIfInBounds_toArray, List.set_cons_zero, List.set_cons_succ]
  refine wpQuiet_val (by kernel_rfl) (.pointer (some ⟨b6, 2, none⟩)) (fun v hv => (xo_fld0 2 b6 2 (by kernel_rfl) rfl rfl)) ?_
  simp only [Act.put, List.setIfInBounds_toArray, List.set_cons_zero, List.set_cons_succ]
  refine wpQuiet_val (by kernel_rfl) (.slice A5 (min n2 12) c5) (fun v hv => (xo_load1 ⟨b6, 2, none⟩ _ (cells_at (heap_keep (heap_keep Fv2_6.out C4_8.out) (LaterB.of hv)) 2 rfl) Tryd.underlying23 rfl rfl rfl)) ?_
  simp only [Act.put, List.setIfInBounds_toArray, List.set_cons_zero, List.set_cons_succ]
  refine wpQuiet_nil ?_
  have C3_15 := Lib.hid (bel_step C3_14.out B14.out)
  have C3_16 := Lib.hid (bel_step C3_15.out B15.out)
  have C3_17 := Lib.hid (bel_step C3_16.out B16.out)
  refine wpHeld_call 24 Tryd.func24 (by kernel_rfl) (by kernel_rfl) _ _ #[.slice A5 (min n2 12) c5] rfl (by kernel_rfl) (by kernel_rfl) ?_
  refine (bytes_any A5 (min n2 12) c5 ((xs.take (min n2 12)).map redX) V17 (HY.out.keep C3_17.out) (by omega)).mono ?_
  rintro e V18 ⟨v, rfl, ho, hb⟩
  have B17 := Lib.hid hb
  have C8_17 := Lib.hid (bel_step C8_16.out B16.out)
  have HS18 := Lib.hid (LaterB.step HS17.out (hb.mono C8_17.out.size))
  obtain ⟨Mb, jb, rfl, hbx⟩ := OwB.sl ho
  have HBX := Lib.hid hbx
  clear hb hbx
  refine ⟨_, rfl, HS18.out, ?_⟩
  simp only [Act.put, List.setIfInBounds_toArray, List.set_cons_zero, List.set_cons_succ]
  refine wpHeld_seg 2 HS18.out (by kernel_rfl) ?_
  simp only [List.take_succ_cons, List.take_zero, List.drop_succ_cons, List.drop_zero]
  refine wpQuiet_val (by kernel_rfl) (.pointer (some ⟨b6, 2, none⟩)) (fun v hv => (xo_fld0 2 b6 2 (by kernel_rfl) rfl rfl)) ?_
  simp only [Act.put, List.setIfInBounds_toArray, List.set_cons_zero, List.set_cons_succ]
  refine wpQuiet_val (by kernel_rfl) (.slice A5 (min n2 12) c5) (fun v hv => (xo_load1 ⟨b6, 2, none⟩ _ (cells_at (heap_keep (heap_keep Fv2_6.out C4_8.out) (LaterB.of hv)) 2 rfl) Tryd.underlying23 rfl rfl rfl)) ?_
  simp only [Act.put, List.setIfInBounds_toArray, List.set_cons_zero, List.set_cons_succ]
  refine wpQuiet_nil ?_
  have C3_18 := Lib.hid (bel_step C3_17.out B17.out)
  refine wpHeld_call 25 Tryd.func25 (by kernel_rfl) (by kernel_rfl) _ _ #[.slice A5 (min n2 12) c5] rfl (by kernel_rfl) (by kernel_rfl) ?_
  refine (rbytesX_any A5 (min n2 12) c5 ((xs.take (min n2 12)).map redX) V18 (HY.out.keep C3_18.out) (by omega)).mono ?_
  rintro e V19 ⟨Mr, jr, rfl, hs, hb⟩
  have B18 := Lib.hid hb
  have C8_18 := Lib.hid (bel_step C8_17.out B17.out)
  have HS19 := Lib.hid (LaterB.step HS18.out (hb.mono C8_18.out.size))
  have HBR := Lib.hid hs
  clear hb hs
  refine ⟨_, rfl, HS19.out, ?_⟩
  simp only [Act.put, List.setIfInBounds_toArray, List.set_cons_zero, List.set_cons_succ]
  refine wpHeld_call 23 Tryd.func23 (by kernel_rfl) (by kernel_rfl) _ _ #[.slice Mb (16 * (min n2 12)) jb, .slice Mr (16 * (min n2 12)) jr] rfl (by kernel_rfl) (by kernel_rfl) ?_
  refine (rsame_yes Mb (16 * (min n2 12)) jb Mr (16 * (min n2 12)) jr (extsN ((xs.take (min n2 12)).map redX)) V19 (HBX.out.keep B18.out) HBR.out).mono ?_
  rintro e V20 ⟨rfl, hb⟩
  have B19 := Lib.hid hb
  have C8_19 := Lib.hid (bel_step C8_18.out B18.out)
  have HS20 := Lib.hid (LaterB.step HS19.out (hb.mono C8_19.out.size))
  clear hb 
  refine ⟨_, rfl, HS20.out, ?_⟩
  simp only [Act.put, List.setIfInBounds_toArray, List.set_cons_zero, List.set_cons_succ]
  refine wpHeld_seg 14 HS20.out (by kernel_rfl) ?_
  simp only [List.take_succ_cons, List.take_zero, List.drop_succ_cons, List.drop_zero]
  refine wpQuiet_val (by kernel_rfl) (.bool true) (fun v hv => rfl) ?_
  simp only [Act.put, List.setIfInBounds_toArray, List.set_cons_zero, List.set_cons_succ]
  refine wpQuiet_val (by kernel_rfl) (.bool true) (fun v hv => rfl) ?_
  simp only [Act.put, List.setIfInBounds_toArray, List.set_cons_zero, List.set_cons_succ]
  have C6_8 := Lib.hid (bel_step B6.out B7.out)
  refine wpQuiet_val (by kernel_rfl) (.agg (trC s c2)) (fun v hv => (exec_loadT b7 s c2 HDs.out.1 ((Fv3_7.out.keep C6_8.out).keep (LaterB.of hv)) rfl rfl)) ?_
  simp only [Act.put, List.setIfInBounds_toArray, List.set_cons_zero, List.set_cons_succ]
  refine wpQuiet_val (by kernel_rfl) (.agg (trC s c2)) (fun v hv => (exec_loadT b9 s c2 HDs.out.1 (Fv5_9.out.keep (LaterB.of hv)) rfl rfl)) ?_
  simp only [Act.put, List.setIfInBounds_toArray, List.set_cons_zero, List.set_cons_succ]
  refine wpQuiet_val (by kernel_rfl) (.bool true) (fun v hv => (exec_eqTr s c2 HDs.out.1 HDs.out.2 rfl rfl rfl v)) ?_
  simp only [Act.put, List.setIfInBounds_toArray, List.set_cons_zero, List.set_cons_succ]
  refine wpQuiet_val (by kernel_rfl) (.bool true) (fun v hv => rfl) ?_
  simp only [Act.put, List.setIfInBounds_toArray, List.set_cons_zero, List.set_cons_succ]
  refine wpQuiet_val (by kernel_rfl) (.bool true) (fun v hv => rfl) ?_
  simp only [Act.put, List.setIfInBounds_toArray, List.set_cons_zero, List.set_cons_succ]
  refine wpQuiet_val (by kernel_rfl) (.agg #[.int .u64 (xz : Int), .int .u64 (yz : Int)]) (fun v hv => (xo_loadW b8 _ (heap_keep (heap_keep Fv4_8.out C6_8.out) (LaterB.of hv)) Tryd.underlying36 rfl (by kernel_rfl) rfl rfl)) ?_
  simp only [Act.put, List.setIfInBounds_toArray, List.set_cons_zero, List.set_cons_succ]
  refine wpQuiet_val (by kernel_rfl) (.agg #[.int .u64 (xz : Int), .int .u64 (yz : Int)]) (fun v hv => (xo_loadW b10 _ (heap_keep Fv6_10.out (LaterB.of hv)) Tryd.underlying36 rfl (by kernel_rfl) rfl rfl)) ?_
  simp only [Act.put, List.setIfInBounds_toArray, List.set_cons_zero, List.set_cons_succ]
  refine wpQuiet_val (by kernel_rfl) (.bool true) (fun v hv => (exec_eqEx _ _ rfl rfl rfl v)) ?_
  simp only [Act.put, List.setIfInBounds_toArray, List.set_cons_zero, List.set_cons_succ]
  refine wpQuiet_val (by kernel_rfl) (.bool true) (fun v hv => rfl) ?_
  simp only [Act.put, List.setIfInBounds_toArray, List.set_cons_zero, List.set_cons_succ]
  refine wpQuiet_val (by kernel_rfl) (.bool true) (fun v hv => rfl) ?_
  simp only [Act.put, List.setIfInBounds_toArray, List.set_cons_zero, List.set_cons_succ]
  refine wpQuiet_val (by kernel_rfl) (.bool true) (fun v hv => rfl) ?_
  simp only [Act.put, List.setIfInBounds_toArray, List.set_cons_zero, List.set_cons_succ]
  refine wpQuiet_val (by kernel_rfl) (.bool true) (fun v hv => rfl) ?_
  simp only [Act.put, List.setIfInBounds_toArray, List.set_cons_zero, List.set_cons_succ]
  refine wpQuiet_nil ?_
  refine wpHeld_nil ?_
  refine mOp_val (.bool true) rfl rfl rfl ?_
  try simp only [List.getElem_toArray, List.getElem_cons_succ, List.getElem_cons_zero, ptr, Act.put, List.setIfInBounds_toArray, List.set_cons_zero, List.set_cons_succ]
  go_wp2_with fail
  go_ret
  have C0_17 := Lib.hid (bel_step C0_16.out B16.out)
  have C0_18 := Lib.hid (bel_step C0_17.out B17.out)
  have C0_19 := Lib.hid (bel_step C0_18.out B18.out)
  have C0_20 := Lib.hid (bel_step C0_19.out B19.out)
  exact ⟨rfl, C0_20.out⟩
end Go.Proofs.YtcaoajeplinopaaDoor
