/- A law of stage 10: Challenges. -/
import Derived.Test.YtcaoajeplinopaaDoorH15
namespace Go.Proofs.YtcaoajeplinopaaDoor
set_option linter.unusedVariables false
set_option linter.unusedSimpArgs false
set_option maxRecDepth 8000
open Go.RowKit Gold
open Go.Shelf
attribute [local simp] z32_ne z32_run
attribute [-simp] Tryd.zeroValue30 Tryd.isAgg30 Tryd.sizeOf30
attribute [-simp] Tryd.zeroValue32 Tryd.isAgg32 Tryd.sizeOf32
attribute [local simp] z33_ne z33_run
attribute [local irreducible] wpList wpQuiet
set_option maxRecDepth 100000 in
set_option maxHeartbeats 16000000 in
theorem tChallenges_any (ls : ByteArray) (A1 : Option Addr) (n1 c1 : Nat) (bs : List Nat) (A2 : Option Addr) (n2 c2 : Nat) (xs : List (Nat × Nat)) (A3 : Option Addr) (n3 c3 : Nat) (is : List Int) (A4 : Option Addr) (n4 c4 : Nat) (st : List Nat) (cnt : Nat) (nn : Nat) (w : World)
    (hS1 : Sb w A1 n1 c1 bs) (hS2 : XbT w A2 n2 c2 xs) (hS3 : Ib w A3 n3 c3 is) (hS4 : Sb w A4 n4 c4 st) (hc : cnt < 18446744073709551616) (hnn : nn < 256) (hG : Gl w) :
    Calls Tryd.prog 7 #[.agg #[.string ls, .slice A1 n1 c1, .slice A2 n2 c2, .slice A3 n3 c3, .slice A4 n4 c4, .int .u64 (cnt : Int)], .int .u8 (nn : Int)] w fun e w' => e = .returned (.bool true) ∧ Below w.heap.size w w' := by
  obtain ⟨s, hs⟩ : ∃ s, madeN st = s := ⟨_, rfl⟩
  have HDs := Lib.hid (show s.length = 32 ∧ ∀ x ∈ s, x < 256 by rw [← hs]; exact ⟨madeN_length _, madeN_lt hS4.byte⟩)
  have HSM := Lib.hid hs
  have hcap1 := hS1.cap
  have hlen1 := hS1.len
  have hcap2 := hS2.cap
  have hlen2 := hS2.len
  have hcap3 := hS3.cap
  have hlen3 := hS3.len
  have HL1 := Lib.hid hlen1
  have HL2 := Lib.hid hlen2
  have HL3 := Lib.hid hlen3
  have HS1 := Lib.hid hS1
  have HS2 := Lib.hid hS2
  have HS3 := Lib.hid hS3
  have HS4 := Lib.hid hS4
  clear hs hS1 hS2 hS3 hS4 hlen1 hlen2 hlen3
  have HG := Lib.hid hG
  clear hG
  go_enter Tryd.func7, Tryd.ntmps7
  go_upto_region 1 with fail
  refine wp_named1 (fun V1 hb g0 hlt => ?_)
  have B0 := Lib.hid hb
  have Fv0_2 : Hid (V1.heap[w.heap.size]? = some (.cells #[.string ls, .slice A1 n1 c1, .slice A2 n2 c2, .slice A3 n3 c3, .slice A4 n4 c4, .int .u64 (cnt : Int)] 27 (0, 0))) := Lib.hid (g0)
  have Gb0 : Hid (w.heap.size ≤ w.heap.size) := Lib.hid (by omega)
  clear hb g0 hlt
  refine wp_region_lit ?_
  refine wpList_call (by kernel_rfl) 11 Tryd.func11 (by kernel_rfl) (by kernel_rfl) _ _ #[] rfl (by kernel_rfl) ?_
  refine (sanity10_any V1 (HG.out.keep B0.out)).mono ?_
  rintro e V2 ⟨rfl, hb⟩
  have B1 := Lib.hid hb
  clear hb 
  refine ⟨_, rfl, ?_⟩
  simp only [Act.put, List.setIfInBounds_toArray, List.set_cons_zero, List.set_cons_succ]
  refine wpList_run (by kernel_rfl) (.bool true) V2 rfl ?_
  simp only [Act.put, List.setIfInBounds_toArray, List.set_cons_zero, List.set_cons_succ]
  refine wpList_nil ?_
  go_upto_region 2 with fail
  refine wp_region_lit ?_
  refine wpList_run (by kernel_rfl) (.agg #[.string ls, .slice A1 n1 c1, .slice A2 n2 c2, .slice A3 n3 c3, .slice A4 n4 c4, .int .u64 (cnt : Int)]) V2 (xo_loadW w.heap.size _ (heap_keep Fv0_2.out B1.out) Tryd.underlying27 rfl (by kernel_rfl) rfl rfl) ?_
  simp only [Act.put, List.setIfInBounds_toArray, List.set_cons_zero, List.set_cons_succ]
  have C0_2 := Lib.hid (bel_step B0.out B1.out)
  refine wpList_call (by kernel_rfl) 12 Tryd.func12 (by kernel_rfl) (by kernel_rfl) _ _ #[.agg #[.string ls, .slice A1 n1 c1, .slice A2 n2 c2, .slice A3 n3 c3, .slice A4 n4 c4, .int .u64 (cnt : Int)]] rfl (by kernel_rfl) ?_
  refine (made10_any ls A1 n1 c1 bs A2 n2 c2 xs A3 n3 c3 is A4 n4 c4 st cnt V2 (HS1.out.keep C0_2.out) (HS2.out.keep C0_2.out) (HS3.out.keep C0_2.out) (HS4.out.keep C0_2.out) hc s HSM.out).mono ?_
  rintro e V3 ⟨lb, v, rfl, hlb, hox, hb⟩
  have B2 := Lib.hid hb
  obtain ⟨A5, c5, rfl, hxb⟩ := hox.xb redX_lt
  have HY := Lib.hid hxb
  clear hb hxb
  refine ⟨_, rfl, ?_⟩
  simp only [Act.put, List.setIfInBounds_toArray, List.set_cons_zero, List.set_cons_succ]
  refine wpList_run (by kernel_rfl) (.tuple #[.agg (trC s cnt), .string lb, .agg #[.string ByteArray.empty, .slice A1 (min n1 200) c1, .slice A5 (min n2 12) c5, .slice A3 (min n3 12) c3, .slice none 0 0, .int .u64 0]]) V3 rfl ?_
  simp only [Act.put, List.setIfInBounds_toArray, List.set_cons_zero, List.set_cons_succ]
  refine wpList_run (by kernel_rfl) (.agg (trC s cnt)) V3 rfl ?_
  simp only [Act.put, List.setIfInBounds_toArray, List.set_cons_zero, List.set_cons_succ]
  refine wpList_run (by kernel_rfl) (.string lb) V3 rfl ?_
  simp only [Act.put, List.setIfInBounds_toArray, List.set_cons_zero, List.set_cons_succ]
  refine wpList_run (by kernel_rfl) (.agg #[.string ByteArray.empty, .slice A1 (min n1 200) c1, .slice A5 (min n2 12) c5, .slice A3 (min n3 12) c3, .slice none 0 0, .int .u64 0]) V3 rfl ?_
  simp only [Act.put, List.setIfInBounds_toArray, List.set_cons_zero, List.set_cons_succ]
  refine wpList_new z33 32 (by kernel_rfl) (exec_allocT V3 rfl) ?_
  intro b6 V4 hge h0 hb
  have C1_3 := Lib.hid (bel_step B1.out B2.out)
  have N6_0 : Hid (w.heap.size ≠ b6) := Lib.hid (xp_lt0 (heap_keep Fv0_2.out C1_3.out) hge)
  have Ge6 : Hid (V3.heap.size ≤ b6) := Lib.hid hge
  have B3 := Lib.hid hb
  have Fv1_6 : Hid (RowT V4 b6 (List.replicate 32 0) 0) := Lib.hid (h0)
  clear hge h0 hb
  simp only [ptr, Act.put, List.setIfInBounds_toArray, List.set_cons_zero, List.set_cons_succ]
  refine wpList_new #[.string ByteArray.empty, .slice none 0 0, .slice none 0 0, .slice none 0 0, .slice none 0 0, .int .u64 0] 27 (by kernel_rfl) (exec_allocN rfl V4) ?_
  intro b8 V5 hge h0 hb
  have C1_4 := Lib.hid (bel_step C1_3.out B3.out)
  have N8_0 : Hid (w.heap.size ≠ b8) := Lib.hid (xp_lt0 (heap_keep Fv0_2.out C1_4.out) hge)
  have N8_1 : Hid (b6 ≠ b8) := Lib.hid (xp_lt0 Fv1_6.out hge)
  have Ge8 : Hid (V4.heap.size ≤ b8) := Lib.hid hge
  have B4 := Lib.hid hb
  have Fv2_8 : Hid (V5.heap[b8]? = some (.cells #[.string ByteArray.empty, .slice none 0 0, .slice none 0 0, .slice none 0 0, .slice none 0 0, .int .u64 0] 27 (0, 0))) := Lib.hid (h0)
  clear hge h0 hb
  simp only [ptr, Act.put, List.setIfInBounds_toArray, List.set_cons_zero, List.set_cons_succ]
  refine wpList_storeW b6 (trC (List.replicate 32 0) 0) (trC s cnt) 32 (by kernel_rfl) (Fv1_6.out.keep B4.out) (exec_storeT b6 (List.replicate 32 0) 0 s cnt List.length_replicate HDs.out.1 (Fv1_6.out.keep B4.out) rfl rfl rfl) ?_
  intro X5_0 h1 hfar hbel hsz
  have YFv2_8 : X5_0.heap[b8]? = some (.cells #[.string ByteArray.empty, .slice none 0 0, .slice none 0 0, .slice none 0 0, .slice none 0 0, .int .u64 0] 27 (0, 0)) := hfar _ _ (Ne.symm N8_1.out) Fv2_8.out
  have Gs1 : Hid (V3.heap.size ≤ b8) := Lib.hid (Nat.le_trans B3.out.size Ge8.out)
  have C3_5 := Lib.hid (bel_step B3.out B4.out)
  have hbr := hbel _ _ Ge6.out C3_5.out
  clear B3
  have B3 := Lib.hid hbr
  clear hbr
  clear Fv2_8
  have Fv2_8 : Hid (X5_0.heap[b8]? = some (.cells #[.string ByteArray.empty, .slice none 0 0, .slice none 0 0, .slice none 0 0, .slice none 0 0, .int .u64 0] 27 (0, 0))) := Lib.hid YFv2_8
  clear YFv2_8
  clear Fv1_6
  have Fv1_6 : Hid (RowT X5_0 b6 s cnt) := Lib.hid (h1)
  clear h1 hfar hbel hsz
  simp only [ptr, Act.put, List.setIfInBounds_toArray, List.set_cons_zero, List.set_cons_succ]
  refine wpList_run (by kernel_rfl) (.string lb) X5_0 rfl ?_
  simp only [Act.put, List.setIfInBounds_toArray, List.set_cons_zero, List.set_cons_succ]
  refine wpList_storeW b8 #[.string ByteArray.empty, .slice none 0 0, .slice none 0 0, .slice none 0 0, .slice none 0 0, .int .u64 0] #[.string ByteArray.empty, .slice A1 (min n1 200) c1, .slice A5 (min n2 12) c5, .slice A3 (min n3 12) c3, .slice none 0 0, .int .u64 0] 27 (by kernel_rfl) Fv2_8.out (xo_storeW b8 #[.string ByteArray.empty, .slice none 0 0, .slice none 0 0, .slice none 0 0, .slice none 0 0, .int .u64 0] #[.string ByteArray.empty, .slice A1 (min n1 200) c1, .slice A5 (min n2 12) c5, .slice A3 (min n3 12) c3, .slice none 0 0, .int .u64 0] Fv2_8.out (by kernel_rfl) rfl (by simp [Value.oneCell']) rfl rfl rfl) ?_
  intro X4_2 h1 hfar hbel hsz
  have YFv1_6 : RowT X4_2 b6 s cnt := hfar _ _ N8_1.out Fv1_6.out
  have hbr := hbel _ _ Gs1.out B3.out
  clear B3
  have B3 := Lib.hid hbr
  clear hbr
  clear Fv1_6
  have Fv1_6 : Hid (RowT X4_2 b6 s cnt) := Lib.hid YFv1_6
  clear YFv1_6
  clear Fv2_8
  have Fv2_8 : Hid (X4_2.heap[b8]? = some (.cells #[.string ByteArray.empty, .slice A1 (min n1 200) c1, .slice A5 (min n2 12) c5, .slice A3 (min n3 12) c3, .slice none 0 0, .int .u64 0] 27 (0, 0))) := Lib.hid (h1)
  clear h1 hfar hbel hsz
  simp only [ptr, Act.put, List.setIfInBounds_toArray, List.set_cons_zero, List.set_cons_succ]
  refine wpList_nil ?_
  obtain ⟨cc, hcc⟩ : ∃ cc, cnt / 2 = cc := ⟨_, rfl⟩
  have hcc2 : cc < 9223372036854775808 := by omega
  go_upto_region 3 with fail
  refine wp_region_lit ?_
  refine wpList_run (by kernel_rfl) (.pointer (some ⟨b6, 32, none⟩)) X4_2 (exec_fT1 b6 rfl rfl X4_2) ?_
  simp only [Act.put, List.setIfInBounds_toArray, List.set_cons_zero, List.set_cons_succ]
  refine wpList_run (by kernel_rfl) (.int .u64 ((cnt : Nat) : Int)) X4_2 (exec_loadU ⟨b6, 32, none⟩ _ (Fv1_6.out.count HDs.out.1) rfl rfl) ?_
  simp only [Act.put, List.setIfInBounds_toArray, List.set_cons_zero, List.set_cons_succ]
  refine wpList_run (by kernel_rfl) (.int .u64 (cc : Int)) X4_2 (xo_shrN .u64 .u64 cnt 1 cc (by decide) hcc rfl rfl rfl) ?_
  simp only [Act.put, List.setIfInBounds_toArray, List.set_cons_zero, List.set_cons_succ]
  refine wpList_run (by kernel_rfl) (.pointer (some ⟨b6, 32, none⟩)) X4_2 (exec_fT1 b6 rfl rfl X4_2) ?_
  simp only [Act.put, List.setIfInBounds_toArray, List.set_cons_zero, List.set_cons_succ]
  refine wpList_store1 b6 32 (trC s cnt) (.int .u64 (cc : Int)) 32 (by kernel_rfl) Fv1_6.out (xo_store1 b6 32 (trC s cnt) _ (.int .u64 (cc : Int)) Fv1_6.out (trC_count HDs.out.1 _) (by kernel_rfl) rfl rfl rfl rfl) ?_
  intro X4_3 h1 hfar hbel hsz
  have YFv2_8 : X4_3.heap[b8]? = some (.cells #[.string ByteArray.empty, .slice A1 (min n1 200) c1, .slice A5 (min n2 12) c5, .slice A3 (min n3 12) c3, .slice none 0 0, .int .u64 0] 27 (0, 0)) := hfar _ _ (Ne.symm N8_1.out) Fv2_8.out
  have hbr := hbel _ _ Ge6.out B3.out
  clear B3
  have B3 := Lib.hid hbr
  clear hbr
  clear Fv2_8
  have Fv2_8 : Hid (X4_3.heap[b8]? = some (.cells #[.string ByteArray.empty, .slice A1 (min n1 200) c1, .slice A5 (min n2 12) c5, .slice A3 (min n3 12) c3, .slice none 0 0, .int .u64 0] 27 (0, 0))) := Lib.hid YFv2_8
  clear YFv2_8
  clear Fv1_6
  have Fv1_6 : Hid (RowT X4_3 b6 s cc) := Lib.hid ((by have h2 := h1; rw [trC_set HDs.out.1 cnt cc] at h2; exact h2))
  clear h1 hfar hbel hsz
  simp only [ptr, Act.put, List.setIfInBounds_toArray, List.set_cons_zero, List.set_cons_succ]
  refine wpList_nil ?_
  obtain ⟨k, hk⟩ : ∃ k, nn % 8 = k := ⟨_, rfl⟩
  have hk8 : k < 8 := by omega
  go_upto_region 4 with fail
  refine wp_region_lit ?_
  refine wpList_run (by kernel_rfl) (.int .u8 (nn : Int)) X4_3 rfl ?_
  simp only [Act.put, List.setIfInBounds_toArray, List.set_cons_zero, List.set_cons_succ]
  refine wpList_run (by kernel_rfl) (.int .i64 (nn : Int)) X4_3 (xo_cvt .u8 .i64 (nn : Int) (nn : Int) (wrapI (by omega) (by omega)) Tryd.underlying3 Tryd.underlying5 rfl rfl) ?_
  simp only [Act.put, List.setIfInBounds_toArray, List.set_cons_zero, List.set_cons_succ]
  refine wpList_run (by kernel_rfl) (.int .i64 (k : Int)) X4_3 (xo_remN .i64 nn 8 k (by omega) hk rfl rfl rfl) ?_
  simp only [Act.put, List.setIfInBounds_toArray, List.set_cons_zero, List.set_cons_succ]
  refine wpList_run (by kernel_rfl) (.int .i64 (k : Int)) X4_3 rfl ?_
  simp only [Act.put, List.setIfInBounds_toArray, List.set_cons_zero, List.set_cons_succ]
  refine wpList_nil ?_
  go_upto_region 5 with fail
  refine wp_region_lit ?_
  refine wpList_run (by kernel_rfl) (.agg (trC s cc)) X4_3 (exec_loadT b6 s cc HDs.out.1 Fv1_6.out rfl rfl) ?_
  simp only [Act.put, List.setIfInBounds_toArray, List.set_cons_zero, List.set_cons_succ]
  refine wpList_new z33 32 (by kernel_rfl) (exec_allocT X4_3 rfl) ?_
  intro b10 V5 hge h0 hb
  have C1_4 := Lib.hid (bel_step C1_3.out B3.out)
  have N10_0 : Hid (w.heap.size ≠ b10) := Lib.hid (xp_lt0 (heap_keep Fv0_2.out C1_4.out) hge)
  have N10_1 : Hid (b6 ≠ b10) := Lib.hid (xp_lt0 Fv1_6.out hge)
  have N10_2 : Hid (b8 ≠ b10) := Lib.hid (xp_lt0 Fv2_8.out hge)
  have Ge10 : Hid (X4_3.heap.size ≤ b10) := Lib.hid hge
  have B4 := Lib.hid hb
  have Fv3_10 : Hid (RowT V5 b10 (List.replicate 32 0) 0) := Lib.hid (h0)
  clear hge h0 hb
  simp only [ptr, Act.put, List.setIfInBounds_toArray, List.set_cons_zero, List.set_cons_succ]
  refine wpList_storeW b10 (trC (List.replicate 32 0) 0) (trC s cc) 32 (by kernel_rfl) Fv3_10.out (exec_storeT b10 (List.replicate 32 0) 0 s cc List.length_replicate HDs.out.1 Fv3_10.out rfl rfl rfl) ?_
  intro X5_4 h1 hfar hbel hsz
  have hbr := hbel _ _ Ge10.out B4.out
  clear B4
  have B4 := Lib.hid hbr
  clear hbr
  clear Fv3_10
  have Fv3_10 : Hid (RowT X5_4 b10 s cc) := Lib.hid (h1)
  clear h1 hfar hbel hsz
  simp only [ptr, Act.put, List.setIfInBounds_toArray, List.set_cons_zero, List.set_cons_succ]
  refine wpList_nil ?_
  clear hcc hk
  have C0_3 := Lib.hid (bel_step C0_2.out B2.out)
  have C0_4 := Lib.hid (bel_step C0_3.out B3.out)
  have C0_5 := Lib.hid (bel_step C0_4.out B4.out)
  have HBW : Hid (Below w.heap.size w X5_4) := Lib.hid C0_5.out
  have Gr5 : Hid (w.heap.size ≤ b6) := Lib.hid (Nat.le_trans C0_3.out.size Ge6.out)
  have Gr6 : Hid (w.heap.size ≤ b10) := Lib.hid (Nat.le_trans C0_4.out.size Ge10.out)
  have Y6 := (Fv1_6.out.keep B4.out)
  have Y10 := Fv3_10.out
  go_wp2_with fail
  go_loopw [11] (fun p wr => ∃ i : Nat, i ≤ k ∧ p = .int .i64 i ∧ RowT wr b6 s cc ∧ RowT wr b10 s (cc + i) ∧ Below w.heap.size w wr) (fun p _ => k - (intOf p).toNat)
  case atStart => exact ⟨0, Nat.zero_le _, rfl, Y6, Y10, HBW.out⟩
  case round =>
    clear Y6 Y10 HBW
    obtain ⟨wo, rfl⟩ : ∃ wo : World, wo = wr := ⟨_, rfl⟩
    obtain ⟨i, hi, rfl, h6, h10, hb⟩ := hrel
    have hbr := hb
    clear B0
    have B0 := Lib.hid hbr
    clear hbr
    clear Fv1_6
    have Fv1_6 : Hid (RowT wo b6 s cc) := Lib.hid (h6)
    clear Fv3_10
    have Fv3_10 : Hid (RowT wo b10 s (cc + i)) := Lib.hid (h10)
    clear h6 h10 hb
    by_cases hlt : i < k
    · have hk1 : (i : Int) < (k : Int) := by omega
      have hk0 : (0 : Int) ≤ (i : Int) := by omega
      obtain ⟨Di, hDi⟩ : ∃ D, outT s 2 lb (cc + i) = D := ⟨_, rfl⟩
      have HDi := Lib.hid hDi
      clear hDi
      obtain ⟨xi, hxi⟩ : ∃ z, leV Di 0 % 18446744069414584321 = z := ⟨_, rfl⟩
      have Hxi := Lib.hid hxi
      have hlxi : xi < 18446744069414584321 := by rw [← hxi]; exact Nat.mod_lt _ (by decide)
      clear hxi
      obtain ⟨yi, hyi⟩ : ∃ z, leV Di 8 % 18446744069414584321 = z := ⟨_, rfl⟩
      have Hyi := Lib.hid hyi
      have hlyi : yi < 18446744069414584321 := by rw [← hyi]; exact Nat.mod_lt _ (by decide)
      clear hyi
      go_upto_region 9 with fail
      refine wp_region_lit ?_
      refine wpList_run (by kernel_rfl) (.agg (trC s (cc + i))) wo (exec_loadT b10 s (cc + i) HDs.out.1 Fv3_10.out rfl rfl) ?_
      simp only [Act.put, List.setIfInBounds_toArray, List.set_cons_zero, List.set_cons_succ]
      refine wpList_run (by kernel_rfl) (.string lb) wo rfl ?_
      simp only [Act.put, List.setIfInBounds_toArray, List.set_cons_zero, List.set_cons_succ]
      refine wpList_call (by kernel_rfl) 13 Tryd.func13 (by kernel_rfl) (by kernel_rfl) _ _ #[.agg (trC s (cc + i)), .string lb] rfl (by kernel_rfl) ?_
      refine (challenge_any s lb (cc + i) wo HDs.out.1 HDs.out.2 (by omega) (by omega) (HG.out.keep B0.out) Di HDi.out (cc + i + 1) (by omega) xi yi Hxi.out Hyi.out).mono ?_
      rintro e V2 ⟨rfl, hb⟩
      have B1 := Lib.hid hb
      clear hb 
      refine ⟨_, rfl, ?_⟩
      simp only [Act.put, List.setIfInBounds_toArray, List.set_cons_zero, List.set_cons_succ]
      refine wpList_run (by kernel_rfl) (.tuple #[.agg (trC s (cc + i + 1)), .agg #[.int .u64 (xi : Int), .int .u64 (yi : Int)]]) V2 rfl ?_
      simp only [Act.put, List.setIfInBounds_toArray, List.set_cons_zero, List.set_cons_succ]
      refine wpList_run (by kernel_rfl) (.agg (trC s (cc + i + 1))) V2 rfl ?_
      simp only [Act.put, List.setIfInBounds_toArray, List.set_cons_zero, List.set_cons_succ]
      refine wpList_run (by kernel_rfl) (.agg #[.int .u64 (xi : Int), .int .u64 (yi : Int)]) V2 rfl ?_
      simp only [Act.put, List.setIfInBounds_toArray, List.set_cons_zero, List.set_cons_succ]
      refine wpList_new z33 32 (by kernel_rfl) (exec_allocT V2 rfl) ?_
      intro b12 V3 hge h0 hb
      have N12_0 : Hid (b6 ≠ b12) := Lib.hid (xp_lt0 (Fv1_6.out.keep B1.out) hge)
      have N12_1 : Hid (b10 ≠ b12) := Lib.hid (xp_lt0 (Fv3_10.out.keep B1.out) hge)
      have Ge12 : Hid (V2.heap.size ≤ b12) := Lib.hid hge
      have B2 := Lib.hid hb
      have Fv2_12 : Hid (RowT V3 b12 (List.replicate 32 0) 0) := Lib.hid (h0)
      clear hge h0 hb
      simp only [ptr, Act.put, List.setIfInBounds_toArray, List.set_cons_zero, List.set_cons_succ]
      refine wpList_new #[.int .u64 0, .int .u64 0] 36 (by kernel_rfl) (exec_allocE V3 rfl) ?_
      intro b13 V4 hge h0 hb
      have C1_3 := Lib.hid (bel_step B1.out B2.out)
      have N13_0 : Hid (b6 ≠ b13) := Lib.hid (xp_lt0 (Fv1_6.out.keep C1_3.out) hge)
      have N13_1 : Hid (b10 ≠ b13) := Lib.hid (xp_lt0 (Fv3_10.out.keep C1_3.out) hge)
      have N13_2 : Hid (b12 ≠ b13) := Lib.hid (xp_lt0 Fv2_12.out hge)
      have Ge13 : Hid (V3.heap.size ≤ b13) := Lib.hid hge
      have B3 := Lib.hid hb
      have Fv3_13 : Hid (V4.heap[b13]? = some (.cells #[.int .u64 0, .int .u64 0] 36 (0, 0))) := Lib.hid (h0)
      clear hge h0 hb
      simp only [ptr, Act.put, List.setIfInBounds_toArray, List.set_cons_zero, List.set_cons_succ]
      refine wpList_storeW b12 (trC (List.replicate 32 0) 0) (trC s (cc + i + 1)) 32 (by kernel_rfl) (Fv2_12.out.keep B3.out) (exec_storeT b12 (List.replicate 32 0) 0 s (cc + i + 1) List.length_replicate HDs.out.1 (Fv2_12.out.keep B3.out) rfl rfl rfl) ?_
      intro X4_8 h1 hfar hbel hsz
      have YFv3_13 : X4_8.heap[b13]? = some (.cells #[.int .u64 0, .int .u64 0] 36 (0, 0)) := hfar _ _ (Ne.symm N13_2.out) Fv3_13.out
      have Gs9 : Hid (V2.heap.size ≤ b13) := Lib.hid (Nat.le_trans B2.out.size Ge13.out)
      have C2_4 := Lib.hid (bel_step B2.out B3.out)
      have hbr := hbel _ _ Ge12.out C2_4.out
      clear B2
      have B2 := Lib.hid hbr
      clear hbr
      clear Fv3_13
      have Fv3_13 : Hid (X4_8.heap[b13]? = some (.cells #[.int .u64 0, .int .u64 0] 36 (0, 0))) := Lib.hid YFv3_13
      clear YFv3_13
      clear Fv2_12
      have Fv2_12 : Hid (RowT X4_8 b12 s (cc + i + 1)) := Lib.hid (h1)
      clear h1 hfar hbel hsz
      simp only [ptr, Act.put, List.setIfInBounds_toArray, List.set_cons_zero, List.set_cons_succ]
      refine wpList_storeW b13 #[.int .u64 0, .int .u64 0] #[.int .u64 (xi : Int), .int .u64 (yi : Int)] 36 (by kernel_rfl) Fv3_13.out (xo_storeW b13 #[.int .u64 0, .int .u64 0] #[.int .u64 (xi : Int), .int .u64 (yi : Int)] Fv3_13.out (by kernel_rfl) rfl (by simp [Value.oneCell']) rfl rfl rfl) ?_
      intro X3_10 h1 hfar hbel hsz
      have YFv2_12 : RowT X3_10 b12 s (cc + i + 1) := hfar _ _ N13_2.out Fv2_12.out
      have hbr := hbel _ _ Gs9.out B2.out
      clear B2
      have B2 := Lib.hid hbr
      clear hbr
      clear Fv2_12
      have Fv2_12 : Hid (RowT X3_10 b12 s (cc + i + 1)) := Lib.hid YFv2_12
      clear YFv2_12
      clear Fv3_13
      have Fv3_13 : Hid (X3_10.heap[b13]? = some (.cells #[.int .u64 (xi : Int), .int .u64 (yi : Int)] 36 (0, 0))) := Lib.hid (h1)
      clear h1 hfar hbel hsz
      simp only [ptr, Act.put, List.setIfInBounds_toArray, List.set_cons_zero, List.set_cons_succ]
      refine wpList_nil ?_
      go_upto_region 10 with fail
      refine wp_region_lit ?_
      refine wpList_run (by kernel_rfl) (.pointer (some ⟨b13, 0, none⟩)) X3_10 (xo_fld0 0 b13 0 (by kernel_rfl) rfl rfl) ?_
      simp only [Act.put, List.setIfInBounds_toArray, List.set_cons_zero, List.set_cons_succ]
      refine wpList_run (by kernel_rfl) (.int .u64 (xi : Int)) X3_10 (xo_load1 ⟨b13, 0, none⟩ _ (cells_at Fv3_13.out 0 rfl) Tryd.underlying25 rfl rfl rfl) ?_
      simp only [Act.put, List.setIfInBounds_toArray, List.set_cons_zero, List.set_cons_succ]
      refine wpList_call (by kernel_rfl) 33 Tryd.func33 (by kernel_rfl) (by kernel_rfl) _ _ #[.int .u64 (xi : Int)] rfl (by kernel_rfl) ?_
      refine (rvalid_yes xi (by omega) X3_10).mono ?_
      rintro e W1 ⟨rfl, hw1⟩
      rw [hw1]
      clear hw1 W1
      refine ⟨_, rfl, ?_⟩
      simp only [Act.put, List.setIfInBounds_toArray, List.set_cons_zero, List.set_cons_succ]
      refine wpList_run (by kernel_rfl) (.bool false) X3_10 rfl ?_
      simp only [Act.put, List.setIfInBounds_toArray, List.set_cons_zero, List.set_cons_succ]
      refine wpList_run (by kernel_rfl) (.bool false) X3_10 rfl ?_
      simp only [Act.put, List.setIfInBounds_toArray, List.set_cons_zero, List.set_cons_succ]
      refine wpList_run (by kernel_rfl) (.pointer (some ⟨b13, 1, none⟩)) X3_10 (xo_fld0 1 b13 1 (by kernel_rfl) rfl rfl) ?_
      simp only [Act.put, List.setIfInBounds_toArray, List.set_cons_zero, List.set_cons_succ]
      refine wpList_run (by kernel_rfl) (.int .u64 (yi : Int)) X3_10 (xo_load1 ⟨b13, 1, none⟩ _ (cells_at Fv3_13.out 1 rfl) Tryd.underlying25 rfl rfl rfl) ?_
      simp only [Act.put, List.setIfInBounds_toArray, List.set_cons_zero, List.set_cons_succ]
      refine wpList_call (by kernel_rfl) 33 Tryd.func33 (by kernel_rfl) (by kernel_rfl) _ _ #[.int .u64 (yi : Int)] rfl (by kernel_rfl) ?_
      refine (rvalid_yes yi (by omega) X3_10).mono ?_
      rintro e W1 ⟨rfl, hw1⟩
      rw [hw1]
      clear hw1 W1
      refine ⟨_, rfl, ?_⟩
      simp only [Act.put, List.setIfInBounds_toArray, List.set_cons_zero, List.set_cons_succ]
      refine wpList_run (by kernel_rfl) (.bool false) X3_10 rfl ?_
      simp only [Act.put, List.setIfInBounds_toArray, List.set_cons_zero, List.set_cons_succ]
      refine wpList_run (by kernel_rfl) (.bool false) X3_10 rfl ?_
      simp only [Act.put, List.setIfInBounds_toArray, List.set_cons_zero, List.set_cons_succ]
      refine wpList_nil ?_
      go_upto_region 12 with fail
      refine wp_region_lit ?_
      refine wpList_run (by kernel_rfl) (.agg (trC s (cc + i + 1))) X3_10 (exec_loadT b12 s (cc + i + 1) HDs.out.1 Fv2_12.out rfl rfl) ?_
      simp only [Act.put, List.setIfInBounds_toArray, List.set_cons_zero, List.set_cons_succ]
      have C1_3 := Lib.hid (bel_step B1.out B2.out)
      refine wpList_storeW b10 (trC s (cc + i)) (trC s (cc + i + 1)) 32 (by kernel_rfl) (Fv3_10.out.keep C1_3.out) (exec_storeT b10 s (cc + i) s (cc + i + 1) HDs.out.1 HDs.out.1 (Fv3_10.out.keep C1_3.out) rfl rfl rfl) ?_
      intro X3_11 h1 hfar hbel hsz
      have YFv1_6 : RowT X3_11 b6 s cc := hfar _ _ N10_1.out (Fv1_6.out.keep C1_3.out)
      have YFv2_12 : RowT X3_11 b12 s (cc + i + 1) := hfar _ _ (Ne.symm N12_1.out) Fv2_12.out
      have YFv3_13 : X3_11.heap[b13]? = some (.cells #[.int .u64 (xi : Int), .int .u64 (yi : Int)] 36 (0, 0)) := hfar _ _ (Ne.symm N13_1.out) Fv3_13.out
      have C0_2 := Lib.hid (bel_step B0.out B1.out)
      have Gs12 : Hid (w.heap.size ≤ b12) := Lib.hid (Nat.le_trans C0_2.out.size Ge12.out)
      have Gs13 : Hid (w.heap.size ≤ b13) := Lib.hid (Nat.le_trans C0_2.out.size Gs9.out)
      have C0_3 := Lib.hid (bel_step C0_2.out B2.out)
      have hbr := hbel _ _ Gr6.out C0_3.out
      clear B0
      have B0 := Lib.hid hbr
      clear hbr
      clear Fv1_6
      have Fv1_6 : Hid (RowT X3_11 b6 s cc) := Lib.hid YFv1_6
      clear YFv1_6
      clear Fv2_12
      have Fv2_12 : Hid (RowT X3_11 b12 s (cc + i + 1)) := Lib.hid YFv2_12
      clear YFv2_12
      clear Fv3_13
      have Fv3_13 : Hid (X3_11.heap[b13]? = some (.cells #[.int .u64 (xi : Int), .int .u64 (yi : Int)] 36 (0, 0))) := Lib.hid YFv3_13
      clear YFv3_13
      clear Fv3_10
      have Fv3_10 : Hid (RowT X3_11 b10 s (cc + i + 1)) := Lib.hid (h1)
      clear h1 hfar hbel hsz
      simp only [ptr, Act.put, List.setIfInBounds_toArray, List.set_cons_zero, List.set_cons_succ]
      refine wpList_nil ?_
      go_wp2_with fail
      go_roundw
      case rel => exact ⟨i + 1, by omega, by go_num, Fv1_6.out, Fv3_10.out, B0.out⟩
      case measure => simp [intOf]; omega
    · obtain rfl : i = k := by omega
      have hk1 : ¬ (i : Int) < (i : Int) := by omega
      go_upto_region 13 with fail
      refine wp_region_lit ?_
      refine wpList_run (by kernel_rfl) (.agg (trC s cc)) wo (exec_loadT b6 s cc HDs.out.1 Fv1_6.out rfl rfl) ?_
      simp only [Act.put, List.setIfInBounds_toArray, List.set_cons_zero, List.set_cons_succ]
      refine wpList_new z33 32 (by kernel_rfl) (exec_allocT wo rfl) ?_
      intro b14 V2 hge h0 hb
      have N14_0 : Hid (b6 ≠ b14) := Lib.hid (xp_lt0 Fv1_6.out hge)
      have N14_1 : Hid (b10 ≠ b14) := Lib.hid (xp_lt0 Fv3_10.out hge)
      have Ge14 : Hid (wo.heap.size ≤ b14) := Lib.hid hge
      have B1 := Lib.hid hb
      have Fv2_14 : Hid (RowT V2 b14 (List.replicate 32 0) 0) := Lib.hid (h0)
      clear hge h0 hb
      simp only [ptr, Act.put, List.setIfInBounds_toArray, List.set_cons_zero, List.set_cons_succ]
      refine wpList_storeW b14 (trC (List.replicate 32 0) 0) (trC s cc) 32 (by kernel_rfl) Fv2_14.out (exec_storeT b14 (List.replicate 32 0) 0 s cc List.length_replicate HDs.out.1 Fv2_14.out rfl rfl rfl) ?_
      intro X2_8 h1 hfar hbel hsz
      have hbr := hbel _ _ Ge14.out B1.out
      clear B1
      have B1 := Lib.hid hbr
      clear hbr
      clear Fv2_14
      have Fv2_14 : Hid (RowT X2_8 b14 s cc) := Lib.hid (h1)
      clear h1 hfar hbel hsz
      simp only [ptr, Act.put, List.setIfInBounds_toArray, List.set_cons_zero, List.set_cons_succ]
      refine wpList_nil ?_
      go_upto_region 14 with fail
      refine wp_region_lit ?_
      refine wpList_run (by kernel_rfl) (.pointer (some ⟨b6, 32, none⟩)) X2_8 (exec_fT1 b6 rfl rfl X2_8) ?_
      simp only [Act.put, List.setIfInBounds_toArray, List.set_cons_zero, List.set_cons_succ]
      refine wpList_run (by kernel_rfl) (.int .u64 ((cc : Nat) : Int)) X2_8 (exec_loadU ⟨b6, 32, none⟩ _ ((Fv1_6.out.keep B1.out).count HDs.out.1) rfl rfl) ?_
      simp only [Act.put, List.setIfInBounds_toArray, List.set_cons_zero, List.set_cons_succ]
      refine wpList_run (by kernel_rfl) (.int .i64 (i : Int)) X2_8 rfl ?_
      simp only [Act.put, List.setIfInBounds_toArray, List.set_cons_zero, List.set_cons_succ]
      refine wpList_run (by kernel_rfl) (.int .u64 (i : Int)) X2_8 (xo_cvt .i64 .u64 (i : Int) (i : Int) (wrapU (by omega) (by omega)) Tryd.underlying25 Tryd.underlying3 rfl rfl) ?_
      simp only [Act.put, List.setIfInBounds_toArray, List.set_cons_zero, List.set_cons_succ]
      refine wpList_run (by kernel_rfl) (.int .u64 ((cc + i : Nat) : Int)) X2_8 (xo_addU cc i (cc + i) (by omega) rfl rfl rfl) ?_
      simp only [Act.put, List.setIfInBounds_toArray, List.set_cons_zero, List.set_cons_succ]
      refine wpList_run (by kernel_rfl) (.pointer (some ⟨b14, 32, none⟩)) X2_8 (exec_fT1 b14 rfl rfl X2_8) ?_
      simp only [Act.put, List.setIfInBounds_toArray, List.set_cons_zero, List.set_cons_succ]
      refine wpList_store1 b14 32 (trC s cc) (.int .u64 ((cc + i : Nat) : Int)) 32 (by kernel_rfl) Fv2_14.out (xo_store1 b14 32 (trC s cc) _ (.int .u64 ((cc + i : Nat) : Int)) Fv2_14.out (trC_count HDs.out.1 _) (by kernel_rfl) rfl rfl rfl rfl) ?_
      intro X2_9 h1 hfar hbel hsz
      have hbr := hbel _ _ Ge14.out B1.out
      clear B1
      have B1 := Lib.hid hbr
      clear hbr
      clear Fv2_14
      have Fv2_14 : Hid (RowT X2_9 b14 s (cc + i)) := Lib.hid ((by have h2 := h1; rw [trC_set HDs.out.1 cc (cc + i)] at h2; exact h2))
      clear h1 hfar hbel hsz
      simp only [ptr, Act.put, List.setIfInBounds_toArray, List.set_cons_zero, List.set_cons_succ]
      refine wpList_nil ?_
      obtain ⟨Dz, hDz⟩ : ∃ D, outT s 2 lb (cc + i) = D := ⟨_, rfl⟩
      have HDz := Lib.hid hDz
      clear hDz
      obtain ⟨xz, hxz⟩ : ∃ z, leV Dz 0 % 18446744069414584321 = z := ⟨_, rfl⟩
      have Hxz := Lib.hid hxz
      have hlxz : xz < 18446744069414584321 := by rw [← hxz]; exact Nat.mod_lt _ (by decide)
      clear hxz
      obtain ⟨yz, hyz⟩ : ∃ z, leV Dz 8 % 18446744069414584321 = z := ⟨_, rfl⟩
      have Hyz := Lib.hid hyz
      have hlyz : yz < 18446744069414584321 := by rw [← hyz]; exact Nat.mod_lt _ (by decide)
      clear hyz
      go_upto_region 15 with fail
      refine wp_region_lit ?_
      refine wpList_run (by kernel_rfl) (.agg (trC s (cc + i))) X2_9 (exec_loadT b10 s (cc + i) HDs.out.1 (Fv3_10.out.keep B1.out) rfl rfl) ?_
      simp only [Act.put, List.setIfInBounds_toArray, List.set_cons_zero, List.set_cons_succ]
      refine wpList_run (by kernel_rfl) (.string lb) X2_9 rfl ?_
      simp only [Act.put, List.setIfInBounds_toArray, List.set_cons_zero, List.set_cons_succ]
      have C0_2 := Lib.hid (bel_step B0.out B1.out)
      refine wpList_call (by kernel_rfl) 13 Tryd.func13 (by kernel_rfl) (by kernel_rfl) _ _ #[.agg (trC s (cc + i)), .string lb] rfl (by kernel_rfl) ?_
      refine (challenge_any s lb (cc + i) X2_9 HDs.out.1 HDs.out.2 (by omega) (by omega) (HG.out.keep C0_2.out) Dz HDz.out (cc + i + 1) (by omega) xz yz Hxz.out Hyz.out).mono ?_
      rintro e V3 ⟨rfl, hb⟩
      have B2 := Lib.hid hb
      clear hb 
      refine ⟨_, rfl, ?_⟩
      simp only [Act.put, List.setIfInBounds_toArray, List.set_cons_zero, List.set_cons_succ]
      refine wpList_run (by kernel_rfl) (.tuple #[.agg (trC s (cc + i + 1)), .agg #[.int .u64 (xz : Int), .int .u64 (yz : Int)]]) V3 rfl ?_
      simp only [Act.put, List.setIfInBounds_toArray, List.set_cons_zero, List.set_cons_succ]
      refine wpList_run (by kernel_rfl) (.agg (trC s (cc + i + 1))) V3 rfl ?_
      simp only [Act.put, List.setIfInBounds_toArray, List.set_cons_zero, List.set_cons_succ]
      refine wpList_run (by kernel_rfl) (.agg #[.int .u64 (xz : Int), .int .u64 (yz : Int)]) V3 rfl ?_
      simp only [Act.put, List.setIfInBounds_toArray, List.set_cons_zero, List.set_cons_succ]
      refine wpList_new z33 32 (by kernel_rfl) (exec_allocT V3 rfl) ?_
      intro b15 V4 hge h0 hb
      have C1_3 := Lib.hid (bel_step B1.out B2.out)
      have N15_0 : Hid (b6 ≠ b15) := Lib.hid (xp_lt0 (Fv1_6.out.keep C1_3.out) hge)
      have N15_1 : Hid (b10 ≠ b15) := Lib.hid (xp_lt0 (Fv3_10.out.keep C1_3.out) hge)
      have N15_2 : Hid (b14 ≠ b15) := Lib.hid (xp_lt0 (Fv2_14.out.keep B2.out) hge)
      have Ge15 : Hid (V3.heap.size ≤ b15) := Lib.hid hge
      have B3 := Lib.hid hb
      have Fv3_15 : Hid (RowT V4 b15 (List.replicate 32 0) 0) := Lib.hid (h0)
      clear hge h0 hb
      simp only [ptr, Act.put, List.setIfInBounds_toArray, List.set_cons_zero, List.set_cons_succ]
      refine wpList_new #[.int .u64 0, .int .u64 0] 36 (by kernel_rfl) (exec_allocE V4 rfl) ?_
      intro b16 V5 hge h0 hb
      have C1_4 := Lib.hid (bel_step C1_3.out B3.out)
      have N16_0 : Hid (b6 ≠ b16) := Lib.hid (xp_lt0 (Fv1_6.out.keep C1_4.out) hge)
      have N16_1 : Hid (b10 ≠ b16) := Lib.hid (xp_lt0 (Fv3_10.out.keep C1_4.out) hge)
      have C2_4 := Lib.hid (bel_step B2.out B3.out)
      have N16_2 : Hid (b14 ≠ b16) := Lib.hid (xp_lt0 (Fv2_14.out.keep C2_4.out) hge)
      have N16_3 : Hid (b15 ≠ b16) := Lib.hid (xp_lt0 Fv3_15.out hge)
      have Ge16 : Hid (V4.heap.size ≤ b16) := Lib.hid hge
      have B4 := Lib.hid hb
      have Fv4_16 : Hid (V5.heap[b16]? = some (.cells #[.int .u64 0, .int .u64 0] 36 (0, 0))) := Lib.hid (h0)
      clear hge h0 hb
      simp only [ptr, Act.put, List.setIfInBounds_toArray, List.set_cons_zero, List.set_cons_succ]
      refine wpList_storeW b15 (trC (List.replicate 32 0) 0) (trC s (cc + i + 1)) 32 (by kernel_rfl) (Fv3_15.out.keep B4.out) (exec_storeT b15 (List.replicate 32 0) 0 s (cc + i + 1) List.length_replicate HDs.out.1 (Fv3_15.out.keep B4.out) rfl rfl rfl) ?_
      intro X5_10 h1 hfar hbel hsz
      have YFv4_16 : X5_10.heap[b16]? = some (.cells #[.int .u64 0, .int .u64 0] 36 (0, 0)) := hfar _ _ (Ne.symm N16_3.out) Fv4_16.out
      have Gs11 : Hid (V3.heap.size ≤ b16) := Lib.hid (Nat.le_trans B3.out.size Ge16.out)
      have C3_5 := Lib.hid (bel_step B3.out B4.out)
      have hbr := hbel _ _ Ge15.out C3_5.out
      clear B3
      have B3 := Lib.hid hbr
      clear hbr
      clear Fv4_16
      have Fv4_16 : Hid (X5_10.heap[b16]? = some (.cells #[.int .u64 0, .int .u64 0] 36 (0, 0))) := Lib.hid YFv4_16
      clear YFv4_16
      clear Fv3_15
      have Fv3_15 : Hid (RowT X5_10 b15 s (cc + i + 1)) := Lib.hid (h1)
      clear h1 hfar hbel hsz
      simp only [ptr, Act.put, List.setIfInBounds_toArray, List.set_cons_zero, List.set_cons_succ]
      refine wpList_storeW b16 #[.int .u64 0, .int .u64 0] #[.int .u64 (xz : Int), .int .u64 (yz : Int)] 36 (by kernel_rfl) Fv4_16.out (xo_storeW b16 #[.int .u64 0, .int .u64 0] #[.int .u64 (xz : Int), .int .u64 (yz : Int)] Fv4_16.out (by kernel_rfl) rfl (by simp [Value.oneCell']) rfl rfl rfl) ?_
      intro X4_12 h1 hfar hbel hsz
      have YFv3_15 : RowT X4_12 b15 s (cc + i + 1) := hfar _ _ N16_3.out Fv3_15.out
      have hbr := hbel _ _ Gs11.out B3.out
      clear B3
      have B3 := Lib.hid hbr
      clear hbr
      clear Fv3_15
      have Fv3_15 : Hid (RowT X4_12 b15 s (cc + i + 1)) := Lib.hid YFv3_15
      clear YFv3_15
      clear Fv4_16
      have Fv4_16 : Hid (X4_12.heap[b16]? = some (.cells #[.int .u64 (xz : Int), .int .u64 (yz : Int)] 36 (0, 0))) := Lib.hid (h1)
      clear h1 hfar hbel hsz
      simp only [ptr, Act.put, List.setIfInBounds_toArray, List.set_cons_zero, List.set_cons_succ]
      refine wpList_nil ?_
      go_upto_region 16 with fail
      refine wp_region_lit ?_
      have C2_4 := Lib.hid (bel_step B2.out B3.out)
      refine wpList_run (by kernel_rfl) (.agg (trC s (cc + i))) X4_12 (exec_loadT b14 s (cc + i) HDs.out.1 (Fv2_14.out.keep C2_4.out) rfl rfl) ?_
      simp only [Act.put, List.setIfInBounds_toArray, List.set_cons_zero, List.set_cons_succ]
      refine wpList_run (by kernel_rfl) (.string lb) X4_12 rfl ?_
      simp only [Act.put, List.setIfInBounds_toArray, List.set_cons_zero, List.set_cons_succ]
      have C0_3 := Lib.hid (bel_step C0_2.out B2.out)
      have C0_4 := Lib.hid (bel_step C0_3.out B3.out)
      refine wpList_call (by kernel_rfl) 13 Tryd.func13 (by kernel_rfl) (by kernel_rfl) _ _ #[.agg (trC s (cc + i)), .string lb] rfl (by kernel_rfl) ?_
      refine (challenge_any s lb (cc + i) X4_12 HDs.out.1 HDs.out.2 (by omega) (by omega) (HG.out.keep C0_4.out) Dz HDz.out (cc + i + 1) (by omega) xz yz Hxz.out Hyz.out).mono ?_
      rintro e V5 ⟨rfl, hb⟩
      have B4 := Lib.hid hb
      clear hb 
      refine ⟨_, rfl, ?_⟩
      simp only [Act.put, List.setIfInBounds_toArray, List.set_cons_zero, List.set_cons_succ]
      refine wpList_run (by kernel_rfl) (.tuple #[.agg (trC s (cc + i + 1)), .agg #[.int .u64 (xz : Int), .int .u64 (yz : Int)]]) V5 rfl ?_
      simp only [Act.put, List.setIfInBounds_toArray, List.set_cons_zero, List.set_cons_succ]
      refine wpList_run (by kernel_rfl) (.agg (trC s (cc + i + 1))) V5 rfl ?_
      simp only [Act.put, List.setIfInBounds_toArray, List.set_cons_zero, List.set_cons_succ]
      refine wpList_run (by kernel_rfl) (.agg #[.int .u64 (xz : Int), .int .u64 (yz : Int)]) V5 rfl ?_
      simp only [Act.put, List.setIfInBounds_toArray, List.set_cons_zero, List.set_cons_succ]
      refine wpList_new z33 32 (by kernel_rfl) (exec_allocT V5 rfl) ?_
      intro b17 V6 hge h0 hb
      have C1_4 := Lib.hid (bel_step C1_3.out B3.out)
      have C1_5 := Lib.hid (bel_step C1_4.out B4.out)
      have N17_0 : Hid (b6 ≠ b17) := Lib.hid (xp_lt0 (Fv1_6.out.keep C1_5.out) hge)
      have N17_1 : Hid (b10 ≠ b17) := Lib.hid (xp_lt0 (Fv3_10.out.keep C1_5.out) hge)
      have C2_5 := Lib.hid (bel_step C2_4.out B4.out)
      have N17_2 : Hid (b14 ≠ b17) := Lib.hid (xp_lt0 (Fv2_14.out.keep C2_5.out) hge)
      have N17_3 : Hid (b15 ≠ b17) := Lib.hid (xp_lt0 (Fv3_15.out.keep B4.out) hge)
      have N17_4 : Hid (b16 ≠ b17) := Lib.hid (xp_lt0 (heap_keep Fv4_16.out B4.out) hge)
      have Ge17 : Hid (V5.heap.size ≤ b17) := Lib.hid hge
      have B5 := Lib.hid hb
      have Fv5_17 : Hid (RowT V6 b17 (List.replicate 32 0) 0) := Lib.hid (h0)
      clear hge h0 hb
      simp only [ptr, Act.put, List.setIfInBounds_toArray, List.set_cons_zero, List.set_cons_succ]
      refine wpList_new #[.int .u64 0, .int .u64 0] 36 (by kernel_rfl) (exec_allocE V6 rfl) ?_
      intro b18 V7 hge h0 hb
      have C1_6 := Lib.hid (bel_step C1_5.out B5.out)
      have N18_0 : Hid (b6 ≠ b18) := Lib.hid (xp_lt0 (Fv1_6.out.keep C1_6.out) hge)
      have N18_1 : Hid (b10 ≠ b18) := Lib.hid (xp_lt0 (Fv3_10.out.keep C1_6.out) hge)
      have C2_6 := Lib.hid (bel_step C2_5.out B5.out)
      have N18_2 : Hid (b14 ≠ b18) := Lib.hid (xp_lt0 (Fv2_14.out.keep C2_6.out) hge)
      have C4_6 := Lib.hid (bel_step B4.out B5.out)
      have N18_3 : Hid (b15 ≠ b18) := Lib.hid (xp_lt0 (Fv3_15.out.keep C4_6.out) hge)
      have N18_4 : Hid (b16 ≠ b18) := Lib.hid (xp_lt0 (heap_keep Fv4_16.out C4_6.out) hge)
      have N18_5 : Hid (b17 ≠ b18) := Lib.hid (xp_lt0 Fv5_17.out hge)
      have Ge18 : Hid (V6.heap.size ≤ b18) := Lib.hid hge
      have B6 := Lib.hid hb
      have Fv6_18 : Hid (V7.heap[b18]? = some (.cells #[.int .u64 0, .int .u64 0] 36 (0, 0))) := Lib.hid (h0)
      clear hge h0 hb
      simp only [ptr, Act.put, List.setIfInBounds_toArray, List.set_cons_zero, List.set_cons_succ]
      refine wpList_storeW b17 (trC (List.replicate 32 0) 0) (trC s (cc + i + 1)) 32 (by kernel_rfl) (Fv5_17.out.keep B6.out) (exec_storeT b17 (List.replicate 32 0) 0 s (cc + i + 1) List.length_replicate HDs.out.1 (Fv5_17.out.keep B6.out) rfl rfl rfl) ?_
      intro X7_13 h1 hfar hbel hsz
      have YFv6_18 : X7_13.heap[b18]? = some (.cells #[.int .u64 0, .int .u64 0] 36 (0, 0)) := hfar _ _ (Ne.symm N18_5.out) Fv6_18.out
      have Gs14 : Hid (V5.heap.size ≤ b18) := Lib.hid (Nat.le_trans B5.out.size Ge18.out)
      have C5_7 := Lib.hid (bel_step B5.out B6.out)
      have hbr := hbel _ _ Ge17.out C5_7.out
      clear B5
      have B5 := Lib.hid hbr
      clear hbr
      clear Fv6_18
      have Fv6_18 : Hid (X7_13.heap[b18]? = some (.cells #[.int .u64 0, .int .u64 0] 36 (0, 0))) := Lib.hid YFv6_18
      clear YFv6_18
      clear Fv5_17
      have Fv5_17 : Hid (RowT X7_13 b17 s (cc + i + 1)) := Lib.hid (h1)
      clear h1 hfar hbel hsz
      simp only [ptr, Act.put, List.setIfInBounds_toArray, List.set_cons_zero, List.set_cons_succ]
      refine wpList_storeW b18 #[.int .u64 0, .int .u64 0] #[.int .u64 (xz : Int), .int .u64 (yz : Int)] 36 (by kernel_rfl) Fv6_18.out (xo_storeW b18 #[.int .u64 0, .int .u64 0] #[.int .u64 (xz : Int), .int .u64 (yz : Int)] Fv6_18.out (by kernel_rfl) rfl (by simp [Value.oneCell']) rfl rfl rfl) ?_
      intro X6_15 h1 hfar hbel hsz
      have YFv5_17 : RowT X6_15 b17 s (cc + i + 1) := hfar _ _ N18_5.out Fv5_17.out
      have hbr := hbel _ _ Gs14.out B5.out
      clear B5
      have B5 := Lib.hid hbr
      clear hbr
      clear Fv5_17
      have Fv5_17 : Hid (RowT X6_15 b17 s (cc + i + 1)) := Lib.hid YFv5_17
      clear YFv5_17
      clear Fv6_18
      have Fv6_18 : Hid (X6_15.heap[b18]? = some (.cells #[.int .u64 (xz : Int), .int .u64 (yz : Int)] 36 (0, 0))) := Lib.hid (h1)
      clear h1 hfar hbel hsz
      simp only [ptr, Act.put, List.setIfInBounds_toArray, List.set_cons_zero, List.set_cons_succ]
      refine wpList_nil ?_
      go_upto_region 17 with fail
      refine wp_region_lit ?_
      have C1_6 := Lib.hid (bel_step C1_5.out B5.out)
      refine wpList_run (by kernel_rfl) (.agg (trC s (cc + i))) X6_15 (exec_loadT b10 s (cc + i) HDs.out.1 (Fv3_10.out.keep C1_6.out) rfl rfl) ?_
      simp only [Act.put, List.setIfInBounds_toArray, List.set_cons_zero, List.set_cons_succ]
      have C2_6 := Lib.hid (bel_step C2_5.out B5.out)
      refine wpList_run (by kernel_rfl) (.agg (trC s (cc + i))) X6_15 (exec_loadT b14 s (cc + i) HDs.out.1 (Fv2_14.out.keep C2_6.out) rfl rfl) ?_
      simp only [Act.put, List.setIfInBounds_toArray, List.set_cons_zero, List.set_cons_succ]
      refine wpList_run (by kernel_rfl) (.bool true) X6_15 (exec_eqTr s (cc + i) HDs.out.1 HDs.out.2 rfl rfl rfl X6_15) ?_
      simp only [Act.put, List.setIfInBounds_toArray, List.set_cons_zero, List.set_cons_succ]
      refine wpList_run (by kernel_rfl) (.bool true) X6_15 rfl ?_
      simp only [Act.put, List.setIfInBounds_toArray, List.set_cons_zero, List.set_cons_succ]
      have C4_6 := Lib.hid (bel_step B4.out B5.out)
      refine wpList_run (by kernel_rfl) (.agg (trC s (cc + i + 1))) X6_15 (exec_loadT b15 s (cc + i + 1) HDs.out.1 (Fv3_15.out.keep C4_6.out) rfl rfl) ?_
      simp only [Act.put, List.setIfInBounds_toArray, List.set_cons_zero, List.set_cons_succ]
      refine wpList_run (by kernel_rfl) (.agg (trC s (cc + i + 1))) X6_15 (exec_loadT b17 s (cc + i + 1) HDs.out.1 Fv5_17.out rfl rfl) ?_
      simp only [Act.put, List.setIfInBounds_toArray, List.set_cons_zero, List.set_cons_succ]
      refine wpList_run (by kernel_rfl) (.bool true) X6_15 (exec_eqTr s (cc + i + 1) HDs.out.1 HDs.out.2 rfl rfl rfl X6_15) ?_
      simp only [Act.put, List.setIfInBounds_toArray, List.set_cons_zero, List.set_cons_succ]
      refine wpList_run (by kernel_rfl) (.bool true) X6_15 rfl ?_
      simp only [Act.put, List.setIfInBounds_toArray, List.set_cons_zero, List.set_cons_succ]
      refine wpList_run (by kernel_rfl) (.bool true) X6_15 rfl ?_
      simp only [Act.put, List.setIfInBounds_toArray, List.set_cons_zero, List.set_cons_succ]
      refine wpList_run (by kernel_rfl) (.agg #[.int .u64 (xz : Int), .int .u64 (yz : Int)]) X6_15 (xo_loadW b16 _ (heap_keep Fv4_16.out C4_6.out) Tryd.underlying36 rfl (by kernel_rfl) rfl rfl) ?_
      simp only [Act.put, List.setIfInBounds_toArray, List.set_cons_zero, List.set_cons_succ]
      refine wpList_run (by kernel_rfl) (.agg #[.int .u64 (xz : Int), .int .u64 (yz : Int)]) X6_15 (xo_loadW b18 _ Fv6_18.out Tryd.underlying36 rfl (by kernel_rfl) rfl rfl) ?_
      simp only [Act.put, List.setIfInBounds_toArray, List.set_cons_zero, List.set_cons_succ]
      refine wpList_run (by kernel_rfl) (.bool true) X6_15 (exec_eqEx _ _ rfl rfl rfl X6_15) ?_
      simp only [Act.put, List.setIfInBounds_toArray, List.set_cons_zero, List.set_cons_succ]
      refine wpList_run (by kernel_rfl) (.bool true) X6_15 rfl ?_
      simp only [Act.put, List.setIfInBounds_toArray, List.set_cons_zero, List.set_cons_succ]
      refine wpList_run (by kernel_rfl) (.bool true) X6_15 rfl ?_
      simp only [Act.put, List.setIfInBounds_toArray, List.set_cons_zero, List.set_cons_succ]
      refine wpList_run (by kernel_rfl) (.pointer (some ⟨b16, 0, none⟩)) X6_15 (xo_fld0 0 b16 0 (by kernel_rfl) rfl rfl) ?_
      simp only [Act.put, List.setIfInBounds_toArray, List.set_cons_zero, List.set_cons_succ]
      refine wpList_run (by kernel_rfl) (.int .u64 (xz : Int)) X6_15 (xo_load1 ⟨b16, 0, none⟩ _ (cells_at (heap_keep Fv4_16.out C4_6.out) 0 rfl) Tryd.underlying25 rfl rfl rfl) ?_
      simp only [Act.put, List.setIfInBounds_toArray, List.set_cons_zero, List.set_cons_succ]
      refine wpList_call (by kernel_rfl) 33 Tryd.func33 (by kernel_rfl) (by kernel_rfl) _ _ #[.int .u64 (xz : Int)] rfl (by kernel_rfl) ?_
      refine (rvalid_yes xz (by omega) X6_15).mono ?_
      rintro e W1 ⟨rfl, hw1⟩
      rw [hw1]
      clear hw1 W1
      refine ⟨_, rfl, ?_⟩
      simp only [Act.put, List.setIfInBounds_toArray, List.set_cons_zero, List.set_cons_succ]
      refine wpList_run (by kernel_rfl) (.bool true) X6_15 rfl ?_
      simp only [Act.put, List.setIfInBounds_toArray, List.set_cons_zero, List.set_cons_succ]
      refine wpList_run (by kernel_rfl) (.bool true) X6_15 rfl ?_
      simp only [Act.put, List.setIfInBounds_toArray, List.set_cons_zero, List.set_cons_succ]
      refine wpList_run (by kernel_rfl) (.pointer (some ⟨b16, 1, none⟩)) X6_15 (xo_fld0 1 b16 1 (by kernel_rfl) rfl rfl) ?_
      simp only [Act.put, List.setIfInBounds_toArray, List.set_cons_zero, List.set_cons_succ]
      refine wpList_run (by kernel_rfl) (.int .u64 (yz : Int)) X6_15 (xo_load1 ⟨b16, 1, none⟩ _ (cells_at (heap_keep Fv4_16.out C4_6.out) 1 rfl) Tryd.underlying25 rfl rfl rfl) ?_
      simp only [Act.put, List.setIfInBounds_toArray, List.set_cons_zero, List.set_cons_succ]
      refine wpList_call (by kernel_rfl) 33 Tryd.func33 (by kernel_rfl) (by kernel_rfl) _ _ #[.int .u64 (yz : Int)] rfl (by kernel_rfl) ?_
      refine (rvalid_yes yz (by omega) X6_15).mono ?_
      rintro e W1 ⟨rfl, hw1⟩
      rw [hw1]
      clear hw1 W1
      refine ⟨_, rfl, ?_⟩
      simp only [Act.put, List.setIfInBounds_toArray, List.set_cons_zero, List.set_cons_succ]
      refine wpList_run (by kernel_rfl) (.bool true) X6_15 rfl ?_
      simp only [Act.put, List.setIfInBounds_toArray, List.set_cons_zero, List.set_cons_succ]
      refine wpList_run (by kernel_rfl) (.bool true) X6_15 rfl ?_
      simp only [Act.put, List.setIfInBounds_toArray, List.set_cons_zero, List.set_cons_succ]
      refine wpList_run (by kernel_rfl) (.bool true) X6_15 rfl ?_
      simp only [Act.put, List.setIfInBounds_toArray, List.set_cons_zero, List.set_cons_succ]
      refine wpList_run (by kernel_rfl) (.bool true) X6_15 rfl ?_
      simp only [Act.put, List.setIfInBounds_toArray, List.set_cons_zero, List.set_cons_succ]
      refine wpList_run (by kernel_rfl) (.bool true) X6_15 rfl ?_
      simp only [Act.put, List.setIfInBounds_toArray, List.set_cons_zero, List.set_cons_succ]
      refine wpList_nil ?_
      go_wp2_with fail
      go_ret
      have C0_5 := Lib.hid (bel_step C0_4.out B4.out)
      have C0_6 := Lib.hid (bel_step C0_5.out B5.out)
      exact ⟨rfl, C0_6.out⟩
end Go.Proofs.YtcaoajeplinopaaDoor
