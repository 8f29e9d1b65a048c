/- A law of stage 10: Indices. -/
import Derived.Test.YtcaoajeplinopaaDoorH15
namespace Go.Proofs.YtcaoajeplinopaaDoor
set_option linter.unusedVariables false
set_option linter.unusedSimpArgs false
set_option maxRecDepth 8000
open Go.RowKit Gold
open Go.Shelf
attribute [local simp] z32_ne z32_run
attribute [-simp] Tryd.zeroValue30 Tryd.isAgg30 Tryd.sizeOf30
attribute [-simp] Tryd.zeroValue32 Tryd.isAgg32 Tryd.sizeOf32
attribute [local simp] z33_ne z33_run
attribute [local irreducible] wpList wpQuiet
set_option maxRecDepth 100000 in
set_option maxHeartbeats 16000000 in
theorem tIndices_any (ls : ByteArray) (A1 : Option Addr) (n1 c1 : Nat) (bs : List Nat) (A2 : Option Addr) (n2 c2 : Nat) (xs : List (Nat × Nat)) (A3 : Option Addr) (n3 c3 : Nat) (is : List Int) (A4 : Option Addr) (n4 c4 : Nat) (st : List Nat) (cnt : Nat) (lim na nb : Nat) (w : World)
    (hS1 : Sb w A1 n1 c1 bs) (hS2 : XbT w A2 n2 c2 xs) (hS3 : Ib w A3 n3 c3 is) (hS4 : Sb w A4 n4 c4 st) (hc : cnt < 18446744073709551616) (hlim : lim < 65536) (hna : na < 256 ∧ nb < 256) (hG : Gl w) :
    Calls Tryd.prog 8 #[.agg #[.string ls, .slice A1 n1 c1, .slice A2 n2 c2, .slice A3 n3 c3, .slice A4 n4 c4, .int .u64 (cnt : Int)], .int .u16 (lim : Int), .agg #[.int .u8 (na : Int), .int .u8 (nb : Int)]] w fun e w' => e = .returned (.bool true) ∧ Below w.heap.size w w' := by
  obtain ⟨s, hs⟩ : ∃ s, madeN st = s := ⟨_, rfl⟩
  have HDs := Lib.hid (show s.length = 32 ∧ ∀ x ∈ s, x < 256 by rw [← hs]; exact ⟨madeN_length _, madeN_lt hS4.byte⟩)
  have HSM := Lib.hid hs
  have hcap1 := hS1.cap
  have hlen1 := hS1.len
  have hcap2 := hS2.cap
  have hlen2 := hS2.len
  have hcap3 := hS3.cap
  have hlen3 := hS3.len
  have HL1 := Lib.hid hlen1
  have HL2 := Lib.hid hlen2
  have HL3 := Lib.hid hlen3
  have HS1 := Lib.hid hS1
  have HS2 := Lib.hid hS2
  have HS3 := Lib.hid hS3
  have HS4 := Lib.hid hS4
  clear hs hS1 hS2 hS3 hS4 hlen1 hlen2 hlen3
  have HG := Lib.hid hG
  clear hG
  have HNN := Lib.hid hna
  clear hna
  go_enter Tryd.func8, Tryd.ntmps8
  go_upto_region 1 with fail
  refine wp_named2 (fun V1 hb g0 g1 hlt => ?_)
  have B0 := Lib.hid hb
  have Fv0_3 : Hid (V1.heap[w.heap.size]? = some (.cells #[.string ls, .slice A1 n1 c1, .slice A2 n2 c2, .slice A3 n3 c3, .slice A4 n4 c4, .int .u64 (cnt : Int)] 27 (0, 0))) := Lib.hid (g0)
  have Fv1_5 : Hid (V1.heap[(w.heap.size + 1)]? = some (.cells #[.int .u8 (na : Int), .int .u8 (nb : Int)] 62 (0, 0))) := Lib.hid (g1)
  have Nb0_1 : Hid (w.heap.size ≠ (w.heap.size + 1)) := Lib.hid (by omega)
  have Gb0 : Hid (w.heap.size ≤ w.heap.size) := Lib.hid (by omega)
  have Gb1 : Hid (w.heap.size ≤ (w.heap.size + 1)) := Lib.hid (by omega)
  clear hb g0 g1 hlt
  refine wp_region_lit ?_
  refine wpList_call (by kernel_rfl) 11 Tryd.func11 (by kernel_rfl) (by kernel_rfl) _ _ #[] rfl (by kernel_rfl) ?_
  refine (sanity10_any V1 (HG.out.keep B0.out)).mono ?_
  rintro e V2 ⟨rfl, hb⟩
  have B1 := Lib.hid hb
  clear hb 
  refine ⟨_, rfl, ?_⟩
  simp only [Act.put, List.setIfInBounds_toArray, List.set_cons_zero, List.set_cons_succ]
  refine wpList_run (by kernel_rfl) (.bool true) V2 rfl ?_
  simp only [Act.put, List.setIfInBounds_toArray, List.set_cons_zero, List.set_cons_succ]
  refine wpList_nil ?_
  go_upto_region 2 with fail
  refine wp_region_lit ?_
  refine wpList_run (by kernel_rfl) (.agg #[.string ls, .slice A1 n1 c1, .slice A2 n2 c2, .slice A3 n3 c3, .slice A4 n4 c4, .int .u64 (cnt : Int)]) V2 (xo_loadW w.heap.size _ (heap_keep Fv0_3.out B1.out) Tryd.underlying27 rfl (by kernel_rfl) rfl rfl) ?_
  simp only [Act.put, List.setIfInBounds_toArray, List.set_cons_zero, List.set_cons_succ]
  have C0_2 := Lib.hid (bel_step B0.out B1.out)
  refine wpList_call (by kernel_rfl) 12 Tryd.func12 (by kernel_rfl) (by kernel_rfl) _ _ #[.agg #[.string ls, .slice A1 n1 c1, .slice A2 n2 c2, .slice A3 n3 c3, .slice A4 n4 c4, .int .u64 (cnt : Int)]] rfl (by kernel_rfl) ?_
  refine (made10_any ls A1 n1 c1 bs A2 n2 c2 xs A3 n3 c3 is A4 n4 c4 st cnt V2 (HS1.out.keep C0_2.out) (HS2.out.keep C0_2.out) (HS3.out.keep C0_2.out) (HS4.out.keep C0_2.out) hc s HSM.out).mono ?_
  rintro e V3 ⟨lb, v, rfl, hlb, hox, hb⟩
  have B2 := Lib.hid hb
  obtain ⟨A5, c5, rfl, hxb⟩ := hox.xb redX_lt
  have HY := Lib.hid hxb
  clear hb hxb
  refine ⟨_, rfl, ?_⟩
  simp only [Act.put, List.setIfInBounds_toArray, List.set_cons_zero, List.set_cons_succ]
  refine wpList_run (by kernel_rfl) (.tuple #[.agg (trC s cnt), .string lb, .agg #[.string ByteArray.empty, .slice A1 (min n1 200) c1, .slice A5 (min n2 12) c5, .slice A3 (min n3 12) c3, .slice none 0 0, .int .u64 0]]) V3 rfl ?_
  simp only [Act.put, List.setIfInBounds_toArray, List.set_cons_zero, List.set_cons_succ]
  refine wpList_run (by kernel_rfl) (.agg (trC s cnt)) V3 rfl ?_
  simp only [Act.put, List.setIfInBounds_toArray, List.set_cons_zero, List.set_cons_succ]
  refine wpList_run (by kernel_rfl) (.string lb) V3 rfl ?_
  simp only [Act.put, List.setIfInBounds_toArray, List.set_cons_zero, List.set_cons_succ]
  refine wpList_run (by kernel_rfl) (.agg #[.string ByteArray.empty, .slice A1 (min n1 200) c1, .slice A5 (min n2 12) c5, .slice A3 (min n3 12) c3, .slice none 0 0, .int .u64 0]) V3 rfl ?_
  simp only [Act.put, List.setIfInBounds_toArray, List.set_cons_zero, List.set_cons_succ]
  refine wpList_new z33 32 (by kernel_rfl) (exec_allocT V3 rfl) ?_
  intro b8 V4 hge h0 hb
  have C1_3 := Lib.hid (bel_step B1.out B2.out)
  have N8_0 : Hid (w.heap.size ≠ b8) := Lib.hid (xp_lt0 (heap_keep Fv0_3.out C1_3.out) hge)
  have N8_1 : Hid ((w.heap.size + 1) ≠ b8) := Lib.hid (xp_lt0 (heap_keep Fv1_5.out C1_3.out) hge)
  have Ge8 : Hid (V3.heap.size ≤ b8) := Lib.hid hge
  have B3 := Lib.hid hb
  have Fv2_8 : Hid (RowT V4 b8 (List.replicate 32 0) 0) := Lib.hid (h0)
  clear hge h0 hb
  simp only [ptr, Act.put, List.setIfInBounds_toArray, List.set_cons_zero, List.set_cons_succ]
  refine wpList_new #[.string ByteArray.empty, .slice none 0 0, .slice none 0 0, .slice none 0 0, .slice none 0 0, .int .u64 0] 27 (by kernel_rfl) (exec_allocN rfl V4) ?_
  intro b10 V5 hge h0 hb
  have C1_4 := Lib.hid (bel_step C1_3.out B3.out)
  have N10_0 : Hid (w.heap.size ≠ b10) := Lib.hid (xp_lt0 (heap_keep Fv0_3.out C1_4.out) hge)
  have N10_1 : Hid ((w.heap.size + 1) ≠ b10) := Lib.hid (xp_lt0 (heap_keep Fv1_5.out C1_4.out) hge)
  have N10_2 : Hid (b8 ≠ b10) := Lib.hid (xp_lt0 Fv2_8.out hge)
  have Ge10 : Hid (V4.heap.size ≤ b10) := Lib.hid hge
  have B4 := Lib.hid hb
  have Fv3_10 : Hid (V5.heap[b10]? = some (.cells #[.string ByteArray.empty, .slice none 0 0, .slice none 0 0, .slice none 0 0, .slice none 0 0, .int .u64 0] 27 (0, 0))) := Lib.hid (h0)
  clear hge h0 hb
  simp only [ptr, Act.put, List.setIfInBounds_toArray, List.set_cons_zero, List.set_cons_succ]
  refine wpList_storeW b8 (trC (List.replicate 32 0) 0) (trC s cnt) 32 (by kernel_rfl) (Fv2_8.out.keep B4.out) (exec_storeT b8 (List.replicate 32 0) 0 s cnt List.length_replicate HDs.out.1 (Fv2_8.out.keep B4.out) rfl rfl rfl) ?_
  intro X5_0 h1 hfar hbel hsz
  have YFv3_10 : X5_0.heap[b10]? = some (.cells #[.string ByteArray.empty, .slice none 0 0, .slice none 0 0, .slice none 0 0, .slice none 0 0, .int .u64 0] 27 (0, 0)) := hfar _ _ (Ne.symm N10_2.out) Fv3_10.out
  have Gs1 : Hid (V3.heap.size ≤ b10) := Lib.hid (Nat.le_trans B3.out.size Ge10.out)
  have C3_5 := Lib.hid (bel_step B3.out B4.out)
  have hbr := hbel _ _ Ge8.out C3_5.out
  clear B3
  have B3 := Lib.hid hbr
  clear hbr
  clear Fv3_10
  have Fv3_10 : Hid (X5_0.heap[b10]? = some (.cells #[.string ByteArray.empty, .slice none 0 0, .slice none 0 0, .slice none 0 0, .slice none 0 0, .int .u64 0] 27 (0, 0))) := Lib.hid YFv3_10
  clear YFv3_10
  clear Fv2_8
  have Fv2_8 : Hid (RowT X5_0 b8 s cnt) := Lib.hid (h1)
  clear h1 hfar hbel hsz
  simp only [ptr, Act.put, List.setIfInBounds_toArray, List.set_cons_zero, List.set_cons_succ]
  refine wpList_run (by kernel_rfl) (.string lb) X5_0 rfl ?_
  simp only [Act.put, List.setIfInBounds_toArray, List.set_cons_zero, List.set_cons_succ]
  refine wpList_storeW b10 #[.string ByteArray.empty, .slice none 0 0, .slice none 0 0, .slice none 0 0, .slice none 0 0, .int .u64 0] #[.string ByteArray.empty, .slice A1 (min n1 200) c1, .slice A5 (min n2 12) c5, .slice A3 (min n3 12) c3, .slice none 0 0, .int .u64 0] 27 (by kernel_rfl) Fv3_10.out (xo_storeW b10 #[.string ByteArray.empty, .slice none 0 0, .slice none 0 0, .slice none 0 0, .slice none 0 0, .int .u64 0] #[.string ByteArray.empty, .slice A1 (min n1 200) c1, .slice A5 (min n2 12) c5, .slice A3 (min n3 12) c3, .slice none 0 0, .int .u64 0] Fv3_10.out (by kernel_rfl) rfl (by simp [Value.oneCell']) rfl rfl rfl) ?_
  intro X4_2 h1 hfar hbel hsz
  have YFv2_8 : RowT X4_2 b8 s cnt := hfar _ _ N10_2.out Fv2_8.out
  have hbr := hbel _ _ Gs1.out B3.out
  clear B3
  have B3 := Lib.hid hbr
  clear hbr
  clear Fv2_8
  have Fv2_8 : Hid (RowT X4_2 b8 s cnt) := Lib.hid YFv2_8
  clear YFv2_8
  clear Fv3_10
  have Fv3_10 : Hid (X4_2.heap[b10]? = some (.cells #[.string ByteArray.empty, .slice A1 (min n1 200) c1, .slice A5 (min n2 12) c5, .slice A3 (min n3 12) c3, .slice none 0 0, .int .u64 0] 27 (0, 0))) := Lib.hid (h1)
  clear h1 hfar hbel hsz
  simp only [ptr, Act.put, List.setIfInBounds_toArray, List.set_cons_zero, List.set_cons_succ]
  refine wpList_nil ?_
  obtain ⟨cc, hcc⟩ : ∃ cc, cnt / 2 = cc := ⟨_, rfl⟩
  have hcc2 : cc < 9223372036854775808 := by omega
  go_upto_region 3 with fail
  refine wp_region_lit ?_
  refine wpList_run (by kernel_rfl) (.pointer (some ⟨b8, 32, none⟩)) X4_2 (exec_fT1 b8 rfl rfl X4_2) ?_
  simp only [Act.put, List.setIfInBounds_toArray, List.set_cons_zero, List.set_cons_succ]
  refine wpList_run (by kernel_rfl) (.int .u64 ((cnt : Nat) : Int)) X4_2 (exec_loadU ⟨b8, 32, none⟩ _ (Fv2_8.out.count HDs.out.1) rfl rfl) ?_
  simp only [Act.put, List.setIfInBounds_toArray, List.set_cons_zero, List.set_cons_succ]
  refine wpList_run (by kernel_rfl) (.int .u64 (cc : Int)) X4_2 (xo_shrN .u64 .u64 cnt 1 cc (by decide) hcc rfl rfl rfl) ?_
  simp only [Act.put, List.setIfInBounds_toArray, List.set_cons_zero, List.set_cons_succ]
  refine wpList_run (by kernel_rfl) (.pointer (some ⟨b8, 32, none⟩)) X4_2 (exec_fT1 b8 rfl rfl X4_2) ?_
  simp only [Act.put, List.setIfInBounds_toArray, List.set_cons_zero, List.set_cons_succ]
  refine wpList_store1 b8 32 (trC s cnt) (.int .u64 (cc : Int)) 32 (by kernel_rfl) Fv2_8.out (xo_store1 b8 32 (trC s cnt) _ (.int .u64 (cc : Int)) Fv2_8.out (trC_count HDs.out.1 _) (by kernel_rfl) rfl rfl rfl rfl) ?_
  intro X4_3 h1 hfar hbel hsz
  have YFv3_10 : X4_3.heap[b10]? = some (.cells #[.string ByteArray.empty, .slice A1 (min n1 200) c1, .slice A5 (min n2 12) c5, .slice A3 (min n3 12) c3, .slice none 0 0, .int .u64 0] 27 (0, 0)) := hfar _ _ (Ne.symm N10_2.out) Fv3_10.out
  have hbr := hbel _ _ Ge8.out B3.out
  clear B3
  have B3 := Lib.hid hbr
  clear hbr
  clear Fv3_10
  have Fv3_10 : Hid (X4_3.heap[b10]? = some (.cells #[.string ByteArray.empty, .slice A1 (min n1 200) c1, .slice A5 (min n2 12) c5, .slice A3 (min n3 12) c3, .slice none 0 0, .int .u64 0] 27 (0, 0))) := Lib.hid YFv3_10
  clear YFv3_10
  clear Fv2_8
  have Fv2_8 : Hid (RowT X4_3 b8 s cc) := Lib.hid ((by have h2 := h1; rw [trC_set HDs.out.1 cnt cc] at h2; exact h2))
  clear h1 hfar hbel hsz
  simp only [ptr, Act.put, List.setIfInBounds_toArray, List.set_cons_zero, List.set_cons_succ]
  refine wpList_nil ?_
  clear hcc
  obtain ⟨most, hmost⟩ : ∃ m, min (1 + lim) 64 = m := ⟨_, rfl⟩
  go_upto_region 4 with fail
  refine wp_region_lit ?_
  refine wpList_run (by kernel_rfl) (.int .u16 (lim : Int)) X4_3 rfl ?_
  simp only [Act.put, List.setIfInBounds_toArray, List.set_cons_zero, List.set_cons_succ]
  refine wpList_run (by kernel_rfl) (.int .i64 (lim : Int)) X4_3 (xo_cvt .u16 .i64 (lim : Int) (lim : Int) (wrapI (by omega) (by omega)) Tryd.underlying3 Tryd.underlying61 rfl rfl) ?_
  simp only [Act.put, List.setIfInBounds_toArray, List.set_cons_zero, List.set_cons_succ]
  refine wpList_run (by kernel_rfl) (.int .i64 ((1 + lim : Nat) : Int)) X4_3 (xo_addI 1 (lim : Int) ((1 + lim : Nat) : Int) (by omega) (by omega) (by omega) rfl rfl rfl) ?_
  simp only [Act.put, List.setIfInBounds_toArray, List.set_cons_zero, List.set_cons_succ]
  refine wpList_run (by kernel_rfl) (.int .i64 (most : Int)) X4_3 (xo_min .i64 ((1 + lim : Nat) : Int) 64 (most : Int) (by split <;> omega) rfl rfl rfl) ?_
  simp only [Act.put, List.setIfInBounds_toArray, List.set_cons_zero, List.set_cons_succ]
  refine wpList_run (by kernel_rfl) (.int .i64 (most : Int)) X4_3 rfl ?_
  simp only [Act.put, List.setIfInBounds_toArray, List.set_cons_zero, List.set_cons_succ]
  refine wpList_nil ?_
  have hm1 : 1 ≤ most := by omega
  have hm2 : most ≤ 64 := by omega
  have hm3 : most ≤ 1 + lim := by omega
  clear hmost
  obtain ⟨hna, hnb⟩ := HNN.out
  obtain ⟨qa, hqa⟩ : ∃ m, na % (most + 1) = m := ⟨_, rfl⟩
  have hqa2 : qa ≤ most := by have := Nat.mod_lt na (show most + 1 > 0 by omega); omega
  have HQa := Lib.hid hqa
  clear hqa
  obtain ⟨qb, hqb⟩ : ∃ m, nb % (most + 1) = m := ⟨_, rfl⟩
  have hqb2 : qb ≤ most := by have := Nat.mod_lt nb (show most + 1 > 0 by omega); omega
  have HQb := Lib.hid hqb
  clear hqb
  go_upto_region 5 with fail
  refine wp_later_lex (by kernel_rfl) (lexOK_of (by kernel_rfl) (by kernel_rfl)) ?_
  refine wpQuiet_val (by kernel_rfl) (.pointer (some ⟨(w.heap.size + 1), 0, none⟩)) (fun v hv => (by unfold execOp; go_simp)) ?_
  simp only [Act.put, List.setIfInBounds_toArray, List.set_cons_zero, List.set_cons_succ]
  have C1_4 := Lib.hid (bel_step C1_3.out B3.out)
  refine wpQuiet_val (by kernel_rfl) (.int .u8 (na : Int)) (fun v hv => (xo_load1 ⟨(w.heap.size + 1), 0, none⟩ _ (cells_at (heap_keep (heap_keep Fv1_5.out C1_4.out) (later_bel hv)) 0 rfl) Tryd.underlying5 rfl rfl rfl)) ?_
  simp only [Act.put, List.setIfInBounds_toArray, List.set_cons_zero, List.set_cons_succ]
  refine wpQuiet_val (by kernel_rfl) (.int .i64 (na : Int)) (fun v hv => (xo_cvt .u8 .i64 (na : Int) (na : Int) (wrapI (by omega) (by omega)) Tryd.underlying3 Tryd.underlying5 rfl rfl)) ?_
  simp only [Act.put, List.setIfInBounds_toArray, List.set_cons_zero, List.set_cons_succ]
  refine wpQuiet_val (by kernel_rfl) (.int .i64 (most : Int)) (fun v hv => rfl) ?_
  simp only [Act.put, List.setIfInBounds_toArray, List.set_cons_zero, List.set_cons_succ]
  refine wpQuiet_val (by kernel_rfl) (.int .i64 ((most + 1 : Nat) : Int)) (fun v hv => (xo_addI (most : Int) 1 ((most + 1 : Nat) : Int) (by omega) (by omega) (by omega) rfl rfl rfl)) ?_
  simp only [Act.put, List.setIfInBounds_toArray, List.set_cons_zero, List.set_cons_succ]
  refine wpQuiet_val (by kernel_rfl) (.int .i64 (qa : Int)) (fun v hv => (xo_remN .i64 na (most + 1) qa (by omega) HQa.out rfl rfl rfl)) ?_
  simp only [Act.put, List.setIfInBounds_toArray, List.set_cons_zero, List.set_cons_succ]
  refine wpQuiet_val (by kernel_rfl) (.pointer (some ⟨(w.heap.size + 1), 1, none⟩)) (fun v hv => (by unfold execOp; go_simp)) ?_
  simp only [Act.put, List.setIfInBounds_toArray, List.set_cons_zero, List.set_cons_succ]
  refine wpQuiet_val (by kernel_rfl) (.int .u8 (nb : Int)) (fun v hv => (xo_load1 ⟨(w.heap.size + 1), 1, none⟩ _ (cells_at (heap_keep (heap_keep Fv1_5.out C1_4.out) (later_bel hv)) 1 rfl) Tryd.underlying5 rfl rfl rfl)) ?_
  simp only [Act.put, List.setIfInBounds_toArray, List.set_cons_zero, List.set_cons_succ]
  refine wpQuiet_val (by kernel_rfl) (.int .i64 (nb : Int)) (fun v hv => (xo_cvt .u8 .i64 (nb : Int) (nb : Int) (wrapI (by omega) (by omega)) Tryd.underlying3 Tryd.underlying5 rfl rfl)) ?_
  simp only [Act.put, List.setIfInBounds_toArray, List.set_cons_zero, List.set_cons_succ]
  refine wpQuiet_val (by kernel_rfl) (.int .i64 (most : Int)) (fun v hv => rfl) ?_
  simp only [Act.put, List.setIfInBounds_toArray, List.set_cons_zero, List.set_cons_succ]
  refine wpQuiet_val (by kernel_rfl) (.int .i64 ((most + 1 : Nat) : Int)) (fun v hv => (xo_addI (most : Int) 1 ((most + 1 : Nat) : Int) (by omega) (by omega) (by omega) rfl rfl rfl)) ?_
  simp only [Act.put, List.setIfInBounds_toArray, List.set_cons_zero, List.set_cons_succ]
  refine wpQuiet_val (by kernel_rfl) (.int .i64 (qb : Int)) (fun v hv => (xo_remN .i64 nb (most + 1) qb (by omega) HQb.out rfl rfl rfl)) ?_
  simp only [Act.put, List.setIfInBounds_toArray, List.set_cons_zero, List.set_cons_succ]
  refine wpQuiet_val (by kernel_rfl) (.int .i64 (qa : Int)) (fun v hv => rfl) ?_
  simp only [Act.put, List.setIfInBounds_toArray, List.set_cons_zero, List.set_cons_succ]
  refine wpQuiet_val (by kernel_rfl) (.int .i64 (qb : Int)) (fun v hv => rfl) ?_
  simp only [Act.put, List.setIfInBounds_toArray, List.set_cons_zero, List.set_cons_succ]
  refine wpQuiet_nil ?_
  intro X4_4
  have hb := X4_4.below
  generalize X4_4.at = V5 at *
  have B4 := Lib.hid hb
  clear hb
  clear hna hnb HQa HQb
  obtain ⟨a, ha⟩ : ∃ m, min qa qb = m := ⟨_, rfl⟩
  obtain ⟨b, hb0⟩ : ∃ m, max qa qb = m := ⟨_, rfl⟩
  obtain ⟨f, hf⟩ : ∃ f, cdF s lb cc (1 + lim) = f := ⟨_, rfl⟩
  have HF := Lib.hid hf
  clear hf
  obtain ⟨Ra, hRa⟩ : ∃ R, pickT f a (1 + lim) 16384 = R := ⟨_, rfl⟩
  have HRa := Lib.hid hRa
  clear hRa
  obtain ⟨ca, hca⟩ : ∃ c, lastC cc (stopT f a 16384) = c := ⟨_, rfl⟩
  have HCa := Lib.hid hca
  clear hca
  obtain ⟨Rb, hRb⟩ : ∃ R, pickT f b (1 + lim) 16384 = R := ⟨_, rfl⟩
  have HRb := Lib.hid hRb
  clear hRb
  obtain ⟨cb, hcb⟩ : ∃ c, lastC cc (stopT f b 16384) = c := ⟨_, rfl⟩
  have HCb := Lib.hid hcb
  clear hcb
  go_upto_region 6 with fail
  refine wp_region_lit ?_
  refine wpList_run (by kernel_rfl) (.agg (trC s cc)) V5 (exec_loadT b8 s cc HDs.out.1 (Fv2_8.out.keep B4.out) rfl rfl) ?_
  simp only [Act.put, List.setIfInBounds_toArray, List.set_cons_zero, List.set_cons_succ]
  refine wpList_run (by kernel_rfl) (.string lb) V5 rfl ?_
  simp only [Act.put, List.setIfInBounds_toArray, List.set_cons_zero, List.set_cons_succ]
  refine wpList_run (by kernel_rfl) (.int .u16 (lim : Int)) V5 rfl ?_
  simp only [Act.put, List.setIfInBounds_toArray, List.set_cons_zero, List.set_cons_succ]
  refine wpList_run (by kernel_rfl) (.int .i64 (lim : Int)) V5 (xo_cvt .u16 .i64 (lim : Int) (lim : Int) (wrapI (by omega) (by omega)) Tryd.underlying3 Tryd.underlying61 rfl rfl) ?_
  simp only [Act.put, List.setIfInBounds_toArray, List.set_cons_zero, List.set_cons_succ]
  refine wpList_run (by kernel_rfl) (.int .i64 ((1 + lim : Nat) : Int)) V5 (xo_addI 1 (lim : Int) ((1 + lim : Nat) : Int) (by omega) (by omega) (by omega) rfl rfl rfl) ?_
  simp only [Act.put, List.setIfInBounds_toArray, List.set_cons_zero, List.set_cons_succ]
  refine wpList_run (by kernel_rfl) (.int .i64 (qa : Int)) V5 rfl ?_
  simp only [Act.put, List.setIfInBounds_toArray, List.set_cons_zero, List.set_cons_succ]
  refine wpList_run (by kernel_rfl) (.int .i64 (qb : Int)) V5 rfl ?_
  simp only [Act.put, List.setIfInBounds_toArray, List.set_cons_zero, List.set_cons_succ]
  refine wpList_run (by kernel_rfl) (.int .i64 (a : Int)) V5 (xo_min .i64 (qa : Int) (qb : Int) (a : Int) (by split <;> omega) rfl rfl rfl) ?_
  simp only [Act.put, List.setIfInBounds_toArray, List.set_cons_zero, List.set_cons_succ]
  refine wpList_run (by kernel_rfl) (.agg #[.int .i64 ((1 + lim : Nat) : Int), .int .i64 (a : Int)]) V5 (exec_buildDr2 ((1 + lim : Nat) : Int) (a : Int) rfl rfl rfl V5) ?_
  simp only [Act.put, List.setIfInBounds_toArray, List.set_cons_zero, List.set_cons_succ]
  have C0_3 := Lib.hid (bel_step C0_2.out B2.out)
  have C0_4 := Lib.hid (bel_step C0_3.out B3.out)
  have C0_5 := Lib.hid (bel_step C0_4.out B4.out)
  refine wpList_call (by kernel_rfl) 26 Tryd.func26 (by kernel_rfl) (by kernel_rfl) _ _ #[.agg (trC s cc), .string lb, .agg #[.int .i64 ((1 + lim : Nat) : Int), .int .i64 (a : Int)]] rfl (by kernel_rfl) ?_
  refine (indices_all s cc lb (1 + lim) a HDs.out.1 HDs.out.2 (by omega) (by omega) (by omega) (by omega) (by omega) (by omega) V5 (HG.out.keep C0_5.out) f HF.out Ra HRa.out ca HCa.out _ _ rfl rfl).mono ?_
  rintro e V6 ⟨La, ka, rfl, ho, hb⟩
  have B5 := Lib.hid hb
  have HIa := Lib.hid ho
  clear hb ho
  refine ⟨_, rfl, ?_⟩
  simp only [Act.put, List.setIfInBounds_toArray, List.set_cons_zero, List.set_cons_succ]
  refine wpList_run (by kernel_rfl) (.tuple #[.agg (trC s ca), .slice La a ka]) V6 rfl ?_
  simp only [Act.put, List.setIfInBounds_toArray, List.set_cons_zero, List.set_cons_succ]
  refine wpList_run (by kernel_rfl) (.agg (trC s ca)) V6 rfl ?_
  simp only [Act.put, List.setIfInBounds_toArray, List.set_cons_zero, List.set_cons_succ]
  refine wpList_run (by kernel_rfl) (.slice La a ka) V6 rfl ?_
  simp only [Act.put, List.setIfInBounds_toArray, List.set_cons_zero, List.set_cons_succ]
  refine wpList_new z33 32 (by kernel_rfl) (exec_allocT V6 rfl) ?_
  intro b14 V7 hge h0 hb
  have C1_5 := Lib.hid (bel_step C1_4.out B4.out)
  have C1_6 := Lib.hid (bel_step C1_5.out B5.out)
  have N14_0 : Hid (w.heap.size ≠ b14) := Lib.hid (xp_lt0 (heap_keep Fv0_3.out C1_6.out) hge)
  have N14_1 : Hid ((w.heap.size + 1) ≠ b14) := Lib.hid (xp_lt0 (heap_keep Fv1_5.out C1_6.out) hge)
  have C4_6 := Lib.hid (bel_step B4.out B5.out)
  have N14_2 : Hid (b8 ≠ b14) := Lib.hid (xp_lt0 (Fv2_8.out.keep C4_6.out) hge)
  have N14_3 : Hid (b10 ≠ b14) := Lib.hid (xp_lt0 (heap_keep Fv3_10.out C4_6.out) hge)
  have Ge14 : Hid (V6.heap.size ≤ b14) := Lib.hid hge
  have B6 := Lib.hid hb
  have Fv4_14 : Hid (RowT V7 b14 (List.replicate 32 0) 0) := Lib.hid (h0)
  clear hge h0 hb
  simp only [ptr, Act.put, List.setIfInBounds_toArray, List.set_cons_zero, List.set_cons_succ]
  refine wpList_storeW b14 (trC (List.replicate 32 0) 0) (trC s ca) 32 (by kernel_rfl) Fv4_14.out (exec_storeT b14 (List.replicate 32 0) 0 s ca List.length_replicate HDs.out.1 Fv4_14.out rfl rfl rfl) ?_
  intro X7_5 h1 hfar hbel hsz
  have hbr := hbel _ _ Ge14.out B6.out
  clear B6
  have B6 := Lib.hid hbr
  clear hbr
  clear Fv4_14
  have Fv4_14 : Hid (RowT X7_5 b14 s ca) := Lib.hid (h1)
  clear h1 hfar hbel hsz
  simp only [ptr, Act.put, List.setIfInBounds_toArray, List.set_cons_zero, List.set_cons_succ]
  refine wpList_run (by kernel_rfl) (.slice La a ka) X7_5 rfl ?_
  simp only [Act.put, List.setIfInBounds_toArray, List.set_cons_zero, List.set_cons_succ]
  refine wpList_nil ?_
  go_upto_region 7 with fail
  refine wp_region_lit ?_
  have C4_7 := Lib.hid (bel_step C4_6.out B6.out)
  refine wpList_run (by kernel_rfl) (.agg (trC s cc)) X7_5 (exec_loadT b8 s cc HDs.out.1 (Fv2_8.out.keep C4_7.out) rfl rfl) ?_
  simp only [Act.put, List.setIfInBounds_toArray, List.set_cons_zero, List.set_cons_succ]
  refine wpList_run (by kernel_rfl) (.string lb) X7_5 rfl ?_
  simp only [Act.put, List.setIfInBounds_toArray, List.set_cons_zero, List.set_cons_succ]
  refine wpList_run (by kernel_rfl) (.int .u16 (lim : Int)) X7_5 rfl ?_
  simp only [Act.put, List.setIfInBounds_toArray, List.set_cons_zero, List.set_cons_succ]
  refine wpList_run (by kernel_rfl) (.int .i64 (lim : Int)) X7_5 (xo_cvt .u16 .i64 (lim : Int) (lim : Int) (wrapI (by omega) (by omega)) Tryd.underlying3 Tryd.underlying61 rfl rfl) ?_
  simp only [Act.put, List.setIfInBounds_toArray, List.set_cons_zero, List.set_cons_succ]
  refine wpList_run (by kernel_rfl) (.int .i64 ((1 + lim : Nat) : Int)) X7_5 (xo_addI 1 (lim : Int) ((1 + lim : Nat) : Int) (by omega) (by omega) (by omega) rfl rfl rfl) ?_
  simp only [Act.put, List.setIfInBounds_toArray, List.set_cons_zero, List.set_cons_succ]
  refine wpList_run (by kernel_rfl) (.int .i64 (qa : Int)) X7_5 rfl ?_
  simp only [Act.put, List.setIfInBounds_toArray, List.set_cons_zero, List.set_cons_succ]
  refine wpList_run (by kernel_rfl) (.int .i64 (qb : Int)) X7_5 rfl ?_
  simp only [Act.put, List.setIfInBounds_toArray, List.set_cons_zero, List.set_cons_succ]
  refine wpList_run (by kernel_rfl) (.int .i64 (b : Int)) X7_5 (xo_max .i64 (qa : Int) (qb : Int) (b : Int) (by split <;> omega) rfl rfl rfl) ?_
  simp only [Act.put, List.setIfInBounds_toArray, List.set_cons_zero, List.set_cons_succ]
  refine wpList_run (by kernel_rfl) (.agg #[.int .i64 ((1 + lim : Nat) : Int), .int .i64 (b : Int)]) X7_5 (exec_buildDr2 ((1 + lim : Nat) : Int) (b : Int) rfl rfl rfl X7_5) ?_
  simp only [Act.put, List.setIfInBounds_toArray, List.set_cons_zero, List.set_cons_succ]
  have C0_6 := Lib.hid (bel_step C0_5.out B5.out)
  have C0_7 := Lib.hid (bel_step C0_6.out B6.out)
  refine wpList_call (by kernel_rfl) 26 Tryd.func26 (by kernel_rfl) (by kernel_rfl) _ _ #[.agg (trC s cc), .string lb, .agg #[.int .i64 ((1 + lim : Nat) : Int), .int .i64 (b : Int)]] rfl (by kernel_rfl) ?_
  refine (indices_all s cc lb (1 + lim) b HDs.out.1 HDs.out.2 (by omega) (by omega) (by omega) (by omega) (by omega) (by omega) X7_5 (HG.out.keep C0_7.out) f HF.out Rb HRb.out cb HCb.out _ _ rfl rfl).mono ?_
  rintro e V8 ⟨Lb, kb, rfl, ho, hb⟩
  have B7 := Lib.hid hb
  have HIb := Lib.hid ho
  clear hb ho
  refine ⟨_, rfl, ?_⟩
  simp only [Act.put, List.setIfInBounds_toArray, List.set_cons_zero, List.set_cons_succ]
  refine wpList_run (by kernel_rfl) (.tuple #[.agg (trC s cb), .slice Lb b kb]) V8 rfl ?_
  simp only [Act.put, List.setIfInBounds_toArray, List.set_cons_zero, List.set_cons_succ]
  refine wpList_run (by kernel_rfl) (.agg (trC s cb)) V8 rfl ?_
  simp only [Act.put, List.setIfInBounds_toArray, List.set_cons_zero, List.set_cons_succ]
  refine wpList_run (by kernel_rfl) (.slice Lb b kb) V8 rfl ?_
  simp only [Act.put, List.setIfInBounds_toArray, List.set_cons_zero, List.set_cons_succ]
  refine wpList_new z33 32 (by kernel_rfl) (exec_allocT V8 rfl) ?_
  intro b16 V9 hge h0 hb
  have C1_7 := Lib.hid (bel_step C1_6.out B6.out)
  have C1_8 := Lib.hid (bel_step C1_7.out B7.out)
  have N16_0 : Hid (w.heap.size ≠ b16) := Lib.hid (xp_lt0 (heap_keep Fv0_3.out C1_8.out) hge)
  have N16_1 : Hid ((w.heap.size + 1) ≠ b16) := Lib.hid (xp_lt0 (heap_keep Fv1_5.out C1_8.out) hge)
  have C4_8 := Lib.hid (bel_step C4_7.out B7.out)
  have N16_2 : Hid (b8 ≠ b16) := Lib.hid (xp_lt0 (Fv2_8.out.keep C4_8.out) hge)
  have N16_3 : Hid (b10 ≠ b16) := Lib.hid (xp_lt0 (heap_keep Fv3_10.out C4_8.out) hge)
  have N16_4 : Hid (b14 ≠ b16) := Lib.hid (xp_lt0 (Fv4_14.out.keep B7.out) hge)
  have Ge16 : Hid (V8.heap.size ≤ b16) := Lib.hid hge
  have B8 := Lib.hid hb
  have Fv5_16 : Hid (RowT V9 b16 (List.replicate 32 0) 0) := Lib.hid (h0)
  clear hge h0 hb
  simp only [ptr, Act.put, List.setIfInBounds_toArray, List.set_cons_zero, List.set_cons_succ]
  refine wpList_storeW b16 (trC (List.replicate 32 0) 0) (trC s cb) 32 (by kernel_rfl) Fv5_16.out (exec_storeT b16 (List.replicate 32 0) 0 s cb List.length_replicate HDs.out.1 Fv5_16.out rfl rfl rfl) ?_
  intro X9_6 h1 hfar hbel hsz
  have hbr := hbel _ _ Ge16.out B8.out
  clear B8
  have B8 := Lib.hid hbr
  clear hbr
  clear Fv5_16
  have Fv5_16 : Hid (RowT X9_6 b16 s cb) := Lib.hid (h1)
  clear h1 hfar hbel hsz
  simp only [ptr, Act.put, List.setIfInBounds_toArray, List.set_cons_zero, List.set_cons_succ]
  refine wpList_run (by kernel_rfl) (.slice Lb b kb) X9_6 rfl ?_
  simp only [Act.put, List.setIfInBounds_toArray, List.set_cons_zero, List.set_cons_succ]
  refine wpList_nil ?_
  have hab : a ≤ b := by omega
  have hbm : b ≤ most := by omega
  have hcab : ca ≤ cb := by
    have h1 := stopT_mono f 16384 hab
    have h2 := stopT_le f b 16384
    rw [← HCa.out, ← HCb.out, lastC_small hcc2 _ (by omega), lastC_small hcc2 _ h2]
    omega
  go_upto_region 8 with fail
  refine wp_region_lit ?_
  refine wpList_run (by kernel_rfl) (.slice La a ka) X9_6 rfl ?_
  simp only [Act.put, List.setIfInBounds_toArray, List.set_cons_zero, List.set_cons_succ]
  refine wpList_run (by kernel_rfl) (.int .i64 (a : Int)) X9_6 (xo_len La a ka Tryd.underlying48 rfl rfl) ?_
  simp only [Act.put, List.setIfInBounds_toArray, List.set_cons_zero, List.set_cons_succ]
  refine wpList_run (by kernel_rfl) (.int .i64 (qa : Int)) X9_6 rfl ?_
  simp only [Act.put, List.setIfInBounds_toArray, List.set_cons_zero, List.set_cons_succ]
  refine wpList_run (by kernel_rfl) (.int .i64 (qb : Int)) X9_6 rfl ?_
  simp only [Act.put, List.setIfInBounds_toArray, List.set_cons_zero, List.set_cons_succ]
  refine wpList_run (by kernel_rfl) (.int .i64 (a : Int)) X9_6 (xo_min .i64 (qa : Int) (qb : Int) (a : Int) (by split <;> omega) rfl rfl rfl) ?_
  simp only [Act.put, List.setIfInBounds_toArray, List.set_cons_zero, List.set_cons_succ]
  refine wpList_run (by kernel_rfl) (.bool false) X9_6 (xo_neqF .i64 (a : Int) (a : Int) (by omega) rfl rfl rfl) ?_
  simp only [Act.put, List.setIfInBounds_toArray, List.set_cons_zero, List.set_cons_succ]
  refine wpList_run (by kernel_rfl) (.bool false) X9_6 rfl ?_
  simp only [Act.put, List.setIfInBounds_toArray, List.set_cons_zero, List.set_cons_succ]
  refine wpList_run (by kernel_rfl) (.slice Lb b kb) X9_6 rfl ?_
  simp only [Act.put, List.setIfInBounds_toArray, List.set_cons_zero, List.set_cons_succ]
  refine wpList_run (by kernel_rfl) (.int .i64 (b : Int)) X9_6 (xo_len Lb b kb Tryd.underlying48 rfl rfl) ?_
  simp only [Act.put, List.setIfInBounds_toArray, List.set_cons_zero, List.set_cons_succ]
  refine wpList_run (by kernel_rfl) (.int .i64 (qa : Int)) X9_6 rfl ?_
  simp only [Act.put, List.setIfInBounds_toArray, List.set_cons_zero, List.set_cons_succ]
  refine wpList_run (by kernel_rfl) (.int .i64 (qb : Int)) X9_6 rfl ?_
  simp only [Act.put, List.setIfInBounds_toArray, List.set_cons_zero, List.set_cons_succ]
  refine wpList_run (by kernel_rfl) (.int .i64 (b : Int)) X9_6 (xo_max .i64 (qa : Int) (qb : Int) (b : Int) (by split <;> omega) rfl rfl rfl) ?_
  simp only [Act.put, List.setIfInBounds_toArray, List.set_cons_zero, List.set_cons_succ]
  refine wpList_run (by kernel_rfl) (.bool false) X9_6 (xo_neqF .i64 (b : Int) (b : Int) (by omega) rfl rfl rfl) ?_
  simp only [Act.put, List.setIfInBounds_toArray, List.set_cons_zero, List.set_cons_succ]
  refine wpList_run (by kernel_rfl) (.bool false) X9_6 rfl ?_
  simp only [Act.put, List.setIfInBounds_toArray, List.set_cons_zero, List.set_cons_succ]
  refine wpList_run (by kernel_rfl) (.bool false) X9_6 rfl ?_
  simp only [Act.put, List.setIfInBounds_toArray, List.set_cons_zero, List.set_cons_succ]
  refine wpList_run (by kernel_rfl) (.pointer (some ⟨b14, 32, none⟩)) X9_6 (exec_fT1 b14 rfl rfl X9_6) ?_
  simp only [Act.put, List.setIfInBounds_toArray, List.set_cons_zero, List.set_cons_succ]
  have C7_9 := Lib.hid (bel_step B7.out B8.out)
  refine wpList_run (by kernel_rfl) (.int .u64 ((ca : Nat) : Int)) X9_6 (exec_loadU ⟨b14, 32, none⟩ _ ((Fv4_14.out.keep C7_9.out).count HDs.out.1) rfl rfl) ?_
  simp only [Act.put, List.setIfInBounds_toArray, List.set_cons_zero, List.set_cons_succ]
  refine wpList_run (by kernel_rfl) (.pointer (some ⟨b16, 32, none⟩)) X9_6 (exec_fT1 b16 rfl rfl X9_6) ?_
  simp only [Act.put, List.setIfInBounds_toArray, List.set_cons_zero, List.set_cons_succ]
  refine wpList_run (by kernel_rfl) (.int .u64 ((cb : Nat) : Int)) X9_6 (exec_loadU ⟨b16, 32, none⟩ _ (Fv5_16.out.count HDs.out.1) rfl rfl) ?_
  simp only [Act.put, List.setIfInBounds_toArray, List.set_cons_zero, List.set_cons_succ]
  refine wpList_run (by kernel_rfl) (.bool false) X9_6 (xo_gtrF .u64 (ca : Int) (cb : Int) (by omega) rfl rfl rfl) ?_
  simp only [Act.put, List.setIfInBounds_toArray, List.set_cons_zero, List.set_cons_succ]
  refine wpList_run (by kernel_rfl) (.bool false) X9_6 rfl ?_
  simp only [Act.put, List.setIfInBounds_toArray, List.set_cons_zero, List.set_cons_succ]
  refine wpList_nil ?_
  clear ha hb0
  have C6_8 := Lib.hid (bel_step B6.out B7.out)
  have C6_9 := Lib.hid (bel_step C6_8.out B8.out)
  have HIA := Lib.hid (HIa.out.keep C6_9.out)
  have HIB := Lib.hid (HIb.out.keep B8.out)
  have HLb := Lib.hid (show Rb.length = b by rw [← HRb.out]; exact pickT_length (by omega))
  have HLa := Lib.hid (show Ra.length = a by rw [← HRa.out]; exact pickT_length (by omega))
  have HSb := Lib.hid (show Rb.Pairwise (· < ·) by rw [← HRb.out]; exact pickT_sorted _ _ _ _)
  have HSa := Lib.hid (show Ra.Pairwise (· < ·) by rw [← HRa.out]; exact pickT_sorted _ _ _ _)
  have HTb := Lib.hid (show ∀ z ∈ Rb, z < 1 + lim by rw [← HRb.out]; exact pickT_lt (fun i => by rw [← HF.out]; exact Nat.mod_lt _ (by omega)))
  have HUb := Lib.hid (show ∀ z ∈ Ra, z ∈ Rb by intro z hz; rw [← HRa.out] at hz; rw [← HRb.out]; exact pickT_sub hab (by omega) hz)
  have hkb := HIB.out.cap
  have hkb2 := HIB.out.top
  have hka := HIA.out.cap
  have hka2 := HIA.out.top
  have C0_8 := Lib.hid (bel_step C0_7.out B7.out)
  have C0_9 := Lib.hid (bel_step C0_8.out B8.out)
  have HBW : Hid (Below w.heap.size w X9_6) := Lib.hid C0_9.out
  generalize X9_6 = U at *
  go_wp2_with fail
  go_loopw [18] (fun s wr => ∃ i : Nat, i ≤ b ∧ s = .int .i64 i ∧ Below U.heap.size U wr) (fun s _ => b - (intOf s).toNat)
  case atStart => exact ⟨0, Nat.zero_le _, rfl, Below.refl _ _⟩
  case round =>
    obtain ⟨wo, rfl⟩ : ∃ wo : World, wo = wr := ⟨_, rfl⟩
    obtain ⟨i, hi, rfl, hb⟩ := hrel
    have B0 := Lib.hid hb
    clear hb
    by_cases hlt : i < b
    · have hk1 : (i : Int) < (b : Int) := by omega
      have hk0 : (0 : Int) ≤ (i : Int) := by omega
      obtain ⟨x, hx⟩ : ∃ x, Rb[i]? = some x := ⟨_, List.getElem?_eq_getElem (by have := HLb.out; omega)⟩
      have hxl := HTb.out x (List.mem_of_getElem? hx)
      obtain ⟨ad, rfl, hcx⟩ := (HIB.out.keep B0.out).cells i (x : Int) (by rw [List.getElem?_map, hx]; rfl)
      have CX := Lib.hid hcx
      by_cases hi0 : i = 0
      · subst hi0
        go_upto_region 13 with fail
        refine wp_later_lex (by kernel_rfl) (lexOK_of (by kernel_rfl) (by kernel_rfl)) ?_
        refine wpQuiet_val (by kernel_rfl) (.slice (some ad) b kb) (fun v hv => rfl) ?_
        simp only [Act.put, List.setIfInBounds_toArray, List.set_cons_zero, List.set_cons_succ]
        refine wpQuiet_val (by kernel_rfl) (.int .i64 ((0 : Nat) : Int)) (fun v hv => rfl) ?_
        simp only [Act.put, List.setIfInBounds_toArray, List.set_cons_zero, List.set_cons_succ]
        refine wpQuiet_val (by kernel_rfl) (.pointer (some (ad.add 0))) (fun v hv => (xo_index1 .i64 ad b kb 0 (by omega) Tryd.underlying48 (by kernel_rfl) rfl rfl rfl)) ?_
        simp only [Act.put, List.setIfInBounds_toArray, List.set_cons_zero, List.set_cons_succ]
        refine wpQuiet_val (by kernel_rfl) (.int .i64 (x : Int)) (fun v hv => (xo_load1 (ad.add 0) _ (cell_keep CX.out (later_bel hv)) Tryd.underlying3 rfl rfl rfl)) ?_
        simp only [Act.put, List.setIfInBounds_toArray, List.set_cons_zero, List.set_cons_succ]
        refine wpQuiet_val (by kernel_rfl) (.bool false) (fun v hv => (xo_lssF .i64 (x : Int) 0 (by omega) rfl rfl rfl)) ?_
        simp only [Act.put, List.setIfInBounds_toArray, List.set_cons_zero, List.set_cons_succ]
        refine wpQuiet_val (by kernel_rfl) (.bool false) (fun v hv => rfl) ?_
        simp only [Act.put, List.setIfInBounds_toArray, List.set_cons_zero, List.set_cons_succ]
        refine wpQuiet_val (by kernel_rfl) (.slice (some ad) b kb) (fun v hv => rfl) ?_
        simp only [Act.put, List.setIfInBounds_toArray, List.set_cons_zero, List.set_cons_succ]
        refine wpQuiet_val (by kernel_rfl) (.int .i64 ((0 : Nat) : Int)) (fun v hv => rfl) ?_
        simp only [Act.put, List.setIfInBounds_toArray, List.set_cons_zero, List.set_cons_succ]
        refine wpQuiet_val (by kernel_rfl) (.pointer (some (ad.add 0))) (fun v hv => (xo_index1 .i64 ad b kb 0 (by omega) Tryd.underlying48 (by kernel_rfl) rfl rfl rfl)) ?_
        simp only [Act.put, List.setIfInBounds_toArray, List.set_cons_zero, List.set_cons_succ]
        refine wpQuiet_val (by kernel_rfl) (.int .i64 (x : Int)) (fun v hv => (xo_load1 (ad.add 0) _ (cell_keep CX.out (later_bel hv)) Tryd.underlying3 rfl rfl rfl)) ?_
        simp only [Act.put, List.setIfInBounds_toArray, List.set_cons_zero, List.set_cons_succ]
        refine wpQuiet_val (by kernel_rfl) (.int .u16 (lim : Int)) (fun v hv => rfl) ?_
        simp only [Act.put, List.setIfInBounds_toArray, List.set_cons_zero, List.set_cons_succ]
        refine wpQuiet_val (by kernel_rfl) (.int .i64 (lim : Int)) (fun v hv => (xo_cvt .u16 .i64 (lim : Int) (lim : Int) (wrapI (by omega) (by omega)) Tryd.underlying3 Tryd.underlying61 rfl rfl)) ?_
        simp only [Act.put, List.setIfInBounds_toArray, List.set_cons_zero, List.set_cons_succ]
        refine wpQuiet_val (by kernel_rfl) (.bool false) (fun v hv => (xo_gtrF .i64 (x : Int) (lim : Int) (by omega) rfl rfl rfl)) ?_
        simp only [Act.put, List.setIfInBounds_toArray, List.set_cons_zero, List.set_cons_succ]
        refine wpQuiet_val (by kernel_rfl) (.bool false) (fun v hv => rfl) ?_
        simp only [Act.put, List.setIfInBounds_toArray, List.set_cons_zero, List.set_cons_succ]
        refine wpQuiet_val (by kernel_rfl) (.bool false) (fun v hv => rfl) ?_
        simp only [Act.put, List.setIfInBounds_toArray, List.set_cons_zero, List.set_cons_succ]
        refine wpQuiet_val (by kernel_rfl) (.int .i64 ((0 : Nat) : Int)) (fun v hv => rfl) ?_
        simp only [Act.put, List.setIfInBounds_toArray, List.set_cons_zero, List.set_cons_succ]
        refine wpQuiet_val (by kernel_rfl) (.bool false) (fun v hv => (xo_gtrF .i64 0 0 (by omega) rfl rfl rfl)) ?_
        simp only [Act.put, List.setIfInBounds_toArray, List.set_cons_zero, List.set_cons_succ]
        refine wpQuiet_val (by kernel_rfl) (.bool false) (fun v hv => rfl) ?_
        simp only [Act.put, List.setIfInBounds_toArray, List.set_cons_zero, List.set_cons_succ]
        refine BigFrame.wpQuiet_skip (by kernel_rfl) ?_
        try simp only [Act.put, List.setIfInBounds_toArray, List.set_cons_zero, List.set_cons_succ]
        refine BigFrame.wpQuiet_skip (by kernel_rfl) ?_
        try simp only [Act.put, List.setIfInBounds_toArray, List.set_cons_zero, List.set_cons_succ]
        refine BigFrame.wpQuiet_skip (by kernel_rfl) ?_
        try simp only [Act.put, List.setIfInBounds_toArray, List.set_cons_zero, List.set_cons_succ]
        refine BigFrame.wpQuiet_skip (by kernel_rfl) ?_
        try simp only [Act.put, List.setIfInBounds_toArray, List.set_cons_zero, List.set_cons_succ]
        refine BigFrame.wpQuiet_skip (by kernel_rfl) ?_
        try simp only [Act.put, List.setIfInBounds_toArray, List.set_cons_zero, List.set_cons_succ]
        refine BigFrame.wpQuiet_skip (by kernel_rfl) ?_
        try simp only [Act.put, List.setIfInBounds_toArray, List.set_cons_zero, List.set_cons_succ]
        refine BigFrame.wpQuiet_skip (by kernel_rfl) ?_
        try simp only [Act.put, List.setIfInBounds_toArray, List.set_cons_zero, List.set_cons_succ]
        refine BigFrame.wpQuiet_skip (by kernel_rfl) ?_
        try simp only [Act.put, List.setIfInBounds_toArray, List.set_cons_zero, List.set_cons_succ]
        refine BigFrame.wpQuiet_skip (by kernel_rfl) ?_
        try simp only [Act.put, List.setIfInBounds_toArray, List.set_cons_zero, List.set_cons_succ]
        refine BigFrame.wpQuiet_skip (by kernel_rfl) ?_
        try simp only [Act.put, List.setIfInBounds_toArray, List.set_cons_zero, List.set_cons_succ]
        refine wpQuiet_val (by kernel_rfl) (.bool false) (fun v hv => rfl) ?_
        simp only [Act.put, List.setIfInBounds_toArray, List.set_cons_zero, List.set_cons_succ]
        refine wpQuiet_val (by kernel_rfl) (.bool false) (fun v hv => rfl) ?_
        simp only [Act.put, List.setIfInBounds_toArray, List.set_cons_zero, List.set_cons_succ]
        refine wpQuiet_nil ?_
        intro X1_7
        have hb := X1_7.below
        generalize X1_7.at = V2 at *
        have B1 := Lib.hid hb
        clear hb
        go_wp2_with fail
        go_roundw
        have C0_2 := Lib.hid (bel_step B0.out B1.out)
        case rel => exact ⟨0 + 1, by omega, by first | rfl | go_num, C0_2.out⟩
        case measure => simp [intOf]; omega
      · obtain ⟨y, hy⟩ : ∃ y, Rb[i - 1]? = some y := ⟨_, List.getElem?_eq_getElem (by have := HLb.out; omega)⟩
        have hyx : y < x := by
          have h1 := List.getElem?_eq_some_iff.1 hy
          have h2 := List.getElem?_eq_some_iff.1 hx
          obtain ⟨h1a, rfl⟩ := h1
          obtain ⟨h2a, rfl⟩ := h2
          exact List.pairwise_iff_getElem.1 HSb.out (i - 1) i h1a h2a (by omega)
        obtain ⟨ad2, e2, hcy⟩ := (HIB.out.keep B0.out).cells (i - 1) (y : Int) (by rw [List.getElem?_map, hy]; rfl)
        obtain rfl : ad = ad2 := Option.some.inj e2
        clear e2
        have CY := Lib.hid hcy
        clear hcy
        go_upto_region 13 with fail
        refine wp_later_lex (by kernel_rfl) (lexOK_of (by kernel_rfl) (by kernel_rfl)) ?_
        refine wpQuiet_val (by kernel_rfl) (.slice (some ad) b kb) (fun v hv => rfl) ?_
        simp only [Act.put, List.setIfInBounds_toArray, List.set_cons_zero, List.set_cons_succ]
        refine wpQuiet_val (by kernel_rfl) (.int .i64 (i : Int)) (fun v hv => rfl) ?_
        simp only [Act.put, List.setIfInBounds_toArray, List.set_cons_zero, List.set_cons_succ]
        refine wpQuiet_val (by kernel_rfl) (.pointer (some (ad.add i))) (fun v hv => (xo_index1 .i64 ad b kb i (by omega) Tryd.underlying48 (by kernel_rfl) rfl rfl rfl)) ?_
        simp only [Act.put, List.setIfInBounds_toArray, List.set_cons_zero, List.set_cons_succ]
        refine wpQuiet_val (by kernel_rfl) (.int .i64 (x : Int)) (fun v hv => (xo_load1 (ad.add i) _ (cell_keep CX.out (later_bel hv)) Tryd.underlying3 rfl rfl rfl)) ?_
        simp only [Act.put, List.setIfInBounds_toArray, List.set_cons_zero, List.set_cons_succ]
        refine wpQuiet_val (by kernel_rfl) (.bool false) (fun v hv => (xo_lssF .i64 (x : Int) 0 (by omega) rfl rfl rfl)) ?_
        simp only [Act.put, List.setIfInBounds_toArray, List.set_cons_zero, List.set_cons_succ]
        refine wpQuiet_val (by kernel_rfl) (.bool false) (fun v hv => rfl) ?_
        simp only [Act.put, List.setIfInBounds_toArray, List.set_cons_zero, List.set_cons_succ]
        refine wpQuiet_val (by kernel_rfl) (.slice (some ad) b kb) (fun v hv => rfl) ?_
        simp only [Act.put, List.setIfInBounds_toArray, List.set_cons_zero, List.set_cons_succ]
        refine wpQuiet_val (by kernel_rfl) (.int .i64 (i : Int)) (fun v hv => rfl) ?_
        simp only [Act.put, List.setIfInBounds_toArray, List.set_cons_zero, List.set_cons_succ]
        refine wpQuiet_val (by kernel_rfl) (.pointer (some (ad.add i))) (fun v hv => (xo_index1 .i64 ad b kb i (by omega) Tryd.underlying48 (by kernel_rfl) rfl rfl rfl)) ?_
        simp only [Act.put, List.setIfInBounds_toArray, List.set_cons_zero, List.set_cons_succ]
        refine wpQuiet_val (by kernel_rfl) (.int .i64 (x : Int)) (fun v hv => (xo_load1 (ad.add i) _ (cell_keep CX.out (later_bel hv)) Tryd.underlying3 rfl rfl rfl)) ?_
        simp only [Act.put, List.setIfInBounds_toArray, List.set_cons_zero, List.set_cons_succ]
        refine wpQuiet_val (by kernel_rfl) (.int .u16 (lim : Int)) (fun v hv => rfl) ?_
        simp only [Act.put, List.setIfInBounds_toArray, List.set_cons_zero, List.set_cons_succ]
        refine wpQuiet_val (by kernel_rfl) (.int .i64 (lim : Int)) (fun v hv => (xo_cvt .u16 .i64 (lim : Int) (lim : Int) (wrapI (by omega) (by omega)) Tryd.underlying3 Tryd.underlying61 rfl rfl)) ?_
        simp only [Act.put, List.setIfInBounds_toArray, List.set_cons_zero, List.set_cons_succ]
        refine wpQuiet_val (by kernel_rfl) (.bool false) (fun v hv => (xo_gtrF .i64 (x : Int) (lim : Int) (by omega) rfl rfl rfl)) ?_
        simp only [Act.put, List.setIfInBounds_toArray, List.set_cons_zero, List.set_cons_succ]
        refine wpQuiet_val (by kernel_rfl) (.bool false) (fun v hv => rfl) ?_
        simp only [Act.put, List.setIfInBounds_toArray, List.set_cons_zero, List.set_cons_succ]
        refine wpQuiet_val (by kernel_rfl) (.bool false) (fun v hv => rfl) ?_
        simp only [Act.put, List.setIfInBounds_toArray, List.set_cons_zero, List.set_cons_succ]
        refine wpQuiet_val (by kernel_rfl) (.int .i64 (i : Int)) (fun v hv => rfl) ?_
        simp only [Act.put, List.setIfInBounds_toArray, List.set_cons_zero, List.set_cons_succ]
        refine wpQuiet_val (by kernel_rfl) (.bool true) (fun v hv => (xo_gtrT .i64 (i : Int) 0 (by omega) rfl rfl rfl)) ?_
        simp only [Act.put, List.setIfInBounds_toArray, List.set_cons_zero, List.set_cons_succ]
        refine wpQuiet_val (by kernel_rfl) (.bool true) (fun v hv => rfl) ?_
        simp only [Act.put, List.setIfInBounds_toArray, List.set_cons_zero, List.set_cons_succ]
        refine wpQuiet_val (by kernel_rfl) (.slice (some ad) b kb) (fun v hv => rfl) ?_
        simp only [Act.put, List.setIfInBounds_toArray, List.set_cons_zero, List.set_cons_succ]
        refine wpQuiet_val (by kernel_rfl) (.int .i64 (i : Int)) (fun v hv => rfl) ?_
        simp only [Act.put, List.setIfInBounds_toArray, List.set_cons_zero, List.set_cons_succ]
        refine wpQuiet_val (by kernel_rfl) (.pointer (some (ad.add i))) (fun v hv => (xo_index1 .i64 ad b kb i (by omega) Tryd.underlying48 (by kernel_rfl) rfl rfl rfl)) ?_
        simp only [Act.put, List.setIfInBounds_toArray, List.set_cons_zero, List.set_cons_succ]
        refine wpQuiet_val (by kernel_rfl) (.int .i64 (x : Int)) (fun v hv => (xo_load1 (ad.add i) _ (cell_keep CX.out (later_bel hv)) Tryd.underlying3 rfl rfl rfl)) ?_
        simp only [Act.put, List.setIfInBounds_toArray, List.set_cons_zero, List.set_cons_succ]
        refine wpQuiet_val (by kernel_rfl) (.slice (some ad) b kb) (fun v hv => rfl) ?_
        simp only [Act.put, List.setIfInBounds_toArray, List.set_cons_zero, List.set_cons_succ]
        refine wpQuiet_val (by kernel_rfl) (.int .i64 (i : Int)) (fun v hv => rfl) ?_
        simp only [Act.put, List.setIfInBounds_toArray, List.set_cons_zero, List.set_cons_succ]
        refine wpQuiet_val (by kernel_rfl) (.int .i64 ((i - 1 : Nat) : Int)) (fun v hv => (xo_subI (i : Int) 1 ((i - 1 : Nat) : Int) (by omega) (by omega) (by omega) rfl rfl rfl)) ?_
        simp only [Act.put, List.setIfInBounds_toArray, List.set_cons_zero, List.set_cons_succ]
        refine wpQuiet_val (by kernel_rfl) (.pointer (some (ad.add (i - 1)))) (fun v hv => (xo_index1 .i64 ad b kb (i - 1) (by omega) Tryd.underlying48 (by kernel_rfl) rfl rfl rfl)) ?_
        simp only [Act.put, List.setIfInBounds_toArray, List.set_cons_zero, List.set_cons_succ]
        refine wpQuiet_val (by kernel_rfl) (.int .i64 (y : Int)) (fun v hv => (xo_load1 (ad.add (i - 1)) _ (cell_keep CY.out (later_bel hv)) Tryd.underlying3 rfl rfl rfl)) ?_
        simp only [Act.put, List.setIfInBounds_toArray, List.set_cons_zero, List.set_cons_succ]
        refine wpQuiet_val (by kernel_rfl) (.bool false) (fun v hv => (xo_leqF .i64 (x : Int) (y : Int) (by omega) rfl rfl rfl)) ?_
        simp only [Act.put, List.setIfInBounds_toArray, List.set_cons_zero, List.set_cons_succ]
        refine wpQuiet_val (by kernel_rfl) (.bool false) (fun v hv => rfl) ?_
        simp only [Act.put, List.setIfInBounds_toArray, List.set_cons_zero, List.set_cons_succ]
        refine wpQuiet_val (by kernel_rfl) (.bool false) (fun v hv => rfl) ?_
        simp only [Act.put, List.setIfInBounds_toArray, List.set_cons_zero, List.set_cons_succ]
        refine wpQuiet_nil ?_
        intro X1_7
        have hb := X1_7.below
        generalize X1_7.at = V2 at *
        have B1 := Lib.hid hb
        clear hb
        go_wp2_with fail
        go_roundw
        have C0_2 := Lib.hid (bel_step B0.out B1.out)
        case rel => exact ⟨i + 1, by omega, by first | rfl | go_num, C0_2.out⟩
        case measure => simp [intOf]; omega
    · obtain rfl : i = b := by omega
      have hk1 : ¬ (i : Int) < (i : Int) := by omega
      have HBX := Lib.hid (bel_step HBW.out B0.out)
      have HIB2 := Lib.hid (HIB.out.keep B0.out)
      have HIA2 := Lib.hid (HIA.out.keep B0.out)
      clear B0 HIB HIA HBW
      generalize wo = U2 at *
      go_wp2_with fail
      go_loopw [19, 20] (fun p q wr => ∃ k j : Nat, k ≤ i ∧ j ≤ a ∧ p = .int .i64 k ∧ q = .int .i64 j ∧ (∀ u x : Nat, Rb[u]? = some x → Ra[j]? = some x → k ≤ u) ∧ Below U2.heap.size U2 wr) (fun _ q _ => a - (intOf q).toNat)
      case atStart => exact ⟨0, 0, Nat.zero_le _, Nat.zero_le _, rfl, rfl, fun u x _ _ => Nat.zero_le _, Below.refl _ _⟩
      case round =>
        obtain ⟨wo, rfl⟩ : ∃ wo : World, wo = wr := ⟨_, rfl⟩
        obtain ⟨k, j, hk, hj, rfl, rfl, hpos, hb⟩ := hrel
        have HPOS := Lib.hid hpos
        clear hpos
        have B0 := Lib.hid hb
        clear hb
        by_cases hlt : j < a
        · have hj1 : (j : Int) < (a : Int) := by omega
          have hj0 : (0 : Int) ≤ (j : Int) := by omega
          obtain ⟨x, hx⟩ : ∃ x, Ra[j]? = some x := ⟨_, List.getElem?_eq_getElem (by have := HLa.out; omega)⟩
          obtain ⟨u, hu⟩ := List.mem_iff_getElem?.1 (HUb.out x (List.mem_of_getElem? hx))
          have hui : u < i := by have := (List.getElem?_eq_some_iff.1 hu).1; have := HLb.out; omega
          have hku := HPOS.out u x hu hx
          obtain ⟨ad, eA, hcx⟩ := (HIA2.out.keep B0.out).cells j (x : Int) (by rw [List.getElem?_map, hx]; rfl)
          subst eA
          have CX := Lib.hid hcx
          clear hcx
          go_wp2_with fail
          go_loopw [19] (fun p wr => ∃ k : Nat, k ≤ u ∧ p = .int .i64 k ∧ Below wo.heap.size wo wr) (fun p _ => u - (intOf p).toNat)
          case atStart => exact ⟨k, hku, rfl, Below.refl _ _⟩
          case round =>
            clear HPOS
            obtain ⟨q, hq, rfl, hb⟩ := hrel
            have B1 := Lib.hid hb
            clear hb
            have hk1 : (q : Int) < (i : Int) := by omega
            have hk0 : (0 : Int) ≤ (q : Int) := by omega
            obtain ⟨y, hy⟩ : ∃ y, Rb[q]? = some y := ⟨_, List.getElem?_eq_getElem (by have := HLb.out; omega)⟩
            have C0_2 := Lib.hid (bel_step B0.out B1.out)
            obtain ⟨ad2, eB, hcy⟩ := (HIB2.out.keep C0_2.out).cells q (y : Int) (by rw [List.getElem?_map, hy]; rfl)
            subst eB
            have CY := Lib.hid hcy
            clear hcy
            by_cases hqu : q < u
            · have hyx : y < x := by
                obtain ⟨h1a, rfl⟩ := List.getElem?_eq_some_iff.1 hy
                obtain ⟨h2a, rfl⟩ := List.getElem?_eq_some_iff.1 hu
                exact List.pairwise_iff_getElem.1 HSb.out q u h1a h2a hqu
              go_upto_region 19 with fail
              refine wp_later_lex (by kernel_rfl) (lexOK_of (by kernel_rfl) (by kernel_rfl)) ?_
              refine wpQuiet_val (by kernel_rfl) (.int .i64 (q : Int)) (fun v hv => rfl) ?_
              simp only [Act.put, List.setIfInBounds_toArray, List.set_cons_zero, List.set_cons_succ]
              refine wpQuiet_val (by kernel_rfl) (.slice (some ad2) i kb) (fun v hv => rfl) ?_
              simp only [Act.put, List.setIfInBounds_toArray, List.set_cons_zero, List.set_cons_succ]
              refine wpQuiet_val (by kernel_rfl) (.int .i64 (i : Int)) (fun v hv => (xo_len (some ad2) i kb Tryd.underlying48 rfl rfl)) ?_
              simp only [Act.put, List.setIfInBounds_toArray, List.set_cons_zero, List.set_cons_succ]
              refine wpQuiet_val (by kernel_rfl) (.bool true) (fun v hv => (xo_lssT .i64 (q : Int) (i : Int) (by omega) rfl rfl rfl)) ?_
              simp only [Act.put, List.setIfInBounds_toArray, List.set_cons_zero, List.set_cons_succ]
              refine wpQuiet_val (by kernel_rfl) (.bool true) (fun v hv => rfl) ?_
              simp only [Act.put, List.setIfInBounds_toArray, List.set_cons_zero, List.set_cons_succ]
              refine wpQuiet_val (by kernel_rfl) (.slice (some ad2) i kb) (fun v hv => rfl) ?_
              simp only [Act.put, List.setIfInBounds_toArray, List.set_cons_zero, List.set_cons_succ]
              refine wpQuiet_val (by kernel_rfl) (.int .i64 (q : Int)) (fun v hv => rfl) ?_
              simp only [Act.put, List.setIfInBounds_toArray, List.set_cons_zero, List.set_cons_succ]
              refine wpQuiet_val (by kernel_rfl) (.pointer (some (ad2.add q))) (fun v hv => (xo_index1 .i64 ad2 i kb q (by omega) Tryd.underlying48 (by kernel_rfl) rfl rfl rfl)) ?_
              simp only [Act.put, List.setIfInBounds_toArray, List.set_cons_zero, List.set_cons_succ]
              refine wpQuiet_val (by kernel_rfl) (.int .i64 (y : Int)) (fun v hv => (xo_load1 (ad2.add q) _ (cell_keep CY.out (later_bel hv)) Tryd.underlying3 rfl rfl rfl)) ?_
              simp only [Act.put, List.setIfInBounds_toArray, List.set_cons_zero, List.set_cons_succ]
              refine wpQuiet_val (by kernel_rfl) (.slice (some ad) a ka) (fun v hv => rfl) ?_
              simp only [Act.put, List.setIfInBounds_toArray, List.set_cons_zero, List.set_cons_succ]
              refine wpQuiet_val (by kernel_rfl) (.int .i64 (j : Int)) (fun v hv => rfl) ?_
              simp only [Act.put, List.setIfInBounds_toArray, List.set_cons_zero, List.set_cons_succ]
              refine wpQuiet_val (by kernel_rfl) (.pointer (some (ad.add j))) (fun v hv => (xo_index1 .i64 ad a ka j (by omega) Tryd.underlying48 (by kernel_rfl) rfl rfl rfl)) ?_
              simp only [Act.put, List.setIfInBounds_toArray, List.set_cons_zero, List.set_cons_succ]
              refine wpQuiet_val (by kernel_rfl) (.int .i64 (x : Int)) (fun v hv => (xo_load1 (ad.add j) _ (cell_keep (cell_keep CX.out B1.out) (later_bel hv)) Tryd.underlying3 rfl rfl rfl)) ?_
              simp only [Act.put, List.setIfInBounds_toArray, List.set_cons_zero, List.set_cons_succ]
              refine wpQuiet_val (by kernel_rfl) (.bool true) (fun v hv => (xo_lssT .i64 (y : Int) (x : Int) (by omega) rfl rfl rfl)) ?_
              simp only [Act.put, List.setIfInBounds_toArray, List.set_cons_zero, List.set_cons_succ]
              refine wpQuiet_val (by kernel_rfl) (.bool true) (fun v hv => rfl) ?_
              simp only [Act.put, List.setIfInBounds_toArray, List.set_cons_zero, List.set_cons_succ]
              refine wpQuiet_nil ?_
              intro X2_7
              have hb := X2_7.below
              generalize X2_7.at = V3 at *
              have B2 := Lib.hid hb
              clear hb
              go_wp2_with fail
              go_roundw
              have C1_3 := Lib.hid (bel_step B1.out B2.out)
              case rel => exact ⟨q + 1, by omega, by go_num, C1_3.out⟩
              case measure => simp [intOf]; omega
            · obtain rfl : q = u := by omega
              obtain rfl : y = x := by rw [hy] at hu; exact Option.some.inj hu
              go_upto_region 19 with fail
              refine wp_later_lex (by kernel_rfl) (lexOK_of (by kernel_rfl) (by kernel_rfl)) ?_
              refine wpQuiet_val (by kernel_rfl) (.int .i64 (q : Int)) (fun v hv => rfl) ?_
              simp only [Act.put, List.setIfInBounds_toArray, List.set_cons_zero, List.set_cons_succ]
              refine wpQuiet_val (by kernel_rfl) (.slice (some ad2) i kb) (fun v hv => rfl) ?_
              simp only [Act.put, List.setIfInBounds_toArray, List.set_cons_zero, List.set_cons_succ]
              refine wpQuiet_val (by kernel_rfl) (.int .i64 (i : Int)) (fun v hv => (xo_len (some ad2) i kb Tryd.underlying48 rfl rfl)) ?_
              simp only [Act.put, List.setIfInBounds_toArray, List.set_cons_zero, List.set_cons_succ]
              refine wpQuiet_val (by kernel_rfl) (.bool true) (fun v hv => (xo_lssT .i64 (q : Int) (i : Int) (by omega) rfl rfl rfl)) ?_
              simp only [Act.put, List.setIfInBounds_toArray, List.set_cons_zero, List.set_cons_succ]
              refine wpQuiet_val (by kernel_rfl) (.bool true) (fun v hv => rfl) ?_
              simp only [Act.put, List.setIfInBounds_toArray, List.set_cons_zero, List.set_cons_succ]
              refine wpQuiet_val (by kernel_rfl) (.slice (some ad2) i kb) (fun v hv => rfl) ?_
              simp only [Act.put, List.setIfInBounds_toArray, List.set_cons_zero, List.set_cons_succ]
              refine wpQuiet_val (by kernel_rfl) (.int .i64 (q : Int)) (fun v hv => rfl) ?_
              simp only [Act.put, List.setIfInBounds_toArray, List.set_cons_zero, List.set_cons_succ]
              refine wpQuiet_val (by kernel_rfl) (.pointer (some (ad2.add q))) (fun v hv => (xo_index1 .i64 ad2 i kb q (by omega) Tryd.underlying48 (by kernel_rfl) rfl rfl rfl)) ?_
              simp only [Act.put, List.setIfInBounds_toArray, List.set_cons_zero, List.set_cons_succ]
              refine wpQuiet_val (by kernel_rfl) (.int .i64 (y : Int)) (fun v hv => (xo_load1 (ad2.add q) _ (cell_keep CY.out (later_bel hv)) Tryd.underlying3 rfl rfl rfl)) ?_
              simp only [Act.put, List.setIfInBounds_toArray, List.set_cons_zero, List.set_cons_succ]
              refine wpQuiet_val (by kernel_rfl) (.slice (some ad) a ka) (fun v hv => rfl) ?_
              simp only [Act.put, List.setIfInBounds_toArray, List.set_cons_zero, List.set_cons_succ]
              refine wpQuiet_val (by kernel_rfl) (.int .i64 (j : Int)) (fun v hv => rfl) ?_
              simp only [Act.put, List.setIfInBounds_toArray, List.set_cons_zero, List.set_cons_succ]
              refine wpQuiet_val (by kernel_rfl) (.pointer (some (ad.add j))) (fun v hv => (xo_index1 .i64 ad a ka j (by omega) Tryd.underlying48 (by kernel_rfl) rfl rfl rfl)) ?_
              simp only [Act.put, List.setIfInBounds_toArray, List.set_cons_zero, List.set_cons_succ]
              refine wpQuiet_val (by kernel_rfl) (.int .i64 (y : Int)) (fun v hv => (xo_load1 (ad.add j) _ (cell_keep (cell_keep CX.out B1.out) (later_bel hv)) Tryd.underlying3 rfl rfl rfl)) ?_
              simp only [Act.put, List.setIfInBounds_toArray, List.set_cons_zero, List.set_cons_succ]
              refine wpQuiet_val (by kernel_rfl) (.bool false) (fun v hv => (xo_lssF .i64 (y : Int) (y : Int) (by omega) rfl rfl rfl)) ?_
              simp only [Act.put, List.setIfInBounds_toArray, List.set_cons_zero, List.set_cons_succ]
              refine wpQuiet_val (by kernel_rfl) (.bool false) (fun v hv => rfl) ?_
              simp only [Act.put, List.setIfInBounds_toArray, List.set_cons_zero, List.set_cons_succ]
              refine wpQuiet_nil ?_
              intro X2_7
              have hb := X2_7.below
              generalize X2_7.at = V3 at *
              have B2 := Lib.hid hb
              clear hb
              go_wp2_with fail
              go_upto_region 21 with fail
              refine wp_later_lex (by kernel_rfl) (lexOK_of (by kernel_rfl) (by kernel_rfl)) ?_
              refine wpQuiet_val (by kernel_rfl) (.int .i64 (q : Int)) (fun v hv => rfl) ?_
              simp only [Act.put, List.setIfInBounds_toArray, List.set_cons_zero, List.set_cons_succ]
              refine wpQuiet_val (by kernel_rfl) (.slice (some ad2) i kb) (fun v hv => rfl) ?_
              simp only [Act.put, List.setIfInBounds_toArray, List.set_cons_zero, List.set_cons_succ]
              refine wpQuiet_val (by kernel_rfl) (.int .i64 (i : Int)) (fun v hv => (xo_len (some ad2) i kb Tryd.underlying48 rfl rfl)) ?_
              simp only [Act.put, List.setIfInBounds_toArray, List.set_cons_zero, List.set_cons_succ]
              refine wpQuiet_val (by kernel_rfl) (.bool false) (fun v hv => (xo_eqlF .i64 (q : Int) (i : Int) (by omega) rfl rfl rfl)) ?_
              simp only [Act.put, List.setIfInBounds_toArray, List.set_cons_zero, List.set_cons_succ]
              refine wpQuiet_val (by kernel_rfl) (.bool false) (fun v hv => rfl) ?_
              simp only [Act.put, List.setIfInBounds_toArray, List.set_cons_zero, List.set_cons_succ]
              refine wpQuiet_val (by kernel_rfl) (.slice (some ad2) i kb) (fun v hv => rfl) ?_
              simp only [Act.put, List.setIfInBounds_toArray, List.set_cons_zero, List.set_cons_succ]
              refine wpQuiet_val (by kernel_rfl) (.int .i64 (q : Int)) (fun v hv => rfl) ?_
              simp only [Act.put, List.setIfInBounds_toArray, List.set_cons_zero, List.set_cons_succ]
              refine wpQuiet_val (by kernel_rfl) (.pointer (some (ad2.add q))) (fun v hv => (xo_index1 .i64 ad2 i kb q (by omega) Tryd.underlying48 (by kernel_rfl) rfl rfl rfl)) ?_
              simp only [Act.put, List.setIfInBounds_toArray, List.set_cons_zero, List.set_cons_succ]
              refine wpQuiet_val (by kernel_rfl) (.int .i64 (y : Int)) (fun v hv => (xo_load1 (ad2.add q) _ (cell_keep (cell_keep CY.out B2.out) (later_bel hv)) Tryd.underlying3 rfl rfl rfl)) ?_
              simp only [Act.put, List.setIfInBounds_toArray, List.set_cons_zero, List.set_cons_succ]
              refine wpQuiet_val (by kernel_rfl) (.slice (some ad) a ka) (fun v hv => rfl) ?_
              simp only [Act.put, List.setIfInBounds_toArray, List.set_cons_zero, List.set_cons_succ]
              refine wpQuiet_val (by kernel_rfl) (.int .i64 (j : Int)) (fun v hv => rfl) ?_
              simp only [Act.put, List.setIfInBounds_toArray, List.set_cons_zero, List.set_cons_succ]
              refine wpQuiet_val (by kernel_rfl) (.pointer (some (ad.add j))) (fun v hv => (xo_index1 .i64 ad a ka j (by omega) Tryd.underlying48 (by kernel_rfl) rfl rfl rfl)) ?_
              simp only [Act.put, List.setIfInBounds_toArray, List.set_cons_zero, List.set_cons_succ]
              have C1_3 := Lib.hid (bel_step B1.out B2.out)
              refine wpQuiet_val (by kernel_rfl) (.int .i64 (y : Int)) (fun v hv => (xo_load1 (ad.add j) _ (cell_keep (cell_keep CX.out C1_3.out) (later_bel hv)) Tryd.underlying3 rfl rfl rfl)) ?_
              simp only [Act.put, List.setIfInBounds_toArray, List.set_cons_zero, List.set_cons_succ]
              refine wpQuiet_val (by kernel_rfl) (.bool false) (fun v hv => (xo_neqF .i64 (y : Int) (y : Int) (by omega) rfl rfl rfl)) ?_
              simp only [Act.put, List.setIfInBounds_toArray, List.set_cons_zero, List.set_cons_succ]
              refine wpQuiet_val (by kernel_rfl) (.bool false) (fun v hv => rfl) ?_
              simp only [Act.put, List.setIfInBounds_toArray, List.set_cons_zero, List.set_cons_succ]
              refine wpQuiet_nil ?_
              intro X3_8
              have hb := X3_8.below
              generalize X3_8.at = V4 at *
              have B3 := Lib.hid hb
              clear hb
              go_wp2_with fail
              go_roundw
              have C0_3 := Lib.hid (bel_step C0_2.out B2.out)
              have C0_4 := Lib.hid (bel_step C0_3.out B3.out)
              case rel => exact ⟨q, j + 1, by omega, by omega, rfl, by go_num, fun p z hp hz => by
                              have hyz : y < z := by
                                obtain ⟨h1a, rfl⟩ := List.getElem?_eq_some_iff.1 hx
                                obtain ⟨h2a, rfl⟩ := List.getElem?_eq_some_iff.1 hz
                                exact List.pairwise_iff_getElem.1 HSa.out j (j + 1) h1a h2a (by omega)
                              refine Nat.le_of_not_lt fun hpk => ?_
                              obtain ⟨h1a, e1⟩ := List.getElem?_eq_some_iff.1 hp
                              obtain ⟨h2a, e2⟩ := List.getElem?_eq_some_iff.1 hy
                              have := List.pairwise_iff_getElem.1 HSb.out p q h1a h2a hpk
                              omega, C0_4.out⟩
              case measure => simp [intOf]; omega
        · obtain rfl : j = a := by omega
          have hj1 : ¬ (j : Int) < (j : Int) := by omega
          go_wp2_with fail
          go_ret
          exact ⟨rfl, bel_step HBX.out B0.out⟩
end Go.Proofs.YtcaoajeplinopaaDoor
