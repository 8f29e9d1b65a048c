/- A law of stage 10: IndicesMatchReference. -/
import Derived.Test.YtcaoajeplinopaaDoorH17
namespace Go.Proofs.YtcaoajeplinopaaDoor
set_option linter.unusedVariables false
set_option linter.unusedSimpArgs false
set_option maxRecDepth 8000
open Go.RowKit Gold
open Go.Shelf
attribute [local simp] z32_ne z32_run
attribute [-simp] Tryd.zeroValue30 Tryd.isAgg30 Tryd.sizeOf30
attribute [-simp] Tryd.zeroValue32 Tryd.isAgg32 Tryd.sizeOf32
attribute [local simp] z33_ne z33_run
attribute [local irreducible] wpList wpQuiet
set_option maxRecDepth 100000 in
set_option maxHeartbeats 16000000 in
theorem tIndicesMatchReference_any (ls : ByteArray) (A1 : Option Addr) (n1 c1 : Nat) (bs : List Nat) (A2 : Option Addr) (n2 c2 : Nat) (xs : List (Nat × Nat)) (A3 : Option Addr) (n3 c3 : Nat) (is : List Int) (A4 : Option Addr) (n4 c4 : Nat) (st : List Nat) (cnt : Nat) (L C : Int) (w : World)
    (hS1 : Sb w A1 n1 c1 bs) (hS2 : XbT w A2 n2 c2 xs) (hS3 : Ib w A3 n3 c3 is) (hS4 : Sb w A4 n4 c4 st) (hc : cnt < 18446744073709551616) (hG : Gl w) :
    Calls Tryd.prog 4 #[.agg #[.string ls, .slice A1 n1 c1, .slice A2 n2 c2, .slice A3 n3 c3, .slice A4 n4 c4, .int .u64 (cnt : Int)], .agg #[.int .i64 L, .int .i64 C]] w fun e w' => e = .returned (.bool true) ∧ Below w.heap.size w w' := by
  obtain ⟨s, hs⟩ : ∃ s, madeN st = s := ⟨_, rfl⟩
  have HDs := Lib.hid (show s.length = 32 ∧ ∀ x ∈ s, x < 256 by rw [← hs]; exact ⟨madeN_length _, madeN_lt hS4.byte⟩)
  have HSM := Lib.hid hs
  have hcap1 := hS1.cap
  have hlen1 := hS1.len
  have hcap2 := hS2.cap
  have hlen2 := hS2.len
  have hcap3 := hS3.cap
  have hlen3 := hS3.len
  have HL1 := Lib.hid hlen1
  have HL2 := Lib.hid hlen2
  have HL3 := Lib.hid hlen3
  have HS1 := Lib.hid hS1
  have HS2 := Lib.hid hS2
  have HS3 := Lib.hid hS3
  have HS4 := Lib.hid hS4
  clear hs hS1 hS2 hS3 hS4 hlen1 hlen2 hlen3
  have HG := Lib.hid hG
  clear hG
  go_enter Tryd.func4, Tryd.ntmps4
  go_upto_region 1 with fail
  refine wp_named2 (fun V1 hb g0 g1 hlt => ?_)
  have B0 := Lib.hid hb
  have Fv0_2 : Hid (V1.heap[w.heap.size]? = some (.cells #[.string ls, .slice A1 n1 c1, .slice A2 n2 c2, .slice A3 n3 c3, .slice A4 n4 c4, .int .u64 (cnt : Int)] 27 (0, 0))) := Lib.hid (g0)
  have Fv1_3 : Hid (V1.heap[(w.heap.size + 1)]? = some (.cells #[.int .i64 L, .int .i64 C] 47 (0, 0))) := Lib.hid (g1)
  have Nb0_1 : Hid (w.heap.size ≠ (w.heap.size + 1)) := Lib.hid (by omega)
  have Gb0 : Hid (w.heap.size ≤ w.heap.size) := Lib.hid (by omega)
  have Gb1 : Hid (w.heap.size ≤ (w.heap.size + 1)) := Lib.hid (by omega)
  clear hb g0 g1 hlt
  refine wp_region_lit ?_
  refine wpList_call (by kernel_rfl) 11 Tryd.func11 (by kernel_rfl) (by kernel_rfl) _ _ #[] rfl (by kernel_rfl) ?_
  refine (sanity10_any V1 (HG.out.keep B0.out)).mono ?_
  rintro e V2 ⟨rfl, hb⟩
  have B1 := Lib.hid hb
  clear hb 
  refine ⟨_, rfl, ?_⟩
  simp only [Act.put, List.setIfInBounds_toArray, List.set_cons_zero, List.set_cons_succ]
  refine wpList_run (by kernel_rfl) (.bool true) V2 rfl ?_
  simp only [Act.put, List.setIfInBounds_toArray, List.set_cons_zero, List.set_cons_succ]
  refine wpList_nil ?_
  go_upto_region 2 with fail
  refine wp_region_lit ?_
  refine wpList_run (by kernel_rfl) (.agg #[.string ls, .slice A1 n1 c1, .slice A2 n2 c2, .slice A3 n3 c3, .slice A4 n4 c4, .int .u64 (cnt : Int)]) V2 (xo_loadW w.heap.size _ (heap_keep Fv0_2.out B1.out) Tryd.underlying27 rfl (by kernel_rfl) rfl rfl) ?_
  simp only [Act.put, List.setIfInBounds_toArray, List.set_cons_zero, List.set_cons_succ]
  have C0_2 := Lib.hid (bel_step B0.out B1.out)
  refine wpList_call (by kernel_rfl) 12 Tryd.func12 (by kernel_rfl) (by kernel_rfl) _ _ #[.agg #[.string ls, .slice A1 n1 c1, .slice A2 n2 c2, .slice A3 n3 c3, .slice A4 n4 c4, .int .u64 (cnt : Int)]] rfl (by kernel_rfl) ?_
  refine (made10_any ls A1 n1 c1 bs A2 n2 c2 xs A3 n3 c3 is A4 n4 c4 st cnt V2 (HS1.out.keep C0_2.out) (HS2.out.keep C0_2.out) (HS3.out.keep C0_2.out) (HS4.out.keep C0_2.out) hc s HSM.out).mono ?_
  rintro e V3 ⟨lb, v, rfl, hlb, hox, hb⟩
  have B2 := Lib.hid hb
  obtain ⟨A5, c5, rfl, hxb⟩ := hox.xb redX_lt
  have HY := Lib.hid hxb
  clear hb hxb
  refine ⟨_, rfl, ?_⟩
  simp only [Act.put, List.setIfInBounds_toArray, List.set_cons_zero, List.set_cons_succ]
  refine wpList_run (by kernel_rfl) (.tuple #[.agg (trC s cnt), .string lb, .agg #[.string ByteArray.empty, .slice A1 (min n1 200) c1, .slice A5 (min n2 12) c5, .slice A3 (min n3 12) c3, .slice none 0 0, .int .u64 0]]) V3 rfl ?_
  simp only [Act.put, List.setIfInBounds_toArray, List.set_cons_zero, List.set_cons_succ]
  refine wpList_run (by kernel_rfl) (.agg (trC s cnt)) V3 rfl ?_
  simp only [Act.put, List.setIfInBounds_toArray, List.set_cons_zero, List.set_cons_succ]
  refine wpList_run (by kernel_rfl) (.string lb) V3 rfl ?_
  simp only [Act.put, List.setIfInBounds_toArray, List.set_cons_zero, List.set_cons_succ]
  refine wpList_run (by kernel_rfl) (.agg #[.string ByteArray.empty, .slice A1 (min n1 200) c1, .slice A5 (min n2 12) c5, .slice A3 (min n3 12) c3, .slice none 0 0, .int .u64 0]) V3 rfl ?_
  simp only [Act.put, List.setIfInBounds_toArray, List.set_cons_zero, List.set_cons_succ]
  refine wpList_new z33 32 (by kernel_rfl) (exec_allocT V3 rfl) ?_
  intro b6 V4 hge h0 hb
  have C1_3 := Lib.hid (bel_step B1.out B2.out)
  have N6_0 : Hid (w.heap.size ≠ b6) := Lib.hid (xp_lt0 (heap_keep Fv0_2.out C1_3.out) hge)
  have N6_1 : Hid ((w.heap.size + 1) ≠ b6) := Lib.hid (xp_lt0 (heap_keep Fv1_3.out C1_3.out) hge)
  have Ge6 : Hid (V3.heap.size ≤ b6) := Lib.hid hge
  have B3 := Lib.hid hb
  have Fv2_6 : Hid (RowT V4 b6 (List.replicate 32 0) 0) := Lib.hid (h0)
  clear hge h0 hb
  simp only [ptr, Act.put, List.setIfInBounds_toArray, List.set_cons_zero, List.set_cons_succ]
  refine wpList_new #[.string ByteArray.empty, .slice none 0 0, .slice none 0 0, .slice none 0 0, .slice none 0 0, .int .u64 0] 27 (by kernel_rfl) (exec_allocN rfl V4) ?_
  intro b8 V5 hge h0 hb
  have C1_4 := Lib.hid (bel_step C1_3.out B3.out)
  have N8_0 : Hid (w.heap.size ≠ b8) := Lib.hid (xp_lt0 (heap_keep Fv0_2.out C1_4.out) hge)
  have N8_1 : Hid ((w.heap.size + 1) ≠ b8) := Lib.hid (xp_lt0 (heap_keep Fv1_3.out C1_4.out) hge)
  have N8_2 : Hid (b6 ≠ b8) := Lib.hid (xp_lt0 Fv2_6.out hge)
  have Ge8 : Hid (V4.heap.size ≤ b8) := Lib.hid hge
  have B4 := Lib.hid hb
  have Fv3_8 : Hid (V5.heap[b8]? = some (.cells #[.string ByteArray.empty, .slice none 0 0, .slice none 0 0, .slice none 0 0, .slice none 0 0, .int .u64 0] 27 (0, 0))) := Lib.hid (h0)
  clear hge h0 hb
  simp only [ptr, Act.put, List.setIfInBounds_toArray, List.set_cons_zero, List.set_cons_succ]
  refine wpList_storeW b6 (trC (List.replicate 32 0) 0) (trC s cnt) 32 (by kernel_rfl) (Fv2_6.out.keep B4.out) (exec_storeT b6 (List.replicate 32 0) 0 s cnt List.length_replicate HDs.out.1 (Fv2_6.out.keep B4.out) rfl rfl rfl) ?_
  intro X5_0 h1 hfar hbel hsz
  have YFv3_8 : X5_0.heap[b8]? = some (.cells #[.string ByteArray.empty, .slice none 0 0, .slice none 0 0, .slice none 0 0, .slice none 0 0, .int .u64 0] 27 (0, 0)) := hfar _ _ (Ne.symm N8_2.out) Fv3_8.out
  have Gs1 : Hid (V3.heap.size ≤ b8) := Lib.hid (Nat.le_trans B3.out.size Ge8.out)
  have C3_5 := Lib.hid (bel_step B3.out B4.out)
  have hbr := hbel _ _ Ge6.out C3_5.out
  clear B3
  have B3 := Lib.hid hbr
  clear hbr
  clear Fv3_8
  have Fv3_8 : Hid (X5_0.heap[b8]? = some (.cells #[.string ByteArray.empty, .slice none 0 0, .slice none 0 0, .slice none 0 0, .slice none 0 0, .int .u64 0] 27 (0, 0))) := Lib.hid YFv3_8
  clear YFv3_8
  clear Fv2_6
  have Fv2_6 : Hid (RowT X5_0 b6 s cnt) := Lib.hid (h1)
  have HszX5_0 := Lib.hid hsz
  clear h1 hfar hbel hsz
  simp only [ptr, Act.put, List.setIfInBounds_toArray, List.set_cons_zero, List.set_cons_succ]
  refine wpList_run (by kernel_rfl) (.string lb) X5_0 rfl ?_
  simp only [Act.put, List.setIfInBounds_toArray, List.set_cons_zero, List.set_cons_succ]
  refine wpList_storeW b8 #[.string ByteArray.empty, .slice none 0 0, .slice none 0 0, .slice none 0 0, .slice none 0 0, .int .u64 0] #[.string ByteArray.empty, .slice A1 (min n1 200) c1, .slice A5 (min n2 12) c5, .slice A3 (min n3 12) c3, .slice none 0 0, .int .u64 0] 27 (by kernel_rfl) Fv3_8.out (xo_storeW b8 #[.string ByteArray.empty, .slice none 0 0, .slice none 0 0, .slice none 0 0, .slice none 0 0, .int .u64 0] #[.string ByteArray.empty, .slice A1 (min n1 200) c1, .slice A5 (min n2 12) c5, .slice A3 (min n3 12) c3, .slice none 0 0, .int .u64 0] Fv3_8.out (by kernel_rfl) rfl (by simp [Value.oneCell']) rfl rfl rfl) ?_
  intro X4_2 h1 hfar hbel hsz
  have YFv2_6 : RowT X4_2 b6 s cnt := hfar _ _ N8_2.out Fv2_6.out
  have hbr := hbel _ _ Gs1.out B3.out
  clear B3
  have B3 := Lib.hid hbr
  clear hbr
  clear Fv2_6
  have Fv2_6 : Hid (RowT X4_2 b6 s cnt) := Lib.hid YFv2_6
  clear YFv2_6
  clear Fv3_8
  have Fv3_8 : Hid (X4_2.heap[b8]? = some (.cells #[.string ByteArray.empty, .slice A1 (min n1 200) c1, .slice A5 (min n2 12) c5, .slice A3 (min n3 12) c3, .slice none 0 0, .int .u64 0] 27 (0, 0))) := Lib.hid (h1)
  have HszX4_2 := Lib.hid hsz
  clear h1 hfar hbel hsz
  simp only [ptr, Act.put, List.setIfInBounds_toArray, List.set_cons_zero, List.set_cons_succ]
  refine wpList_nil ?_
  by_cases hp : PossT L C
  · unfold PossT at hp
    obtain ⟨l, rfl⟩ : ∃ l : Nat, L = (l : Int) := ⟨L.toNat, by omega⟩
    obtain ⟨n, rfl⟩ : ∃ n : Nat, C = (n : Int) := ⟨C.toNat, by omega⟩
    obtain ⟨f, hf⟩ : ∃ f, cdF s lb cnt l = f := ⟨_, rfl⟩
    obtain ⟨R, hR⟩ : ∃ R, pickT f n l 16384 = R := ⟨_, rfl⟩
    obtain ⟨ci, hci⟩ : ∃ c, lastC cnt (stopT f n 16384) = c := ⟨_, rfl⟩
    have HF := Lib.hid hf
    have HR := Lib.hid hR
    have HCI := Lib.hid hci
    clear hf hR hci
    go_upto_region 3 with fail
    refine wp_region_lit ?_
    refine wpList_run (by kernel_rfl) (.agg (trC s cnt)) X4_2 (exec_loadT b6 s cnt HDs.out.1 Fv2_6.out rfl rfl) ?_
    simp only [Act.put, List.setIfInBounds_toArray, List.set_cons_zero, List.set_cons_succ]
    refine wpList_run (by kernel_rfl) (.string lb) X4_2 rfl ?_
    simp only [Act.put, List.setIfInBounds_toArray, List.set_cons_zero, List.set_cons_succ]
    have C1_4 := Lib.hid (bel_step C1_3.out B3.out)
    refine wpList_run (by kernel_rfl) (.agg #[.int .i64 (l : Int), .int .i64 (n : Int)]) X4_2 (xo_loadW (w.heap.size + 1) _ (heap_keep Fv1_3.out C1_4.out) Tryd.underlying47 rfl (by kernel_rfl) rfl rfl) ?_
    simp only [Act.put, List.setIfInBounds_toArray, List.set_cons_zero, List.set_cons_succ]
    have C0_3 := Lib.hid (bel_step C0_2.out B2.out)
    have C0_4 := Lib.hid (bel_step C0_3.out B3.out)
    refine wpList_call (by kernel_rfl) 26 Tryd.func26 (by kernel_rfl) (by kernel_rfl) _ _ #[.agg (trC s cnt), .string lb, .agg #[.int .i64 (l : Int), .int .i64 (n : Int)]] rfl (by kernel_rfl) ?_
    refine (indices_all s cnt lb l n HDs.out.1 HDs.out.2 (by omega) (by omega) (by omega) (by omega) (by omega) (by omega) X4_2 (HG.out.keep C0_4.out) f HF.out R HR.out ci HCI.out _ _ rfl rfl).mono ?_
    rintro e V5 ⟨LI, kI, rfl, ho, hb⟩
    have B4 := Lib.hid hb
    have HI := Lib.hid ho
    clear hb ho
    refine ⟨_, rfl, ?_⟩
    simp only [Act.put, List.setIfInBounds_toArray, List.set_cons_zero, List.set_cons_succ]
    refine wpList_run (by kernel_rfl) (.tuple #[.agg (trC s ci), .slice LI n kI]) V5 rfl ?_
    simp only [Act.put, List.setIfInBounds_toArray, List.set_cons_zero, List.set_cons_succ]
    refine wpList_run (by kernel_rfl) (.agg (trC s ci)) V5 rfl ?_
    simp only [Act.put, List.setIfInBounds_toArray, List.set_cons_zero, List.set_cons_succ]
    refine wpList_run (by kernel_rfl) (.slice LI n kI) V5 rfl ?_
    simp only [Act.put, List.setIfInBounds_toArray, List.set_cons_zero, List.set_cons_succ]
    refine wpList_new z33 32 (by kernel_rfl) (exec_allocT V5 rfl) ?_
    intro b9 V6 hge h0 hb
    have C1_5 := Lib.hid (bel_step C1_4.out B4.out)
    have N9_0 : Hid (w.heap.size ≠ b9) := Lib.hid (xp_lt0 (heap_keep Fv0_2.out C1_5.out) hge)
    have N9_1 : Hid ((w.heap.size + 1) ≠ b9) := Lib.hid (xp_lt0 (heap_keep Fv1_3.out C1_5.out) hge)
    have N9_2 : Hid (b6 ≠ b9) := Lib.hid (xp_lt0 (Fv2_6.out.keep B4.out) hge)
    have N9_3 : Hid (b8 ≠ b9) := Lib.hid (xp_lt0 (heap_keep Fv3_8.out B4.out) hge)
    have Ge9 : Hid (V5.heap.size ≤ b9) := Lib.hid hge
    have B5 := Lib.hid hb
    have Fv4_9 : Hid (RowT V6 b9 (List.replicate 32 0) 0) := Lib.hid (h0)
    clear hge h0 hb
    simp only [ptr, Act.put, List.setIfInBounds_toArray, List.set_cons_zero, List.set_cons_succ]
    refine wpList_storeW b9 (trC (List.replicate 32 0) 0) (trC s ci) 32 (by kernel_rfl) Fv4_9.out (exec_storeT b9 (List.replicate 32 0) 0 s ci List.length_replicate HDs.out.1 Fv4_9.out rfl rfl rfl) ?_
    intro X6_3 h1 hfar hbel hsz
    have hbr := hbel _ _ Ge9.out B5.out
    clear B5
    have B5 := Lib.hid hbr
    clear hbr
    clear Fv4_9
    have Fv4_9 : Hid (RowT X6_3 b9 s ci) := Lib.hid (h1)
    have HszX6_3 := Lib.hid hsz
    clear h1 hfar hbel hsz
    simp only [ptr, Act.put, List.setIfInBounds_toArray, List.set_cons_zero, List.set_cons_succ]
    refine wpList_run (by kernel_rfl) (.slice LI n kI) X6_3 rfl ?_
    simp only [Act.put, List.setIfInBounds_toArray, List.set_cons_zero, List.set_cons_succ]
    refine wpList_nil ?_
    go_upto_region 4 with fail
    refine wp_region_lit ?_
    have C4_6 := Lib.hid (bel_step B4.out B5.out)
    refine wpList_run (by kernel_rfl) (.agg (trC s cnt)) X6_3 (exec_loadT b6 s cnt HDs.out.1 (Fv2_6.out.keep C4_6.out) rfl rfl) ?_
    simp only [Act.put, List.setIfInBounds_toArray, List.set_cons_zero, List.set_cons_succ]
    refine wpList_run (by kernel_rfl) (.string lb) X6_3 rfl ?_
    simp only [Act.put, List.setIfInBounds_toArray, List.set_cons_zero, List.set_cons_succ]
    have C1_6 := Lib.hid (bel_step C1_5.out B5.out)
    refine wpList_run (by kernel_rfl) (.agg #[.int .i64 (l : Int), .int .i64 (n : Int)]) X6_3 (xo_loadW (w.heap.size + 1) _ (heap_keep Fv1_3.out C1_6.out) Tryd.underlying47 rfl (by kernel_rfl) rfl rfl) ?_
    simp only [Act.put, List.setIfInBounds_toArray, List.set_cons_zero, List.set_cons_succ]
    refine wpList_call (by kernel_rfl) 27 Tryd.func27 (by kernel_rfl) (by kernel_rfl) _ _ #[.agg (trC s cnt), .string lb, .agg #[.int .i64 (l : Int), .int .i64 (n : Int)]] rfl (by kernel_rfl) ?_
    refine (rindices_yes s cnt lb l n HDs.out.1 HDs.out.2 (by omega) (by omega) (by omega) (by omega) (by omega) (by omega) X6_3 f HF.out R HR.out ci HCI.out).mono ?_
    rintro e V7 ⟨LJ, kJ, rfl, ho, hb⟩
    have B6 := Lib.hid hb
    have HJ := Lib.hid ho
    clear hb ho
    refine ⟨_, rfl, ?_⟩
    simp only [Act.put, List.setIfInBounds_toArray, List.set_cons_zero, List.set_cons_succ]
    refine wpList_run (by kernel_rfl) (.tuple #[.agg (trC s ci), .slice LJ n kJ]) V7 rfl ?_
    simp only [Act.put, List.setIfInBounds_toArray, List.set_cons_zero, List.set_cons_succ]
    refine wpList_run (by kernel_rfl) (.agg (trC s ci)) V7 rfl ?_
    simp only [Act.put, List.setIfInBounds_toArray, List.set_cons_zero, List.set_cons_succ]
    refine wpList_run (by kernel_rfl) (.slice LJ n kJ) V7 rfl ?_
    simp only [Act.put, List.setIfInBounds_toArray, List.set_cons_zero, List.set_cons_succ]
    refine wpList_new z33 32 (by kernel_rfl) (exec_allocT V7 rfl) ?_
    intro b11 V8 hge h0 hb
    have C1_7 := Lib.hid (bel_step C1_6.out B6.out)
    have N11_0 : Hid (w.heap.size ≠ b11) := Lib.hid (xp_lt0 (heap_keep Fv0_2.out C1_7.out) hge)
    have N11_1 : Hid ((w.heap.size + 1) ≠ b11) := Lib.hid (xp_lt0 (heap_keep Fv1_3.out C1_7.out) hge)
    have C4_7 := Lib.hid (bel_step C4_6.out B6.out)
    have N11_2 : Hid (b6 ≠ b11) := Lib.hid (xp_lt0 (Fv2_6.out.keep C4_7.out) hge)
    have N11_3 : Hid (b8 ≠ b11) := Lib.hid (xp_lt0 (heap_keep Fv3_8.out C4_7.out) hge)
    have N11_4 : Hid (b9 ≠ b11) := Lib.hid (xp_lt0 (Fv4_9.out.keep B6.out) hge)
    have Ge11 : Hid (V7.heap.size ≤ b11) := Lib.hid hge
    have B7 := Lib.hid hb
    have Fv5_11 : Hid (RowT V8 b11 (List.replicate 32 0) 0) := Lib.hid (h0)
    clear hge h0 hb
    simp only [ptr, Act.put, List.setIfInBounds_toArray, List.set_cons_zero, List.set_cons_succ]
    refine wpList_storeW b11 (trC (List.replicate 32 0) 0) (trC s ci) 32 (by kernel_rfl) Fv5_11.out (exec_storeT b11 (List.replicate 32 0) 0 s ci List.length_replicate HDs.out.1 Fv5_11.out rfl rfl rfl) ?_
    intro X8_4 h1 hfar hbel hsz
    have hbr := hbel _ _ Ge11.out B7.out
    clear B7
    have B7 := Lib.hid hbr
    clear hbr
    clear Fv5_11
    have Fv5_11 : Hid (RowT X8_4 b11 s ci) := Lib.hid (h1)
    have HszX8_4 := Lib.hid hsz
    clear h1 hfar hbel hsz
    simp only [ptr, Act.put, List.setIfInBounds_toArray, List.set_cons_zero, List.set_cons_succ]
    refine wpList_run (by kernel_rfl) (.slice LJ n kJ) X8_4 rfl ?_
    simp only [Act.put, List.setIfInBounds_toArray, List.set_cons_zero, List.set_cons_succ]
    refine wpList_nil ?_
    go_upto_region 5 with fail
    refine wp_region_lit ?_
    have C6_8 := Lib.hid (bel_step B6.out B7.out)
    refine wpList_run (by kernel_rfl) (.agg (trC s ci)) X8_4 (exec_loadT b9 s ci HDs.out.1 (Fv4_9.out.keep C6_8.out) rfl rfl) ?_
    simp only [Act.put, List.setIfInBounds_toArray, List.set_cons_zero, List.set_cons_succ]
    refine wpList_run (by kernel_rfl) (.agg (trC s ci)) X8_4 (exec_loadT b11 s ci HDs.out.1 Fv5_11.out rfl rfl) ?_
    simp only [Act.put, List.setIfInBounds_toArray, List.set_cons_zero, List.set_cons_succ]
    refine wpList_run (by kernel_rfl) (.bool true) X8_4 (exec_eqTr s ci HDs.out.1 HDs.out.2 rfl rfl rfl X8_4) ?_
    simp only [Act.put, List.setIfInBounds_toArray, List.set_cons_zero, List.set_cons_succ]
    refine wpList_run (by kernel_rfl) (.bool true) X8_4 rfl ?_
    simp only [Act.put, List.setIfInBounds_toArray, List.set_cons_zero, List.set_cons_succ]
    refine wpList_run (by kernel_rfl) (.slice LI n kI) X8_4 rfl ?_
    simp only [Act.put, List.setIfInBounds_toArray, List.set_cons_zero, List.set_cons_succ]
    refine wpList_run (by kernel_rfl) (.slice LJ n kJ) X8_4 rfl ?_
    simp only [Act.put, List.setIfInBounds_toArray, List.set_cons_zero, List.set_cons_succ]
    have C5_7 := Lib.hid (bel_step B5.out B6.out)
    have C5_8 := Lib.hid (bel_step C5_7.out B7.out)
    refine wpList_call (by kernel_rfl) 28 Tryd.func28 (by kernel_rfl) (by kernel_rfl) _ _ #[.slice LI n kI, .slice LJ n kJ] rfl (by kernel_rfl) ?_
    refine (rsameInts_yes LI n kI LJ n kJ (R.map fun x : Nat => (x : Int)) X8_4 (HI.out.keep C5_8.out) (HJ.out.keep B7.out)).mono ?_
    rintro e V9 ⟨rfl, hb⟩
    have B8 := Lib.hid hb
    clear hb 
    refine ⟨_, rfl, ?_⟩
    simp only [Act.put, List.setIfInBounds_toArray, List.set_cons_zero, List.set_cons_succ]
    refine wpList_run (by kernel_rfl) (.bool true) V9 rfl ?_
    simp only [Act.put, List.setIfInBounds_toArray, List.set_cons_zero, List.set_cons_succ]
    refine wpList_run (by kernel_rfl) (.bool true) V9 rfl ?_
    simp only [Act.put, List.setIfInBounds_toArray, List.set_cons_zero, List.set_cons_succ]
    refine wpList_run (by kernel_rfl) (.bool true) V9 rfl ?_
    simp only [Act.put, List.setIfInBounds_toArray, List.set_cons_zero, List.set_cons_succ]
    refine wpList_run (by kernel_rfl) (.bool true) V9 rfl ?_
    simp only [Act.put, List.setIfInBounds_toArray, List.set_cons_zero, List.set_cons_succ]
    refine wpList_run (by kernel_rfl) (.bool true) V9 rfl ?_
    simp only [Act.put, List.setIfInBounds_toArray, List.set_cons_zero, List.set_cons_succ]
    refine wpList_nil ?_
    go_wp2_with fail
    go_ret
    have C0_5 := Lib.hid (bel_step C0_4.out B4.out)
    have C0_6 := Lib.hid (bel_step C0_5.out B5.out)
    have C0_7 := Lib.hid (bel_step C0_6.out B6.out)
    have C0_8 := Lib.hid (bel_step C0_7.out B7.out)
    have C0_9 := Lib.hid (bel_step C0_8.out B8.out)
    exact ⟨rfl, C0_9.out⟩
  · go_upto_region 3 with fail
    refine wp_region_lit ?_
    refine wpList_run (by kernel_rfl) (.agg (trC s cnt)) X4_2 (exec_loadT b6 s cnt HDs.out.1 Fv2_6.out rfl rfl) ?_
    simp only [Act.put, List.setIfInBounds_toArray, List.set_cons_zero, List.set_cons_succ]
    refine wpList_run (by kernel_rfl) (.string lb) X4_2 rfl ?_
    simp only [Act.put, List.setIfInBounds_toArray, List.set_cons_zero, List.set_cons_succ]
    have C1_4 := Lib.hid (bel_step C1_3.out B3.out)
    refine wpList_run (by kernel_rfl) (.agg #[.int .i64 L, .int .i64 C]) X4_2 (xo_loadW (w.heap.size + 1) _ (heap_keep Fv1_3.out C1_4.out) Tryd.underlying47 rfl (by kernel_rfl) rfl rfl) ?_
    simp only [Act.put, List.setIfInBounds_toArray, List.set_cons_zero, List.set_cons_succ]
    refine wpList_call (by kernel_rfl) 26 Tryd.func26 (by kernel_rfl) (by kernel_rfl) _ _ #[.agg (trC s cnt), .string lb, .agg #[.int .i64 L, .int .i64 C]] rfl (by kernel_rfl) ?_
    refine (indices_nil s cnt lb L C HDs.out.1 (.inl hp) X4_2).mono ?_
    rintro e V5 ⟨rfl, hb⟩
    have B4 := Lib.hid hb
    clear hb 
    refine ⟨_, rfl, ?_⟩
    simp only [Act.put, List.setIfInBounds_toArray, List.set_cons_zero, List.set_cons_succ]
    refine wpList_run (by kernel_rfl) (.tuple #[.agg (trC s cnt), .slice none 0 0]) V5 rfl ?_
    simp only [Act.put, List.setIfInBounds_toArray, List.set_cons_zero, List.set_cons_succ]
    refine wpList_run (by kernel_rfl) (.agg (trC s cnt)) V5 rfl ?_
    simp only [Act.put, List.setIfInBounds_toArray, List.set_cons_zero, List.set_cons_succ]
    refine wpList_run (by kernel_rfl) (.slice none 0 0) V5 rfl ?_
    simp only [Act.put, List.setIfInBounds_toArray, List.set_cons_zero, List.set_cons_succ]
    refine wpList_new z33 32 (by kernel_rfl) (exec_allocT V5 rfl) ?_
    intro b9 V6 hge h0 hb
    have C1_5 := Lib.hid (bel_step C1_4.out B4.out)
    have N9_0 : Hid (w.heap.size ≠ b9) := Lib.hid (xp_lt0 (heap_keep Fv0_2.out C1_5.out) hge)
    have N9_1 : Hid ((w.heap.size + 1) ≠ b9) := Lib.hid (xp_lt0 (heap_keep Fv1_3.out C1_5.out) hge)
    have N9_2 : Hid (b6 ≠ b9) := Lib.hid (xp_lt0 (Fv2_6.out.keep B4.out) hge)
    have N9_3 : Hid (b8 ≠ b9) := Lib.hid (xp_lt0 (heap_keep Fv3_8.out B4.out) hge)
    have Ge9 : Hid (V5.heap.size ≤ b9) := Lib.hid hge
    have B5 := Lib.hid hb
    have Fv4_9 : Hid (RowT V6 b9 (List.replicate 32 0) 0) := Lib.hid (h0)
    clear hge h0 hb
    simp only [ptr, Act.put, List.setIfInBounds_toArray, List.set_cons_zero, List.set_cons_succ]
    refine wpList_storeW b9 (trC (List.replicate 32 0) 0) (trC s cnt) 32 (by kernel_rfl) Fv4_9.out (exec_storeT b9 (List.replicate 32 0) 0 s cnt List.length_replicate HDs.out.1 Fv4_9.out rfl rfl rfl) ?_
    intro X6_3 h1 hfar hbel hsz
    have hbr := hbel _ _ Ge9.out B5.out
    clear B5
    have B5 := Lib.hid hbr
    clear hbr
    clear Fv4_9
    have Fv4_9 : Hid (RowT X6_3 b9 s cnt) := Lib.hid (h1)
    have HszX6_3 := Lib.hid hsz
    clear h1 hfar hbel hsz
    simp only [ptr, Act.put, List.setIfInBounds_toArray, List.set_cons_zero, List.set_cons_succ]
    refine wpList_run (by kernel_rfl) (.slice none 0 0) X6_3 rfl ?_
    simp only [Act.put, List.setIfInBounds_toArray, List.set_cons_zero, List.set_cons_succ]
    refine wpList_nil ?_
    go_upto_region 4 with fail
    refine wp_region_lit ?_
    have C4_6 := Lib.hid (bel_step B4.out B5.out)
    refine wpList_run (by kernel_rfl) (.agg (trC s cnt)) X6_3 (exec_loadT b6 s cnt HDs.out.1 (Fv2_6.out.keep C4_6.out) rfl rfl) ?_
    simp only [Act.put, List.setIfInBounds_toArray, List.set_cons_zero, List.set_cons_succ]
    refine wpList_run (by kernel_rfl) (.string lb) X6_3 rfl ?_
    simp only [Act.put, List.setIfInBounds_toArray, List.set_cons_zero, List.set_cons_succ]
    have C1_6 := Lib.hid (bel_step C1_5.out B5.out)
    refine wpList_run (by kernel_rfl) (.agg #[.int .i64 L, .int .i64 C]) X6_3 (xo_loadW (w.heap.size + 1) _ (heap_keep Fv1_3.out C1_6.out) Tryd.underlying47 rfl (by kernel_rfl) rfl rfl) ?_
    simp only [Act.put, List.setIfInBounds_toArray, List.set_cons_zero, List.set_cons_succ]
    refine wpList_call (by kernel_rfl) 27 Tryd.func27 (by kernel_rfl) (by kernel_rfl) _ _ #[.agg (trC s cnt), .string lb, .agg #[.int .i64 L, .int .i64 C]] rfl (by kernel_rfl) ?_
    refine (rindices_no s cnt lb L C HDs.out.1 HDs.out.2 hp X6_3).mono ?_
    rintro e V7 ⟨LJ, kJ, rfl, ho, hb⟩
    have B6 := Lib.hid hb
    have HJ := Lib.hid ho
    clear hb ho
    refine ⟨_, rfl, ?_⟩
    simp only [Act.put, List.setIfInBounds_toArray, List.set_cons_zero, List.set_cons_succ]
    refine wpList_run (by kernel_rfl) (.tuple #[.agg (trC s cnt), .slice LJ 0 kJ]) V7 rfl ?_
    simp only [Act.put, List.setIfInBounds_toArray, List.set_cons_zero, List.set_cons_succ]
    refine wpList_run (by kernel_rfl) (.agg (trC s cnt)) V7 rfl ?_
    simp only [Act.put, List.setIfInBounds_toArray, List.set_cons_zero, List.set_cons_succ]
    refine wpList_run (by kernel_rfl) (.slice LJ 0 kJ) V7 rfl ?_
    simp only [Act.put, List.setIfInBounds_toArray, List.set_cons_zero, List.set_cons_succ]
    refine wpList_new z33 32 (by kernel_rfl) (exec_allocT V7 rfl) ?_
    intro b11 V8 hge h0 hb
    have C1_7 := Lib.hid (bel_step C1_6.out B6.out)
    have N11_0 : Hid (w.heap.size ≠ b11) := Lib.hid (xp_lt0 (heap_keep Fv0_2.out C1_7.out) hge)
    have N11_1 : Hid ((w.heap.size + 1) ≠ b11) := Lib.hid (xp_lt0 (heap_keep Fv1_3.out C1_7.out) hge)
    have C4_7 := Lib.hid (bel_step C4_6.out B6.out)
    have N11_2 : Hid (b6 ≠ b11) := Lib.hid (xp_lt0 (Fv2_6.out.keep C4_7.out) hge)
    have N11_3 : Hid (b8 ≠ b11) := Lib.hid (xp_lt0 (heap_keep Fv3_8.out C4_7.out) hge)
    have N11_4 : Hid (b9 ≠ b11) := Lib.hid (xp_lt0 (Fv4_9.out.keep B6.out) hge)
    have Ge11 : Hid (V7.heap.size ≤ b11) := Lib.hid hge
    have B7 := Lib.hid hb
    have Fv5_11 : Hid (RowT V8 b11 (List.replicate 32 0) 0) := Lib.hid (h0)
    clear hge h0 hb
    simp only [ptr, Act.put, List.setIfInBounds_toArray, List.set_cons_zero, List.set_cons_succ]
    refine wpList_storeW b11 (trC (List.replicate 32 0) 0) (trC s cnt) 32 (by kernel_rfl) Fv5_11.out (exec_storeT b11 (List.replicate 32 0) 0 s cnt List.length_replicate HDs.out.1 Fv5_11.out rfl rfl rfl) ?_
    intro X8_4 h1 hfar hbel hsz
    have hbr := hbel _ _ Ge11.out B7.out
    clear B7
    have B7 := Lib.hid hbr
    clear hbr
    clear Fv5_11
    have Fv5_11 : Hid (RowT X8_4 b11 s cnt) := Lib.hid (h1)
    have HszX8_4 := Lib.hid hsz
    clear h1 hfar hbel hsz
    simp only [ptr, Act.put, List.setIfInBounds_toArray, List.set_cons_zero, List.set_cons_succ]
    refine wpList_run (by kernel_rfl) (.slice LJ 0 kJ) X8_4 rfl ?_
    simp only [Act.put, List.setIfInBounds_toArray, List.set_cons_zero, List.set_cons_succ]
    refine wpList_nil ?_
    go_upto_region 5 with fail
    refine wp_region_lit ?_
    have C6_8 := Lib.hid (bel_step B6.out B7.out)
    refine wpList_run (by kernel_rfl) (.agg (trC s cnt)) X8_4 (exec_loadT b9 s cnt HDs.out.1 (Fv4_9.out.keep C6_8.out) rfl rfl) ?_
    simp only [Act.put, List.setIfInBounds_toArray, List.set_cons_zero, List.set_cons_succ]
    refine wpList_run (by kernel_rfl) (.agg (trC s cnt)) X8_4 (exec_loadT b11 s cnt HDs.out.1 Fv5_11.out rfl rfl) ?_
    simp only [Act.put, List.setIfInBounds_toArray, List.set_cons_zero, List.set_cons_succ]
    refine wpList_run (by kernel_rfl) (.bool true) X8_4 (exec_eqTr s cnt HDs.out.1 HDs.out.2 rfl rfl rfl X8_4) ?_
    simp only [Act.put, List.setIfInBounds_toArray, List.set_cons_zero, List.set_cons_succ]
    refine wpList_run (by kernel_rfl) (.bool true) X8_4 rfl ?_
    simp only [Act.put, List.setIfInBounds_toArray, List.set_cons_zero, List.set_cons_succ]
    refine wpList_run (by kernel_rfl) (.slice none 0 0) X8_4 rfl ?_
    simp only [Act.put, List.setIfInBounds_toArray, List.set_cons_zero, List.set_cons_succ]
    refine wpList_run (by kernel_rfl) (.slice LJ 0 kJ) X8_4 rfl ?_
    simp only [Act.put, List.setIfInBounds_toArray, List.set_cons_zero, List.set_cons_succ]
    refine wpList_call (by kernel_rfl) 28 Tryd.func28 (by kernel_rfl) (by kernel_rfl) _ _ #[.slice none 0 0, .slice LJ 0 kJ] rfl (by kernel_rfl) ?_
    refine (rsameInts_yes none 0 0 LJ 0 kJ [] X8_4 (Ib.none_ X8_4) (HJ.out.keep B7.out)).mono ?_
    rintro e V9 ⟨rfl, hb⟩
    have B8 := Lib.hid hb
    clear hb 
    refine ⟨_, rfl, ?_⟩
    simp only [Act.put, List.setIfInBounds_toArray, List.set_cons_zero, List.set_cons_succ]
    refine wpList_run (by kernel_rfl) (.bool true) V9 rfl ?_
    simp only [Act.put, List.setIfInBounds_toArray, List.set_cons_zero, List.set_cons_succ]
    refine wpList_run (by kernel_rfl) (.bool true) V9 rfl ?_
    simp only [Act.put, List.setIfInBounds_toArray, List.set_cons_zero, List.set_cons_succ]
    refine wpList_run (by kernel_rfl) (.bool true) V9 rfl ?_
    simp only [Act.put, List.setIfInBounds_toArray, List.set_cons_zero, List.set_cons_succ]
    refine wpList_run (by kernel_rfl) (.bool true) V9 rfl ?_
    simp only [Act.put, List.setIfInBounds_toArray, List.set_cons_zero, List.set_cons_succ]
    refine wpList_run (by kernel_rfl) (.bool true) V9 rfl ?_
    simp only [Act.put, List.setIfInBounds_toArray, List.set_cons_zero, List.set_cons_succ]
    refine wpList_nil ?_
    go_wp2_with fail
    go_ret
    have C0_3 := Lib.hid (bel_step C0_2.out B2.out)
    have C0_4 := Lib.hid (bel_step C0_3.out B3.out)
    have C0_5 := Lib.hid (bel_step C0_4.out B4.out)
    have C0_6 := Lib.hid (bel_step C0_5.out B5.out)
    have C0_7 := Lib.hid (bel_step C0_6.out B6.out)
    have C0_8 := Lib.hid (bel_step C0_7.out B7.out)
    have C0_9 := Lib.hid (bel_step C0_8.out B8.out)
    exact ⟨rfl, C0_9.out⟩
end Go.Proofs.YtcaoajeplinopaaDoor
