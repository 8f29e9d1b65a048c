/- sanity of the laws of stage 7: the fixed examples. -/
import Derived.Test.YtliflbelhogopaaDoorShy
import Derived.Lib.SlBytesConst
namespace Go.Proofs.YtliflbelhogopaaDoor
set_option maxRecDepth 8000
open Go.RowKit
attribute [local simp] z32_ne z32_run
attribute [-simp] Tryd.zeroValue26 Tryd.isAgg26 Tryd.sizeOf26
theorem exs1 : hexN (shaN [97, 98, 99]) = [98, 97, 55, 56, 49, 54, 98, 102, 56, 102, 48, 49, 99, 102, 101, 97, 52, 49, 52, 49, 52, 48, 100, 101, 53, 100, 97, 101, 50, 50, 50, 51, 98, 48, 48, 51, 54, 49, 97, 51, 57, 54, 49, 55, 55, 97, 57, 99, 98, 52, 49, 48, 102, 102, 54, 49, 102, 50, 48, 48, 49, 53, 97, 100] := by kernel_rfl
theorem exS1 : ∃ R, shaN [97, 98, 99] = R ∧ R.length = 32 ∧ (∀ x ∈ R, x < 256) ∧ hexS R = ⟨#[98, 97, 55, 56, 49, 54, 98, 102, 56, 102, 48, 49, 99, 102, 101, 97, 52, 49, 52, 49, 52, 48, 100, 101, 53, 100, 97, 101, 50, 50, 50, 51, 98, 48, 48, 51, 54, 49, 97, 51, 57, 54, 49, 55, 55, 97, 57, 99, 98, 52, 49, 48, 102, 102, 54, 49, 102, 50, 48, 48, 49, 53, 97, 100]⟩ := ⟨_, rfl, shaN_length _, shaN_lt _, by unfold hexS; rw [exs1]; rfl⟩
theorem exs2 : hexN (shaN []) = [101, 51, 98, 48, 99, 52, 52, 50, 57, 56, 102, 99, 49, 99, 49, 52, 57, 97, 102, 98, 102, 52, 99, 56, 57, 57, 54, 102, 98, 57, 50, 52, 50, 55, 97, 101, 52, 49, 101, 52, 54, 52, 57, 98, 57, 51, 52, 99, 97, 52, 57, 53, 57, 57, 49, 98, 55, 56, 53, 50, 98, 56, 53, 53] := by kernel_rfl
theorem exS2 : ∃ R, shaN [] = R ∧ R.length = 32 ∧ (∀ x ∈ R, x < 256) ∧ hexS R = ⟨#[101, 51, 98, 48, 99, 52, 52, 50, 57, 56, 102, 99, 49, 99, 49, 52, 57, 97, 102, 98, 102, 52, 99, 56, 57, 57, 54, 102, 98, 57, 50, 52, 50, 55, 97, 101, 52, 49, 101, 52, 54, 52, 57, 98, 57, 51, 52, 99, 97, 52, 57, 53, 57, 57, 49, 98, 55, 56, 53, 50, 98, 56, 53, 53]⟩ := ⟨_, rfl, shaN_length _, shaN_lt _, by unfold hexS; rw [exs2]; rfl⟩
theorem exs3 : hexN (shaN (0 :: [])) = [54, 101, 51, 52, 48, 98, 57, 99, 102, 102, 98, 51, 55, 97, 57, 56, 57, 99, 97, 53, 52, 52, 101, 54, 98, 98, 55, 56, 48, 97, 50, 99, 55, 56, 57, 48, 49, 100, 51, 102, 98, 51, 51, 55, 51, 56, 55, 54, 56, 53, 49, 49, 97, 51, 48, 54, 49, 55, 97, 102, 97, 48, 49, 100] := by kernel_rfl
theorem exS3 : ∃ R, shaN (0 :: []) = R ∧ R.length = 32 ∧ (∀ x ∈ R, x < 256) ∧ hexS R = ⟨#[54, 101, 51, 52, 48, 98, 57, 99, 102, 102, 98, 51, 55, 97, 57, 56, 57, 99, 97, 53, 52, 52, 101, 54, 98, 98, 55, 56, 48, 97, 50, 99, 55, 56, 57, 48, 49, 100, 51, 102, 98, 51, 51, 55, 51, 56, 55, 54, 56, 53, 49, 49, 97, 51, 48, 54, 49, 55, 97, 102, 97, 48, 49, 100]⟩ := ⟨_, rfl, shaN_length _, shaN_lt _, by unfold hexS; rw [exs3]; rfl⟩
theorem exs4 : hexN (shaN (1 :: (List.replicate 32 0 ++ List.replicate 32 0))) = [97, 101, 48, 55, 57, 56, 100, 48, 101, 99, 97, 101, 100, 50, 98, 55, 55, 56, 101, 100, 100, 101, 98, 102, 49, 56, 102, 48, 55, 49, 97, 53, 54, 49, 99, 53, 51, 54, 53, 56, 99, 48, 53, 101, 55, 54, 99, 101, 100, 101, 99, 99, 50, 55, 99, 97, 102, 98, 100, 98, 99, 53, 55, 55] := by kernel_rfl
theorem exS4 : ∃ R, shaN (1 :: (List.replicate 32 0 ++ List.replicate 32 0)) = R ∧ R.length = 32 ∧ (∀ x ∈ R, x < 256) ∧ hexS R = ⟨#[97, 101, 48, 55, 57, 56, 100, 48, 101, 99, 97, 101, 100, 50, 98, 55, 55, 56, 101, 100, 100, 101, 98, 102, 49, 56, 102, 48, 55, 49, 97, 53, 54, 49, 99, 53, 51, 54, 53, 56, 99, 48, 53, 101, 55, 54, 99, 101, 100, 101, 99, 99, 50, 55, 99, 97, 102, 98, 100, 98, 99, 53, 55, 55]⟩ := ⟨_, rfl, shaN_length _, shaN_lt _, by unfold hexS; rw [exs4]; rfl⟩
theorem exs5 : hexN (hmacN (List.replicate 32 0) []) = [98, 54, 49, 51, 54, 55, 57, 97, 48, 56, 49, 52, 100, 57, 101, 99, 55, 55, 50, 102, 57, 53, 100, 55, 55, 56, 99, 51, 53, 102, 99, 53, 102, 102, 49, 54, 57, 55, 99, 52, 57, 51, 55, 49, 53, 54, 53, 51, 99, 54, 99, 55, 49, 50, 49, 52, 52, 50, 57, 50, 99, 53, 97, 100] := by kernel_rfl
theorem exS5 : ∃ R, hmacN (List.replicate 32 0) [] = R ∧ R.length = 32 ∧ (∀ x ∈ R, x < 256) ∧ hexS R = ⟨#[98, 54, 49, 51, 54, 55, 57, 97, 48, 56, 49, 52, 100, 57, 101, 99, 55, 55, 50, 102, 57, 53, 100, 55, 55, 56, 99, 51, 53, 102, 99, 53, 102, 102, 49, 54, 57, 55, 99, 52, 57, 51, 55, 49, 53, 54, 53, 51, 99, 54, 99, 55, 49, 50, 49, 52, 52, 50, 57, 50, 99, 53, 97, 100]⟩ := ⟨_, rfl, shaN_length _, shaN_lt _, by unfold hexS; rw [exs5]; rfl⟩
theorem rhex_as (x : List Nat) (s : ByteArray) (w : World) (hl : x.length = 32) (hb : ∀ z ∈ x, z < 256) (hs : hexS x = s) :
    Calls Tryd.prog 30 #[.agg (celB x).toArray] w fun e w' => e = .returned (.string s) ∧ Below w.heap.size w w' := by
  have := rhex_any x w hl hb
  rwa [hs] at this
theorem sb_cells {w : World} {t g : Nat} {bs : List Nat} {fr : Nat × Nat} (h : w.heap[g]? = some (.cells (celB bs).toArray t fr)) (hbt : ∀ x ∈ bs, x < 256) {n c : Nat} (hn : n = bs.length) (hc : n ≤ c) (ht : c ≤ 9223372036854775807) : Sb w (some ⟨g, 0, none⟩) n c bs :=
  ⟨hn, hc, ht, (fun e => by cases e), hbt, fun i z hz => ⟨_, rfl, by
    rw [ad_base]
    simpa [World.cell?, h] using celB_get hz⟩⟩
theorem rep_lt : ∀ x ∈ List.replicate 32 0, x < 256 := fun x hx => by rw [(List.mem_replicate.1 hx).2]; decide
set_option maxHeartbeats 4000000 in
theorem sanity7_any (w : World) (hG : Gl w) :
    Calls Tryd.prog 11 #[] w fun e w' => e = .returned (.bool true) ∧ Below w.heap.size w w' := by
  have HG := Lib.hid hG
  clear hG
  obtain ⟨R1, r1, l1, b1, s1⟩ := exS1
  have HR1 := Lib.hid r1
  have HE1 := Lib.hid s1
  have HL1 := Lib.hid l1
  have HBB1 := Lib.hid b1
  clear r1 s1 l1 b1
  obtain ⟨R2, r2, l2, b2, s2⟩ := exS2
  have HR2 := Lib.hid r2
  have HE2 := Lib.hid s2
  have HL2 := Lib.hid l2
  have HBB2 := Lib.hid b2
  clear r2 s2 l2 b2
  obtain ⟨R3, r3, l3, b3, s3⟩ := exS3
  have HR3 := Lib.hid r3
  have HE3 := Lib.hid s3
  have HL3 := Lib.hid l3
  have HBB3 := Lib.hid b3
  clear r3 s3 l3 b3
  obtain ⟨R4, r4, l4, b4, s4⟩ := exS4
  have HR4 := Lib.hid r4
  have HE4 := Lib.hid s4
  have HL4 := Lib.hid l4
  have HBB4 := Lib.hid b4
  clear r4 s4 l4 b4
  obtain ⟨R5, r5, l5, b5, s5⟩ := exS5
  have HR5 := Lib.hid r5
  have HE5 := Lib.hid s5
  have HL5 := Lib.hid l5
  have HBB5 := Lib.hid b5
  clear r5 s5 l5 b5
  go_enter Tryd.func11, Tryd.ntmps11
  obtain ⟨W3, hW3⟩ : ∃ W3, W3 = (w.alloc (.cells z32 26)).alloc (.cells z32 26) := ⟨_, rfl⟩
  have h5 : RowB W3 26 w.heap.size (List.replicate 32 0) := by rw [hW3]; exact heap_old _ (heap_new w _)
  have h6 : RowB W3 26 (w.heap.size + 1) (List.replicate 32 0) := by
    rw [hW3]
    have h := heap_new (w.alloc (.cells z32 26)) (.cells z32 26)
    rw [alloc_sz] at h
    exact h
  have hb3 : Below w.heap.size w W3 := by rw [hW3]; exact ((Below.refl _ _).alloc (Nat.le_refl _) _).alloc (by simp) _
  have hsc1 := run_storeB (P := Tryd.prog) (ws := List.replicate 32 0) h5 rfl
  rw [show celB (List.replicate 32 0) = z32.toList from rfl, hW3] at hsc1
  have h51 := h5.row (List.replicate 32 0)
  have h61 := h6.farRow (show w.heap.size + 1 ≠ w.heap.size by omega) (celB (List.replicate 32 0)).toArray
  have hb4 := bel_setRow hb3 (Nat.le_refl _) (celB (List.replicate 32 0)).toArray
  rw [show celB (List.replicate 32 0) = z32.toList from rfl, hW3] at h51 h61 hb4
  go_wp2_with fail
  simp only [Tryd.sizeOf26, Result.andThen, ↓reduceIte, hsc1, z32_size]
  rw [Oper.upon_skip]
  clear hsc1 h5 h6 hb3 hW3 W3
  generalize ((w.alloc (.cells z32 26)).alloc (.cells z32 26)).setRow w.heap.size z32.toList.toArray = W4 at *
  have hsc2 := run_storeB (P := Tryd.prog) (ws := List.replicate 32 0) h61 rfl
  rw [show celB (List.replicate 32 0) = z32.toList from rfl] at hsc2
  have h52 := h51.farRow (show w.heap.size ≠ w.heap.size + 1 by omega) (celB (List.replicate 32 0)).toArray
  have h62 := h61.row (List.replicate 32 0)
  have hb5 := bel_setRow hb4 (show w.heap.size ≤ w.heap.size + 1 by omega) (celB (List.replicate 32 0)).toArray
  rw [show celB (List.replicate 32 0) = z32.toList from rfl] at h52 h62 hb5
  go_wp2_with fail
  simp only [Tryd.sizeOf26, Result.andThen, ↓reduceIte, hsc2, z32_size]
  rw [Oper.upon_skip]
  clear hsc2 hb4 h51 h61
  generalize W4.setRow (w.heap.size + 1) z32.toList.toArray = W5 at *
  have HA := Lib.hid h52
  have HC := Lib.hid h62
  have HB := Lib.hid hb5
  clear h52 h62 hb5
  have hcv := Lib.run_convert_bytes_const (P := Tryd.prog) W5 22 5 #[.int .u8 97, .int .u8 98, .int .u8 99] 3 3 Tryd.underlying22 Tryd.underlying5
  go_wp2_with fail
  clear hcv
  refine calls_named1 (fun V1 hb1 g0 hlt1 => ?_)
  have hs1 : Sb V1 (some ⟨W5.heap.size, 0, none⟩) 3 3 [97, 98, 99] := sb_cells (fr := (3, 4)) g0 (by decide) rfl (Nat.le_refl _) (by omega)
  have HA1 := Lib.hid (HA.out.keep hb1)
  have HC1 := Lib.hid (HC.out.keep hb1)
  have HB1 := Lib.hid (bel_step HB.out hb1)
  clear hb1 g0 hlt1
  refine (sum_any _ 3 3 [97, 98, 99] V1 hs1 (by omega) (HG.out.keep HB1.out) R1 HR1.out).mono ?_
  rintro e V2 ⟨rfl, hb⟩
  clear hs1
  have HA2 := Lib.hid (HA1.out.keep hb)
  have HC2 := Lib.hid (HC1.out.keep hb)
  have HB2 := Lib.hid (bel_step HB1.out hb)
  clear hb HA1 HC1 HB1
  go_wp2_with fail
  refine (rhex_as R1 _ V2 HL1.out HBB1.out HE1.out).mono ?_
  rintro e V3 ⟨rfl, hb⟩
  have HA3 := Lib.hid (HA2.out.keep hb)
  have HC3 := Lib.hid (HC2.out.keep hb)
  have HB3 := Lib.hid (bel_step HB2.out hb)
  clear hb HA2 HC2 HB2
  go_wp2_with fail
  refine (sum_any none 0 0 [] V3 (Sb.nil_ _) (by omega) (HG.out.keep HB3.out) R2 HR2.out).mono ?_
  rintro e V4 ⟨rfl, hb⟩
  have HA4 := Lib.hid (HA3.out.keep hb)
  have HC4 := Lib.hid (HC3.out.keep hb)
  have HB4 := Lib.hid (bel_step HB3.out hb)
  clear hb HA3 HC3 HB3
  go_wp2_with fail
  refine (rhex_as R2 _ V4 HL2.out HBB2.out HE2.out).mono ?_
  rintro e V5 ⟨rfl, hb⟩
  have HA5 := Lib.hid (HA4.out.keep hb)
  have HC5 := Lib.hid (HC4.out.keep hb)
  have HB5 := Lib.hid (bel_step HB4.out hb)
  clear hb HA4 HC4 HB4
  go_wp2_with fail
  refine (leaf_any none 0 0 [] V5 (Sb.nil_ _) (by omega) (HG.out.keep HB5.out) R3 HR3.out).mono ?_
  rintro e V6 ⟨rfl, hb⟩
  have HA6 := Lib.hid (HA5.out.keep hb)
  have HC6 := Lib.hid (HC5.out.keep hb)
  have HB6 := Lib.hid (bel_step HB5.out hb)
  clear hb HA5 HC5 HB5
  go_wp2_with fail
  refine (rhex_as R3 _ V6 HL3.out HBB3.out HE3.out).mono ?_
  rintro e V7 ⟨rfl, hb⟩
  have HA7 := Lib.hid (HA6.out.keep hb)
  have HC7 := Lib.hid (HC6.out.keep hb)
  have HB7 := Lib.hid (bel_step HB6.out hb)
  clear hb HA6 HC6 HB6
  go_wp2_with fail
  have hld := run_loadB (P := Tryd.prog) HA7.out 32 rfl
  simp only [Tryd.isAgg26, Tryd.sizeOf26, Result.andThen, ↓reduceIte, hld]
  rw [Oper.upon_value]
  go_wp2_with fail
  simp only [Tryd.isAgg26, Tryd.sizeOf26, Result.andThen, ↓reduceIte, hld]
  rw [Oper.upon_value]
  go_wp2_with fail
  clear hld
  refine (pair_any (List.replicate 32 0) (List.replicate 32 0) V7 rfl rfl rep_lt rep_lt (HG.out.keep HB7.out) R4 HR4.out).mono ?_
  rintro e V8 ⟨rfl, hb⟩
  have HA8 := Lib.hid (HA7.out.keep hb)
  have HC8 := Lib.hid (HC7.out.keep hb)
  have HB8 := Lib.hid (bel_step HB7.out hb)
  clear hb HA7 HC7 HB7
  go_wp2_with fail
  refine (rhex_as R4 _ V8 HL4.out HBB4.out HE4.out).mono ?_
  rintro e V9 ⟨rfl, hb⟩
  have HA9 := Lib.hid (HA8.out.keep hb)
  have HC9 := Lib.hid (HC8.out.keep hb)
  have HB9 := Lib.hid (bel_step HB8.out hb)
  clear hb HA8 HC8 HB8
  go_wp2_with fail
  have hld := run_loadB (P := Tryd.prog) HC9.out 32 rfl
  simp only [Tryd.isAgg26, Tryd.sizeOf26, Result.andThen, ↓reduceIte, hld]
  rw [Oper.upon_value]
  clear hld
  go_wp2_with fail
  refine (keyed_any (List.replicate 32 0) none 0 0 [] V9 rfl rep_lt (Sb.nil_ _) (by omega) (HG.out.keep HB9.out) R5 HR5.out).mono ?_
  rintro e V10 ⟨rfl, hb⟩
  have HA10 := Lib.hid (HA9.out.keep hb)
  have HC10 := Lib.hid (HC9.out.keep hb)
  have HB10 := Lib.hid (bel_step HB9.out hb)
  clear hb HA9 HC9 HB9
  go_wp2_with fail
  refine (rhex_as R5 _ V10 HL5.out HBB5.out HE5.out).mono ?_
  rintro e V11 ⟨rfl, hb⟩
  have HA11 := Lib.hid (HA10.out.keep hb)
  have HC11 := Lib.hid (HC10.out.keep hb)
  have HB11 := Lib.hid (bel_step HB10.out hb)
  clear hb HA10 HC10 HB10
  go_wp2_with fail
  go_ret
  exact ⟨rfl, HB11.out⟩
end Go.Proofs.YtliflbelhogopaaDoor
