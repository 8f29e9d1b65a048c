/- Contracts of package sha256: Keyed. -/
import Derived.Test.YtliflbelhogopaaDoorShm
namespace Go.Proofs.YtliflbelhogopaaDoor
set_option maxRecDepth 8000
open Go.RowKit
def hmacN (key b : List Nat) : List Nat := shaN (maskN key 92 ++ shaN (maskN key 54 ++ b))
attribute [local simp] z32_ne z32_run
attribute [-simp] Tryd.zeroValue26 Tryd.isAgg26 Tryd.sizeOf26
set_option maxHeartbeats 2000000 in
theorem keyed_any (key : List Nat) (A : Option Addr) (n c : Nat) (bs : List Nat) (w : World) (hk : key.length = 32) (hkb : ∀ x ∈ key, x < 256) (h : Sb w A n c bs) (hn : n ≤ 59000) (hG : Gl w) (R : List Nat) (hR : hmacN key bs = R) :
    Calls Tryd.prog 19 #[.agg (celB key).toArray, .slice A n c] w fun e w' => e = .returned (.agg (celB R).toArray) ∧ Below w.heap.size w w' := by
  have hl : R.length = 32 := by rw [← hR]; exact shaN_length _
  obtain ⟨I, hI⟩ : ∃ I, shaN (maskN key 54 ++ bs) = I := ⟨_, rfl⟩
  have hIl : I.length = 32 := by rw [← hI]; exact shaN_length _
  have hIb : ∀ x ∈ I, x < 256 := by rw [← hI]; exact shaN_lt _
  have hR2 : shaN (maskN key 92 ++ I) = R := by rw [← hR, ← hI]; rfl
  have HI := Lib.hid hI
  have HIB := Lib.hid hIb
  have HR := Lib.hid hR2
  have HG := Lib.hid hG
  have HKL := Lib.hid hk
  have HKB := Lib.hid hkb
  have HS := Lib.hid h
  clear hR hG hk hkb hI hR2 h hIb
  go_enter Tryd.func19, Tryd.ntmps19
  go_upto_region 1 with fail
  refine wp_named2 (fun w1 hb1 g0 g1 hlt1 => ?_)
  have H0 : Hid (RowB w1 26 w.heap.size key) := Lib.hid g0
  have H1 : Hid (RowB w1 26 (w.heap.size + 1) (List.replicate 32 0)) := Lib.hid g1
  have HB1 := Lib.hid hb1
  have HS1 := Lib.hid (HS.out.keep hb1)
  clear g0 g1 hb1 HS
  have hld := run_loadB (P := Tryd.prog) H0.out 32 HKL.out
  go_wp2_with fail
  simp only [Tryd.isAgg26, Tryd.sizeOf26, Result.andThen, ↓reduceIte, hld]
  rw [Oper.upon_value]
  clear hld
  go_wp2_with fail
  refine (keyBlock_any key 54 w1 HKL.out HKB.out (by omega)).mono ?_
  rintro e W2 ⟨rfl, hr, hb⟩
  have hs2 := hr.all (n := 64) (c := 64) (maskN_lt key 54 HKB.out (by omega)) (maskN_length key 54 HKL.out).symm (Nat.le_refl _) (by omega)
  have HM2 := Lib.hid hs2
  have H02 := Lib.hid (H0.out.keep hb)
  have H12 := Lib.hid (H1.out.keep hb)
  have HB2 := Lib.hid (bel_step HB1.out hb)
  have HS2 := Lib.hid (HS1.out.keep hb)
  clear hr hb hs2 H0 H1 HB1 HS1
  go_wp2_with fail
  refine calls_named1 (fun W3 hb3 g0 hlt3 => ?_)
  have H03 := Lib.hid (H02.out.keep hb3)
  have H13 := Lib.hid (H12.out.keep hb3)
  have HB3 := Lib.hid (bel_step HB2.out hb3)
  refine (hash2 W2.heap.size _ 64 64 A n c (maskN key 54) bs W3 g0 (HM2.out.keep hb3) (HS2.out.keep hb3) (by omega) (HG.out.keep HB3.out) I HI.out).mono ?_
  rintro e W4 ⟨rfl, hb4⟩
  have H04 := Lib.hid (H03.out.keep hb4)
  have H14 := Lib.hid (H13.out.keep hb4)
  have HB4 := Lib.hid (bel_step HB3.out hb4)
  clear hb3 g0 hlt3 hb4 H02 H12 H03 H13 HB2 HB3 HM2 HS2
  have hsc := run_storeCells_new (P := Tryd.prog) W4 26 z32 (celB I).toArray (dig_size hIl) (by rw [z32_size, List.size_toArray, celB_length, hIl]) celB_one
  have hsz : (celB I).length = 32 := by rw [celB_length, hIl]
  go_wp2_with fail
  simp only [Tryd.sizeOf26, Result.andThen, ↓reduceIte, hsc]
  rw [Oper.upon_skip]
  clear hsc
  go_upto_region 2 with fail
  refine wp_named1 (fun W5 hb5 g0 hlt5 => ?_)
  have H05 := Lib.hid (H04.out.keep hb5)
  have H15 := Lib.hid (H14.out.keep hb5)
  have HB5 := Lib.hid (bel_step HB4.out hb5)
  have HI5 : Hid (RowB W5 26 W4.heap.size I) := Lib.hid g0
  have hz4 : w.heap.size + 1 < W4.heap.size := H14.out.lt
  clear hb5 g0 H04 H14 HB4
  refine wp_held_tailB 5 (w.heap.size + 1) (by kernel_rfl) (lexOK_of (by kernel_rfl) (by kernel_rfl)) (chainOK_of (by kernel_rfl)) rfl (by kernel_rfl) (by kernel_rfl) (fun W0 hbW hSW => ?_)
  have H00 := Lib.hid (H05.out.keep hbW)
  have H10 := Lib.hid (H15.out.keep hbW)
  have HI0 := Lib.hid (HI5.out.keep hbW)
  have HB0 := Lib.hid (bel_step HB5.out hbW)
  have HSS := Lib.hid hSW
  have hz0 : W4.heap.size < W0.heap.size := by have := hbW.size; omega
  clear hbW hSW
  refine wpHeld_seg 1 HSS.out (by kernel_rfl) ?_
  simp only [List.take_succ_cons, List.take_zero, List.drop_succ_cons, List.drop_zero]
  refine wpQuiet_val (by kernel_rfl) _ (fun v hv => exec_loadD HKL.out (H05.out.same ((LaterB.of hv).block _ (by omega))) rfl rfl) ?_
  simp only [Act.put, List.setIfInBounds_toArray, List.set_cons_zero, List.set_cons_succ]
  refine wpQuiet_nil ?_
  refine wpHeld_call 32 Tryd.func32 (by kernel_rfl) (by kernel_rfl) _ _ #[.agg (celB key).toArray, .int .u8 ((92 : Nat) : Int)] rfl (by kernel_rfl) (by kernel_rfl) ?_
  refine (keyBlock_any key 92 W0 HKL.out HKB.out (by omega)).mono ?_
  rintro e W6 ⟨rfl, hr, hb⟩
  have hs6 := hr.all (n := 64) (c := 64) (maskN_lt key 92 HKB.out (by omega)) (maskN_length key 92 HKL.out).symm (Nat.le_refl _) (by omega)
  have HM6 := Lib.hid hs6
  have H16 := Lib.hid (H10.out.keep hb)
  have HI6 := Lib.hid (HI0.out.keep hb)
  have HB6 := Lib.hid (bel_step HB0.out hb)
  have HS6 := Lib.hid (LaterB.step HSS.out (hb.mono (by omega)))
  have hz6 := hb.size
  clear hr hb hs6
  refine ⟨_, rfl, HS6.out, ?_⟩
  simp only [Act.put, List.setIfInBounds_toArray, List.set_cons_zero, List.set_cons_succ]
  refine wpHeld_seg 1 HS6.out (by kernel_rfl) ?_
  simp only [List.take_succ_cons, List.take_zero, List.drop_succ_cons, List.drop_zero]
  refine wpQuiet_val (by kernel_rfl) _ (fun v _ => run_sliceD W4.heap.size rfl rfl v) ?_
  simp only [Act.put, List.setIfInBounds_toArray, List.set_cons_zero, List.set_cons_succ]
  refine wpQuiet_nil ?_
  have hb7 : Below W6.heap.size W6 (W6.alloc (.cells #[.slice (some ⟨W0.heap.size + 1, 0, none⟩) 64 64, .slice (some ⟨W4.heap.size, 0, none⟩) 32 32] 22)) := (Below.refl _ _).alloc (Nat.le_refl _) _
  refine wpHeld_run _ _ (by kernel_rfl) (by kernel_rfl) (run_buildP2 _ _ _ _ _ _ rfl rfl rfl _) (LaterB.step HS6.out (hb7.mono (by omega))) ?_
  simp only [Act.put, List.setIfInBounds_toArray, List.set_cons_zero, List.set_cons_succ]
  have hrow := heap_new W6 (.cells #[.slice (some ⟨W0.heap.size + 1, 0, none⟩) 64 64, .slice (some ⟨W4.heap.size, 0, none⟩) 32 32] 22)
  have hs1 := HM6.out.keep hb7
  have hs2 := (HI6.out.keep hb7).all (n := 32) (c := 32) HIB.out hIl.symm (Nat.le_refl _) (by omega)
  have H17 := Lib.hid (H16.out.keep hb7)
  have HB7 := Lib.hid (bel_step HB6.out hb7)
  have HS7 := Lib.hid (LaterB.step HS6.out (hb7.mono (show w.heap.size + 1 ≤ W6.heap.size by omega)))
  have hz7 := hb7.size
  clear hb7
  generalize W6.alloc (.cells #[.slice (some ⟨W0.heap.size + 1, 0, none⟩) 64 64, .slice (some ⟨W4.heap.size, 0, none⟩) 32 32] 22) = W7 at *
  refine wpHeld_call 31 Tryd.func31 (by kernel_rfl) (by kernel_rfl) _ _ #[.slice (some ⟨W6.heap.size, 0, none⟩) 2 2] rfl (by kernel_rfl) (by kernel_rfl) ?_
  refine (hash2 W6.heap.size _ 64 64 _ 32 32 (maskN key 92) I W7 hrow hs1 hs2 (by omega) (HG.out.keep HB7.out) R HR.out).mono ?_
  rintro e W8 ⟨rfl, hb8⟩
  have H18 := Lib.hid (H17.out.keep hb8)
  have HB8 := Lib.hid (bel_step HB7.out hb8)
  have HS8 := Lib.hid (LaterB.step HS7.out (hb8.mono (show w.heap.size + 1 ≤ W7.heap.size by omega)))
  clear hb8
  refine ⟨_, rfl, HS8.out, ?_⟩
  simp only [Act.put, List.setIfInBounds_toArray, List.set_cons_zero, List.set_cons_succ]
  refine wpHeld_nil ?_
  refine mOp_run0 _ rfl rfl (exec_storeD hl (List.length_replicate) H18.out rfl rfl rfl) ?_
  go_wp2_with fail
  refine bodyPost_ret (v := .agg (celB R).toArray) ?_ rfl ⟨rfl, bel_setRow HB8.out (by omega) _⟩
  exact results_cell_row rfl _ _ (w.heap.size + 1) 26 _ (0, 0) _ rfl (H18.out.row R) Tryd.underlying26 rfl (dig_size hl)
end Go.Proofs.YtliflbelhogopaaDoor
