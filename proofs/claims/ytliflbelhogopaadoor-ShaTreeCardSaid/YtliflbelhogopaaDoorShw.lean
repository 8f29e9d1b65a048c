/- The reference's Keyed. -/
import Derived.Test.YtliflbelhogopaaDoorShv
namespace Go.Proofs.YtliflbelhogopaaDoor
set_option maxRecDepth 8000
open Go.RowKit
attribute [local simp] z32_ne z32_run
attribute [-simp] Tryd.zeroValue26 Tryd.isAgg26 Tryd.sizeOf26
set_option maxHeartbeats 2000000 in
theorem rkeyed_any (key : List Nat) (A : Option Addr) (n c : Nat) (bs : List Nat) (w : World) (hk : key.length = 32) (hkb : ∀ x ∈ key, x < 256) (h : Sb w A n c bs) (hn : n ≤ 59000) (R : List Nat) (hR : hmacN key bs = R) :
    Calls Tryd.prog 20 #[.agg (celB key).toArray, .slice A n c] w fun e w' => e = .returned (.agg (celB R).toArray) ∧ Below w.heap.size w w' := by
  have hl : R.length = 32 := by rw [← hR]; exact shaN_length _
  obtain ⟨I, hI⟩ : ∃ I, shaN (maskN key 54 ++ bs) = I := ⟨_, rfl⟩
  have hIl : I.length = 32 := by rw [← hI]; exact shaN_length _
  have hIb : ∀ x ∈ I, x < 256 := by rw [← hI]; exact shaN_lt _
  have hR2 : shaN (maskN key 92 ++ I) = R := by rw [← hR, ← hI]; rfl
  have HI := Lib.hid hI
  have HIB := Lib.hid hIb
  have HR := Lib.hid hR2
  have HKL := Lib.hid hk
  have HKB := Lib.hid hkb
  have HS := Lib.hid h
  clear hR hk hkb hI hR2 h hIb
  go_enter Tryd.func20, Tryd.ntmps20
  go_upto_region 1 with fail
  refine wp_named2 (fun w1 hb1 g0 g1 hlt1 => ?_)
  have H0 : Hid (RowB w1 26 w.heap.size key) := Lib.hid g0
  have H1 : Hid (RowB w1 26 (w.heap.size + 1) (List.replicate 32 0)) := Lib.hid g1
  have HB1 := Lib.hid hb1
  have HS1 := Lib.hid (HS.out.keep hb1)
  clear g0 g1 hb1 HS
  have hld := run_loadB (P := Tryd.prog) H0.out 32 HKL.out
  go_wp2_with fail
  simp only [Tryd.isAgg26, Tryd.sizeOf26, Result.andThen, ↓reduceIte, hld]
  rw [Oper.upon_value]
  clear hld
  go_wp2_with fail
  refine (rmasked_any key 54 w1 HKL.out HKB.out (by omega)).mono ?_
  rintro e W2 ⟨C2, f2, rfl, hs2, hb⟩
  have HM2 := Lib.hid hs2
  have H02 := Lib.hid (H0.out.keep hb)
  have H12 := Lib.hid (H1.out.keep hb)
  have HB2 := Lib.hid (bel_step HB1.out hb)
  have HS2 := Lib.hid (HS1.out.keep hb)
  clear hb hs2 H0 H1 HB1 HS1
  go_wp2_with fail
  refine (rjoin_any C2 64 f2 _ A n c bs W2 HM2.out HS2.out (by omega)).mono ?_
  rintro e W3 ⟨C3, f3, rfl, hs3, hb⟩
  have HJ3 := Lib.hid hs3
  have H03 := Lib.hid (H02.out.keep hb)
  have H13 := Lib.hid (H12.out.keep hb)
  have HB3 := Lib.hid (bel_step HB2.out hb)
  clear hb hs3 H02 H12 HB2 HM2 HS2
  go_wp2_with fail
  refine (rsum_any C3 (64 + n) f3 _ W3 HJ3.out (by omega) I HI.out).mono ?_
  rintro e W4 ⟨rfl, hb4⟩
  have H04 := Lib.hid (H03.out.keep hb4)
  have H14 := Lib.hid (H13.out.keep hb4)
  have HB4 := Lib.hid (bel_step HB3.out hb4)
  clear hb4 H03 H13 HB3 HJ3
  have hsc := run_storeCells_new (P := Tryd.prog) W4 26 z32 (celB I).toArray (dig_size hIl) (by rw [z32_size, List.size_toArray, celB_length, hIl]) celB_one
  have hsz : (celB I).length = 32 := by rw [celB_length, hIl]
  go_wp2_with fail
  simp only [Tryd.sizeOf26, Result.andThen, ↓reduceIte, hsc]
  rw [Oper.upon_skip]
  clear hsc
  go_upto_region 2 with fail
  refine wp_named1 (fun W5 hb5 g0 hlt5 => ?_)
  have H05 := Lib.hid (H04.out.keep hb5)
  have H15 := Lib.hid (H14.out.keep hb5)
  have HB5 := Lib.hid (bel_step HB4.out hb5)
  have HI5 : Hid (RowB W5 26 W4.heap.size I) := Lib.hid g0
  have hz4 : w.heap.size + 1 < W4.heap.size := H14.out.lt
  clear hb5 g0 H04 H14 HB4
  generalize hg4 : W4.heap.size = g4 at *
  refine Tl.wp_held_tailB 6 W5.heap.size (by kernel_rfl) (lexOK_of (by kernel_rfl) (by kernel_rfl)) (Tl.chainW_of (by kernel_rfl)) rfl (by kernel_rfl) (by kernel_rfl) (fun W0 hbW hSW => ?_)
  have H00 := Lib.hid (H05.out.keep hbW)
  have H10 := Lib.hid (H15.out.keep hbW)
  have HI0 := Lib.hid (HI5.out.keep hbW)
  have HB0 := Lib.hid (bel_step HB5.out hbW)
  have HSS := Lib.hid hSW
  have hz0 : W5.heap.size ≤ W0.heap.size := hbW.size
  have hg5 : g4 < W5.heap.size := HI5.out.lt
  clear hbW hSW
  refine wpHeld_seg 1 HSS.out (by kernel_rfl) ?_
  simp only [List.take_succ_cons, List.take_zero, List.drop_succ_cons, List.drop_zero]
  refine wpQuiet_val (by kernel_rfl) _ (fun v hv => exec_loadD HKL.out (H05.out.same ((LaterB.of hv).block _ (by omega))) rfl rfl) ?_
  simp only [Act.put, List.setIfInBounds_toArray, List.set_cons_zero, List.set_cons_succ]
  refine wpQuiet_nil ?_
  refine wpHeld_call 28 Tryd.func28 (by kernel_rfl) (by kernel_rfl) _ _ #[.agg (celB key).toArray, .int .u8 ((92 : Nat) : Int)] rfl (by kernel_rfl) (by kernel_rfl) ?_
  refine (rmasked_any key 92 W0 HKL.out HKB.out (by omega)).mono ?_
  rintro e W6 ⟨C6, f6, rfl, hs6, hb⟩
  have HM6 := Lib.hid hs6
  have H16 := Lib.hid (H10.out.keep hb)
  have HI6 := Lib.hid (HI0.out.keep hb)
  have HB6 := Lib.hid (bel_step HB0.out hb)
  have HS6 := Lib.hid (LaterB.step HSS.out (hb.mono (by omega)))
  have hz6 := hb.size
  clear hb hs6 H10 HI0 HB0 HSS
  refine ⟨_, rfl, HS6.out, ?_⟩
  simp only [Act.put, List.setIfInBounds_toArray, List.set_cons_zero, List.set_cons_succ]
  refine wpHeld_seg 1 HS6.out (by kernel_rfl) ?_
  simp only [List.take_succ_cons, List.take_zero, List.drop_succ_cons, List.drop_zero]
  refine wpQuiet_val (by kernel_rfl) _ (fun v hv => exec_loadD hIl (HI5.out.same ((LaterB.of hv).block _ (by omega))) rfl rfl) ?_
  simp only [Act.put, List.setIfInBounds_toArray, List.set_cons_zero, List.set_cons_succ]
  refine wpQuiet_nil ?_
  refine wpHeld_call 27 Tryd.func27 (by kernel_rfl) (by kernel_rfl) _ _ #[.agg (celB I).toArray] rfl (by kernel_rfl) (by kernel_rfl) ?_
  refine (rbytes_any I W6 hIl HIB.out).mono ?_
  rintro e W7 ⟨C7, f7, rfl, hs, hb⟩
  have H17 := Lib.hid (H16.out.keep hb)
  have HB7 := Lib.hid (bel_step HB6.out hb)
  have HS7 := Lib.hid (LaterB.step HS6.out (hb.mono (show W5.heap.size ≤ W6.heap.size by omega)))
  have hz7 : W5.heap.size ≤ W7.heap.size := by have := hb.size; omega
  have HY7 := Lib.hid hs
  have HM7 := Lib.hid (HM6.out.keep hb)
  clear hb H16 HB6 HS6 hs HM6
  refine ⟨_, rfl, HS7.out, ?_⟩
  simp only [Act.put, List.setIfInBounds_toArray, List.set_cons_zero, List.set_cons_succ]
  refine wpHeld_call 26 Tryd.func26 (by kernel_rfl) (by kernel_rfl) _ _ #[.slice C6 64 f6, .slice C7 32 f7] rfl (by kernel_rfl) (by kernel_rfl) ?_
  refine (rjoin_any C6 64 f6 _ C7 32 f7 I W7 HM7.out HY7.out (by omega)).mono ?_
  rintro e W8 ⟨C8, f8, rfl, hs, hb⟩
  have H18 := Lib.hid (H17.out.keep hb)
  have HB8 := Lib.hid (bel_step HB7.out hb)
  have HS8 := Lib.hid (LaterB.step HS7.out (hb.mono (show W5.heap.size ≤ W7.heap.size by omega)))
  have hz8 : W5.heap.size ≤ W8.heap.size := by have := hb.size; omega
  have HJ8 := Lib.hid hs
  clear hb H17 HB7 HS7 hs HM7 HY7
  refine ⟨_, rfl, HS8.out, ?_⟩
  simp only [Act.put, List.setIfInBounds_toArray, List.set_cons_zero, List.set_cons_succ]
  refine wpHeld_call 14 Tryd.func14 (by kernel_rfl) (by kernel_rfl) _ _ #[.slice C8 96 f8] rfl (by kernel_rfl) (by kernel_rfl) ?_
  refine (rsum_any C8 96 f8 _ W8 HJ8.out (by omega) R HR.out).mono ?_
  rintro e W9 ⟨rfl, hb⟩
  have H19 := Lib.hid (H18.out.keep hb)
  have HB9 := Lib.hid (bel_step HB8.out hb)
  have HS9 := Lib.hid (LaterB.step HS8.out (hb.mono (show W5.heap.size ≤ W8.heap.size by omega)))
  have hz9 : W5.heap.size ≤ W9.heap.size := by have := hb.size; omega
  clear hb H18 HB8 HS8 HJ8
  refine ⟨_, rfl, HS9.out, ?_⟩
  simp only [Act.put, List.setIfInBounds_toArray, List.set_cons_zero, List.set_cons_succ]
  refine wpHeld_nil ?_
  refine mOp_run0 _ rfl rfl (exec_storeD hl (List.length_replicate) H19.out rfl rfl rfl) ?_
  go_wp2_with fail
  refine bodyPost_ret (v := .agg (celB R).toArray) ?_ rfl ⟨rfl, bel_setRow HB9.out (by omega) _⟩
  exact results_cell_row rfl _ _ (w.heap.size + 1) 26 _ (0, 0) _ rfl (H19.out.row R) Tryd.underlying26 rfl (dig_size hl)
end Go.Proofs.YtliflbelhogopaaDoor
