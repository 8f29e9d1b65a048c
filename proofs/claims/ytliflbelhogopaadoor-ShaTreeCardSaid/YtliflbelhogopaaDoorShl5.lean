/- The walk of ShaKeyed. -/
import Derived.Test.YtliflbelhogopaaDoorShf0
namespace Go.Proofs.YtliflbelhogopaaDoor
set_option maxRecDepth 8000
open Go.RowKit
attribute [local simp] z32_ne z32_run
attribute [-simp] Tryd.zeroValue26 Tryd.isAgg26 Tryd.sizeOf26
theorem min400 (n k : Nat) : ∃ m : Nat, (if ((k : Nat) : Int) < (n : Int) then ((k : Nat) : Int) else (n : Int)) = (m : Int) ∧ m ≤ n ∧ m ≤ k := by
  by_cases h : k < n
  · exact ⟨k, by rw [if_pos (by omega)], by omega, Nat.le_refl _⟩
  · exact ⟨n, by rw [if_neg (by omega)], Nat.le_refl _, by omega⟩
theorem rmade_eq {A : Option Addr} {n c : Nat} {bs : List Nat} {w : World} (h : Sb w A n c bs) {key : List Nat} (hk : madeN bs = key) :
    Calls Tryd.prog 12 #[.slice A n c] w fun e w' => e = .returned (.agg (celB key).toArray) ∧ Below w.heap.size w w' := hk ▸ rmade_any A n c bs w h
set_option maxHeartbeats 2000000 in
theorem shaKeyed_any (A : Option Addr) (n c : Nat) (bs : List Nat) (B : Option Addr) (nk ck : Nat) (ks : List Nat) (w : World) (h : Sb w A n c bs) (hk : Sb w B nk ck ks) (hG : Gl w) :
    Calls Tryd.prog 7 #[.slice A n c, .slice B nk ck] w fun e w' => e = .returned (.bool true) ∧ Below w.heap.size w w' := by
  obtain ⟨m, hm, hmn, hm4⟩ := min400 n 400
  have hm' : (if (400 : Int) < (n : Int) then (400 : Int) else (n : Int)) = (m : Int) := hm
  clear hm
  have hcap := h.cap
  have hcm := h.top
  have hS := h.take hmn
  obtain ⟨bt, hbt⟩ : ∃ bt, bs.take m = bt := ⟨_, rfl⟩
  rw [hbt] at hS
  obtain ⟨key, hkey⟩ : ∃ key, madeN ks = key := ⟨_, rfl⟩
  have hkl : key.length = 32 := by rw [← hkey]; exact madeN_length _
  have hkb : ∀ x ∈ key, x < 256 := by rw [← hkey]; exact madeN_lt hk.byte
  obtain ⟨I, hI⟩ : ∃ I, shaN (maskN key 54 ++ bt) = I := ⟨_, rfl⟩
  have hIl : I.length = 32 := by rw [← hI]; exact shaN_length _
  have hIb : ∀ x ∈ I, x < 256 := by rw [← hI]; exact shaN_lt _
  obtain ⟨R, hR⟩ : ∃ R, hmacN key bt = R := ⟨_, rfl⟩
  have hRl : R.length = 32 := by rw [← hR]; exact shaN_length _
  have hRb : ∀ x ∈ R, x < 256 := by rw [← hR]; exact shaN_lt _
  have hR2 : shaN (maskN key 92 ++ I) = R := by rw [← hR, ← hI]; rfl
  have HR := Lib.hid hR
  have HR2 := Lib.hid hR2
  have HRL := Lib.hid hRl
  have HRB := Lib.hid hRb
  have HI := Lib.hid hI
  have HIL := Lib.hid hIl
  have HIB := Lib.hid hIb
  have HKL := Lib.hid hkl
  have HKB := Lib.hid hkb
  have HKE := Lib.hid hkey
  have HS := Lib.hid hS
  have HK := Lib.hid hk
  have HG := Lib.hid hG
  clear h hk hG hS hbt hkey hkl hkb hI hIl hIb hR hR2 hRl hRb
  go_enter Tryd.func7, Tryd.ntmps7
  go_wp2_with fail
  refine (sanity7_any w HG.out).mono ?_
  rintro e W1 ⟨rfl, hb1⟩
  have HB1 := Lib.hid hb1
  have HS1 := Lib.hid (HS.out.keep hb1)
  have HK1 := Lib.hid (HK.out.keep hb1)
  clear hb1 HS HK
  go_wp2_with fail
  refine (rmade_eq HK1.out HKE.out).mono ?_
  rintro e W2 ⟨rfl, hb⟩
  have HB2 := Lib.hid (bel_step HB1.out hb)
  have HS2 := Lib.hid (HS1.out.keep hb)
  clear hb HS1 HB1 HK1 HKE
  have hsc := run_storeCells_new (P := Tryd.prog) W2 26 z32 (celB key).toArray (dig_size HKL.out) (by rw [z32_size, List.size_toArray, celB_length, HKL.out]) celB_one
  have hsz : (celB key).length = 32 := by rw [celB_length, HKL.out]
  go_wp2_with fail
  simp only [Tryd.sizeOf26, Result.andThen, ↓reduceIte, hsc]
  rw [Oper.upon_skip]
  clear hsc hsz
  go_upto_region 4 with fail
  refine wp_named1 (fun W3 hb3 g0 hlt3 => ?_)
  have H03 : Hid (RowB W3 26 W2.heap.size key) := Lib.hid g0
  have HB3 := Lib.hid (bel_step HB2.out hb3)
  have HS3 := Lib.hid (HS2.out.keep hb3)
  have hz2 : w.heap.size ≤ W2.heap.size := HB2.out.size
  clear hb3 g0 HS2 HB2
  generalize hg2 : W2.heap.size = g2 at *
  have hld := run_loadB (P := Tryd.prog) H03.out 32 HKL.out
  go_wp2_with fail
  simp only [Tryd.isAgg26, Tryd.sizeOf26, Result.andThen, ↓reduceIte, hld]
  rw [Oper.upon_value]
  clear hld
  go_wp2_with fail
  refine (rmasked_any key 54 W3 HKL.out HKB.out (by omega)).mono ?_
  rintro e W4 ⟨C4, f4, rfl, hs, hb⟩
  have HM4 := Lib.hid hs
  have H04 := Lib.hid (H03.out.keep hb)
  have HB4 := Lib.hid (bel_step HB3.out hb)
  have HS4 := Lib.hid (HS3.out.keep hb)
  clear hb hs H03 HB3 HS3
  go_wp2_with fail
  refine (rjoin_any C4 64 f4 _ A m c bt W4 HM4.out HS4.out (by omega)).mono ?_
  rintro e W5 ⟨C5, f5, rfl, hs, hb⟩
  have HJ5 := Lib.hid hs
  have H05 := Lib.hid (H04.out.keep hb)
  have HB5 := Lib.hid (bel_step HB4.out hb)
  have HS5 := Lib.hid (HS4.out.keep hb)
  clear hb hs H04 HB4 HS4 HM4
  go_wp2_with fail
  refine (sum_any C5 (64 + m) f5 _ W5 HJ5.out (by omega) (HG.out.keep HB5.out) I HI.out).mono ?_
  rintro e W6 ⟨rfl, hb⟩
  have H06 := Lib.hid (H05.out.keep hb)
  have HB6 := Lib.hid (bel_step HB5.out hb)
  have HS6 := Lib.hid (HS5.out.keep hb)
  clear hb H05 HB5 HS5 HJ5
  have hsc := run_storeCells_new (P := Tryd.prog) W6 26 z32 (celB I).toArray (dig_size HIL.out) (by rw [z32_size, List.size_toArray, celB_length, HIL.out]) celB_one
  have hsz : (celB I).length = 32 := by rw [celB_length, HIL.out]
  go_wp2_with fail
  simp only [Tryd.sizeOf26, Result.andThen, ↓reduceIte, hsc]
  rw [Oper.upon_skip]
  clear hsc hsz
  go_upto_region 5 with fail
  refine wp_named1 (fun W7 hb7 g0 hlt7 => ?_)
  have H07 := Lib.hid (H06.out.keep hb7)
  have HI7 : Hid (RowB W7 26 W6.heap.size I) := Lib.hid g0
  have HB7 := Lib.hid (bel_step HB6.out hb7)
  have HS7 := Lib.hid (HS6.out.keep hb7)
  have hg2l : g2 < W6.heap.size := H06.out.lt
  clear hb7 g0 H06 HB6 HS6
  generalize hg6 : W6.heap.size = g6 at *
  have heq := run_eqD_same R HRL.out HRB.out
  have hz7 : w.heap.size ≤ W7.heap.size := HB7.out.size
  refine wp_heldB W7.heap.size (by kernel_rfl) (lexOK_of (by kernel_rfl) (by kernel_rfl)) (chainOK_of (by kernel_rfl)) (fun W0 hbW hSW => ?_)
  have HB0 := Lib.hid (bel_step HB7.out hbW)
  have HS0 := Lib.hid (HS7.out.keep hbW)
  have HSS := Lib.hid hSW
  have hz0 := hbW.size
  have hl7 : g2 < W7.heap.size := H07.out.lt
  have hl6 : g6 < W7.heap.size := HI7.out.lt
  clear hbW hSW HS7 HB7
  refine wpHeld_seg 2 HSS.out (by kernel_rfl) ?_
  simp only [List.take_succ_cons, List.take_zero, List.drop_succ_cons, List.drop_zero]
  refine wpQuiet_val (by kernel_rfl) _ (fun v hv => exec_loadD HKL.out (H07.out.same ((LaterB.of hv).block _ (by omega))) rfl rfl) ?_
  simp only [Act.put, List.setIfInBounds_toArray, List.set_cons_zero, List.set_cons_succ]
  repeat (go_big_quiet_step (fail))
  refine wpQuiet_nil ?_
  refine wpHeld_call 19 Tryd.func19 (by kernel_rfl) (by kernel_rfl) _ _ #[.agg (celB key).toArray, .slice A m c] rfl (by kernel_rfl) (by kernel_rfl) ?_
  refine (keyed_any key A m c bt W0 HKL.out HKB.out HS0.out (by omega) (HG.out.keep HB0.out) R HR.out).mono ?_
  rintro e X1 ⟨rfl, hb⟩
  have HB8 := Lib.hid (bel_step HB0.out hb)
  have HS8 := Lib.hid (LaterB.step HSS.out (hb.mono (by omega)))
  have hz8 : W7.heap.size ≤ X1.heap.size := by have := hb.size; omega
  clear hb HB0 HSS HS0 hz0
  refine ⟨_, rfl, HS8.out, ?_⟩
  simp only [Act.put, List.setIfInBounds_toArray, List.set_cons_zero, List.set_cons_succ]
  refine wpHeld_seg 1 HS8.out (by kernel_rfl) ?_
  simp only [List.take_succ_cons, List.take_zero, List.drop_succ_cons, List.drop_zero]
  refine wpQuiet_val (by kernel_rfl) _ (fun v hv => exec_loadD HKL.out (H07.out.same ((LaterB.of hv).block _ (by omega))) rfl rfl) ?_
  simp only [Act.put, List.setIfInBounds_toArray, List.set_cons_zero, List.set_cons_succ]
  refine wpQuiet_nil ?_
  refine wpHeld_call 28 Tryd.func28 (by kernel_rfl) (by kernel_rfl) _ _ #[.agg (celB key).toArray, .int .u8 ((92 : Nat) : Int)] rfl (by kernel_rfl) (by kernel_rfl) ?_
  refine (rmasked_any key 92 X1 HKL.out HKB.out (by omega)).mono ?_
  rintro e X2 ⟨C2, f2, rfl, hs, hb⟩
  have HM := Lib.hid hs
  have HB9 := Lib.hid (bel_step HB8.out hb)
  have HS9 := Lib.hid (LaterB.step HS8.out (hb.mono (by omega)))
  have hz9 : W7.heap.size ≤ X2.heap.size := by have := hb.size; omega
  clear hb hs HB8 HS8 hz8
  refine ⟨_, rfl, HS9.out, ?_⟩
  simp only [Act.put, List.setIfInBounds_toArray, List.set_cons_zero, List.set_cons_succ]
  refine wpHeld_seg 1 HS9.out (by kernel_rfl) ?_
  simp only [List.take_succ_cons, List.take_zero, List.drop_succ_cons, List.drop_zero]
  refine wpQuiet_val (by kernel_rfl) _ (fun v hv => exec_loadD HIL.out (HI7.out.same ((LaterB.of hv).block _ (by omega))) rfl rfl) ?_
  simp only [Act.put, List.setIfInBounds_toArray, List.set_cons_zero, List.set_cons_succ]
  refine wpQuiet_nil ?_
  refine wpHeld_call 27 Tryd.func27 (by kernel_rfl) (by kernel_rfl) _ _ #[.agg (celB I).toArray] rfl (by kernel_rfl) (by kernel_rfl) ?_
  refine (rbytes_any I X2 HIL.out HIB.out).mono ?_
  rintro e X3 ⟨C3, f3, rfl, hs, hb⟩
  have HY := Lib.hid hs
  have HM3 := Lib.hid (HM.out.keep hb)
  have HB10 := Lib.hid (bel_step HB9.out hb)
  have HS10 := Lib.hid (LaterB.step HS9.out (hb.mono (by omega)))
  have hz10 : W7.heap.size ≤ X3.heap.size := by have := hb.size; omega
  clear hb hs HB9 HS9 hz9 HM
  refine ⟨_, rfl, HS10.out, ?_⟩
  simp only [Act.put, List.setIfInBounds_toArray, List.set_cons_zero, List.set_cons_succ]
  refine wpHeld_call 26 Tryd.func26 (by kernel_rfl) (by kernel_rfl) _ _ #[.slice C2 64 f2, .slice C3 32 f3] rfl (by kernel_rfl) (by kernel_rfl) ?_
  refine (rjoin_any C2 64 f2 _ C3 32 f3 I X3 HM3.out HY.out (by omega)).mono ?_
  rintro e X4 ⟨C5, f5', rfl, hs, hb⟩
  have HJ := Lib.hid hs
  have HB11 := Lib.hid (bel_step HB10.out hb)
  have HS11 := Lib.hid (LaterB.step HS10.out (hb.mono (by omega)))
  have hz11 : W7.heap.size ≤ X4.heap.size := by have := hb.size; omega
  clear hb hs HB10 HS10 hz10 HM3 HY
  refine ⟨_, rfl, HS11.out, ?_⟩
  simp only [Act.put, List.setIfInBounds_toArray, List.set_cons_zero, List.set_cons_succ]
  refine wpHeld_call 13 Tryd.func13 (by kernel_rfl) (by kernel_rfl) _ _ #[.slice C5 96 f5'] rfl (by kernel_rfl) (by kernel_rfl) ?_
  refine (sum_any C5 96 f5' _ X4 HJ.out (by omega) (HG.out.keep HB11.out) R HR2.out).mono ?_
  rintro e X5 ⟨rfl, hb⟩
  have HB12 := Lib.hid (bel_step HB11.out hb)
  have HS12 := Lib.hid (LaterB.step HS11.out (hb.mono (by omega)))
  clear hb HB11 HS11 hz11 HJ
  refine ⟨_, rfl, HS12.out, ?_⟩
  simp only [Act.put, List.setIfInBounds_toArray, List.set_cons_zero, List.set_cons_succ]
  refine wpHeld_seg 5 HS12.out (by kernel_rfl) ?_
  simp only [List.take_succ_cons, List.take_zero, List.drop_succ_cons, List.drop_zero]
  repeat (go_big_quiet_step (fail))
  refine wpQuiet_nil (wpHeld_nil ?_)
  go_wp2_with fail
  go_ret
  exact ⟨rfl, HB12.out⟩
end Go.Proofs.YtliflbelhogopaaDoor
