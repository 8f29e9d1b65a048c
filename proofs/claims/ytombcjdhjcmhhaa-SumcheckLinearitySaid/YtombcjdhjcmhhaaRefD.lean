/- Contracts of the reference of package poly: interpolation; no conditions but lengths. -/
import Derived.Test.YtombcjdhjcmhhaaRefC
import Derived.Test.YtombcjdhjcmhhaaPolI
namespace Go.Proofs.Ytombcjdhjcmhhaa
set_option maxRecDepth 8000
open Go.RowKit Gold

set_option maxHeartbeats 4000000 in
theorem rPInterp_any (A : Option Addr) (n c : Nat) (v : List E2) (w : World) (h : Sl w A n c v) (hn : n ≤ 20) :
    Calls Try.prog 54 #[.slice A n c] w fun e w' => ∃ A' m c', e = .returned (.slice A' m c') ∧ m ≤ n ∧ Sl w' A' m c' (interpE v) ∧ Below w.heap.size w w' := by
  have hnc := h.cap
  have hct := h.top
  have HL := Lib.hid h.len
  have HS := Lib.hid h
  clear h
  go_enter Try.func54, Try.ntmps54
  go_wp2_with fail
  go_loopw [3, 4] (fun s i wr => ∃ (k : Nat) (A2 : Option Addr) (m2 c2 : Nat), k ≤ n ∧ i = .int .i64 k ∧ s = .slice A2 m2 c2 ∧ Sl wr A2 m2 c2 (refO v n k) ∧ Below w.heap.size w wr) (fun _ i _ => n - (intOf i).toNat)
  case atStart => exact ⟨0, _, 0, 0, Nat.zero_le _, rfl, rfl, Sl.empty _ _ _ (by omega), (Below.refl _ _).alloc (Nat.le_refl _) _⟩
  case round =>
    obtain ⟨i, A2, m2, c2, hi, rfl, rfl, hs, hb⟩ := hrel
    have HO := Lib.hid hs
    have HB := Lib.hid hb
    clear hs hb
    by_cases hlt : i < n
    · obtain ⟨x, hx⟩ := HS.out.get hlt
      obtain ⟨ad, rfl, h0, h1⟩ := HS.out.at_ hx
      replace h0 := cell_keep h0 HB.out
      replace h1 := cell_keep h1 HB.out
      have HX := Lib.hid hx
      clear hx
      go_wp2_with fail
      refine wp_named1 (fun W hbW gW hzW => ?_)
      have HOW := Lib.hid (HO.out.keep hbW)
      have HBW := Lib.hid (below_step HB.out hbW)
      have HRW := Lib.hid (show Row W wr.heap.size [x] from gW)
      clear hbW gW h0 h1
      go_loopw [5, 6] (fun s i2 w2 => ∃ (k : Nat) (A3 : Option Addr) (m3 c3 : Nat), k ≤ n ∧ i2 = .int .i64 k ∧ s = .slice A3 m3 c3 ∧ Sl w2 A3 m3 c3 (refB v n i k) ∧ Sl w2 A2 m2 c2 (refO v n i) ∧ Below w.heap.size w w2) (fun _ i2 _ => n - (intOf i2).toNat)
      case atStart => exact ⟨0, _, 1, 1, Nat.zero_le _, rfl, rfl, by rw [refB, cfE_some HX.out]; exact HRW.out.slc rfl (Nat.le_refl _) (by omega), HOW.out, HBW.out⟩
      case round =>
        clear HOW HBW HRW
        obtain ⟨k, A3, m3, c3, hk, rfl, rfl, hs, ho, hb⟩ := hrel
        have HF := Lib.hid hs
        have HO2 := Lib.hid ho
        have HB2 := Lib.hid hb
        clear hs ho hb
        by_cases hltk : k < n
        · by_cases hki : k = i
          · subst hki
            have hne : ((k : Int) != (k : Int)) = false := by simp
            go_wp2_with fail
            go_roundw
            case rel => exact ⟨k + 1, A3, m3, c3, by omega, by go_num, rfl, by rw [refB, if_pos rfl]; exact HF.out, HO2.out, HB2.out⟩
            case measure => simp [intOf]; omega
          · have hne : ((k : Int) != (i : Int)) = true := by rw [bne_iff_ne]; omega
            have hnz : ndZ ((i : Int) - (k : Int)) ≠ E2.zero := by
              rw [← ndZ_sub]
              exact E2_sub_ne fun h' => hki (nd_inj (by omega) (by omega) h').symm
            have HNZ := Lib.hid hnz
            clear hnz
            go_wp2_with fail
            refine (rFromInt_any ((i : Int) - (k : Int)) _ (by omega) (by omega)).mono ?_
            rintro e W1 ⟨rfl, hb⟩
            have HF1 := Lib.hid (HF.out.keep hb)
            have HO1 := Lib.hid (HO2.out.keep hb)
            have HB1 := Lib.hid (below_step HB2.out hb)
            clear hb
            go_wp2_with fail
            refine (rInvE_any (ndZ ((i : Int) - (k : Int))) _ HNZ.out).mono ?_
            rintro e W2 ⟨rfl, hb⟩
            generalize hinv : E2.inv (ndZ ((i : Int) - (k : Int))) = iv
            have HIV := Lib.hid hinv
            have HF2 := Lib.hid (HF1.out.keep hb)
            have HO2' := Lib.hid (HO1.out.keep hb)
            have HB2' := Lib.hid (below_step HB1.out hb)
            clear hb hinv
            go_wp2_with fail
            refine wp_named1 (fun W3 hb3 g3 hz3 => ?_)
            have HF3 := Lib.hid (HF2.out.keep hb3)
            have HO3 := Lib.hid (HO2'.out.keep hb3)
            have HB3 := Lib.hid (below_step HB2'.out hb3)
            have HT3 := Lib.hid (show Two W3 W2.heap.size 43 (.int .u64 (vF iv.A)) (.int .u64 (vF iv.B)) from g3)
            have l0 := LaterB.cell (B := W3.heap.size) HT3.out.c0 hz3
            have l1 := LaterB.cell (B := W3.heap.size) HT3.out.c1 hz3
            clear hb3 g3
            refine wp_heldB W3.heap.size (by kernel_rfl) (lexOK_of (by kernel_rfl) (by kernel_rfl)) (chainOK_of (by kernel_rfl)) (fun W4 hb4 hS4 => ?_)
            have HF4 := Lib.hid (HF3.out.keep hb4)
            have HO4 := Lib.hid (HO3.out.keep hb4)
            have HB4 := Lib.hid (below_step HB3.out hb4)
            have HS4 := Lib.hid hS4
            have hw4 : W3.heap.size ≤ W4.heap.size := hb4.size
            clear hb4 hS4
            refine wpHeld_seg 3 HS4.out (by kernel_rfl) ?_
            simp only [List.take_succ_cons, List.take_zero, List.drop_succ_cons, List.drop_zero]
            repeat (go_big_quiet_step (fail))
            refine wpQuiet_nil ?_
            refine wpHeld_call 37 Try.func37 (by kernel_rfl) (by kernel_rfl) _ _ #[.int .i64 (-(k : Int))] rfl (by kernel_rfl) (by kernel_rfl) ?_
            refine (rFromInt_any (-(k : Int)) _ (by omega) (by omega)).mono ?_
            rintro e W5 ⟨rfl, hb⟩
            have HF5 := Lib.hid (HF4.out.keep hb)
            have HO5 := Lib.hid (HO4.out.keep hb)
            have hw5 : W3.heap.size ≤ W5.heap.size := Nat.le_trans hw4 hb.size
            have HB5 := Lib.hid (below_step HB4.out hb)
            have HS5 := Lib.hid (LaterB.step HS4.out (hb.mono hw4))
            clear hb
            refine ⟨_, rfl, HS5.out, ?_⟩
            simp only [Act.put, List.setIfInBounds_toArray, List.set_cons_zero, List.set_cons_succ]
            refine wpHeld_seg 1 HS5.out (by kernel_rfl) ?_
            simp only [List.take_succ_cons, List.take_zero, List.drop_succ_cons, List.drop_zero]
            repeat (go_big_quiet_step (fail))
            refine wpQuiet_nil ?_
            refine wpHeld_call 36 Try.func36 (by kernel_rfl) (by kernel_rfl) _ _ #[.agg #[.int .u64 (vF (ndZ (-(k : Int))).A), .int .u64 (vF (ndZ (-(k : Int))).B)], .agg #[.int .u64 (vF (iv).A), .int .u64 (vF (iv).B)]] rfl (by kernel_rfl) (by kernel_rfl) ?_
            refine (rMul_any (ndZ (-(k : Int))) iv _).mono ?_
            rintro e W6 ⟨rfl, hb⟩
            have HF6 := Lib.hid (HF5.out.keep hb)
            have HO6 := Lib.hid (HO5.out.keep hb)
            have hw6 : W3.heap.size ≤ W6.heap.size := Nat.le_trans hw5 hb.size
            have HB6 := Lib.hid (below_step HB5.out hb)
            have HS6 := Lib.hid (LaterB.step HS5.out (hb.mono hw5))
            clear hb
            refine ⟨_, rfl, HS6.out, ?_⟩
            simp only [Act.put, List.setIfInBounds_toArray, List.set_cons_zero, List.set_cons_succ]
            refine wpHeld_seg 1 HS6.out (by kernel_rfl) ?_
            simp only [List.take_succ_cons, List.take_zero, List.drop_succ_cons, List.drop_zero]
            repeat (go_big_quiet_step (fail))
            refine wpQuiet_nil ?_
            have HS7 := Lib.hid (LaterB.step HS6.out ((Below.refl W3.heap.size W6).alloc hw6 (.cells #[.int .u64 (vF (ndZ (-(k : Int)) * iv).A), .int .u64 (vF (ndZ (-(k : Int)) * iv).B), .int .u64 (vF iv.A), .int .u64 (vF iv.B)] 43)))
            refine wpHeld_run _ _ (by kernel_rfl) (by kernel_rfl) (run_buildE2 (ndZ (-(k : Int)) * iv) iv rfl rfl rfl _) HS7.out ?_
            simp only [Act.put, List.setIfInBounds_toArray, List.set_cons_zero, List.set_cons_succ]
            have HF7 := Lib.hid (HF6.out.keep ((Below.refl _ _).alloc (Nat.le_refl _) (.cells #[.int .u64 (vF (ndZ (-(k : Int)) * iv).A), .int .u64 (vF (ndZ (-(k : Int)) * iv).B), .int .u64 (vF iv.A), .int .u64 (vF iv.B)] 43)))
            have HO7 := Lib.hid (HO6.out.keep ((Below.refl _ _).alloc (Nat.le_refl _) (.cells #[.int .u64 (vF (ndZ (-(k : Int)) * iv).A), .int .u64 (vF (ndZ (-(k : Int)) * iv).B), .int .u64 (vF iv.A), .int .u64 (vF iv.B)] 43)))
            have HB7 := Lib.hid (HB6.out.alloc HB6.out.size (.cells #[.int .u64 (vF (ndZ (-(k : Int)) * iv).A), .int .u64 (vF (ndZ (-(k : Int)) * iv).B), .int .u64 (vF iv.A), .int .u64 (vF iv.B)] 43))
            have HP7 := Lib.hid ((pair_row W6 (ndZ (-(k : Int)) * iv) iv).slc rfl (Nat.le_refl 2) (by omega))
            have hw7 : W3.heap.size ≤ (W6.alloc (.cells #[.int .u64 (vF (ndZ (-(k : Int)) * iv).A), .int .u64 (vF (ndZ (-(k : Int)) * iv).B), .int .u64 (vF iv.A), .int .u64 (vF iv.B)] 43)).heap.size := by simp; omega
            have hm3 : m3 ≤ 100 := by have := HF6.out.len; have := refB_length v n i k; split at this <;> omega
            refine wpHeld_call 72 Try.func72 (by kernel_rfl) (by kernel_rfl) _ _ #[.slice A3 m3 c3, .slice (some ⟨W6.heap.size, 0, none⟩) 2 2] rfl (by kernel_rfl) (by kernel_rfl) ?_
            refine (rPMul_any A3 m3 c3 (refB v n i k) (some ⟨W6.heap.size, 0, none⟩) 2 2 [ndZ (-(k : Int)) * iv, iv] _ HF7.out HP7.out (by omega) (by omega)).mono ?_
            rintro e W8 ⟨A8, m8, c8, rfl, hm8, hs, hb⟩
            have HO8 := Lib.hid (HO7.out.keep hb)
            have HF8 := Lib.hid hs
            clear hs
            have HB8 := Lib.hid (below_step HB7.out hb)
            have HS8 := Lib.hid (LaterB.step HS7.out (hb.mono hw7))
            clear hb
            refine ⟨_, rfl, HS8.out, ?_⟩
            simp only [Act.put, List.setIfInBounds_toArray, List.set_cons_zero, List.set_cons_succ]
            refine wpHeld_seg 1 HS8.out (by kernel_rfl) ?_
            simp only [List.take_succ_cons, List.take_zero, List.drop_succ_cons, List.drop_zero]
            repeat (go_big_quiet_step (fail))
            refine wpQuiet_nil ?_
            refine wpHeld_nil ?_
            clear l0 l1
            go_wp2_with fail
            go_roundw
            case rel => exact ⟨k + 1, A8, m8, c8, by omega, by go_num, rfl, by rw [refB, if_neg hki, HIV.out]; exact HF8.out, HO8.out, HB8.out⟩
            case measure => simp [intOf]; omega
        · have hkn : k = n := by omega
          subst hkn
          have hl3 : m3 ≤ 65536 := by have := HF.out.len; have := refB_length v k i k; rw [if_pos (by omega)] at this; omega
          have hl2 : m2 ≤ 65536 := by have := HO2.out.len; have := refO_length v k i (by omega); omega
          go_wp2_with fail
          refine (rPAdd_any A2 m2 c2 _ A3 m3 c3 _ _ HO2.out HF.out hl2 hl3).mono ?_
          rintro e W1 ⟨A4, m4, c4, rfl, hm4, hs, hb⟩
          have HS1 := Lib.hid hs
          have HB1 := Lib.hid (below_step HB2.out hb)
          clear hs hb
          go_wp2_with fail
          go_roundw
          case rel => exact ⟨i + 1, A4, m4, c4, by omega, by go_num, rfl, HS1.out, HB1.out⟩
          case measure => simp [intOf]; omega
    · have hin : i = n := by omega
      subst hin
      go_wp2_with fail
      go_ret
      have hl := HL.out
      exact ⟨A2, m2, c2, rfl, by rw [HO.out.len]; exact refO_length _ _ _ (Nat.le_refl _), by rw [← refO_eq (by omega), ← hl]; exact HO.out, HB.out⟩

set_option maxHeartbeats 1000000 in
theorem rPAt_any (A : Option Addr) (n c : Nat) (v : List E2) (y : E2) (w : World) (h : Sl w A n c v) (hn : n ≤ 20) :
    Calls Try.prog 33 #[.slice A n c, .agg #[.int .u64 (vF y.A), .int .u64 (vF y.B)]] w fun e w' => e = .returned (.agg #[.int .u64 (vF (atE v y).A), .int .u64 (vF (atE v y).B)]) ∧ Below w.heap.size w w' := by
  have HS := Lib.hid h
  clear h
  go_enter Try.func33, Try.ntmps33
  go_wp2_with fail
  refine wp_named2 (fun W hB g0 g1 hz => ?_)
  have HB := Lib.hid hB
  have HY := Lib.hid (show Two W w.heap.size 43 (.int .u64 (vF y.A)) (.int .u64 (vF y.B)) from g0)
  have HR := Lib.hid (show Two W (w.heap.size + 1) 43 (.int .u64 0) (.int .u64 0) from g1)
  have HSW := Lib.hid (HS.out.keep hB)
  clear hB g0 g1
  have l0 := LaterB.cell (B := w.heap.size + 1) HY.out.c0 (Nat.lt_succ_self _)
  have l1 := LaterB.cell (B := w.heap.size + 1) HY.out.c1 (Nat.lt_succ_self _)
  refine wp_heldB (w.heap.size + 1) (by kernel_rfl) (lexOK_of (by kernel_rfl) (by kernel_rfl)) (chainOK_of (by kernel_rfl)) (fun W4 hb4 hS4 => ?_)
  have HS4 := Lib.hid hS4
  have HSW4 := Lib.hid (HSW.out.keep hb4)
  have HR4 := Lib.hid (HR.out.keep hb4)
  have HB4 := Lib.hid (below_step HB.out hb4)
  have hw4 : w.heap.size + 1 ≤ W4.heap.size := Nat.le_of_lt HR4.out.lt
  clear hb4 hS4
  refine wpHeld_seg 1 HS4.out (by kernel_rfl) ?_
  simp only [List.take_succ_cons, List.take_zero, List.drop_succ_cons, List.drop_zero]
  repeat (go_big_quiet_step (fail))
  refine wpQuiet_nil ?_
  refine wpHeld_call 54 Try.func54 (by kernel_rfl) (by kernel_rfl) _ _ #[.slice A n c] rfl (by kernel_rfl) (by kernel_rfl) ?_
  refine (rPInterp_any A n c v _ HSW4.out hn).mono ?_
  rintro e W5 ⟨A1, m1, c1, rfl, hm1, hs, hb⟩
  have HR5 := Lib.hid (HR4.out.keep hb)
  have HI5 := Lib.hid hs
  clear hs
  have hw5 : w.heap.size + 1 ≤ W5.heap.size := Nat.le_trans hw4 hb.size
  have HB5 := Lib.hid (below_step HB4.out hb)
  have HS5 := Lib.hid (LaterB.step HS4.out (hb.mono hw4))
  clear hb
  refine ⟨_, rfl, HS5.out, ?_⟩
  simp only [Act.put, List.setIfInBounds_toArray, List.set_cons_zero, List.set_cons_succ]
  refine wpHeld_seg 1 HS5.out (by kernel_rfl) ?_
  simp only [List.take_succ_cons, List.take_zero, List.drop_succ_cons, List.drop_zero]
  repeat (go_big_quiet_step (fail))
  refine wpQuiet_nil ?_
  refine wpHeld_call 53 Try.func53 (by kernel_rfl) (by kernel_rfl) _ _ #[.slice A1 m1 c1, .agg #[.int .u64 (vF (y).A), .int .u64 (vF (y).B)]] rfl (by kernel_rfl) (by kernel_rfl) ?_
  refine (rPEval_any A1 m1 c1 (interpE v) y _ HI5.out).mono ?_
  rintro e W6 ⟨rfl, hb⟩
  have HR6 := Lib.hid (HR5.out.keep hb)
  have HB6 := Lib.hid (below_step HB5.out hb)
  have HS6 := Lib.hid (LaterB.step HS5.out (hb.mono hw5))
  clear hb
  refine ⟨_, rfl, HS6.out, ?_⟩
  simp only [Act.put, List.setIfInBounds_toArray, List.set_cons_zero, List.set_cons_succ]
  refine wpHeld_run0 _ (by kernel_rfl) (by kernel_rfl) (run_storeE (w.heap.size + 1) (evE (interpE v) y) rfl rfl rfl HR6.out) (LaterB.step HS6.out (below_twoSets (Nat.le_refl _) _ _ _ _ _)) ?_
  simp only [Act.put]
  refine wpHeld_nil ?_
  clear l0 l1
  have c0 := HR6.out.c0
  have c1 := HR6.out.c1
  go_wp2_with fail
  refine bodyPost_ret (v := .agg #[.int .u64 (vF (evE (interpE v) y).A), .int .u64 (vF (evE (interpE v) y).B)]) (by simp [results, Try.results33, go_sem, c0, c1]) rfl ⟨by rw [evE_interpE], ?_⟩
  exact (HB6.out.setCell (Nat.le_succ _) _).setCell (Nat.le_succ _) _

end Go.Proofs.Ytombcjdhjcmhhaa
