/- The reference's compression. -/
import Derived.Test.YtliflbelhogopaaDoorShp
namespace Go.Proofs.YtliflbelhogopaaDoor
set_option maxRecDepth 8000
open Go.RowKit
theorem kA_size : kA.size = 64 := by unfold kA; rw [List.size_toArray, celW_length, kN_length]
theorem kN_at {i : Nat} (h : i < 64) : kN[i]? = some (kN.getD i 0) := by rw [List.getD_eq_getElem?_getD, List.getElem?_eq_getElem (by rw [kN_length]; exact h)]; rfl
attribute [local simp] z64_ne z64_run
attribute [-simp] Tryd.zeroValue53 Tryd.isAgg53 Tryd.sizeOf53
set_option maxHeartbeats 1000000 in
theorem rcomp_any (s : Ch) (ad : Addr) (bt : Nat → Nat) (cp : Nat) (w : World) (hs : s.Ok) (hB : Blk w ad bt) (hcp : 64 ≤ cp) (hcm : cp ≤ 9223372036854775807) :
    Calls Tryd.prog 24 #[.agg (celW (chL s)).toArray, .slice (some ad) 64 cp] w fun e w' => e = .returned (.agg (celW (chL (compN s bt))).toArray) ∧ Below w.heap.size w w' := by
  have HB0 := Lib.hid hB
  clear hB
  go_enter Tryd.func24, Tryd.ntmps24
  go_wp2_with fail
  refine calls_named2 (fun w1 hb1 g0 g1 hlt1 => ?_)
  have hr0 : RowW w1 36 w.heap.size (chL s) := g0
  have hr1 : RowW w1 36 (w.heap.size + 1) [0, 0, 0, 0, 0, 0, 0, 0] := g1
  clear g0 g1 hlt1
  have HR0 := Lib.hid hr0
  have HR1 := Lib.hid hr1
  have HB := Lib.hid hb1
  clear hr0 hr1 hb1
  with_reducible refine (rsched_any ad bt cp w1 (HB0.out.keep HB.out) hcp hcm).mono ?_
  rintro e W1 ⟨rfl, hb⟩
  have HRA := Lib.hid (HR0.out.keep hb)
  have HRB := Lib.hid (HR1.out.keep hb)
  have HBA := Lib.hid (bel_step HB.out hb)
  clear hb HR0 HR1 HB
  generalize hcs : celW (schedN bt) = cl
  have hcz : cl.length = 64 := by rw [← hcs, celW_length, schedN_length]
  go_wp2_with fail
  refine (rconst_any W1).mono ?_
  rintro e W2 ⟨rfl, hb⟩
  have HRA2 := Lib.hid (HRA.out.keep hb)
  have HRB2 := Lib.hid (HRB.out.keep hb)
  have HBA2 := Lib.hid (bel_step HBA.out hb)
  clear hb HRA HRB HBA
  obtain ⟨kl, hks⟩ : ∃ kl : List Value, celW kN = kl := ⟨_, rfl⟩
  have hkz : kl.length = 64 := by rw [← hks, celW_length, kN_length]
  rw [show kA = kl.toArray by rw [← hks]; rfl]
  obtain ⟨W3, hW3⟩ : ∃ W3, W3 = (W2.alloc (.cells z64 53)).alloc (.cells z64 53) := ⟨_, rfl⟩
  have h5 : RowW W3 53 W2.heap.size (List.replicate 64 0) := by rw [hW3]; exact heap_old _ (heap_new W2 _)
  have h6 : RowW W3 53 (W2.heap.size + 1) (List.replicate 64 0) := by
    rw [hW3]
    have h := heap_new (W2.alloc (.cells z64 53)) (.cells z64 53)
    rw [alloc_sz] at h
    exact h
  have hb3 : Below W2.heap.size W2 W3 := by rw [hW3]; exact ((Below.refl _ _).alloc (Nat.le_refl _) _).alloc (by simp) _
  have hsc1 := run_storeW (P := Tryd.prog) (ws := schedN bt) h5 (by rw [schedN_length, List.length_replicate])
  rw [hcs, hW3] at hsc1
  have h51 := h5.row (schedN bt)
  have h61 := h6.farRow (show W2.heap.size + 1 ≠ W2.heap.size by omega) (celW (schedN bt)).toArray
  have hb4 := bel_setRow hb3 (Nat.le_refl _) (celW (schedN bt)).toArray
  rw [hcs, hW3] at h51 h61 hb4
  go_wp2_with fail
  simp only [Tryd.sizeOf53, Result.andThen, ↓reduceIte, hsc1]
  rw [Oper.upon_skip]
  clear hsc1 h5 h6 hb3 hW3 W3
  generalize ((W2.alloc (.cells z64 53)).alloc (.cells z64 53)).setRow W2.heap.size cl.toArray = W4 at *
  have hsc2 := run_storeW (P := Tryd.prog) (ws := kN) h61 (by rw [kN_length, List.length_replicate])
  rw [hks] at hsc2
  have h52 := h51.farRow (show W2.heap.size ≠ W2.heap.size + 1 by omega) (celW kN).toArray
  have h62 := h61.row kN
  have hb5 := bel_setRow hb4 (show W2.heap.size ≤ W2.heap.size + 1 by omega) (celW kN).toArray
  rw [hks] at h52 h62 hb5
  go_wp2_with fail
  simp only [Tryd.sizeOf53, Result.andThen, ↓reduceIte, hsc2]
  rw [Oper.upon_skip]
  clear hsc2 hb4 h51 h61 hcs hks
  have hg : w.heap.size + 2 ≤ W2.heap.size := HRB2.out.lt
  have hbb := bel_step HBA2.out hb5
  have hr0 := HRA2.out.keep hb5
  have hr1 := HRB2.out.keep hb5
  clear hb5 HRA2 HRB2 HBA2
  generalize W4.setRow (W2.heap.size + 1) kl.toArray = w2 at *
  generalize W2.heap.size = gw at *
  have HRW := Lib.hid h52
  have HRK := Lib.hid h62
  clear h52 h62
  have HR0 := Lib.hid hr0
  have HR1 := Lib.hid hr1
  have HB := Lib.hid hbb
  clear hr0 hr1 hbb
  go_wp2_with fail
  have c0 := HR0.out.at_ (i := 0) (x := s.a) rfl
  have c1 := HR0.out.at_ (i := 1) (x := s.b) rfl
  have c2 := HR0.out.at_ (i := 2) (x := s.c) rfl
  have c3 := HR0.out.at_ (i := 3) (x := s.d) rfl
  go_quiet (fail)
  have hb1 : Below w2.heap.size w2 (w2.drewN nq) := bel_drewN _ _ _
  have HB1 := Lib.hid hb1
  clear c0 c1 c2 c3 hb1
  generalize w2.drewN nq = w3 at *
  go_wp2_with fail
  have c4 := cell_keep (HR0.out.at_ (i := 4) (x := s.e) rfl) HB1.out
  have c5 := cell_keep (HR0.out.at_ (i := 5) (x := s.f) rfl) HB1.out
  have c6 := cell_keep (HR0.out.at_ (i := 6) (x := s.g) rfl) HB1.out
  have c7 := cell_keep (HR0.out.at_ (i := 7) (x := s.h) rfl) HB1.out
  go_quiet (fail)
  have hb1 : Below w3.heap.size w3 (w3.drewN nq) := bel_drewN _ _ _
  have HB2 := Lib.hid (bel_step HB1.out hb1)
  clear c4 c5 c6 c7 hb1
  generalize w3.drewN nq = w4 at *
  have H0 := Lib.hid (HR0.out.keep HB2.out)
  have H1 := Lib.hid (HR1.out.keep HB2.out)
  have HW := Lib.hid (HRW.out.keep HB2.out)
  have HWK := Lib.hid (HRK.out.keep HB2.out)
  have HBW := Lib.hid (bel_step HB.out HB2.out)
  clear HR0 HR1 HRW HRK HB HB1 HB2
  have HWB := Lib.hid (schedN_lt bt HB0.out.byte)
  have HWL := Lib.hid (schedN_length bt)
  have HC := Lib.hid (show compN s bt = addCh s (rndN (schedN bt) s 64) from rfl)
  clear HB0
  generalize schedN bt = ws at *
  go_wp2_with fail
  go_loopw [7, 8, 9, 10, 11, 12, 13, 14, 15] (fun va vb vc vd ve vf vg vh s0 wr => ∃ (i : Nat) (S : Ch), i ≤ 64 ∧ s0 = .int .i64 i ∧ S = rndN ws s i ∧ va = .int .u32 S.a ∧ vb = .int .u32 S.b ∧ vc = .int .u32 S.c ∧ vd = .int .u32 S.d ∧ ve = .int .u32 S.e ∧ vf = .int .u32 S.f ∧ vg = .int .u32 S.g ∧ vh = .int .u32 S.h ∧ Below w4.heap.size w4 wr) (fun _ _ _ _ _ _ _ _ s0 _ => 64 - (intOf s0).toNat)
  case atStart => exact ⟨0, s, by omega, rfl, rfl, rfl, rfl, rfl, rfl, rfl, rfl, rfl, rfl, Below.refl _ _⟩
  case round =>
    obtain ⟨i, S, hi, rfl, hS, rfl, rfl, rfl, rfl, rfl, rfl, rfl, rfl, hb⟩ := hrel
    have hok : S.Ok := by rw [hS]; exact rndN_ok ws hs i
    have HS := Lib.hid hS
    have HB := Lib.hid hb
    clear hS hb
    by_cases hlt : i < 64
    · have hk1 : (i : Int) < 64 := by omega
      have hk0 : (0 : Int) ≤ (i : Int) := by omega
      obtain ⟨a, b, c, d, e, f, g, hh⟩ := S
      obtain ⟨la, lb, lc, ld, le, lf, lg, lh⟩ := hok
      dsimp only at la lb lc ld le lf lg lh
      have LA := Lib.hid la
      have LB := Lib.hid lb
      have LC := Lib.hid lc
      have LD := Lib.hid ld
      have LE := Lib.hid le
      have LF := Lib.hid lf
      have LG := Lib.hid lg
      have LH := Lib.hid lh
      clear la lb lc ld le lf lg lh
      have lk := Later.cell (cell_keep (HWK.out.at_ (kN_at hlt)) HB.out)
      have lw := Later.cell (cell_keep (HW.out.at_ (x := ws.getD i 0) (by rw [List.getD_eq_getElem?_getD, List.getElem?_eq_getElem (by rw [HWL.out]; exact hlt)]; rfl)) HB.out)
      generalize hk : kN.getD i 0 = k at lk
      generalize hx : ws.getD i 0 = x at lw
      have HKX := Lib.hid (And.intro hk hx)
      clear hk hx
      dsimp only
      go_wp2_with fail
      refine wp_later_lex (by kernel_rfl) (lexOK_of (by kernel_rfl) (by kernel_rfl)) ?_
      repeat (go_big_quiet_step (first | (go_at_call 35; with_reducible exact Calls.later (rrotate_6 e _ LE.out)) | (go_at_call 35; with_reducible exact Calls.later (rrotate_11 e _ LE.out)) | (go_at_call 35; with_reducible exact Calls.later (rrotate_25 e _ LE.out))))
      refine wpQuiet_nil ?_
      intro X
      clear lk lw
      have HB2 := Lib.hid (bel_step HB.out X.below)
      generalize X.at = w5 at *
      go_wp2_with fail
      with_reducible refine (rrotate_2 a w5 LA.out).mono ?_
      rintro e1 W6 ⟨rfl, hb⟩
      have HB3 := Lib.hid (bel_step HB2.out hb)
      clear hb
      go_wp2_with fail
      with_reducible refine (rrotate_13 a W6 LA.out).mono ?_
      rintro e1 W7 ⟨rfl, hb⟩
      have HB4 := Lib.hid (bel_step HB3.out hb)
      clear hb
      go_wp2_with fail
      with_reducible refine (rrotate_22 a W7 LA.out).mono ?_
      rintro e1 W8 ⟨rfl, hb⟩
      have HB5 := Lib.hid (bel_step HB4.out hb)
      clear hb
      go_wp2_with fail
      go_roundw
      case rel =>
        have q1 := three_val (rotN_lt (n := 6) LE.out) (rotN_lt (n := 11) LE.out) (rotN_lt (n := 25) LE.out)
        have q2 := chs_val LE.out LF.out LG.out
        have q3 := three_val (rotN_lt (n := 2) LA.out) (rotN_lt (n := 13) LA.out) (rotN_lt (n := 22) LA.out)
        have q4 := maj_val_or LA.out LB.out LC.out
        rw [show ((4294967295 : Int) - (e : Int)) % 4294967296 = 4294967295 - (e : Int) by have := LE.out; omega]
        rw [q1, q2, q3, q4]
        refine ⟨i + 1, roundN ⟨a, b, c, d, e, f, g, hh⟩ k x, by omega, by go_num, ?_, ?_, rfl, rfl, rfl, ?_, rfl, rfl, rfl, HB5.out⟩
        · rw [rndN, ← HS.out, HKX.out.1, HKX.out.2]
        · show _ = Value.int .u32 ((((hh + Sg1 e + chN e f g + k + x) % 4294967296 + (Sg0 a + majN a b c) % 4294967296) % 4294967296 : Nat) : Int)
          refine congrArg (Value.int .u32) ?_
          unfold Sg1 Sg0
          omega
        · show _ = Value.int .u32 (((d + (hh + Sg1 e + chN e f g + k + x) % 4294967296) % 4294967296 : Nat) : Int)
          refine congrArg (Value.int .u32) ?_
          unfold Sg1
          omega
      case measure => simp [intOf]; omega
    · have hkn : i = 64 := by omega
      subst hkn
      have c0 := cell_keep (H0.out.at_ (i := 0) (x := s.a) rfl) HB.out
      have c1 := cell_keep (H0.out.at_ (i := 1) (x := s.b) rfl) HB.out
      have c2 := cell_keep (H0.out.at_ (i := 2) (x := s.c) rfl) HB.out
      have c3 := cell_keep (H0.out.at_ (i := 3) (x := s.d) rfl) HB.out
      have c4 := cell_keep (H0.out.at_ (i := 4) (x := s.e) rfl) HB.out
      have c5 := cell_keep (H0.out.at_ (i := 5) (x := s.f) rfl) HB.out
      have c6 := cell_keep (H0.out.at_ (i := 6) (x := s.g) rfl) HB.out
      have c7 := cell_keep (H0.out.at_ (i := 7) (x := s.h) rfl) HB.out
      have hr1 := H1.out.keep HB.out
      have d0 := hr1.at_ (i := 0) (x := 0) rfl
      have d1 := hr1.at_ (i := 1) (x := 0) rfl
      have d2 := hr1.at_ (i := 2) (x := 0) rfl
      have d3 := hr1.at_ (i := 3) (x := 0) rfl
      have d4 := hr1.at_ (i := 4) (x := 0) rfl
      have d5 := hr1.at_ (i := 5) (x := 0) rfl
      have d6 := hr1.at_ (i := 6) (x := 0) rfl
      have d7 := hr1.at_ (i := 7) (x := 0) rfl
      have f0 := hr1.free 0
      have f1 := hr1.free 1
      have f2 := hr1.free 2
      have f3 := hr1.free 3
      have f4 := hr1.free 4
      have f5 := hr1.free 5
      have f6 := hr1.free 6
      have f7 := hr1.free 7
      have HR := Lib.hid hr1
      clear hr1
      go_wp2_with fail
      refine bodyPost_ret (v := .agg (celW (chL (compN s bt))).toArray) ?_ rfl ⟨rfl, ?_⟩
      · have hf := ((((((((HR.out.put 0 _ _ (add_val s.a S.a)).put 1 _ _ (add_val s.b S.b)).put 2 _ _ (add_val s.c S.c)).put 3 _ _ (add_val s.d S.d)).put 4 _ _ (add_val s.e S.e)).put 5 _ _ (add_val s.f S.f)).put 6 _ _ (add_val s.g S.g)).put 7 _ _ (add_val s.h S.h))
        rw [HC.out, ← HS.out]
        exact results_cell_row rfl _ _ (w.heap.size + 1) 36 _ (0, 0) _ rfl hf Tryd.underlying36 rfl (by kernel_rfl)
      · have hb := bel_step HBW.out HB.out
        exact (((((((hb.setCell (by simp) _).setCell (by simp) _).setCell (by simp) _).setCell (by simp) _).setCell (by simp) _).setCell (by simp) _).setCell (by simp) _).setCell (by simp) _
end Go.Proofs.YtliflbelhogopaaDoor
