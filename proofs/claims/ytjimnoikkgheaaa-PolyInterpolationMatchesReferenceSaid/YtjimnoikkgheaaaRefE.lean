/- Contracts of the reference of package poly: quotients by linear factors; no conditions but lengths. -/
import Derived.Test.YtjimnoikkgheaaaRefC
namespace Go.Proofs.Ytjimnoikkgheaaa
open Go.RowKit Gold

set_option maxHeartbeats 2000000 in
theorem rPDivRoot_any (A : Option Addr) (n c : Nat) (xs : List E2) (y : E2) (w : World) (h : Sl w A n c xs) (hn : n ≤ 65536) :
    Calls Try.prog 30 #[.slice A n c, .agg #[.int .u64 (vF y.A), .int .u64 (vF y.B)]] w fun e w' => ∃ A' m c', e = .returned (.tuple #[.slice A' m c', .agg #[.int .u64 (vF (evE xs y).A), .int .u64 (vF (evE xs y).B)]]) ∧ m ≤ n ∧ Sl w' A' m c' (quoE xs y) ∧ Below w.heap.size w w' := by
  have hnc := h.cap
  have hct := h.top
  cases n with
  | zero =>
    obtain rfl : xs = [] := List.eq_nil_of_length_eq_zero h.len.symm
    clear h
    go_enter Try.func30, Try.ntmps30
    go_wp2_with fail
    refine bodyPost_ret (v := .tuple #[.slice (some ⟨w.heap.size + 1 + 1, 0, none⟩) 0 0, .agg #[.int .u64 0, .int .u64 0]]) (by simp [results, Try.results30, go_sem]) rfl ⟨_, 0, 0, rfl, Nat.le_refl _, ?_, ?_⟩
    · rw [quoE_nil]
      exact Sl.empty _ _ _ (by omega)
    · exact Below.alloc (Below.alloc (Below.alloc (Below.refl _ _) (Nat.le_refl _) _) (by simp) _) (by simp; omega) _
  | succ m =>
    have HL := Lib.hid h.len
    obtain ⟨x, hx⟩ := h.get (Nat.lt_succ_self m)
    obtain ⟨ad, rfl, h0, h1⟩ := h.at_ hx
    have HS := Lib.hid h
    have HX := Lib.hid hx
    clear h hx
    have hmk := run_makeE m (by omega)
    generalize hr0 : List.replicate m E2.zero = r0 at hmk
    have HR0 := Lib.hid hr0
    clear hr0
    have k0 := cell_alloc (cell_alloc (cell_alloc h0 (.cells #[.int .u64 (vF y.A), .int .u64 (vF y.B)] 25)) (.cells #[.int .u64 0, .int .u64 0] 25)) (.cells (cellsE r0).toArray 25)
    have k1 := cell_alloc (cell_alloc (cell_alloc h1 (.cells #[.int .u64 (vF y.A), .int .u64 (vF y.B)] 25)) (.cells #[.int .u64 0, .int .u64 0] 25)) (.cells (cellsE r0).toArray 25)
    have H0 := Lib.hid h0
    have H1 := Lib.hid h1
    clear h0 h1
    go_enter Try.func30, Try.ntmps30
    go_wp2_with fail
    clear hmk k0 k1
    refine wp_named4 (fun W hB g0 g1 g2 g3 hz => ?_)
    have HB := Lib.hid hB
    have HY := Lib.hid (show Two W w.heap.size 25 (.int .u64 (vF y.A)) (.int .u64 (vF y.B)) from g0)
    have HR := Lib.hid (show Two W (w.heap.size + 1) 25 (.int .u64 0) (.int .u64 0) from g1)
    have HQ := Lib.hid (show Row W (w.heap.size + 1 + 1) r0 from g2)
    have HV := Lib.hid (show Two W (w.heap.size + 1 + 1 + 1) 25 (.int .u64 (vF x.A)) (.int .u64 (vF x.B)) from g3)
    clear hB g0 g1 g2 g3
    go_loopw [8] (fun s wr => ∃ k : Nat, k ≤ m ∧ s = .int .i64 ((k : Int) - 1) ∧ Two wr w.heap.size 25 (.int .u64 (vF y.A)) (.int .u64 (vF y.B)) ∧ Two wr (w.heap.size + 1) 25 (.int .u64 0) (.int .u64 0) ∧ Row wr (w.heap.size + 1 + 1) (quoAt xs y m k) ∧ Two wr (w.heap.size + 1 + 1 + 1) 25 (.int .u64 (vF (evFrom xs y k).A)) (.int .u64 (vF (evFrom xs y k).B)) ∧ Below w.heap.size w wr) (fun s _ => (intOf s + 1).toNat)
    case atStart =>
      refine ⟨m, Nat.le_refl _, by go_num, HY.out, HR.out, by rw [quoAt_start, HR0.out]; exact HQ.out, ?_, HB.out⟩
      rw [evFrom_last HX.out HL.out.symm]
      exact HV.out
    case round =>
      clear HB HY HR HQ HV
      obtain ⟨k, hk, rfl, hy, hr, hq, hv, hb⟩ := hrel
      have HY := Lib.hid hy
      have HR := Lib.hid hr
      have HQ := Lib.hid hq
      have HV := Lib.hid hv
      have HB := Lib.hid hb
      clear hy hr hq hv hb
      cases k with
      | zero =>
        have r0' := HR.out.c0
        have r1' := HR.out.c1
        have f0 := HR.out.f0
        have f1 := HR.out.f1
        have HSQ := Lib.hid (Row.slc HQ.out (quoAt_length xs y m 0).symm (Nat.le_refl _) (by omega))
        go_wp2_with fail
        refine wp_heldS (fun W => Two W (w.heap.size + 1 + 1 + 1) 25 (.int .u64 (vF (evFrom xs y 0).A)) (.int .u64 (vF (evFrom xs y 0).B))) (by kernel_rfl) (lexOK_of (by kernel_rfl) (by kernel_rfl)) (chainOK_of (by kernel_rfl)) HV.out.drew (fun W hbW hSW hI => ?_)
        have l0 := LaterS.get (S := fun W => Two W (w.heap.size + 1 + 1 + 1) 25 (.int .u64 (vF (evFrom xs y 0).A)) (.int .u64 (vF (evFrom xs y 0).B))) (p := fun w' => w'.cell? ⟨w.heap.size + 1 + 1 + 1, 0, none⟩ = some (.int .u64 (vF (evFrom xs y 0).A))) (fun w' h => h.c0)
        have l1 := LaterS.get (S := fun W => Two W (w.heap.size + 1 + 1 + 1) 25 (.int .u64 (vF (evFrom xs y 0).A)) (.int .u64 (vF (evFrom xs y 0).B))) (p := fun w' => w'.cell? ⟨w.heap.size + 1 + 1 + 1, 1, none⟩ = some (.int .u64 (vF (evFrom xs y 0).B))) (fun w' h => h.c1)
        have HV0 := Lib.hid hSW
        have HR0' := Lib.hid (HR.out.keep hbW)
        have HB0 := Lib.hid (below_step HB.out hbW)
        have HSQ0 := Lib.hid (HSQ.out.keep hbW)
        clear hSW hbW r0' r1' f0 f1
        refine wpHeld_seg 1 (LaterS.some HV0.out) (by kernel_rfl) ?_
        simp only [List.take_succ_cons, List.take_zero, List.drop_succ_cons, List.drop_zero]
        repeat (go_big_quiet_step (fail))
        refine wpQuiet_nil ?_
        refine wpHeld_call 16 Try.func16 (by kernel_rfl) (by kernel_rfl) _ _ #[.slice (some ⟨w.heap.size + 1 + 1, 0, none⟩) m m] rfl (by kernel_rfl) (by kernel_rfl) ?_
        have hW : w.heap.size + 1 < W.heap.size := HR0'.out.lt
        refine (rTrim_own _ _ _ _ _ HSQ0.out (by omega)).mono ?_
        rintro e W1 ⟨A', q, c', rfl, hq, hs, hb⟩
        have HV1 := Lib.hid (HV0.out.keep hb)
        have HR1 := Lib.hid (HR0'.out.keep hb)
        have HB1 := Lib.hid (below_step HB0.out hb)
        have HS1 := Lib.hid hs
        clear hs hb
        refine ⟨_, rfl, LaterS.some HV1.out, ?_⟩
        simp only [Act.put, List.setIfInBounds_toArray, List.set_cons_zero, List.set_cons_succ]
        refine wpHeld_seg 2 (LaterS.some HV1.out) (by kernel_rfl) ?_
        simp only [List.take_succ_cons, List.take_zero, List.drop_succ_cons, List.drop_zero]
        repeat (go_big_quiet_step (fail))
        refine wpQuiet_nil ?_
        refine wpHeld_run0 _ (by kernel_rfl) (by kernel_rfl) (run_storeE (w.heap.size + 1) (evFrom xs y 0) rfl rfl rfl HR1.out) (LaterS.some ((HV1.out.far _ (by simp; try omega)).far _ (by simp; try omega))) ?_
        simp only [Act.put]
        refine wpHeld_nil ?_
        clear l0 l1
        go_wp2_with fail
        have HSF := ((HS1.out.far (a := ⟨w.heap.size + 1, 0, none⟩) (.int .u64 (vF (evFrom xs y 0).A)) hW).far (a := ⟨w.heap.size + 1, 1, none⟩) (.int .u64 (vF (evFrom xs y 0).B)) hW).sl'
        rw [quoAt_end, quoE_short y HL.out.symm] at HSF
        have c0 := HR1.out.c0
        have c1 := HR1.out.c1
        refine bodyPost_ret (v := .tuple #[.slice A' q c', .agg #[.int .u64 (vF (evFrom xs y 0).A), .int .u64 (vF (evFrom xs y 0).B)]]) (by simp [results, Try.results30, go_sem, c0, c1]) rfl ⟨A', q, c', rfl, by omega, HSF, (HB1.out.setCell (Nat.le_succ _) _).setCell (Nat.le_succ _) _⟩
      | succ j =>
        have hjm : j < m := by omega
        obtain ⟨z, hz⟩ := HS.out.get (show j < m + 1 by omega)
        obtain ⟨ad', e, h0, h1⟩ := HS.out.at_ hz
        injection e with e
        subst e
        have G0 := Lib.hid h0
        have G1 := Lib.hid h1
        have HZ := Lib.hid hz
        clear hz h0 h1
        generalize hacc : evFrom xs y (j + 1) = v at HV
        have HA := Lib.hid hacc
        clear hacc
        obtain ⟨u, hu⟩ : ∃ u, (quoAt xs y m (j + 1))[j]? = some u := ⟨_, List.getElem?_eq_getElem (by rw [quoAt_length]; omega)⟩
        have q0 := (HQ.out.at_ hu).1
        have q1 := (HQ.out.at_ hu).2
        clear hu
        have p0 := HQ.out.free (j * 2)
        have p1 := HQ.out.free (j * 2 + 1)
        have v0 := HV.out.c0
        have v1 := HV.out.c1
        go_wp2_with fail
        refine wp_named (fun W5 => Two W5 w.heap.size 25 (.int .u64 (vF y.A)) (.int .u64 (vF y.B)) ∧ Two W5 (w.heap.size + 1) 25 (.int .u64 0) (.int .u64 0) ∧ Row W5 (w.heap.size + 1 + 1) (quoAt xs y m j) ∧ Two W5 (w.heap.size + 1 + 1 + 1) 25 (.int .u64 (vF v.A)) (.int .u64 (vF v.B)) ∧ Below w.heap.size w W5)
          ⟨(HY.out.far _ (by simp; try omega)).far _ (by simp; try omega), (HR.out.far _ (by simp; try omega)).far _ (by simp; try omega), by rw [← quoAt_step xs y hjm, HA.out]; exact HQ.out.set j v, (HV.out.far _ (by simp; try omega)).far _ (by simp; try omega), (HB.out.setCell (by simp; try omega) _).setCell (by simp; try omega) _⟩ ?_
        rintro W5 ⟨hy5, hr5, hq5, hv5, hb5⟩
        have HY5 := Lib.hid hy5
        have HR5 := Lib.hid hr5
        have HQ5 := Lib.hid hq5
        have HV5 := Lib.hid hv5
        have HB5 := Lib.hid hb5
        clear hy5 hr5 hq5 hv5 hb5 HY HR HQ HV HB q0 q1 p0 p1 v0 v1
        have v0 := HV5.out.c0
        have v1 := HV5.out.c1
        have f0 := HV5.out.f0
        have f1 := HV5.out.f1
        have l0 := Later.cell v0
        have l1 := Later.cell v1
        have l2 := Later.cell HY5.out.c0
        have l3 := Later.cell HY5.out.c1
        have l4 := Later.cell (cell_keep G0.out HB5.out)
        have l5 := Later.cell (cell_keep G1.out HB5.out)
        have hj0 : (0 : Int) ≤ (j : Int) := by omega
        have hj1 : (j : Int) < (m : Int) + 1 := by omega
        have hj2 : (j : Int) < ((m + 1 : Nat) : Int) := by omega
        refine wp_later_tail 8 (by kernel_rfl) (by kernel_rfl) ?_
        simp only [List.take_succ_cons, List.take_zero, List.drop_succ_cons, List.drop_zero]
        repeat (go_big_quiet_step (first
          | (go_at_call 39; with_reducible exact Calls.later (rMul_any v y _))
          | (go_at_call 37; with_reducible exact Calls.later (rAdd_any z (v * y) _))))
        refine wpQuiet_nil ?_
        intro X
        clear l0 l1 l2 l3 l4 l5
        have hb := X.below
        replace f0 := free_after hb v0 f0
        replace f1 := free_after hb v1 f1
        replace v0 := cell_after hb v0
        replace v1 := cell_after hb v1
        have HY6 := Lib.hid (HY5.out.keep hb)
        have HR6 := Lib.hid (HR5.out.keep hb)
        have HQ6 := Lib.hid (HQ5.out.keep hb)
        have HV6 := Lib.hid (HV5.out.keep hb)
        have HB6 := Lib.hid (below_step HB5.out hb)
        clear hb
        go_wp2_with fail
        go_roundw
        case rel =>
          refine ⟨j, by omega, by go_num, (HY6.out.far _ (by simp; try omega)).far _ (by simp; try omega), (HR6.out.far _ (by simp; try omega)).far _ (by simp; try omega), ?_, ?_, (HB6.out.setCell (by simp; try omega) _).setCell (by simp; try omega) _⟩
          · exact (Row.far HQ6.out _ (by simp; try omega)).far _ (by simp; try omega)
          · rw [evFrom_step HZ.out, HA.out, E2.add_comm]
            exact (HV6.out.set0 _).set1 _
        case measure => simp [intOf]

end Go.Proofs.Ytjimnoikkgheaaa
