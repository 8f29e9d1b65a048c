/- Contracts of package poly: values, quotients by linear factors, roots; no conditions but lengths. -/
import Derived.Test.YtjimnoikkgheaaaPolC
namespace Go.Proofs.Ytjimnoikkgheaaa
open Go.RowKit Gold

set_option maxHeartbeats 2000000 in
theorem polyEval_any (A : Option Addr) (n c : Nat) (xs : List E2) (y : E2) (w : World) (h : Sl w A n c xs) :
    Calls Try.prog 27 #[.slice A n c, .agg #[.int .u64 (vF y.A), .int .u64 (vF y.B)]] w fun e w' => e = .returned (.agg #[.int .u64 (vF (evE xs y).A), .int .u64 (vF (evE xs y).B)]) ∧ Below w.heap.size w w' := by
  have hnc := h.cap
  have hct := h.top
  have HL := Lib.hid h.len
  have HS := Lib.hid h
  clear h
  go_enter Try.func27, Try.ntmps27
  go_wp2_with fail
  refine wp_named3 (fun W hB g0 g1 g2 hz => ?_)
  have HB := Lib.hid hB
  have HY := Lib.hid (show Two W w.heap.size 25 (.int .u64 (vF y.A)) (.int .u64 (vF y.B)) from g0)
  have HR := Lib.hid (show Two W (w.heap.size + 1) 25 (.int .u64 0) (.int .u64 0) from g1)
  have HV := Lib.hid (show Two W (w.heap.size + 1 + 1) 25 (.int .u64 0) (.int .u64 0) from g2)
  clear hB g0 g1 g2
  go_loopw [6] (fun s wr => ∃ k : Nat, k ≤ n ∧ s = .int .i64 ((k : Int) - 1) ∧ Two wr w.heap.size 25 (.int .u64 (vF y.A)) (.int .u64 (vF y.B)) ∧ Two wr (w.heap.size + 1) 25 (.int .u64 0) (.int .u64 0) ∧ Two wr (w.heap.size + 1 + 1) 25 (.int .u64 (vF (evFrom xs y k).A)) (.int .u64 (vF (evFrom xs y k).B)) ∧ Below w.heap.size w wr) (fun s _ => (intOf s + 1).toNat)
  case atStart =>
    refine ⟨n, Nat.le_refl _, rfl, HY.out, HR.out, ?_, HB.out⟩
    rw [evFrom_end y (Nat.le_of_eq HL.out.symm)]
    exact HV.out
  case round =>
    clear HB HY HR HV
    obtain ⟨k, hk, rfl, hy, hr, hv, hb⟩ := hrel
    have HY := Lib.hid hy
    have HR := Lib.hid hr
    have HV := Lib.hid hv
    have HB := Lib.hid hb
    clear hy hr hv hb
    cases k with
    | zero =>
      have v0 := HV.out.c0
      have v1 := HV.out.c1
      have r0 := HR.out.c0
      have r1 := HR.out.c1
      have f0 := HR.out.f0
      have f1 := HR.out.f1
      go_wp2_with fail
      refine bodyPost_ret (v := .agg #[.int .u64 (vF (evFrom xs y 0).A), .int .u64 (vF (evFrom xs y 0).B)]) (by simp [results, Try.results27, go_sem, r0, r1]) rfl ⟨rfl, ?_⟩
      exact (HB.out.setCell (Nat.le_succ _) _).setCell (Nat.le_succ _) _
    | succ j =>
      obtain ⟨x, hx⟩ := HS.out.get (show j < n by omega)
      obtain ⟨ad, rfl, h0, h1⟩ := HS.out.at_ hx
      replace h0 := cell_keep h0 HB.out
      replace h1 := cell_keep h1 HB.out
      have HX := Lib.hid hx
      clear hx
      generalize hacc : evFrom xs y (j + 1) = v at HV
      have HA := Lib.hid hacc
      clear hacc
      have v0 := HV.out.c0
      have v1 := HV.out.c1
      have f0 := HV.out.f0
      have f1 := HV.out.f1
      have l0 := Later.cell v0
      have l1 := Later.cell v1
      have l2 := Later.cell HY.out.c0
      have l3 := Later.cell HY.out.c1
      have l4 := Later.cell h0
      have l5 := Later.cell h1
      clear h0 h1
      have hj0 : (0 : Int) ≤ (j : Int) := by omega
      have hj1 : (j : Int) < (n : Int) := by omega
      go_wp2_with fail
      refine wp_later_tail 8 (by kernel_rfl) (by kernel_rfl) ?_
      simp only [List.take_succ_cons, List.take_zero, List.drop_succ_cons, List.drop_zero]
      repeat (go_big_quiet_step (first
        | (go_at_call 58; with_reducible exact Calls.later (extMul_any v y _))
        | (go_at_call 51; with_reducible exact Calls.later (extAdd_any (v * y) x _))))
      refine wpQuiet_nil ?_
      intro X
      clear l0 l1 l2 l3 l4 l5
      have hb := X.below
      replace f0 := free_after hb v0 f0
      replace f1 := free_after hb v1 f1
      replace v0 := cell_after hb v0
      replace v1 := cell_after hb v1
      have HY1 := Lib.hid (HY.out.keep hb)
      have HR1 := Lib.hid (HR.out.keep hb)
      have HV1 := Lib.hid (HV.out.keep hb)
      have HB1 := Lib.hid (below_step HB.out hb)
      clear hb
      go_wp2_with fail
      go_roundw
      case rel =>
        refine ⟨j, by omega, by go_num, (HY1.out.far _ (by simp; omega)).far _ (by simp; omega), (HR1.out.far _ (by simp)).far _ (by simp), ?_, (HB1.out.setCell (by simp; omega) _).setCell (by simp; omega) _⟩
        rw [evFrom_step HX.out, HA.out]
        exact (HV1.out.set0 _).set1 _
      case measure => simp [intOf]

theorem cut_fix (A : Option Addr) (n c : Nat) (xs : List E2) (w : World) (h : Sl w A n c xs) :
    Calls Try.prog 49 #[.slice A n c] w fun e w' => e = .returned (.slice A (trimE xs).length c) ∧ Below w.heap.size w w' :=
  (cut_any A n c xs w h).mono fun _ _ ⟨m, he, _, hs, hb⟩ => ⟨by rw [he, hs.len], hb⟩
set_option maxHeartbeats 2000000 in
theorem polyDivRoot_any (A : Option Addr) (n c : Nat) (xs : List E2) (y : E2) (w : World) (h : Sl w A n c xs) (hn : n ≤ 65536) :
    Calls Try.prog 29 #[.slice A n c, .agg #[.int .u64 (vF y.A), .int .u64 (vF y.B)]] w fun e w' => ∃ A' m c', e = .returned (.tuple #[.slice A' m c', .agg #[.int .u64 (vF (evE xs y).A), .int .u64 (vF (evE xs y).B)]]) ∧ m ≤ n ∧ Sl w' A' m c' (quoE xs y) ∧ Below w.heap.size w w' := by
  have hnc := h.cap
  have hct := h.top
  have HL := Lib.hid h.len
  have HS := Lib.hid h
  clear h
  have hmk := run_makeE n hn
  generalize hr0 : List.replicate n E2.zero = r0 at hmk
  have HR0 := Lib.hid hr0
  clear hr0
  go_enter Try.func29, Try.ntmps29
  go_wp2_with fail
  clear hmk
  refine wp_named4 (fun W hB g0 g1 g2 g3 hz => ?_)
  have HB := Lib.hid hB
  have HY := Lib.hid (show Two W w.heap.size 25 (.int .u64 (vF y.A)) (.int .u64 (vF y.B)) from g0)
  have HR := Lib.hid (show Two W (w.heap.size + 1) 25 (.int .u64 0) (.int .u64 0) from g1)
  have HQ := Lib.hid (show Row W (w.heap.size + 1 + 1) r0 from g2)
  have HV := Lib.hid (show Two W (w.heap.size + 1 + 1 + 1) 25 (.int .u64 0) (.int .u64 0) from g3)
  clear hB g0 g1 g2 g3
  go_loopw [8] (fun s wr => ∃ k : Nat, k ≤ n ∧ s = .int .i64 ((k : Int) - 1) ∧ Two wr w.heap.size 25 (.int .u64 (vF y.A)) (.int .u64 (vF y.B)) ∧ Two wr (w.heap.size + 1) 25 (.int .u64 0) (.int .u64 0) ∧ Row wr (w.heap.size + 1 + 1) (quoAt xs y n k) ∧ Two wr (w.heap.size + 1 + 1 + 1) 25 (.int .u64 (vF (evFrom xs y k).A)) (.int .u64 (vF (evFrom xs y k).B)) ∧ Below w.heap.size w wr) (fun s _ => (intOf s + 1).toNat)
  case atStart =>
    refine ⟨n, Nat.le_refl _, rfl, HY.out, HR.out, by rw [quoAt_start, HR0.out]; exact HQ.out, ?_, HB.out⟩
    rw [evFrom_end y (Nat.le_of_eq HL.out.symm)]
    exact HV.out
  case round =>
    clear HB HY HR HQ HV
    obtain ⟨k, hk, rfl, hy, hr, hq, hv, hb⟩ := hrel
    have HY := Lib.hid hy
    have HR := Lib.hid hr
    have HQ := Lib.hid hq
    have HV := Lib.hid hv
    have HB := Lib.hid hb
    clear hy hr hq hv hb
    cases k with
    | zero =>
      have l0 := Later.cell HV.out.c0
      have l1 := Later.cell HV.out.c1
      have r0 := HR.out.c0
      have r1 := HR.out.c1
      have f0 := HR.out.f0
      have f1 := HR.out.f1
      have HSQ := Lib.hid (Row.slc HQ.out (quoAt_length xs y n 0).symm (Nat.le_refl _) (by omega))
      have HM := Lib.hid (trimE_length (quoAt xs y n 0))
      go_wp2_with fail
      refine wp_later_tail 4 (by kernel_rfl) (by kernel_rfl) ?_
      simp only [List.take_succ_cons, List.take_zero, List.drop_succ_cons, List.drop_zero]
      repeat (go_big_quiet_step (((go_at_call 49; with_reducible exact Calls.later (cut_fix _ _ _ (quoAt xs y n 0) _ (HSQ.out.keep (Later.below _)))))))
      refine wpQuiet_nil ?_
      intro X
      clear l0 l1
      have hb := X.below
      replace f0 := free_after hb r0 f0
      replace f1 := free_after hb r1 f1
      replace r0 := cell_after hb r0
      replace r1 := cell_after hb r1
      have HB1 := Lib.hid (below_step HB.out hb)
      have HQ1 := Lib.hid (HQ.out.keep hb)
      clear hb
      go_wp2_with fail
      refine bodyPost_ret (v := .tuple #[.slice (some ⟨w.heap.size + 1 + 1, 0, none⟩) (trimE (quoAt xs y n 0)).length n, .agg #[.int .u64 (vF (evFrom xs y 0).A), .int .u64 (vF (evFrom xs y 0).B)]]) (by simp [results, Try.results29, go_sem, r0, r1]) rfl ⟨_, _, _, rfl, ?_, ?_, (HB1.out.setCell (Nat.le_succ _) _).setCell (Nat.le_succ _) _⟩
      · have := HM.out
        rw [quoAt_length] at this
        exact this
      · have hl := HM.out
        rw [quoAt_length] at hl
        have hrow := (HQ1.out.far (a := ⟨w.heap.size + 1, 0, none⟩) (.int .u64 (vF (evFrom xs y 0).A)) (by simp)).far (a := ⟨w.heap.size + 1, 1, none⟩) (.int .u64 (vF (evFrom xs y 0).B)) (by simp)
        have hsl := (Row.slc hrow (quoAt_length xs y n 0).symm (Nat.le_refl _) (by omega)).take hl
        rw [trimE_prefix, quoAt_end, HL.out] at hsl
        unfold quoE
        rw [HL.out, quoAt_end]
        exact hsl
    | succ j =>
      obtain ⟨x, hx⟩ := HS.out.get (show j < n by omega)
      obtain ⟨ad, rfl, h0, h1⟩ := HS.out.at_ hx
      have H0 := Lib.hid h0
      have H1 := Lib.hid h1
      have hjn : j < n := by omega
      clear h0 h1
      have HX := Lib.hid hx
      clear hx
      generalize hacc : evFrom xs y (j + 1) = v at HV
      have HA := Lib.hid hacc
      clear hacc
      obtain ⟨u, hu⟩ : ∃ u, (quoAt xs y n (j + 1))[j]? = some u := ⟨_, List.getElem?_eq_getElem (by rw [quoAt_length]; omega)⟩
      have q0 := (HQ.out.at_ hu).1
      have q1 := (HQ.out.at_ hu).2
      clear hu
      have p0 := HQ.out.free (j * 2)
      have p1 := HQ.out.free (j * 2 + 1)
      have v0 := HV.out.c0
      have v1 := HV.out.c1
      go_wp2_with fail
      refine wp_named (fun W5 => Two W5 w.heap.size 25 (.int .u64 (vF y.A)) (.int .u64 (vF y.B)) ∧ Two W5 (w.heap.size + 1) 25 (.int .u64 0) (.int .u64 0) ∧ Row W5 (w.heap.size + 1 + 1) (quoAt xs y n j) ∧ Two W5 (w.heap.size + 1 + 1 + 1) 25 (.int .u64 (vF v.A)) (.int .u64 (vF v.B)) ∧ Below w.heap.size w W5)
        ⟨(HY.out.far _ (by simp; try omega)).far _ (by simp; try omega), (HR.out.far _ (by simp; try omega)).far _ (by simp; try omega), by rw [← quoAt_step xs y hjn, HA.out]; exact HQ.out.set j v, (HV.out.far _ (by simp; try omega)).far _ (by simp; try omega), (HB.out.setCell (by simp; try omega) _).setCell (by simp; try omega) _⟩ ?_
      rintro W5 ⟨hy5, hr5, hq5, hv5, hb5⟩
      have HY5 := Lib.hid hy5
      have HR5 := Lib.hid hr5
      have HQ5 := Lib.hid hq5
      have HV5 := Lib.hid hv5
      have HB5 := Lib.hid hb5
      clear hy5 hr5 hq5 hv5 hb5 HY HR HQ HV HB q0 q1 p0 p1 v0 v1
      have v0 := HV5.out.c0
      have v1 := HV5.out.c1
      have f0 := HV5.out.f0
      have f1 := HV5.out.f1
      have l0 := Later.cell v0
      have l1 := Later.cell v1
      have l2 := Later.cell HY5.out.c0
      have l3 := Later.cell HY5.out.c1
      have l4 := Later.cell (cell_keep H0.out HB5.out)
      have l5 := Later.cell (cell_keep H1.out HB5.out)
      have hj0 : (0 : Int) ≤ (j : Int) := by omega
      have hj1 : (j : Int) < (n : Int) := by omega
      refine wp_later_tail 8 (by kernel_rfl) (by kernel_rfl) ?_
      simp only [List.take_succ_cons, List.take_zero, List.drop_succ_cons, List.drop_zero]
      repeat (go_big_quiet_step (first
        | (go_at_call 58; with_reducible exact Calls.later (extMul_any v y _))
        | (go_at_call 51; with_reducible exact Calls.later (extAdd_any (v * y) x _))))
      refine wpQuiet_nil ?_
      intro X
      clear l0 l1 l2 l3 l4 l5
      have hb := X.below
      replace f0 := free_after hb v0 f0
      replace f1 := free_after hb v1 f1
      replace v0 := cell_after hb v0
      replace v1 := cell_after hb v1
      have HY6 := Lib.hid (HY5.out.keep hb)
      have HR6 := Lib.hid (HR5.out.keep hb)
      have HQ6 := Lib.hid (HQ5.out.keep hb)
      have HV6 := Lib.hid (HV5.out.keep hb)
      have HB6 := Lib.hid (below_step HB5.out hb)
      clear hb
      go_wp2_with fail
      go_roundw
      case rel =>
        refine ⟨j, by omega, by go_num, (HY6.out.far _ (by simp; try omega)).far _ (by simp; try omega), (HR6.out.far _ (by simp; try omega)).far _ (by simp; try omega), ?_, ?_, (HB6.out.setCell (by simp; try omega) _).setCell (by simp; try omega) _⟩
        · exact (Row.far HQ6.out _ (by simp; try omega)).far _ (by simp; try omega)
        · rw [evFrom_step HX.out, HA.out]
          exact (HV6.out.set0 _).set1 _
      case measure => simp [intOf]

end Go.Proofs.Ytjimnoikkgheaaa
