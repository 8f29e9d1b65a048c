/- Contracts of package poly: its closures, and Trim, Add, Sub and Scale: the trimmed list; no conditions but lengths of at most 65536. -/
import Derived.Test.YtjimnoikkgheaaaPolB
namespace Go.Proofs.Ytjimnoikkgheaaa
open Go.RowKit Gold

theorem tab_scale (xs : List E2) (y : E2) : trimE (tabE xs.length fun i => y * cfE xs i) = scaleE xs y := by
  unfold scaleE
  congr 1
  apply List.ext_getElem?
  intro i
  by_cases h : i < xs.length
  · rw [tabE_get _ h, cfE_lt h]; simp [h]
  · rw [List.getElem?_eq_none (by rw [tabE_length]; omega), List.getElem?_eq_none (by simp; omega)]

set_option maxHeartbeats 400000 in
theorem trim1_any (b : Nat) (A : Option Addr) (n c : Nat) (xs : List E2) (i : Nat) (w : World) (hc : w.cell? ⟨b, 0, none⟩ = some (.slice A n c)) (h : Sl w A n c xs) (hi : i < n) :
    Calls Try.prog 47 #[.int .i64 i, .pointer (some ⟨b, 0, none⟩)] w fun e w' => e = .returned (.agg #[.int .u64 (vF (cfE xs i).A), .int .u64 (vF (cfE xs i).B)]) ∧ Below w.heap.size w w' := by
  have hcap := h.cap
  have htop := h.top
  obtain ⟨x, hx⟩ := h.get hi
  obtain ⟨ad, rfl, h0, h1⟩ := h.at_ hx
  rw [cfE_some hx]
  have hc' := cell_alloc hc (.cells #[.int .u64 0, .int .u64 0] 25)
  have h0' := cell_alloc h0 (.cells #[.int .u64 0, .int .u64 0] 25)
  have h1' := cell_alloc h1 (.cells #[.int .u64 0, .int .u64 0] 25)
  clear hx h h0 h1 hc
  go_enter Try.func47, Try.ntmps47
  go_wp2_with fail
  refine bodyPost_ret (v := .agg #[.int .u64 (vF x.A), .int .u64 (vF x.B)]) (by simp [results, Try.results47, go_sem]) rfl ⟨rfl, ?_⟩
  exact (Below.refl _ _).alloc (Nat.le_refl _) _

set_option maxHeartbeats 400000 in
theorem add1_any (b d : Nat) (A : Option Addr) (n c : Nat) (xs : List E2) (A' : Option Addr) (n' c' : Nat) (ys : List E2) (i : Nat) (w : World) (hc : w.cell? ⟨b, 0, none⟩ = some (.slice A n c)) (hd : w.cell? ⟨d, 0, none⟩ = some (.slice A' n' c')) (h : Sl w A n c xs) (h' : Sl w A' n' c' ys) :
    Calls Try.prog 50 #[.int .i64 i, .pointer (some ⟨b, 0, none⟩), .pointer (some ⟨d, 0, none⟩)] w fun e w' => e = .returned (.agg #[.int .u64 (vF (cfE xs i + cfE ys i).A), .int .u64 (vF (cfE xs i + cfE ys i).B)]) ∧ Below w.heap.size w w' := by
  go_enter Try.func50, Try.ntmps50
  go_wp2_with fail
  refine wp_named1 (fun W hB g0 hz => ?_)
  have HB := Lib.hid hB
  have c00 := Two.c0 g0; have c01 := Two.c1 g0; have f00 := Two.f0 g0; have f01 := Two.f1 g0
  have l0 := Later.cell (cell_keep hc hB)
  have l1 := Later.cell (cell_keep hd hB)
  have HS := Lib.hid (h.keep hB)
  have HS' := Lib.hid (h'.keep hB)
  clear hB g0 hc hd h h'
  refine wp_later_tail 7 (by kernel_rfl) (by kernel_rfl) ?_
  simp only [List.take_succ_cons, List.take_zero, List.drop_succ_cons, List.drop_zero]
  repeat (go_big_quiet_step (first
    | (go_at_call 52; with_reducible exact Calls.later (coefficient_any A n c xs i _ (HS.out.keep (Later.below _))))
    | (go_at_call 52; with_reducible exact Calls.later (coefficient_any A' n' c' ys i _ (HS'.out.keep (Later.below _))))
    | (go_at_call 51; with_reducible exact Calls.later (extAdd_any _ _ _))))
  refine wpQuiet_nil ?_
  intro X
  clear l0 l1
  have hb := X.below; replace f00 := free_after hb c00 f00; replace f01 := free_after hb c01 f01; replace c00 := cell_after hb c00; replace c01 := cell_after hb c01; replace HB := Lib.hid (HB.out.trans (hb.mono HB.out.size)); replace hz := Nat.lt_of_lt_of_le hz hb.size; clear hb
  go_wp2
  refine bodyPost_ret (v := .agg #[.int .u64 (vF (cfE xs i + cfE ys i).A), .int .u64 (vF (cfE xs i + cfE ys i).B)]) (by simp [results, Try.results50, go_sem, c00, c01]) rfl ⟨rfl, ?_⟩
  exact (HB.out.setCell (Nat.le_refl _) _).setCell (Nat.le_refl _) _

set_option maxHeartbeats 400000 in
theorem sub1_any (b d : Nat) (A : Option Addr) (n c : Nat) (xs : List E2) (A' : Option Addr) (n' c' : Nat) (ys : List E2) (i : Nat) (w : World) (hc : w.cell? ⟨b, 0, none⟩ = some (.slice A n c)) (hd : w.cell? ⟨d, 0, none⟩ = some (.slice A' n' c')) (h : Sl w A n c xs) (h' : Sl w A' n' c' ys) :
    Calls Try.prog 53 #[.int .i64 i, .pointer (some ⟨b, 0, none⟩), .pointer (some ⟨d, 0, none⟩)] w fun e w' => e = .returned (.agg #[.int .u64 (vF (cfE xs i - cfE ys i).A), .int .u64 (vF (cfE xs i - cfE ys i).B)]) ∧ Below w.heap.size w w' := by
  go_enter Try.func53, Try.ntmps53
  go_wp2_with fail
  refine wp_named1 (fun W hB g0 hz => ?_)
  have HB := Lib.hid hB
  have c00 := Two.c0 g0; have c01 := Two.c1 g0; have f00 := Two.f0 g0; have f01 := Two.f1 g0
  have l0 := Later.cell (cell_keep hc hB)
  have l1 := Later.cell (cell_keep hd hB)
  have HS := Lib.hid (h.keep hB)
  have HS' := Lib.hid (h'.keep hB)
  clear hB g0 hc hd h h'
  refine wp_later_tail 7 (by kernel_rfl) (by kernel_rfl) ?_
  simp only [List.take_succ_cons, List.take_zero, List.drop_succ_cons, List.drop_zero]
  repeat (go_big_quiet_step (first
    | (go_at_call 52; with_reducible exact Calls.later (coefficient_any A n c xs i _ (HS.out.keep (Later.below _))))
    | (go_at_call 52; with_reducible exact Calls.later (coefficient_any A' n' c' ys i _ (HS'.out.keep (Later.below _))))
    | (go_at_call 54; with_reducible exact Calls.later (extSub_any _ _ _))))
  refine wpQuiet_nil ?_
  intro X
  clear l0 l1
  have hb := X.below; replace f00 := free_after hb c00 f00; replace f01 := free_after hb c01 f01; replace c00 := cell_after hb c00; replace c01 := cell_after hb c01; replace HB := Lib.hid (HB.out.trans (hb.mono HB.out.size)); replace hz := Nat.lt_of_lt_of_le hz hb.size; clear hb
  go_wp2
  refine bodyPost_ret (v := .agg #[.int .u64 (vF (cfE xs i - cfE ys i).A), .int .u64 (vF (cfE xs i - cfE ys i).B)]) (by simp [results, Try.results53, go_sem, c00, c01]) rfl ⟨rfl, ?_⟩
  exact (HB.out.setCell (Nat.le_refl _) _).setCell (Nat.le_refl _) _

set_option maxHeartbeats 400000 in
theorem scale1_any (b d : Nat) (y : E2) (A : Option Addr) (n c : Nat) (xs : List E2) (i : Nat) (w : World) (hc0 : w.cell? ⟨b, 0, none⟩ = some (.int .u64 (vF y.A))) (hc1 : w.cell? ⟨b, 1, none⟩ = some (.int .u64 (vF y.B))) (hd : w.cell? ⟨d, 0, none⟩ = some (.slice A n c)) (h : Sl w A n c xs) (hi : i < n) :
    Calls Try.prog 57 #[.int .i64 i, .pointer (some ⟨b, 0, none⟩), .pointer (some ⟨d, 0, none⟩)] w fun e w' => e = .returned (.agg #[.int .u64 (vF (y * cfE xs i).A), .int .u64 (vF (y * cfE xs i).B)]) ∧ Below w.heap.size w w' := by
  have hcap := h.cap
  have htop := h.top
  have hi0 : (0 : Int) ≤ (i : Int) := by omega
  have hi1 : (i : Int) < (n : Int) := by omega
  obtain ⟨x, hx⟩ := h.get hi
  obtain ⟨ad, rfl, h0, h1⟩ := h.at_ hx
  rw [cfE_some hx]
  clear hx h
  go_enter Try.func57, Try.ntmps57
  go_wp2_with fail
  refine wp_named1 (fun W hB g0 hz => ?_)
  have HB := Lib.hid hB
  have c00 := Two.c0 g0; have c01 := Two.c1 g0; have f00 := Two.f0 g0; have f01 := Two.f1 g0
  have l0 := Later.cell (cell_keep hc0 hB)
  have l1 := Later.cell (cell_keep hc1 hB)
  have l2 := Later.cell (cell_keep hd hB)
  have l3 := Later.cell (cell_keep h0 hB)
  have l4 := Later.cell (cell_keep h1 hB)
  clear hB g0 hc0 hc1 hd h0 h1
  refine wp_later_tail 6 (by kernel_rfl) (by kernel_rfl) ?_
  simp only [List.take_succ_cons, List.take_zero, List.drop_succ_cons, List.drop_zero]
  repeat (go_big_quiet_step (((go_at_call 58; with_reducible exact Calls.later (extMul_any _ _ _)))))
  refine wpQuiet_nil ?_
  intro X
  clear l0 l1 l2 l3 l4
  have hb := X.below; replace f00 := free_after hb c00 f00; replace f01 := free_after hb c01 f01; replace c00 := cell_after hb c00; replace c01 := cell_after hb c01; replace HB := Lib.hid (HB.out.trans (hb.mono HB.out.size)); replace hz := Nat.lt_of_lt_of_le hz hb.size; clear hb
  go_wp2
  refine bodyPost_ret (v := .agg #[.int .u64 (vF (y * x).A), .int .u64 (vF (y * x).B)]) (by simp [results, Try.results57, go_sem, c00, c01]) rfl ⟨rfl, ?_⟩
  exact (HB.out.setCell (Nat.le_refl _) _).setCell (Nat.le_refl _) _

set_option maxHeartbeats 400000 in
theorem polyTrim_any (A : Option Addr) (n c : Nat) (xs : List E2) (w : World) (h : Sl w A n c xs) (hn : n ≤ 65536) :
    Calls Try.prog 15 #[.slice A n c] w fun e w' => ∃ A' m c', e = .returned (.slice A' m c') ∧ m ≤ n ∧ Sl w' A' m c' (trimE xs) ∧ Below w.heap.size w w' := by
  have HL := Lib.hid h.len
  have HS := Lib.hid h
  clear h
  go_enter Try.func15, Try.ntmps15
  go_wp2_with fail
  refine calls_named1 (fun W hB g0 hz => ?_)
  have HB := Lib.hid hB
  have HO := Lib.hid (show One W w.heap.size 22 (.slice A n c) from g0)
  have HSW := Lib.hid (HS.out.keep hB)
  clear hB g0
  go_wp2_with (first
    | (go_at_call 46; ((with_reducible refine (build_Trim n _ (cfE xs) _ hn (fun i hi W' hb => trim1_any w.heap.size A n c xs i W' (HO.out.keep hb).c (HSW.out.keep hb) hi)).mono ?_)); rintro e W1 ⟨A', m, c', rfl, hm, hs, hb⟩; have HS1 := Lib.hid hs; clear hs))
  go_ret
  exact ⟨A', m, c', rfl, hm, by have := HS1.out; rw [HL.out, tabE_cfE] at this; exact this, below_step HB.out hb⟩

set_option maxHeartbeats 400000 in
theorem polyAdd_any (A : Option Addr) (n c : Nat) (xs : List E2) (B : Option Addr) (m d : Nat) (ys : List E2) (w : World) (h : Sl w A n c xs) (h' : Sl w B m d ys) (hn : n ≤ 65536) (hm : m ≤ 65536) :
    Calls Try.prog 19 #[.slice A n c, .slice B m d] w fun e w' => ∃ A' m' c', e = .returned (.slice A' m' c') ∧ m' ≤ max n m ∧ Sl w' A' m' c' (addE xs ys) ∧ Below w.heap.size w w' := by
  have HL := Lib.hid h.len
  have HL' := Lib.hid h'.len
  have HS := Lib.hid h
  have HS' := Lib.hid h'
  clear h h'
  by_cases hlt : n < m
  · go_enter Try.func19, Try.ntmps19
    go_wp2_with fail
    refine calls_named2 (fun W hB g0 g1 hz => ?_)
    have HB := Lib.hid hB
    have HO := Lib.hid (show One W w.heap.size 22 (.slice A n c) from g0)
    have HO' := Lib.hid (show One W (w.heap.size + 1) 22 (.slice B m d) from g1)
    have HSW := Lib.hid (HS.out.keep hB)
    have HSW' := Lib.hid (HS'.out.keep hB)
    clear hB g0 g1
    go_wp2_with (first
      | (go_at_call 46; ((with_reducible refine (build_Add m _ _ (fun i => cfE xs i + cfE ys i) _ (by omega) (fun i hi W' hb => add1_any w.heap.size (w.heap.size + 1) A n c xs B m d ys i W' (HO.out.keep hb).c (HO'.out.keep hb).c (HSW.out.keep hb) (HSW'.out.keep hb))).mono ?_)); rintro e W1 ⟨A', m', c', rfl, hm', hs, hb⟩; have HS1 := Lib.hid hs; clear hs))
    go_ret
    exact ⟨A', m', c', rfl, by omega, by have := HS1.out; unfold addE; rw [← HL.out, ← HL'.out, show max n m = m by omega]; exact this, below_step HB.out hb⟩
  · go_enter Try.func19, Try.ntmps19
    go_wp2_with fail
    refine calls_named2 (fun W hB g0 g1 hz => ?_)
    have HB := Lib.hid hB
    have HO := Lib.hid (show One W w.heap.size 22 (.slice A n c) from g0)
    have HO' := Lib.hid (show One W (w.heap.size + 1) 22 (.slice B m d) from g1)
    have HSW := Lib.hid (HS.out.keep hB)
    have HSW' := Lib.hid (HS'.out.keep hB)
    clear hB g0 g1
    go_wp2_with (first
      | (go_at_call 46; ((with_reducible refine (build_Add n _ _ (fun i => cfE xs i + cfE ys i) _ (by omega) (fun i hi W' hb => add1_any w.heap.size (w.heap.size + 1) A n c xs B m d ys i W' (HO.out.keep hb).c (HO'.out.keep hb).c (HSW.out.keep hb) (HSW'.out.keep hb))).mono ?_)); rintro e W1 ⟨A', m', c', rfl, hm', hs, hb⟩; have HS1 := Lib.hid hs; clear hs))
    go_ret
    exact ⟨A', m', c', rfl, by omega, by have := HS1.out; unfold addE; rw [← HL.out, ← HL'.out, show max n m = n by omega]; exact this, below_step HB.out hb⟩

set_option maxHeartbeats 400000 in
theorem polySub_any (A : Option Addr) (n c : Nat) (xs : List E2) (B : Option Addr) (m d : Nat) (ys : List E2) (w : World) (h : Sl w A n c xs) (h' : Sl w B m d ys) (hn : n ≤ 65536) (hm : m ≤ 65536) :
    Calls Try.prog 21 #[.slice A n c, .slice B m d] w fun e w' => ∃ A' m' c', e = .returned (.slice A' m' c') ∧ m' ≤ max n m ∧ Sl w' A' m' c' (subE xs ys) ∧ Below w.heap.size w w' := by
  have HL := Lib.hid h.len
  have HL' := Lib.hid h'.len
  have HS := Lib.hid h
  have HS' := Lib.hid h'
  clear h h'
  by_cases hlt : n < m
  · go_enter Try.func21, Try.ntmps21
    go_wp2_with fail
    refine calls_named2 (fun W hB g0 g1 hz => ?_)
    have HB := Lib.hid hB
    have HO := Lib.hid (show One W w.heap.size 22 (.slice A n c) from g0)
    have HO' := Lib.hid (show One W (w.heap.size + 1) 22 (.slice B m d) from g1)
    have HSW := Lib.hid (HS.out.keep hB)
    have HSW' := Lib.hid (HS'.out.keep hB)
    clear hB g0 g1
    go_wp2_with (first
      | (go_at_call 46; ((with_reducible refine (build_Sub m _ _ (fun i => cfE xs i - cfE ys i) _ (by omega) (fun i hi W' hb => sub1_any w.heap.size (w.heap.size + 1) A n c xs B m d ys i W' (HO.out.keep hb).c (HO'.out.keep hb).c (HSW.out.keep hb) (HSW'.out.keep hb))).mono ?_)); rintro e W1 ⟨A', m', c', rfl, hm', hs, hb⟩; have HS1 := Lib.hid hs; clear hs))
    go_ret
    exact ⟨A', m', c', rfl, by omega, by have := HS1.out; unfold subE; rw [← HL.out, ← HL'.out, show max n m = m by omega]; exact this, below_step HB.out hb⟩
  · go_enter Try.func21, Try.ntmps21
    go_wp2_with fail
    refine calls_named2 (fun W hB g0 g1 hz => ?_)
    have HB := Lib.hid hB
    have HO := Lib.hid (show One W w.heap.size 22 (.slice A n c) from g0)
    have HO' := Lib.hid (show One W (w.heap.size + 1) 22 (.slice B m d) from g1)
    have HSW := Lib.hid (HS.out.keep hB)
    have HSW' := Lib.hid (HS'.out.keep hB)
    clear hB g0 g1
    go_wp2_with (first
      | (go_at_call 46; ((with_reducible refine (build_Sub n _ _ (fun i => cfE xs i - cfE ys i) _ (by omega) (fun i hi W' hb => sub1_any w.heap.size (w.heap.size + 1) A n c xs B m d ys i W' (HO.out.keep hb).c (HO'.out.keep hb).c (HSW.out.keep hb) (HSW'.out.keep hb))).mono ?_)); rintro e W1 ⟨A', m', c', rfl, hm', hs, hb⟩; have HS1 := Lib.hid hs; clear hs))
    go_ret
    exact ⟨A', m', c', rfl, by omega, by have := HS1.out; unfold subE; rw [← HL.out, ← HL'.out, show max n m = n by omega]; exact this, below_step HB.out hb⟩

set_option maxHeartbeats 400000 in
theorem polyScale_any (A : Option Addr) (n c : Nat) (xs : List E2) (y : E2) (w : World) (h : Sl w A n c xs) (hn : n ≤ 65536) :
    Calls Try.prog 25 #[.slice A n c, .agg #[.int .u64 (vF (y).A), .int .u64 (vF (y).B)]] w fun e w' => ∃ A' m' c', e = .returned (.slice A' m' c') ∧ m' ≤ n ∧ Sl w' A' m' c' (scaleE xs y) ∧ Below w.heap.size w w' := by
  have HL := Lib.hid h.len
  have HS := Lib.hid h
  clear h
  go_enter Try.func25, Try.ntmps25
  go_wp2_with fail
  refine calls_named2 (fun W hB g0 g1 hz => ?_)
  have HB := Lib.hid hB
  have HO := Lib.hid (show One W w.heap.size 22 (.slice A n c) from g0)
  have HT := Lib.hid (show Two W (w.heap.size + 1) 25 (.int .u64 (vF y.A)) (.int .u64 (vF y.B)) from g1)
  have HSW := Lib.hid (HS.out.keep hB)
  clear hB g0 g1
  go_wp2_with (first
    | (go_at_call 46; ((with_reducible refine (build_Scale n _ _ (fun i => y * cfE xs i) _ hn (fun i hi W' hb => scale1_any (w.heap.size + 1) w.heap.size y A n c xs i W' (HT.out.keep hb).c0 (HT.out.keep hb).c1 (HO.out.keep hb).c (HSW.out.keep hb) hi)).mono ?_)); rintro e W1 ⟨A', m, c', rfl, hm, hs, hb⟩; have HS1 := Lib.hid hs; clear hs))
  go_ret
  exact ⟨A', m, c', rfl, hm, by have := HS1.out; rw [HL.out, tab_scale] at this; exact this, below_step HB.out hb⟩

end Go.Proofs.Ytjimnoikkgheaaa
