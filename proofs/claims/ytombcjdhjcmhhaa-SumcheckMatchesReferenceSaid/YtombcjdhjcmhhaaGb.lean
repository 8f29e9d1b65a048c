/- Several texts in one: Mra, Mrc, Zmk, Zst, Mre, Msw. -/
import Derived.Test.YtombcjdhjcmhhaaGa
import Derived.Deep.Cut
import Derived.Test.YtombcjdhjcmhhaaFloat
import Derived.Test.YtombcjdhjcmhhaaLawA
import Derived.Test.YtombcjdhjcmhhaaLex
/- Contracts of the reference of package mle: the equality polynomial, weights, values, tables of weights, streaming, embedded tables; no conditions but lengths. Contracts of the reference of package mle: tables with a variable fixed, points of lines; no conditions but lengths. -/
namespace Go.Proofs.Ytombcjdhjcmhhaa
set_option maxRecDepth 8000
section
open Go.RowKit Gold

set_option maxHeartbeats 2000000 in
theorem rEq_any (A : Option Addr) (n c : Nat) (xs : List E2) (B : Option Addr) (m d : Nat) (ys : List E2) (w : World) (h : Sl w A n c xs) (h' : Sl w B m d ys) (hnm : n = m) :
    Calls Try.prog 67 #[.slice A n c, .slice B m d] w fun e w' => e = .returned (.agg #[.int .u64 (vF (eqE xs ys).A), .int .u64 (vF (eqE xs ys).B)]) ∧ Below w.heap.size w w' := by
  subst hnm
  have hcap := h.cap
  have htop := h.top
  have HS := Lib.hid h
  have HT := Lib.hid h'
  clear h h'
  go_enter Try.func67, Try.ntmps67
  go_wp2_with fail
  refine calls_named1 (fun V hbV g0 hzV => ?_)
  have HZ := Lib.hid (show Two V w.heap.size 43 (.int .u64 0) (.int .u64 0) from g0)
  have HB := Lib.hid hbV
  clear g0 hbV
  refine (rOne_any V).mono ?_
  rintro e W1 ⟨rfl, hb⟩
  have HZ1 := Lib.hid (HZ.out.keep hb)
  have HB1 := Lib.hid (below_step HB.out hb)
  clear hb HZ HB
  go_wp2_with fail
  refine wp_named1 (fun V2 hbV g0 hzV2 => ?_)
  have HO2 := Lib.hid (show Two V2 W1.heap.size 43 (.int .u64 (vF E2.one.A)) (.int .u64 (vF E2.one.B)) from g0)
  have HZ2 := Lib.hid (HZ1.out.keep hbV)
  have HB2 := Lib.hid (below_step HB1.out hbV)
  have hlz : w.heap.size < W1.heap.size := HZ1.out.lt
  clear g0 hbV HZ1 HB1
  generalize W1.heap.size = b5 at *
  go_loopw [6] (fun s wr => ∃ k : Nat, k ≤ n ∧ s = .int .i64 k ∧ Two wr b5 43 (.int .u64 (vF ((List.zipWith agr (xs.take k) (ys.take k)).foldl (· * ·) E2.one).A)) (.int .u64 (vF ((List.zipWith agr (xs.take k) (ys.take k)).foldl (· * ·) E2.one).B)) ∧ Two wr w.heap.size 43 (.int .u64 0) (.int .u64 0) ∧ Below w.heap.size w wr) (fun s _ => n - (intOf s).toNat)
  case atStart => exact ⟨0, Nat.zero_le _, rfl, HO2.out, HZ2.out, HB2.out⟩
  case round =>
    clear HO2 HZ2 HB2
    obtain ⟨k, hk, rfl, ho, hz, hb⟩ := hrel
    have HZ := Lib.hid hz
    have HB := Lib.hid hb
    clear hz hb
    by_cases hlt : k < n
    · obtain ⟨x, hx⟩ := HS.out.get hlt
      obtain ⟨ad, rfl, p0, p1⟩ := (HS.out.keep HB.out).at_ hx
      obtain ⟨y, hy⟩ := HT.out.get hlt
      obtain ⟨ad2, rfl, q0, q1⟩ := (HT.out.keep HB.out).at_ hy
      have HE := Lib.hid (zip_take_succ (f := agr) hx hy)
      generalize hq : (List.zipWith agr (xs.take k) (ys.take k)).foldl (· * ·) E2.one = q at ho
      have HQ := Lib.hid hq
      have HO := Lib.hid ho
      clear hx hy hq ho
      have l0 := Later.cell HO.out.c0
      have l1 := Later.cell HO.out.c1
      have l4 := Later.cell p0
      have l5 := Later.cell p1
      have l6 := Later.cell q0
      have l7 := Later.cell q1
      clear p0 p1 q0 q1
      have hk0 : (0 : Int) ≤ (k : Int) := by omega
      have hk1 : (k : Int) < (n : Int) := by omega
      go_wp2_with fail
      refine wp_later_tail 11 (by kernel_rfl) (by kernel_rfl) ?_
      simp only [List.take_succ_cons, List.take_zero, List.drop_succ_cons, List.drop_zero]
      repeat (go_big_quiet_step (first
        | (go_at_call 87; with_reducible exact Calls.later (rFactor_any x y _))
        | (go_at_call 36; with_reducible exact Calls.later (rMul_any q (agr x y) _))))
      refine wpQuiet_nil ?_
      intro X
      clear l0 l1 l4 l5 l6 l7
      have HO1 := Lib.hid (HO.out.keep X.below)
      have HZ1 := Lib.hid (HZ.out.keep X.below)
      have HB1 := Lib.hid (below_step HB.out X.below)
      have c0 := HO1.out.c0
      have c1 := HO1.out.c1
      have f0 := HO1.out.f0
      have f1 := HO1.out.f1
      go_wp2_with fail
      go_roundw
      case rel => exact ⟨k + 1, by omega, by go_num, by rw [HE.out, List.foldl_append, HQ.out]; exact (HO1.out.set0 _).set1 _, (HZ1.out.far _ (by simp; omega)).far _ (by simp; omega), (HB1.out.setCell (by simp; omega) _).setCell (by simp; omega) _⟩
      case measure => simp [intOf]; omega
    · have hkn : k = n := by omega
      subst hkn
      rw [List.take_of_length_le (by have := HS.out.len; omega), List.take_of_length_le (by have := HT.out.len; omega)] at ho
      generalize hq : (List.zipWith agr xs ys).foldl (· * ·) E2.one = q at ho
      have HQ := Lib.hid (show eqE xs ys = q from hq)
      clear hq
      have c0 := ho.c0
      have c1 := ho.c1
      have z0 := HZ.out.c0
      have z1 := HZ.out.c1
      have f0 := HZ.out.f0
      have f1 := HZ.out.f1
      clear ho
      go_wp2_with fail
      exact bodyPost_ret (v := .agg #[.int .u64 (vF q.A), .int .u64 (vF q.B)]) (by simp [results, Try.results67, go_sem, z0, z1]) rfl ⟨by rw [HQ.out], (HB.out.setCell (Nat.le_refl _) _).setCell (Nat.le_refl _) _⟩

set_option maxHeartbeats 1000000 in
theorem rEqIndex_any (i : Nat) (B : Option Addr) (m d : Nat) (ps : List E2) (w : World) (h : Sl w B m d ps) (hi : i ≤ 4611686018427387904) (hm : m ≤ 16) :
    Calls Try.prog 49 #[.int .i64 (i : Int), .slice B m d] w fun e w' => e = .returned (.agg #[.int .u64 (vF (eqW i ps).A), .int .u64 (vF (eqW i ps).B)]) ∧ Below w.heap.size w w' := by
  have HP := Lib.hid h
  have HL := Lib.hid h.len
  clear h
  go_enter Try.func49, Try.ntmps49
  go_wp2_with fail
  refine calls_named1 (fun V hbV g0 hzV => ?_)
  have HZ := Lib.hid (show Two V w.heap.size 43 (.int .u64 0) (.int .u64 0) from g0)
  have HB := Lib.hid hbV
  clear g0 hbV
  refine (rVertex_any i m V hi (by omega)).mono ?_
  rintro e W1 ⟨A1, c1, rfl, hr, hb⟩
  have HZ1 := Lib.hid (HZ.out.keep hb)
  have HB1 := Lib.hid (below_step HB.out hb)
  have HV1 := Lib.hid hr
  clear hr hb HZ HB
  go_wp2_with fail
  refine (rEq_any _ _ _ _ _ _ _ _ _ HV1.out (HP.out.keep HB1.out) rfl).mono ?_
  rintro e W2 ⟨rfl, hb⟩
  have HZ2 := Lib.hid (HZ1.out.keep hb)
  have HB2 := Lib.hid (below_step HB1.out hb)
  clear hb
  rw [eqE_vtx' ps i m HL.out.symm]
  have c0 := HZ2.out.c0
  have c1 := HZ2.out.c1
  have f0 := HZ2.out.f0
  have f1 := HZ2.out.f1
  go_wp2_with fail
  exact bodyPost_ret (v := .agg #[.int .u64 (vF (eqW i ps).A), .int .u64 (vF (eqW i ps).B)]) (by simp [results, Try.results49, go_sem, c0, c1]) rfl ⟨rfl, (HB2.out.setCell (Nat.le_refl _) _).setCell (Nat.le_refl _) _⟩


set_option maxHeartbeats 2000000 in
theorem rEval_any (A : Option Addr) (n c : Nat) (xs : List E2) (B : Option Addr) (m d : Nat) (ps : List E2) (w : World) (h : Sl w A n c xs) (h' : Sl w B m d ps) (hn : n = 2 ^ m) (hm : m ≤ 16) :
    Calls Try.prog 29 #[.slice A n c, .slice B m d] w fun e w' => e = .returned (.agg #[.int .u64 (vF (mleE xs ps).A), .int .u64 (vF (mleE xs ps).B)]) ∧ Below w.heap.size w w' := by
  have hcap := h.cap
  have htop := h.top
  have hn1 : n ≤ 65536 := by rw [hn]; exact Nat.pow_le_pow_right (n := 2) (by omega) hm
  have HS := Lib.hid h
  have HP := Lib.hid h'
  have HE := Lib.hid (show sumE n (fun i => cfE xs i * eqW i ps) = mleE xs ps by unfold mleE; rw [mleF_sum, hn, ← h'.len])
  clear h h' hn
  go_enter Try.func29, Try.ntmps29
  go_wp2_with fail
  refine wp_named2 (fun V hbV g0 g1 hzV => ?_)
  have HZ := Lib.hid (show Two V w.heap.size 43 (.int .u64 0) (.int .u64 0) from g0)
  have HO := Lib.hid (show Two V (w.heap.size + 1) 43 (.int .u64 0) (.int .u64 0) from g1)
  have HB := Lib.hid hbV
  clear g0 g1 hbV
  go_loopw [6] (fun s wr => ∃ k : Nat, k ≤ n ∧ s = .int .i64 k ∧ Two wr (w.heap.size + 1) 43 (.int .u64 (vF (sumE k (fun i => cfE xs i * eqW i ps)).A)) (.int .u64 (vF (sumE k (fun i => cfE xs i * eqW i ps)).B)) ∧ Two wr w.heap.size 43 (.int .u64 0) (.int .u64 0) ∧ Below w.heap.size w wr) (fun s _ => n - (intOf s).toNat)
  case atStart => exact ⟨0, Nat.zero_le _, rfl, HO.out, HZ.out, HB.out⟩
  case round =>
    clear HO HZ HB
    obtain ⟨k, hk, rfl, ho, hz, hb⟩ := hrel
    have HZ := Lib.hid hz
    have HB := Lib.hid hb
    clear hz hb
    by_cases hlt : k < n
    · obtain ⟨x, hx⟩ := HS.out.get hlt
      obtain ⟨ad, rfl, p0, p1⟩ := (HS.out.keep HB.out).at_ hx
      have HX := Lib.hid (cfE_some hx)
      generalize hq : sumE k (fun i => cfE xs i * eqW i ps) = q at ho
      have HQ := Lib.hid hq
      have HO := Lib.hid ho
      clear hx hq ho
      have l0 := Later.cell HO.out.c0
      have l1 := Later.cell HO.out.c1
      have l4 := Later.cell p0
      have l5 := Later.cell p1
      clear p0 p1
      have hk0 : (0 : Int) ≤ (k : Int) := by omega
      have hk1 : (k : Int) < (n : Int) := by omega
      go_wp2_with fail
      refine wp_later_tail 10 (by kernel_rfl) (by kernel_rfl) ?_
      simp only [List.take_succ_cons, List.take_zero, List.drop_succ_cons, List.drop_zero]
      repeat (go_big_quiet_step (first
        | (go_at_call 49; with_reducible exact Calls.later (rEqIndex_any k B m d ps _ ((HP.out.keep HB.out).keep (Later.below _)) (by omega) hm))
        | (go_at_call 36; with_reducible exact Calls.later (rMul_any x (eqW k ps) _))
        | (go_at_call 32; with_reducible exact Calls.later (rAdd_any q (x * eqW k ps) _))))
      refine wpQuiet_nil ?_
      intro X
      clear l0 l1 l4 l5
      have HO1 := Lib.hid (HO.out.keep X.below)
      have HZ1 := Lib.hid (HZ.out.keep X.below)
      have HB1 := Lib.hid (below_step HB.out X.below)
      have c0 := HO1.out.c0
      have c1 := HO1.out.c1
      have f0 := HO1.out.f0
      have f1 := HO1.out.f1
      go_wp2_with fail
      go_roundw
      case rel => exact ⟨k + 1, by omega, by go_num, by rw [sumE, HQ.out, HX.out]; exact (HO1.out.set0 _).set1 _, (HZ1.out.far _ (by simp)).far _ (by simp), (HB1.out.setCell (by simp) _).setCell (by simp) _⟩
      case measure => simp [intOf]; omega
    · have hkn : k = n := by omega
      subst hkn
      rw [HE.out] at ho
      have c0 := ho.c0
      have c1 := ho.c1
      have z0 := HZ.out.c0
      have z1 := HZ.out.c1
      have f0 := HZ.out.f0
      have f1 := HZ.out.f1
      clear ho
      go_wp2_with fail
      exact bodyPost_ret (v := .agg #[.int .u64 (vF (mleE xs ps).A), .int .u64 (vF (mleE xs ps).B)]) (by simp [results, Try.results29, go_sem, z0, z1]) rfl ⟨rfl, (HB.out.setCell (Nat.le_refl _) _).setCell (Nat.le_refl _) _⟩


end

section
open Go.RowKit Gold

set_option maxHeartbeats 4000000 in
theorem rBind_any (A : Option Addr) (n c : Nat) (xs : List E2) (r : E2) (w : World) (h : Sl w A n c xs) (hn : n ≤ 65536) :
    Calls Try.prog 26 #[.slice A n c, .agg #[.int .u64 (vF r.A), .int .u64 (vF r.B)]] w fun e w' => ∃ A' c', e = .returned (.slice A' (n / 2) c') ∧ Sl w' A' (n / 2) c' (bndE xs r) ∧ Below w.heap.size w w' := by
  have hcap := h.cap
  have htop := h.top
  have HS := Lib.hid h
  have HL := Lib.hid h.len
  clear h
  go_enter Try.func26, Try.ntmps26
  go_wp2_with fail
  go_loopw [5, 6] (fun v s wr => ∃ k : Nat, k ≤ n / 2 ∧ s = .int .i64 k ∧ OwE wr (w.heap.size + 1) v k (tabE k (bndF (cfE xs) r)) ∧ Two wr w.heap.size 43 (.int .u64 (vF r.A)) (.int .u64 (vF r.B)) ∧ Below w.heap.size w wr) (fun _ s _ => n / 2 - (intOf s).toNat)
  case atStart => exact ⟨0, Nat.zero_le _, rfl, by have := OwE.made (w.alloc (.cells #[.int .u64 (vF r.A), .int .u64 (vF r.B)] 43)) (w.heap.size + 1) (by simp); rw [World.size_alloc] at this; exact this, (Two.new w _ _ _).alloc _, ((Below.refl _ _).alloc (Nat.le_refl _) _).alloc (by simp) _⟩
  case round =>
    obtain ⟨k, hk, rfl, ho, hy, hb⟩ := hrel
    have HO := Lib.hid ho
    have HY := Lib.hid hy
    have HB := Lib.hid hb
    clear ho hy hb
    by_cases hlt : k < n / 2
    · obtain ⟨x, hx⟩ := HS.out.get (i := 2 * k) (by omega)
      obtain ⟨ad, rfl, p0, p1⟩ := HS.out.at_ hx
      obtain ⟨y, hy⟩ := HS.out.get (i := 2 * k + 1) (by omega)
      obtain ⟨ad', had, q0, q1⟩ := HS.out.at_ hy
      injection had with had
      subst had
      have HX := Lib.hid (cfE_some hx)
      have HYv := Lib.hid (cfE_some hy)
      have l0 := LaterB.cell (B := w.heap.size + 1) (cell_keep p0 HB.out) (Nat.lt_succ_of_lt (World.block_lt_of_cell? w _ p0))
      have l1 := LaterB.cell (B := w.heap.size + 1) (cell_keep p1 HB.out) (Nat.lt_succ_of_lt (World.block_lt_of_cell? w _ p1))
      have l2 := LaterB.cell (B := w.heap.size + 1) (cell_keep q0 HB.out) (Nat.lt_succ_of_lt (World.block_lt_of_cell? w _ q0))
      have l3 := LaterB.cell (B := w.heap.size + 1) (cell_keep q1 HB.out) (Nat.lt_succ_of_lt (World.block_lt_of_cell? w _ q1))
      have l4 := LaterB.cell (B := w.heap.size + 1) HY.out.c0 (Nat.lt_succ_self _)
      have l5 := LaterB.cell (B := w.heap.size + 1) HY.out.c1 (Nat.lt_succ_self _)
      clear hx hy p0 p1 q0 q1
      have i0 : (0 : Int) ≤ (k : Int) := by omega
      have i1 : 2 * (k : Int) < (n : Int) := by omega
      have i2 : 2 * (k : Int) + 1 < (n : Int) := by omega
      have i4 : (2 * (k : Int)).toNat = 2 * k := by omega
      have i5 : (2 * (k : Int) + 1).toNat = 2 * k + 1 := by omega
      go_wp2_with fail
      refine wp_heldB (w.heap.size + 1) (by kernel_rfl) (lexOK_of (by kernel_rfl) (by kernel_rfl)) (chainOK_of (by kernel_rfl)) (fun W0 hbW hSW => ?_)
      have HO0 := Lib.hid (HO.out.keep hbW)
      have HY0 := Lib.hid (HY.out.keep hbW)
      have HB0 := Lib.hid (below_step HB.out hbW)
      have HS0 := Lib.hid hSW
      have hz0 : w.heap.size + 1 ≤ W0.heap.size := HY0.out.lt
      clear hbW hSW
      refine wpHeld_seg 18 HS0.out (by kernel_rfl) ?_
      simp only [List.take_succ_cons, List.take_zero, List.drop_succ_cons, List.drop_zero]
      repeat (go_big_quiet_step (fail))
      refine wpQuiet_nil ?_
      clear l0 l1 l2 l3 l4 l5
      refine wpHeld_call 35 Try.func35 (by kernel_rfl) (by kernel_rfl) _ _ #[.agg #[.int .u64 (vF (y).A), .int .u64 (vF (y).B)], .agg #[.int .u64 (vF (x).A), .int .u64 (vF (x).B)]] rfl (by kernel_rfl) (by kernel_rfl) ?_
      refine (rSub_any y x _).mono ?_
      rintro e W1 ⟨rfl, hb⟩
      have HO1 := Lib.hid (HO0.out.keep hb)
      have HY1 := Lib.hid (HY0.out.keep hb)
      have HB1 := Lib.hid (below_step HB0.out hb)
      have HS1 := Lib.hid (LaterB.step HS0.out (hb.mono hz0))
      have hz1 : w.heap.size + 1 ≤ W1.heap.size := HY1.out.lt
      clear hb
      refine ⟨_, rfl, HS1.out, ?_⟩
      simp only [Act.put, List.setIfInBounds_toArray, List.set_cons_zero, List.set_cons_succ]
      refine wpHeld_call 36 Try.func36 (by kernel_rfl) (by kernel_rfl) _ _ #[.agg #[.int .u64 (vF (r).A), .int .u64 (vF (r).B)], .agg #[.int .u64 (vF (y - x).A), .int .u64 (vF (y - x).B)]] rfl (by kernel_rfl) (by kernel_rfl) ?_
      refine (rMul_any r (y - x) _).mono ?_
      rintro e W2 ⟨rfl, hb⟩
      have HO2 := Lib.hid (HO1.out.keep hb)
      have HY2 := Lib.hid (HY1.out.keep hb)
      have HB2 := Lib.hid (below_step HB1.out hb)
      have HS2 := Lib.hid (LaterB.step HS1.out (hb.mono hz1))
      have hz2 : w.heap.size + 1 ≤ W2.heap.size := HY2.out.lt
      clear hb
      refine ⟨_, rfl, HS2.out, ?_⟩
      simp only [Act.put, List.setIfInBounds_toArray, List.set_cons_zero, List.set_cons_succ]
      refine wpHeld_call 32 Try.func32 (by kernel_rfl) (by kernel_rfl) _ _ #[.agg #[.int .u64 (vF (x).A), .int .u64 (vF (x).B)], .agg #[.int .u64 (vF (r * (y - x)).A), .int .u64 (vF (r * (y - x)).B)]] rfl (by kernel_rfl) (by kernel_rfl) ?_
      refine (rAdd_any x (r * (y - x)) _).mono ?_
      rintro e W3 ⟨rfl, hb⟩
      have HO3 := Lib.hid (HO2.out.keep hb)
      have HY3 := Lib.hid (HY2.out.keep hb)
      have HB3 := Lib.hid (below_step HB2.out hb)
      have HS3 := Lib.hid (LaterB.step HS2.out (hb.mono hz2))
      have hz3 : w.heap.size + 1 ≤ W3.heap.size := HY3.out.lt
      clear hb
      refine ⟨_, rfl, HS3.out, ?_⟩
      simp only [Act.put, List.setIfInBounds_toArray, List.set_cons_zero, List.set_cons_succ]
      have HSa := Lib.hid (LaterB.step HS3.out ((Below.refl (w.heap.size + 1) W3).alloc hz3 (.cells #[.int .u64 (vF (x + r * (y - x)).A), .int .u64 (vF (x + r * (y - x)).B)] 43)))
      refine wpHeld_run _ _ (by kernel_rfl) (by kernel_rfl) (run_buildE (x + r * (y - x)) rfl rfl _) HSa.out ?_
      simp only [Act.put, List.setIfInBounds_toArray, List.set_cons_zero, List.set_cons_succ]
      have HOa := Lib.hid (HO3.out.keep ((Below.refl _ _).alloc (Nat.le_refl _) (.cells #[.int .u64 (vF (x + r * (y - x)).A), .int .u64 (vF (x + r * (y - x)).B)] 43)))
      have HTa := Lib.hid (Two.new W3 43 (.int .u64 (vF (x + r * (y - x)).A)) (.int .u64 (vF (x + r * (y - x)).B)))
      have HYa := Lib.hid (HY3.out.alloc (.cells #[.int .u64 (vF (x + r * (y - x)).A), .int .u64 (vF (x + r * (y - x)).B)] 43))
      have HBa := Lib.hid (HB3.out.alloc HB3.out.size (.cells #[.int .u64 (vF (x + r * (y - x)).A), .int .u64 (vF (x + r * (y - x)).B)] 43))
      refine wpHeld_op (by kernel_rfl) (by kernel_rfl) ?_
      refine hOp_appendE (.tmp 16) (.tmp 37) rfl (w.heap.size + 1) _ k _ rfl HOa.out W3.heap.size 1 (x + r * (y - x)) rfl HTa.out (by omega) (by simp; omega) ?_
      intro v1 w1 hown1 hg1
      have HOz := Lib.hid hown1
      have HYz := Lib.hid (two_grown HYa.out hg1 HOa.out (Nat.lt_succ_self _))
      have HBz := Lib.hid (below_grown (w0 := w) HBa.out hg1 HOa.out (Nat.le_succ _))
      have HSz := Lib.hid (LaterB.step HSa.out (Below.grown (Below.refl (w.heap.size + 1) _) hg1 (by simp; omega) (fun q hq => (HOa.out.lt q hq).1)))
      clear hown1 hg1
      refine ⟨HSz.out, ?_⟩
      simp only [Act.put, List.setIfInBounds_toArray, List.set_cons_zero, List.set_cons_succ]
      refine wpHeld_seg 1 HSz.out (by kernel_rfl) ?_
      simp only [List.take_succ_cons, List.take_zero, List.drop_succ_cons, List.drop_zero]
      repeat (go_big_quiet_step (fail))
      refine wpQuiet_nil (wpHeld_nil ?_)
      go_wp2_with fail
      have HE := Lib.hid (show bndF (cfE xs) r k = x + r * (y - x) by unfold bndF btw; rw [HX.out, HYv.out])
      go_roundw
      case rel => exact ⟨k + 1, by omega, by go_num, by rw [tabE_succ, HE.out]; exact HOz.out, HYz.out, HBz.out⟩
      case measure => simp [intOf]; omega
    · have hkn : k = n / 2 := by omega
      subst hkn
      have i2 : ¬ (2 * ((n / 2 : Nat) : Int) + 1 < (n : Int)) := by omega
      obtain ⟨A1, c1, rfl, hs1⟩ := HO.out.sl
      have HSQ := Lib.hid hs1
      clear hs1
      go_wp2_with fail
      go_ret
      exact ⟨A1, c1, rfl, by have := HSQ.out; unfold bndE; rw [← HL.out]; exact this, HB.out⟩

end

end Go.Proofs.Ytombcjdhjcmhhaa

/- Contracts of the reference of package mle: lengths and elements of tables, tables and points that are made; no conditions but lengths. Contracts of the reference of package mle: tables and points that are made out of arbitrary words; no conditions but lengths. -/
namespace Go.Proofs.Ytombcjdhjcmhhaa
set_option maxRecDepth 8000
section
open Go.RowKit Gold

theorem wlt_yes {n k : Nat} (hk : k ≤ 62) (h : 2 ^ k < n) : decide (wrap64 (2 ^ k) < (n : Int)) = true := by rw [wrap_pow2 hk]; exact decide_eq_true (by omega)
theorem wlt_no {n k : Nat} (hk : k ≤ 62) (h : ¬ 2 ^ k < n) : decide (wrap64 (2 ^ k) < (n : Int)) = false := by rw [wrap_pow2 hk]; exact decide_eq_false (by omega)
theorem wne_no {n k : Nat} (hk : k ≤ 62) (h : n = 2 ^ k) : (wrap64 (2 ^ k) != (n : Int)) = false := by rw [wrap_pow2 hk, h]; simp
theorem wne_yes {n k : Nat} (hk : k ≤ 62) (h : n ≠ 2 ^ k) : (wrap64 (2 ^ k) != (n : Int)) = true := by rw [wrap_pow2 hk, bne_iff_ne]; exact fun e => h (Int.ofNat.inj e).symm

end

section
open Go.RowKit Gold

theorem own_not {w : World} {base n : Nat} {v : Value} {xs : List E2} (h : OwE w base v n xs) {b : Nat} (hb : w.heap.size ≤ b) : v.ownBlock ≠ some b := fun e => by
  have := (World.ownsRow.lt h _ e).2
  omega

end

end Go.Proofs.Ytombcjdhjcmhhaa

/- Moves of the walk of drawn regions: slices of integers, slices of elements; no conditions. -/
namespace Go.Proofs.Ytombcjdhjcmhhaa
set_option maxRecDepth 8000
open Go.RowKit Gold
variable {ops : Array Oper} {w0 : World} {Q : Exit → Act → World → Prop}
theorem wpF_ints1 {o : Oper} {l : List Oper} {a : Act} {w : World} (z1 : Int) (ho : o.op = .buildSlice 69 1 #[(0, .const (.int .i64 z1))]) (hw : Region.wanted o (yielded ops a.tmps) = true)
    (h : ∀ b V, Below w.heap.size w V → Sz V (some ⟨b, 0, none⟩) 1 1 [z1] → wpF Try.prog ops w0 Q l (a.put o.dst (.slice (some ⟨b, 0, none⟩) 1 1)) V) : wpF Try.prog ops w0 Q (o :: l) a w := by
  have hm : makerOp o = true := by unfold makerOp; rw [ho]
  have hs : stillOp o = false := by unfold stillOp; rw [ho]
  have hv : ∀ b, mkVal o b = .slice (some ⟨b, 0, none⟩) 1 1 := fun b => by unfold mkVal; rw [ho]
  refine wpF_make (.cells #[.int .i64 z1] 2) hs hm hw (fun W => ?_) (fun b V hb hg _ => ?_)
  · rw [hv]
    unfold execOp
    rw [ho]
    simp only [List.map_toArray, List.map_cons, List.map_nil, Act.eval]
    go_simp
  · rw [hv]
    exact h b V hb (Sz.of (zs := [z1]) hg (by simp))
theorem wpF_ints2 {o : Oper} {l : List Oper} {a : Act} {w : World} (z1 z2 : Int) (ho : o.op = .buildSlice 69 2 #[(0, .const (.int .i64 z1)), (1, .const (.int .i64 z2))]) (hw : Region.wanted o (yielded ops a.tmps) = true)
    (h : ∀ b V, Below w.heap.size w V → Sz V (some ⟨b, 0, none⟩) 2 2 [z1, z2] → wpF Try.prog ops w0 Q l (a.put o.dst (.slice (some ⟨b, 0, none⟩) 2 2)) V) : wpF Try.prog ops w0 Q (o :: l) a w := by
  have hm : makerOp o = true := by unfold makerOp; rw [ho]
  have hs : stillOp o = false := by unfold stillOp; rw [ho]
  have hv : ∀ b, mkVal o b = .slice (some ⟨b, 0, none⟩) 2 2 := fun b => by unfold mkVal; rw [ho]
  refine wpF_make (.cells #[.int .i64 z1, .int .i64 z2] 2) hs hm hw (fun W => ?_) (fun b V hb hg _ => ?_)
  · rw [hv]
    unfold execOp
    rw [ho]
    simp only [List.map_toArray, List.map_cons, List.map_nil, Act.eval]
    go_simp
  · rw [hv]
    exact h b V hb (Sz.of (zs := [z1, z2]) hg (by simp))
theorem wpF_ints3 {o : Oper} {l : List Oper} {a : Act} {w : World} (z1 z2 z3 : Int) (ho : o.op = .buildSlice 69 3 #[(0, .const (.int .i64 z1)), (1, .const (.int .i64 z2)), (2, .const (.int .i64 z3))]) (hw : Region.wanted o (yielded ops a.tmps) = true)
    (h : ∀ b V, Below w.heap.size w V → Sz V (some ⟨b, 0, none⟩) 3 3 [z1, z2, z3] → wpF Try.prog ops w0 Q l (a.put o.dst (.slice (some ⟨b, 0, none⟩) 3 3)) V) : wpF Try.prog ops w0 Q (o :: l) a w := by
  have hm : makerOp o = true := by unfold makerOp; rw [ho]
  have hs : stillOp o = false := by unfold stillOp; rw [ho]
  have hv : ∀ b, mkVal o b = .slice (some ⟨b, 0, none⟩) 3 3 := fun b => by unfold mkVal; rw [ho]
  refine wpF_make (.cells #[.int .i64 z1, .int .i64 z2, .int .i64 z3] 2) hs hm hw (fun W => ?_) (fun b V hb hg _ => ?_)
  · rw [hv]
    unfold execOp
    rw [ho]
    simp only [List.map_toArray, List.map_cons, List.map_nil, Act.eval]
    go_simp
  · rw [hv]
    exact h b V hb (Sz.of (zs := [z1, z2, z3]) hg (by simp))
theorem wpF_ints4 {o : Oper} {l : List Oper} {a : Act} {w : World} (z1 z2 z3 z4 : Int) (ho : o.op = .buildSlice 69 4 #[(0, .const (.int .i64 z1)), (1, .const (.int .i64 z2)), (2, .const (.int .i64 z3)), (3, .const (.int .i64 z4))]) (hw : Region.wanted o (yielded ops a.tmps) = true)
    (h : ∀ b V, Below w.heap.size w V → Sz V (some ⟨b, 0, none⟩) 4 4 [z1, z2, z3, z4] → wpF Try.prog ops w0 Q l (a.put o.dst (.slice (some ⟨b, 0, none⟩) 4 4)) V) : wpF Try.prog ops w0 Q (o :: l) a w := by
  have hm : makerOp o = true := by unfold makerOp; rw [ho]
  have hs : stillOp o = false := by unfold stillOp; rw [ho]
  have hv : ∀ b, mkVal o b = .slice (some ⟨b, 0, none⟩) 4 4 := fun b => by unfold mkVal; rw [ho]
  refine wpF_make (.cells #[.int .i64 z1, .int .i64 z2, .int .i64 z3, .int .i64 z4] 2) hs hm hw (fun W => ?_) (fun b V hb hg _ => ?_)
  · rw [hv]
    unfold execOp
    rw [ho]
    simp only [List.map_toArray, List.map_cons, List.map_nil, Act.eval]
    go_simp
  · rw [hv]
    exact h b V hb (Sz.of (zs := [z1, z2, z3, z4]) hg (by simp))
theorem wpF_ints5 {o : Oper} {l : List Oper} {a : Act} {w : World} (z1 z2 z3 z4 z5 : Int) (ho : o.op = .buildSlice 69 5 #[(0, .const (.int .i64 z1)), (1, .const (.int .i64 z2)), (2, .const (.int .i64 z3)), (3, .const (.int .i64 z4)), (4, .const (.int .i64 z5))]) (hw : Region.wanted o (yielded ops a.tmps) = true)
    (h : ∀ b V, Below w.heap.size w V → Sz V (some ⟨b, 0, none⟩) 5 5 [z1, z2, z3, z4, z5] → wpF Try.prog ops w0 Q l (a.put o.dst (.slice (some ⟨b, 0, none⟩) 5 5)) V) : wpF Try.prog ops w0 Q (o :: l) a w := by
  have hm : makerOp o = true := by unfold makerOp; rw [ho]
  have hs : stillOp o = false := by unfold stillOp; rw [ho]
  have hv : ∀ b, mkVal o b = .slice (some ⟨b, 0, none⟩) 5 5 := fun b => by unfold mkVal; rw [ho]
  refine wpF_make (.cells #[.int .i64 z1, .int .i64 z2, .int .i64 z3, .int .i64 z4, .int .i64 z5] 2) hs hm hw (fun W => ?_) (fun b V hb hg _ => ?_)
  · rw [hv]
    unfold execOp
    rw [ho]
    simp only [List.map_toArray, List.map_cons, List.map_nil, Act.eval]
    go_simp
  · rw [hv]
    exact h b V hb (Sz.of (zs := [z1, z2, z3, z4, z5]) hg (by simp))
theorem wpF_exts1 {o : Oper} {l : List Oper} {a : Act} {w : World} {x : Operand} (y : E2) (ho : o.op = .buildSlice 22 1 #[(0, x)]) (hx : a.eval x = .agg #[.int .u64 (vF y.A), .int .u64 (vF y.B)]) (hw : Region.wanted o (yielded ops a.tmps) = true)
    (h : ∀ b V, Below w.heap.size w V → Sl V (some ⟨b, 0, none⟩) 1 1 [y] → wpF Try.prog ops w0 Q l (a.put o.dst (.slice (some ⟨b, 0, none⟩) 1 1)) V) : wpF Try.prog ops w0 Q (o :: l) a w := by
  have hm : makerOp o = true := by unfold makerOp; rw [ho]
  have hs : stillOp o = false := by unfold stillOp; rw [ho]
  have hv : ∀ b, mkVal o b = .slice (some ⟨b, 0, none⟩) 1 1 := fun b => by unfold mkVal; rw [ho]
  refine wpF_make (.cells #[.int .u64 (vF y.A), .int .u64 (vF y.B)] 43) hs hm hw (fun W => ?_) (fun b V hb hg _ => ?_)
  · rw [hv]
    exact run_buildE y ho hx W
  · rw [hv]
    exact h b V hb (Row.slc (xs := [y]) hg rfl (by omega) (by omega))
theorem wpF_exts2 {o : Oper} {l : List Oper} {a : Act} {w : World} {p q : Operand} (y z : E2) (ho : o.op = .buildSlice 22 2 #[(0, p), (1, q)]) (hp : a.eval p = .agg #[.int .u64 (vF y.A), .int .u64 (vF y.B)]) (hq : a.eval q = .agg #[.int .u64 (vF z.A), .int .u64 (vF z.B)]) (hw : Region.wanted o (yielded ops a.tmps) = true)
    (h : ∀ b V, Below w.heap.size w V → Sl V (some ⟨b, 0, none⟩) 2 2 [y, z] → wpF Try.prog ops w0 Q l (a.put o.dst (.slice (some ⟨b, 0, none⟩) 2 2)) V) : wpF Try.prog ops w0 Q (o :: l) a w := by
  have hm : makerOp o = true := by unfold makerOp; rw [ho]
  have hs : stillOp o = false := by unfold stillOp; rw [ho]
  have hv : ∀ b, mkVal o b = .slice (some ⟨b, 0, none⟩) 2 2 := fun b => by unfold mkVal; rw [ho]
  refine wpF_make (.cells #[.int .u64 (vF y.A), .int .u64 (vF y.B), .int .u64 (vF z.A), .int .u64 (vF z.B)] 43) hs hm hw (fun W => ?_) (fun b V hb hg _ => ?_)
  · rw [hv]
    exact run_buildE2 y z ho hp hq W
  · rw [hv]
    exact h b V hb (Row.slc (xs := [y, z]) hg rfl (by omega) (by omega))
theorem wpF_len {o : Oper} {l : List Oper} {a : Act} {w : World} {x : Operand} {ts : Array TypeId} (A : Option Addr) (n c : Nat) (ho : o.op = .call { callee := .builtin .len, args := #[x], argTypes := ts }) (hx : a.eval x = .slice A n c) (hr : ∀ W, (Builtin.len_ ts o.type #[.slice A n c]).run Try.prog W = .ok (.int .i64 n) W) (hw : Region.wanted o (yielded ops a.tmps) = true) (hS : SL w0 w)
    (h : ∀ V, Below w.heap.size w V → wpF Try.prog ops w0 Q l (a.put o.dst (.int .i64 n)) V) : wpF Try.prog ops w0 Q (o :: l) a w := by
  have hm : makerOp o = false := by unfold makerOp; rw [ho]
  have hs : stillOp o = false := by unfold stillOp; rw [ho]
  refine wpF_val (.int .i64 n) hs hm hw (fun W => ?_) hS h
  have e : (execOp a.eval o).run Try.prog W = ((Builtin.len_ ts o.type #[a.eval x]).run Try.prog W).andThen fun v w' => .ok (.value v) w' := by
    unfold execOp
    rw [ho]
    go_simp
  rw [e, hx, hr W]
  rfl
theorem rFromNd_any (n : Int) (w : World) (h0 : -9223372036854775808 ≤ n) (h1 : n < 9223372036854775808) :
    Calls Try.prog 37 #[.int .i64 n] w fun e w' => e = .returned (.agg #[.int .u64 (vF (ndZ n).A), .int .u64 (vF (ndZ n).B)]) ∧ Below w.heap.size w w' := rFromInt_any n w h0 h1
theorem Sl.cast {w : World} {A : Option Addr} {n c : Nat} {xs ys : List E2} (h : Sl w A n c xs) (e : xs = ys) : Sl w A n c ys := e ▸ h
theorem run_eqE_same (x : E2) (w : World) : (binOp .eql 43 (.agg #[.int .u64 (vF x.A), .int .u64 (vF x.B)]) (.agg #[.int .u64 (vF x.A), .int .u64 (vF x.B)])).run Try.prog w = .ok (.bool true) w := by
  have h := run_eqlE x x w
  rw [decide_eq_true rfl] at h
  exact h
end Go.Proofs.Ytombcjdhjcmhhaa

/- Moves of the walk of drawn regions: a new element that is stored zero; no conditions. -/
namespace Go.Proofs.Ytombcjdhjcmhhaa
set_option maxRecDepth 8000
open Go.RowKit Gold
variable {ops : Array Oper} {w0 : World} {Q : Exit → Act → World → Prop}

theorem setCell_same {W : World} {b i : Nat} {cs : Array Value} {t : TypeId} {f : Nat × Nat} {v : Value} (h : W.heap[b]? = some (.cells cs t f)) (hv : cs[i]? = some v) : W.setCell ⟨b, i, none⟩ v = W := by
  have hs : cs.setIfInBounds i v = cs := by
    refine Array.ext_getElem? fun j => ?_
    rw [Array.getElem?_setIfInBounds]
    split
    · rename_i e
      subst e
      rw [hv]
      have := (Array.getElem?_eq_some_iff.1 hv).1
      simp [this]
    · rfl
  have e : (W.setCell ⟨b, i, none⟩ v).heap = W.heap := by
    refine Array.ext_getElem? fun j => ?_
    by_cases hj : j = b
    · subst hj
      rw [heap_setCell_at h, hs, h]
    · exact Below.heap_setCell W ⟨b, i, none⟩ v j hj
  show ({ W with heap := (W.setCell ⟨b, i, none⟩ v).heap } : World) = W
  rw [e]
theorem wpF_cellE {o : Oper} {l : List Oper} {a : Act} {w : World} (ho : o.op = .alloc 43) (hw : Region.wanted o (yielded ops a.tmps) = true)
    (h : ∀ b V, Below w.heap.size w V → Two V b 43 (.int .u64 0) (.int .u64 0) → wpF Try.prog ops w0 Q l (a.put o.dst (.pointer (some ⟨b, 0, none⟩))) V) : wpF Try.prog ops w0 Q (o :: l) a w := by
  have hm : makerOp o = true := by unfold makerOp; rw [ho]
  have hs : stillOp o = false := by unfold stillOp; rw [ho]
  have hv : ∀ b, mkVal o b = .pointer (some ⟨b, 0, none⟩) := fun b => by unfold mkVal; rw [ho]
  refine wpF_make (.cells #[.int .u64 0, .int .u64 0] 43) hs hm hw (fun W => ?_) (fun b V hb hg _ => ?_)
  · rw [hv]
    unfold execOp
    rw [ho]
    go_simp
  · rw [hv]
    exact h b V hb hg
theorem wpF_zero {o : Oper} {a : Act} {w : World} {p x : Operand} (b : Nat) (ho : o.op = .store 43 p x) (hp : a.eval p = .pointer (some ⟨b, 0, none⟩)) (hx : a.eval x = .agg #[.int .u64 (vF E2.zero.A), .int .u64 (vF E2.zero.B)]) (hw : Region.wanted o (yielded ops a.tmps) = true)
    (hT : Two w b 43 (.int .u64 0) (.int .u64 0)) (hS : SL w0 w) (h : ∀ X, Below w.heap.size w X → Q .normal (a.put o.dst undef) X) : wpF Try.prog ops w0 Q [o] a w := by
  have hm : makerOp o = false := by unfold makerOp; rw [ho]
  have hs : stillOp o = false := by unfold stillOp; rw [ho]
  refine wpF_last (fun W => W) hs hm hw (fun W hW => ?_) (fun W hW => hS.ext hW) (fun W hW X hX => h X (ext_trans hW hX))
  have hT' : Two W b 43 (.int .u64 0) (.int .u64 0) := hT.keep hW
  rw [run_storeE b E2.zero ho hp hx hT']
  have e0 : W.setCell ⟨b, 0, none⟩ (.int .u64 (vF E2.zero.A)) = W := setCell_same hT' rfl
  have e1 : W.setCell ⟨b, 1, none⟩ (.int .u64 (vF E2.zero.B)) = W := setCell_same hT' rfl
  rw [e0, e1]

end Go.Proofs.Ytombcjdhjcmhhaa

/- Contracts of the helpers of the laws of package mle: the tables and points that come in, elements of integers; no conditions but lengths. -/
namespace Go.Proofs.Ytombcjdhjcmhhaa
set_option maxRecDepth 8000
open Go.RowKit Gold

/-- a table with K variables and two points, made in a world that has only added to w0 -/
structure Trio (w0 w : World) (K g M c1 : Nat) (xs : List E2) (A2 : Option Addr) (c2 : Nat) (ps : List E2) (A3 : Option Addr) (c3 : Nat) (ss : List E2) : Prop where
  k6 : K ≤ 6
  pow : M = 2 ^ K
  tab : Tab w g xs
  len : xs.length = M
  cap : M ≤ c1
  top : c1 ≤ 9223372036854775807
  own : ∃ B2, g < B2 ∧ w0.heap.size ≤ B2 ∧ OwE w B2 (.slice A2 K c2) K ps
  pts : Sl w A3 K c3 ss
  base : w0.heap.size ≤ g
section
variable {w0 w w' : World} {K g M c1 : Nat} {xs : List E2} {A2 : Option Addr} {c2 : Nat} {ps : List E2} {A3 : Option Addr} {c3 : Nat} {ss : List E2}
theorem Trio.keep (h : Trio w0 w K g M c1 xs A2 c2 ps A3 c3 ss) (hb : Below w.heap.size w w') : Trio w0 w' K g M c1 xs A2 c2 ps A3 c3 ss :=
  ⟨h.k6, h.pow, h.tab.keep hb, h.len, h.cap, h.top, by obtain ⟨B2, h1, h2, h3⟩ := h.own; exact ⟨B2, h1, h2, h3.keep hb⟩, h.pts.keep hb, h.base⟩
theorem Trio.t (h : Trio w0 w K g M c1 xs A2 c2 ps A3 c3 ss) : Sl w (some ⟨g, 0, none⟩) M c1 xs := h.tab.sl h.len.symm h.cap h.top
theorem Trio.p (h : Trio w0 w K g M c1 xs A2 c2 ps A3 c3 ss) : Sl w A2 K c2 ps := by obtain ⟨B2, _, _, h3⟩ := h.own; exact h3.sl'
theorem Trio.m64 (h : Trio w0 w K g M c1 xs A2 c2 ps A3 c3 ss) : M ≤ 64 := by rw [h.pow]; exact Nat.pow_le_pow_right (n := 2) (by omega) h.k6
theorem Trio.m0 (h : Trio w0 w K g M c1 xs A2 c2 ps A3 c3 ss) : 0 < M := by rw [h.pow]; exact Nat.two_pow_pos K
end

/-- the value of a query that comes in -/
def qval (A : Option Addr) (n c : Nat) (B : Option Addr) (m d : Nat) (C : Option Addr) (k e : Nat) (N : Int) : Value := .agg #[.slice A n c, .slice B m d, .slice C k e, .int .u8 N]


end Go.Proofs.Ytombcjdhjcmhhaa

/- Contracts of package mle and of its reference in the form that walks of drawn regions take: slices by what they read as; makers of words; examples; no conditions but lengths. -/
namespace Go.Proofs.Ytombcjdhjcmhhaa
set_option maxRecDepth 8000
open Go.RowKit Gold

theorem mleBind_sl (A : Option Addr) (n c : Nat) (xs : List E2) (r : E2) (m : Nat) (w : World) (h : Sl w A n c xs) (hn : n ≤ 65536) (h0 : 0 < n) (hm : n / 2 = m) :
    Calls Try.prog 61 #[.slice A n c, .agg #[.int .u64 (vF r.A), .int .u64 (vF r.B)]] w fun e w' => ∃ A' c', e = .returned (.slice A' m c') ∧ Sl w' A' m c' (bndE xs r) ∧ Below w.heap.size w w' :=
  (mleBind_any A n c xs r w h hn h0).mono fun _ _ ⟨g, c', he, hT, _, hc, ht, hb⟩ => ⟨_, c', hm ▸ he, hm ▸ hT.sl (by rw [bndE_length, ← h.len]) hc ht, hb⟩
theorem rBind_sl (A : Option Addr) (n c : Nat) (xs : List E2) (r : E2) (m : Nat) (w : World) (h : Sl w A n c xs) (hn : n ≤ 65536) (hm : n / 2 = m) :
    Calls Try.prog 26 #[.slice A n c, .agg #[.int .u64 (vF r.A), .int .u64 (vF r.B)]] w fun e w' => ∃ A' c', e = .returned (.slice A' m c') ∧ Sl w' A' m c' (bndE xs r) ∧ Below w.heap.size w w' :=
  (rBind_any A n c xs r w h hn).mono fun _ _ ⟨A', c', he, hs, hb⟩ => ⟨A', c', hm ▸ he, hm ▸ hs, hb⟩
theorem rEqIndex_at (i : Int) (k : Nat) (B : Option Addr) (m d : Nat) (ps : List E2) (w : World) (h : Sl w B m d ps) (e : (k : Int) = i) (hi : k ≤ 4611686018427387904) (hm : m ≤ 16) :
    Calls Try.prog 49 #[.int .i64 i, .slice B m d] w fun e w' => e = .returned (.agg #[.int .u64 (vF (eqW k ps).A), .int .u64 (vF (eqW k ps).B)]) ∧ Below w.heap.size w w' := e ▸ rEqIndex_any k B m d ps w h hi hm
theorem rVertex_at (i : Int) (k n : Nat) (w : World) (e : (k : Int) = i) (hi : k ≤ 4611686018427387904) (hn : n ≤ 62) :
    Calls Try.prog 68 #[.int .i64 i, .int .i64 (n : Int)] w fun e w' => ∃ A c, e = .returned (.slice A n c) ∧ Sl w' A n c (vtx k n) ∧ Below w.heap.size w w' := e ▸ rVertex_any k n w hi hn


/-! ### Moves of drawn regions: slices of words -/
section
variable {ops : Array Oper} {w0 : World} {Q : Exit → Act → World → Prop}
end

theorem rFromNd5 (n : Int) (w : World) (h0 : -9223372036854775808 ≤ n) (h1 : n < 9223372036854775808) : Calls Try.prog 37 #[.int .i64 n] w fun e w' => e = .returned (.agg #[.int .u64 (vF (ndZ n).A), .int .u64 (vF (ndZ n).B)]) ∧ Below w.heap.size w w' := rFromInt_any n w h0 h1
/-! ### Examples -/
theorem san_eval : mleE [ndZ (1), ndZ (2), ndZ (5), ndZ (9)] [ndZ (2), ndZ (3)] = ndZ (33) := by decide +kernel
theorem san_one : mleE [ndZ (1)] [] = ndZ (1) := by decide +kernel
theorem san_bind : bndE [ndZ (1), ndZ (2), ndZ (5), ndZ (9)] (ndZ (2)) = [ndZ (3), ndZ (13)] := by decide +kernel
theorem san_tab : eqT [ndZ (2), ndZ (3)] = [ndZ (2), ndZ (-4), ndZ (-3), ndZ (6)] := by decide +kernel
theorem san_tab0 : eqT [] = [ndZ (1)] := by decide +kernel
theorem san_idx : eqW 2 [ndZ (2), ndZ (3)] = ndZ (-3) := by decide +kernel
theorem san_eq : eqE [ndZ (2), ndZ (3)] [ndZ (2), ndZ (3)] = ndZ (65) := by decide +kernel
theorem san_acc : ndZ (33) + ndZ (2) * eqW 3 [ndZ (2), ndZ (3)] = ndZ (45) := by decide +kernel
theorem san_line : lineE [ndZ (1), ndZ (5)] [ndZ (4), ndZ (3)] (ndZ (2)) = [ndZ (7), ndZ (1)] := by decide +kernel
theorem san_lift : ([7, 0] : List F).map E2.ofF = [ndZ (7), ndZ (0)] := by decide +kernel
theorem san_pow3 (K : Nat) (h : K ≤ 16) : 3 ≠ 2 ^ K := by
  have k : ∀ k : Fin 17, 3 ≠ 2 ^ k.val := by decide
  exact k ⟨K, by omega⟩
theorem san_pow0 (K : Nat) (_ : K ≤ 16) : 0 ≠ 2 ^ K := by have := Nat.two_pow_pos K; omega
theorem san_bad : allV [(18446744069414584321, 0)] = false := by decide
theorem vF_seven : (7 : Int) = vF (7 : F) := by decide
theorem vF_nil : (0 : Int) = vF (0 : F) := by decide
theorem mleE_eqT {ps ss : List E2} (h : ps.length = ss.length) : mleE (eqT ps) ss = eqE ps ss := by
  rw [← mleF_eqW ps ss h]
  unfold mleE eqT
  refine mleF_congr fun i hi => ?_
  rw [cfE_tabE, if_pos (by rw [h]; exact hi)]
theorem mleE_vtx {xs : List E2} {n i : Nat} (h : i < 2 ^ n) : mleE xs (vtx i n) = cfE xs i := mleF_vtx n i _ h
/-- a query in its box -/
def Box4 (W : World) (b : Nat) (t : TypeId) (v0 v1 v2 v3 : Value) : Prop := W.heap[b]? = some (.cells #[v0, v1, v2, v3] t (0, 0))
section
variable {W W1 : World} {b : Nat} {t : TypeId} {v0 v1 v2 v3 : Value}
theorem Box4.keep (h : Box4 W b t v0 v1 v2 v3) (hb : Below W.heap.size W W1) : Box4 W1 b t v0 v1 v2 v3 := heap_keep h hb
theorem Box4.c0 (h : Box4 W b t v0 v1 v2 v3) : W.cell? ⟨b, 0, none⟩ = some v0 := by simp [World.cell?, show W.heap[b]? = _ from h]
theorem Box4.c1 (h : Box4 W b t v0 v1 v2 v3) : W.cell? ⟨b, 1, none⟩ = some v1 := by simp [World.cell?, show W.heap[b]? = _ from h]
theorem Box4.c2 (h : Box4 W b t v0 v1 v2 v3) : W.cell? ⟨b, 2, none⟩ = some v2 := by simp [World.cell?, show W.heap[b]? = _ from h]
theorem Box4.c3 (h : Box4 W b t v0 v1 v2 v3) : W.cell? ⟨b, 3, none⟩ = some v3 := by simp [World.cell?, show W.heap[b]? = _ from h]
end
end Go.Proofs.Ytombcjdhjcmhhaa
