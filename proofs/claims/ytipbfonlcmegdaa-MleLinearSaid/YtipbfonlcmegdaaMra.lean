/- Contracts of the reference of package mle: the equality polynomial, weights, values, tables of weights, streaming, embedded tables; no conditions but lengths. Contracts of the reference of package mle: tables with a variable fixed, points of lines; no conditions but lengths. -/
import Derived.Test.YtipbfonlcmegdaaMpf
import Derived.Test.YtipbfonlcmegdaaMpe
namespace Go.Proofs.Ytipbfonlcmegdaa
set_option maxRecDepth 8000
section
open Go.RowKit Gold

set_option maxHeartbeats 2000000 in
theorem rEq_any (A : Option Addr) (n c : Nat) (xs : List E2) (B : Option Addr) (m d : Nat) (ys : List E2) (w : World) (h : Sl w A n c xs) (h' : Sl w B m d ys) (hnm : n = m) :
    Calls Try.prog 101 #[.slice A n c, .slice B m d] w fun e w' => e = .returned (.agg #[.int .u64 (vF (eqE xs ys).A), .int .u64 (vF (eqE xs ys).B)]) ∧ Below w.heap.size w w' := by
  subst hnm
  have hcap := h.cap
  have htop := h.top
  have HS := Lib.hid h
  have HT := Lib.hid h'
  clear h h'
  go_enter Try.func101, Try.ntmps101
  go_wp2_with fail
  refine calls_named1 (fun V hbV g0 hzV => ?_)
  have HZ := Lib.hid (show Two V w.heap.size 27 (.int .u64 0) (.int .u64 0) from g0)
  have HB := Lib.hid hbV
  clear g0 hbV
  refine (rOne_any V).mono ?_
  rintro e W1 ⟨rfl, hb⟩
  have HZ1 := Lib.hid (HZ.out.keep hb)
  have HB1 := Lib.hid (below_step HB.out hb)
  clear hb HZ HB
  go_wp2_with fail
  refine wp_named1 (fun V2 hbV g0 hzV2 => ?_)
  have HO2 := Lib.hid (show Two V2 W1.heap.size 27 (.int .u64 (vF E2.one.A)) (.int .u64 (vF E2.one.B)) from g0)
  have HZ2 := Lib.hid (HZ1.out.keep hbV)
  have HB2 := Lib.hid (below_step HB1.out hbV)
  have hlz : w.heap.size < W1.heap.size := HZ1.out.lt
  clear g0 hbV HZ1 HB1
  generalize W1.heap.size = b5 at *
  go_loopw [6] (fun s wr => ∃ k : Nat, k ≤ n ∧ s = .int .i64 k ∧ Two wr b5 27 (.int .u64 (vF ((List.zipWith agr (xs.take k) (ys.take k)).foldl (· * ·) E2.one).A)) (.int .u64 (vF ((List.zipWith agr (xs.take k) (ys.take k)).foldl (· * ·) E2.one).B)) ∧ Two wr w.heap.size 27 (.int .u64 0) (.int .u64 0) ∧ Below w.heap.size w wr) (fun s _ => n - (intOf s).toNat)
  case atStart => exact ⟨0, Nat.zero_le _, rfl, HO2.out, HZ2.out, HB2.out⟩
  case round =>
    clear HO2 HZ2 HB2
    obtain ⟨k, hk, rfl, ho, hz, hb⟩ := hrel
    have HZ := Lib.hid hz
    have HB := Lib.hid hb
    clear hz hb
    by_cases hlt : k < n
    · obtain ⟨x, hx⟩ := HS.out.get hlt
      obtain ⟨ad, rfl, p0, p1⟩ := (HS.out.keep HB.out).at_ hx
      obtain ⟨y, hy⟩ := HT.out.get hlt
      obtain ⟨ad2, rfl, q0, q1⟩ := (HT.out.keep HB.out).at_ hy
      have HE := Lib.hid (zip_take_succ (f := agr) hx hy)
      generalize hq : (List.zipWith agr (xs.take k) (ys.take k)).foldl (· * ·) E2.one = q at ho
      have HQ := Lib.hid hq
      have HO := Lib.hid ho
      clear hx hy hq ho
      have l0 := Later.cell HO.out.c0
      have l1 := Later.cell HO.out.c1
      have l4 := Later.cell p0
      have l5 := Later.cell p1
      have l6 := Later.cell q0
      have l7 := Later.cell q1
      clear p0 p1 q0 q1
      have hk0 : (0 : Int) ≤ (k : Int) := by omega
      have hk1 : (k : Int) < (n : Int) := by omega
      go_wp2_with fail
      refine wp_later_tail 11 (by kernel_rfl) (by kernel_rfl) ?_
      simp only [List.take_succ_cons, List.take_zero, List.drop_succ_cons, List.drop_zero]
      repeat (go_big_quiet_step (first
        | (go_at_call 115; with_reducible exact Calls.later (rFactor_any x y _))
        | (go_at_call 46; with_reducible exact Calls.later (rMul_any q (agr x y) _))))
      refine wpQuiet_nil ?_
      intro X
      clear l0 l1 l4 l5 l6 l7
      have HO1 := Lib.hid (HO.out.keep X.below)
      have HZ1 := Lib.hid (HZ.out.keep X.below)
      have HB1 := Lib.hid (below_step HB.out X.below)
      have c0 := HO1.out.c0
      have c1 := HO1.out.c1
      have f0 := HO1.out.f0
      have f1 := HO1.out.f1
      go_wp2_with fail
      go_roundw
      case rel => exact ⟨k + 1, by omega, by go_num, by rw [HE.out, List.foldl_append, HQ.out]; exact (HO1.out.set0 _).set1 _, (HZ1.out.far _ (by simp; omega)).far _ (by simp; omega), (HB1.out.setCell (by simp; omega) _).setCell (by simp; omega) _⟩
      case measure => simp [intOf]; omega
    · have hkn : k = n := by omega
      subst hkn
      rw [List.take_of_length_le (by have := HS.out.len; omega), List.take_of_length_le (by have := HT.out.len; omega)] at ho
      generalize hq : (List.zipWith agr xs ys).foldl (· * ·) E2.one = q at ho
      have HQ := Lib.hid (show eqE xs ys = q from hq)
      clear hq
      have c0 := ho.c0
      have c1 := ho.c1
      have z0 := HZ.out.c0
      have z1 := HZ.out.c1
      have f0 := HZ.out.f0
      have f1 := HZ.out.f1
      clear ho
      go_wp2_with fail
      exact bodyPost_ret (v := .agg #[.int .u64 (vF q.A), .int .u64 (vF q.B)]) (by simp [results, Try.results101, go_sem, z0, z1]) rfl ⟨by rw [HQ.out], (HB.out.setCell (Nat.le_refl _) _).setCell (Nat.le_refl _) _⟩

set_option maxHeartbeats 1000000 in
theorem rEqIndex_any (i : Nat) (B : Option Addr) (m d : Nat) (ps : List E2) (w : World) (h : Sl w B m d ps) (hi : i ≤ 4611686018427387904) (hm : m ≤ 16) :
    Calls Try.prog 77 #[.int .i64 (i : Int), .slice B m d] w fun e w' => e = .returned (.agg #[.int .u64 (vF (eqW i ps).A), .int .u64 (vF (eqW i ps).B)]) ∧ Below w.heap.size w w' := by
  have HP := Lib.hid h
  have HL := Lib.hid h.len
  clear h
  go_enter Try.func77, Try.ntmps77
  go_wp2_with fail
  refine calls_named1 (fun V hbV g0 hzV => ?_)
  have HZ := Lib.hid (show Two V w.heap.size 27 (.int .u64 0) (.int .u64 0) from g0)
  have HB := Lib.hid hbV
  clear g0 hbV
  refine (rVertex_any i m V hi (by omega)).mono ?_
  rintro e W1 ⟨A1, c1, rfl, hr, hb⟩
  have HZ1 := Lib.hid (HZ.out.keep hb)
  have HB1 := Lib.hid (below_step HB.out hb)
  have HV1 := Lib.hid hr
  clear hr hb HZ HB
  go_wp2_with fail
  refine (rEq_any _ _ _ _ _ _ _ _ _ HV1.out (HP.out.keep HB1.out) rfl).mono ?_
  rintro e W2 ⟨rfl, hb⟩
  have HZ2 := Lib.hid (HZ1.out.keep hb)
  have HB2 := Lib.hid (below_step HB1.out hb)
  clear hb
  rw [eqE_vtx' ps i m HL.out.symm]
  have c0 := HZ2.out.c0
  have c1 := HZ2.out.c1
  have f0 := HZ2.out.f0
  have f1 := HZ2.out.f1
  go_wp2_with fail
  exact bodyPost_ret (v := .agg #[.int .u64 (vF (eqW i ps).A), .int .u64 (vF (eqW i ps).B)]) (by simp [results, Try.results77, go_sem, c0, c1]) rfl ⟨rfl, (HB2.out.setCell (Nat.le_refl _) _).setCell (Nat.le_refl _) _⟩


set_option maxHeartbeats 2000000 in
theorem rEval_any (A : Option Addr) (n c : Nat) (xs : List E2) (B : Option Addr) (m d : Nat) (ps : List E2) (w : World) (h : Sl w A n c xs) (h' : Sl w B m d ps) (hn : n = 2 ^ m) (hm : m ≤ 16) :
    Calls Try.prog 42 #[.slice A n c, .slice B m d] w fun e w' => e = .returned (.agg #[.int .u64 (vF (mleE xs ps).A), .int .u64 (vF (mleE xs ps).B)]) ∧ Below w.heap.size w w' := by
  have hcap := h.cap
  have htop := h.top
  have hn1 : n ≤ 65536 := by rw [hn]; exact Nat.pow_le_pow_right (n := 2) (by omega) hm
  have HS := Lib.hid h
  have HP := Lib.hid h'
  have HE := Lib.hid (show sumE n (fun i => cfE xs i * eqW i ps) = mleE xs ps by unfold mleE; rw [mleF_sum, hn, ← h'.len])
  clear h h' hn
  go_enter Try.func42, Try.ntmps42
  go_wp2_with fail
  refine wp_named2 (fun V hbV g0 g1 hzV => ?_)
  have HZ := Lib.hid (show Two V w.heap.size 27 (.int .u64 0) (.int .u64 0) from g0)
  have HO := Lib.hid (show Two V (w.heap.size + 1) 27 (.int .u64 0) (.int .u64 0) from g1)
  have HB := Lib.hid hbV
  clear g0 g1 hbV
  go_loopw [6] (fun s wr => ∃ k : Nat, k ≤ n ∧ s = .int .i64 k ∧ Two wr (w.heap.size + 1) 27 (.int .u64 (vF (sumE k (fun i => cfE xs i * eqW i ps)).A)) (.int .u64 (vF (sumE k (fun i => cfE xs i * eqW i ps)).B)) ∧ Two wr w.heap.size 27 (.int .u64 0) (.int .u64 0) ∧ Below w.heap.size w wr) (fun s _ => n - (intOf s).toNat)
  case atStart => exact ⟨0, Nat.zero_le _, rfl, HO.out, HZ.out, HB.out⟩
  case round =>
    clear HO HZ HB
    obtain ⟨k, hk, rfl, ho, hz, hb⟩ := hrel
    have HZ := Lib.hid hz
    have HB := Lib.hid hb
    clear hz hb
    by_cases hlt : k < n
    · obtain ⟨x, hx⟩ := HS.out.get hlt
      obtain ⟨ad, rfl, p0, p1⟩ := (HS.out.keep HB.out).at_ hx
      have HX := Lib.hid (cfE_some hx)
      generalize hq : sumE k (fun i => cfE xs i * eqW i ps) = q at ho
      have HQ := Lib.hid hq
      have HO := Lib.hid ho
      clear hx hq ho
      have l0 := Later.cell HO.out.c0
      have l1 := Later.cell HO.out.c1
      have l4 := Later.cell p0
      have l5 := Later.cell p1
      clear p0 p1
      have hk0 : (0 : Int) ≤ (k : Int) := by omega
      have hk1 : (k : Int) < (n : Int) := by omega
      go_wp2_with fail
      refine wp_later_tail 10 (by kernel_rfl) (by kernel_rfl) ?_
      simp only [List.take_succ_cons, List.take_zero, List.drop_succ_cons, List.drop_zero]
      repeat (go_big_quiet_step (first
        | (go_at_call 77; with_reducible exact Calls.later (rEqIndex_any k B m d ps _ ((HP.out.keep HB.out).keep (Later.below _)) (by omega) hm))
        | (go_at_call 46; with_reducible exact Calls.later (rMul_any x (eqW k ps) _))
        | (go_at_call 43; with_reducible exact Calls.later (rAdd_any q (x * eqW k ps) _))))
      refine wpQuiet_nil ?_
      intro X
      clear l0 l1 l4 l5
      have HO1 := Lib.hid (HO.out.keep X.below)
      have HZ1 := Lib.hid (HZ.out.keep X.below)
      have HB1 := Lib.hid (below_step HB.out X.below)
      have c0 := HO1.out.c0
      have c1 := HO1.out.c1
      have f0 := HO1.out.f0
      have f1 := HO1.out.f1
      go_wp2_with fail
      go_roundw
      case rel => exact ⟨k + 1, by omega, by go_num, by rw [sumE, HQ.out, HX.out]; exact (HO1.out.set0 _).set1 _, (HZ1.out.far _ (by simp)).far _ (by simp), (HB1.out.setCell (by simp) _).setCell (by simp) _⟩
      case measure => simp [intOf]; omega
    · have hkn : k = n := by omega
      subst hkn
      rw [HE.out] at ho
      have c0 := ho.c0
      have c1 := ho.c1
      have z0 := HZ.out.c0
      have z1 := HZ.out.c1
      have f0 := HZ.out.f0
      have f1 := HZ.out.f1
      clear ho
      go_wp2_with fail
      exact bodyPost_ret (v := .agg #[.int .u64 (vF (mleE xs ps).A), .int .u64 (vF (mleE xs ps).B)]) (by simp [results, Try.results42, go_sem, z0, z1]) rfl ⟨rfl, (HB.out.setCell (Nat.le_refl _) _).setCell (Nat.le_refl _) _⟩


end

section
open Go.RowKit Gold

set_option maxHeartbeats 4000000 in
theorem rBind_any (A : Option Addr) (n c : Nat) (xs : List E2) (r : E2) (w : World) (h : Sl w A n c xs) (hn : n ≤ 65536) :
    Calls Try.prog 35 #[.slice A n c, .agg #[.int .u64 (vF r.A), .int .u64 (vF r.B)]] w fun e w' => ∃ A' c', e = .returned (.slice A' (n / 2) c') ∧ Sl w' A' (n / 2) c' (bndE xs r) ∧ Below w.heap.size w w' := by
  have hcap := h.cap
  have htop := h.top
  have HS := Lib.hid h
  have HL := Lib.hid h.len
  clear h
  go_enter Try.func35, Try.ntmps35
  go_wp2_with fail
  go_loopw [5, 6] (fun v s wr => ∃ k : Nat, k ≤ n / 2 ∧ s = .int .i64 k ∧ OwE wr (w.heap.size + 1) v k (tabE k (bndF (cfE xs) r)) ∧ Two wr w.heap.size 27 (.int .u64 (vF r.A)) (.int .u64 (vF r.B)) ∧ Below w.heap.size w wr) (fun _ s _ => n / 2 - (intOf s).toNat)
  case atStart => exact ⟨0, Nat.zero_le _, rfl, by have := OwE.made (w.alloc (.cells #[.int .u64 (vF r.A), .int .u64 (vF r.B)] 27)) (w.heap.size + 1) (by simp); rw [World.size_alloc] at this; exact this, (Two.new w _ _ _).alloc _, ((Below.refl _ _).alloc (Nat.le_refl _) _).alloc (by simp) _⟩
  case round =>
    obtain ⟨k, hk, rfl, ho, hy, hb⟩ := hrel
    have HO := Lib.hid ho
    have HY := Lib.hid hy
    have HB := Lib.hid hb
    clear ho hy hb
    by_cases hlt : k < n / 2
    · obtain ⟨x, hx⟩ := HS.out.get (i := 2 * k) (by omega)
      obtain ⟨ad, rfl, p0, p1⟩ := HS.out.at_ hx
      obtain ⟨y, hy⟩ := HS.out.get (i := 2 * k + 1) (by omega)
      obtain ⟨ad', had, q0, q1⟩ := HS.out.at_ hy
      injection had with had
      subst had
      have HX := Lib.hid (cfE_some hx)
      have HYv := Lib.hid (cfE_some hy)
      have l0 := LaterB.cell (B := w.heap.size + 1) (cell_keep p0 HB.out) (Nat.lt_succ_of_lt (World.block_lt_of_cell? w _ p0))
      have l1 := LaterB.cell (B := w.heap.size + 1) (cell_keep p1 HB.out) (Nat.lt_succ_of_lt (World.block_lt_of_cell? w _ p1))
      have l2 := LaterB.cell (B := w.heap.size + 1) (cell_keep q0 HB.out) (Nat.lt_succ_of_lt (World.block_lt_of_cell? w _ q0))
      have l3 := LaterB.cell (B := w.heap.size + 1) (cell_keep q1 HB.out) (Nat.lt_succ_of_lt (World.block_lt_of_cell? w _ q1))
      have l4 := LaterB.cell (B := w.heap.size + 1) HY.out.c0 (Nat.lt_succ_self _)
      have l5 := LaterB.cell (B := w.heap.size + 1) HY.out.c1 (Nat.lt_succ_self _)
      clear hx hy p0 p1 q0 q1
      have i0 : (0 : Int) ≤ (k : Int) := by omega
      have i1 : 2 * (k : Int) < (n : Int) := by omega
      have i2 : 2 * (k : Int) + 1 < (n : Int) := by omega
      have i4 : (2 * (k : Int)).toNat = 2 * k := by omega
      have i5 : (2 * (k : Int) + 1).toNat = 2 * k + 1 := by omega
      go_wp2_with fail
      refine wp_heldB (w.heap.size + 1) (by kernel_rfl) (lexOK_of (by kernel_rfl) (by kernel_rfl)) (chainOK_of (by kernel_rfl)) (fun W0 hbW hSW => ?_)
      have HO0 := Lib.hid (HO.out.keep hbW)
      have HY0 := Lib.hid (HY.out.keep hbW)
      have HB0 := Lib.hid (below_step HB.out hbW)
      have HS0 := Lib.hid hSW
      have hz0 : w.heap.size + 1 ≤ W0.heap.size := HY0.out.lt
      clear hbW hSW
      refine wpHeld_seg 18 HS0.out (by kernel_rfl) ?_
      simp only [List.take_succ_cons, List.take_zero, List.drop_succ_cons, List.drop_zero]
      repeat (go_big_quiet_step (fail))
      refine wpQuiet_nil ?_
      clear l0 l1 l2 l3 l4 l5
      refine wpHeld_call 39 Try.func39 (by kernel_rfl) (by kernel_rfl) _ _ #[.agg #[.int .u64 (vF (y).A), .int .u64 (vF (y).B)], .agg #[.int .u64 (vF (x).A), .int .u64 (vF (x).B)]] rfl (by kernel_rfl) (by kernel_rfl) ?_
      refine (rSub_any y x _).mono ?_
      rintro e W1 ⟨rfl, hb⟩
      have HO1 := Lib.hid (HO0.out.keep hb)
      have HY1 := Lib.hid (HY0.out.keep hb)
      have HB1 := Lib.hid (below_step HB0.out hb)
      have HS1 := Lib.hid (LaterB.step HS0.out (hb.mono hz0))
      have hz1 : w.heap.size + 1 ≤ W1.heap.size := HY1.out.lt
      clear hb
      refine ⟨_, rfl, HS1.out, ?_⟩
      simp only [Act.put, List.setIfInBounds_toArray, List.set_cons_zero, List.set_cons_succ]
      refine wpHeld_call 46 Try.func46 (by kernel_rfl) (by kernel_rfl) _ _ #[.agg #[.int .u64 (vF (r).A), .int .u64 (vF (r).B)], .agg #[.int .u64 (vF (y - x).A), .int .u64 (vF (y - x).B)]] rfl (by kernel_rfl) (by kernel_rfl) ?_
      refine (rMul_any r (y - x) _).mono ?_
      rintro e W2 ⟨rfl, hb⟩
      have HO2 := Lib.hid (HO1.out.keep hb)
      have HY2 := Lib.hid (HY1.out.keep hb)
      have HB2 := Lib.hid (below_step HB1.out hb)
      have HS2 := Lib.hid (LaterB.step HS1.out (hb.mono hz1))
      have hz2 : w.heap.size + 1 ≤ W2.heap.size := HY2.out.lt
      clear hb
      refine ⟨_, rfl, HS2.out, ?_⟩
      simp only [Act.put, List.setIfInBounds_toArray, List.set_cons_zero, List.set_cons_succ]
      refine wpHeld_call 43 Try.func43 (by kernel_rfl) (by kernel_rfl) _ _ #[.agg #[.int .u64 (vF (x).A), .int .u64 (vF (x).B)], .agg #[.int .u64 (vF (r * (y - x)).A), .int .u64 (vF (r * (y - x)).B)]] rfl (by kernel_rfl) (by kernel_rfl) ?_
      refine (rAdd_any x (r * (y - x)) _).mono ?_
      rintro e W3 ⟨rfl, hb⟩
      have HO3 := Lib.hid (HO2.out.keep hb)
      have HY3 := Lib.hid (HY2.out.keep hb)
      have HB3 := Lib.hid (below_step HB2.out hb)
      have HS3 := Lib.hid (LaterB.step HS2.out (hb.mono hz2))
      have hz3 : w.heap.size + 1 ≤ W3.heap.size := HY3.out.lt
      clear hb
      refine ⟨_, rfl, HS3.out, ?_⟩
      simp only [Act.put, List.setIfInBounds_toArray, List.set_cons_zero, List.set_cons_succ]
      have HSa := Lib.hid (LaterB.step HS3.out ((Below.refl (w.heap.size + 1) W3).alloc hz3 (.cells #[.int .u64 (vF (x + r * (y - x)).A), .int .u64 (vF (x + r * (y - x)).B)] 27)))
      refine wpHeld_run _ _ (by kernel_rfl) (by kernel_rfl) (run_buildE (x + r * (y - x)) rfl rfl _) HSa.out ?_
      simp only [Act.put, List.setIfInBounds_toArray, List.set_cons_zero, List.set_cons_succ]
      have HOa := Lib.hid (HO3.out.keep ((Below.refl _ _).alloc (Nat.le_refl _) (.cells #[.int .u64 (vF (x + r * (y - x)).A), .int .u64 (vF (x + r * (y - x)).B)] 27)))
      have HTa := Lib.hid (Two.new W3 27 (.int .u64 (vF (x + r * (y - x)).A)) (.int .u64 (vF (x + r * (y - x)).B)))
      have HYa := Lib.hid (HY3.out.alloc (.cells #[.int .u64 (vF (x + r * (y - x)).A), .int .u64 (vF (x + r * (y - x)).B)] 27))
      have HBa := Lib.hid (HB3.out.alloc HB3.out.size (.cells #[.int .u64 (vF (x + r * (y - x)).A), .int .u64 (vF (x + r * (y - x)).B)] 27))
      refine wpHeld_op (by kernel_rfl) (by kernel_rfl) ?_
      refine hOp_appendE (.tmp 16) (.tmp 37) rfl (w.heap.size + 1) _ k _ rfl HOa.out W3.heap.size 1 (x + r * (y - x)) rfl HTa.out (by omega) (by simp; omega) ?_
      intro v1 w1 hown1 hg1
      have HOz := Lib.hid hown1
      have HYz := Lib.hid (two_grown HYa.out hg1 HOa.out (Nat.lt_succ_self _))
      have HBz := Lib.hid (below_grown (w0 := w) HBa.out hg1 HOa.out (Nat.le_succ _))
      have HSz := Lib.hid (LaterB.step HSa.out (Below.grown (Below.refl (w.heap.size + 1) _) hg1 (by simp; omega) (fun q hq => (HOa.out.lt q hq).1)))
      clear hown1 hg1
      refine ⟨HSz.out, ?_⟩
      simp only [Act.put, List.setIfInBounds_toArray, List.set_cons_zero, List.set_cons_succ]
      refine wpHeld_seg 1 HSz.out (by kernel_rfl) ?_
      simp only [List.take_succ_cons, List.take_zero, List.drop_succ_cons, List.drop_zero]
      repeat (go_big_quiet_step (fail))
      refine wpQuiet_nil (wpHeld_nil ?_)
      go_wp2_with fail
      have HE := Lib.hid (show bndF (cfE xs) r k = x + r * (y - x) by unfold bndF btw; rw [HX.out, HYv.out])
      go_roundw
      case rel => exact ⟨k + 1, by omega, by go_num, by rw [tabE_succ, HE.out]; exact HOz.out, HYz.out, HBz.out⟩
      case measure => simp [intOf]; omega
    · have hkn : k = n / 2 := by omega
      subst hkn
      have i2 : ¬ (2 * ((n / 2 : Nat) : Int) + 1 < (n : Int)) := by omega
      obtain ⟨A1, c1, rfl, hs1⟩ := HO.out.sl
      have HSQ := Lib.hid hs1
      clear hs1
      go_wp2_with fail
      go_ret
      exact ⟨A1, c1, rfl, by have := HSQ.out; unfold bndE; rw [← HL.out]; exact this, HB.out⟩

end

end Go.Proofs.Ytipbfonlcmegdaa
