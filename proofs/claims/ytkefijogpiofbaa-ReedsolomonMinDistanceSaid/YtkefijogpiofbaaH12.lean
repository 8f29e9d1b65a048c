/- Several texts in one: Ss9, St9. -/
import Derived.Test.YtkefijogpiofbaaH11
namespace Go.Proofs.Ytkefijogpiofbaa
set_option linter.unusedVariables false
set_option linter.unusedSimpArgs false
set_option linter.unusedSectionVars false
set_option maxRecDepth 8000
open Go.RowKit Go.Proofs.Ytkefijogpiofbaa.K
attribute [local irreducible] wpList wpQuiet
set_option maxRecDepth 100000 in
set_option maxHeartbeats 8000000 in
theorem point_any (n M i : Nat) (hn : n = 2 ^ M) (hM : M ≤ 16) (hi0 : i ≤ 1048576) (w : World) : Calls Try.prog 45 #[.int .i64 (n : Int), .int .i64 (i : Int)] w fun e w' => e = .returned (.int .u64 (Gold.vF (Gold.ptF M i))) ∧ Below w.heap.size w w' := by
  have HN := Lib.hid hn
  have hn65 : n ≤ 65536 := by rw [hn]; exact Gold.pow2_le hM
  clear hn
  go_enter Try.func45, Try.ntmps45
  go_upto_region 1 with fail
  refine wp_region_lit ?_
  refine wpList_run (by kernel_rfl) (.int .i64 0) w rfl ?_
  simp only [Act.put, List.setIfInBounds_toArray, List.set_cons_zero, List.set_cons_succ]
  refine wpList_nil ?_
  have O0 := (Below.refl w.heap.size w)
  have B0 := Lib.hid (Below.refl w.heap.size w)
  go_wp2_with fail
  go_loopw [5] (fun p wr => ∃ j : Nat, j ≤ M ∧ p = .int .i64 j ∧ Below w.heap.size w wr) (fun p _ => M - (intOf p).toNat)
  case atStart => exact ⟨0, Nat.zero_le _, rfl, O0⟩
  case round =>
    clear O0
    obtain ⟨wo, rfl⟩ : ∃ wo : World, wo = wr := ⟨_, rfl⟩
    obtain ⟨j, hi, rfl, hb0⟩ := hrel
    have hbr := hb0
    clear B0
    have B0 := Lib.hid hbr
    clear hbr
    clear hb0 
    obtain ⟨pj, hpj⟩ : ∃ pj, 2 ^ j = pj := ⟨_, rfl⟩
    have hpjn : pj ≤ n := by rw [← hpj, HN.out]; exact Nat.pow_le_pow_right (by omega) hi
    by_cases hlt : pj < n
    · have hci2 : ((pj : Int) < (n : Int)) := by omega
      have hjM : j < M := by rcases Nat.lt_or_ge j M with h | h; exact h; exact absurd hlt (by have h2 : 2 ^ M ≤ 2 ^ j := Nat.pow_le_pow_right (by omega) h; rw [hpj, ← HN.out] at h2; omega)
      go_upto_region 2 with fail
      refine wp_region_lit ?_
      refine wpList_run (by kernel_rfl) (.int .i64 (j : Int)) wo rfl ?_
      simp only [Act.put, List.setIfInBounds_toArray, List.set_cons_zero, List.set_cons_succ]
      refine wpList_run (by kernel_rfl) (.int .i64 (pj : Int)) wo (xo_shlI .i64 1 j pj (by rw [Nat.one_mul]; exact hpj) (by omega) rfl rfl rfl) ?_
      simp only [Act.put, List.setIfInBounds_toArray, List.set_cons_zero, List.set_cons_succ]
      refine wpList_run (by kernel_rfl) (.int .i64 (n : Int)) wo rfl ?_
      simp only [Act.put, List.setIfInBounds_toArray, List.set_cons_zero, List.set_cons_succ]
      refine wpList_run (by kernel_rfl) (.bool true) wo (xo_lssT .i64 (pj : Int) (n : Int) (by omega) rfl rfl rfl) ?_
      simp only [Act.put, List.setIfInBounds_toArray, List.set_cons_zero, List.set_cons_succ]
      refine wpList_nil ?_
      go_upto_region 3 with fail
      refine wp_region_lit ?_
      refine wpList_run (by kernel_rfl) (.int .i64 (j : Int)) wo rfl ?_
      simp only [Act.put, List.setIfInBounds_toArray, List.set_cons_zero, List.set_cons_succ]
      refine wpList_run (by kernel_rfl) (.int .i64 ((j + 1 : Nat) : Int)) wo (xo_addI (j : Int) 1 ((j + 1 : Nat) : Int) (by omega) (by omega) (by omega) rfl rfl rfl) ?_
      simp only [Act.put, List.setIfInBounds_toArray, List.set_cons_zero, List.set_cons_succ]
      refine wpList_run (by kernel_rfl) (.int .i64 ((j + 1 : Nat) : Int)) wo rfl ?_
      simp only [Act.put, List.setIfInBounds_toArray, List.set_cons_zero, List.set_cons_succ]
      refine wpList_nil ?_
      have hq3 := B0.out
      go_wp2_with fail
      go_roundw
      case rel => exact ⟨j + 1, by omega, by go_num, hq3⟩
      case measure => simp [intOf]; omega
    · have hci2 : ¬ ((pj : Int) < (n : Int)) := by omega
      have hjM : M = j := by rcases Nat.lt_or_ge j M with h | h; exact absurd (show pj < n by rw [← hpj, HN.out]; exact Nat.pow_lt_pow_right (by omega) h) hlt; omega
      subst hjM
      go_upto_region 2 with fail
      refine wp_region_lit ?_
      refine wpList_run (by kernel_rfl) (.int .i64 (M : Int)) wo rfl ?_
      simp only [Act.put, List.setIfInBounds_toArray, List.set_cons_zero, List.set_cons_succ]
      refine wpList_run (by kernel_rfl) (.int .i64 (pj : Int)) wo (xo_shlI .i64 1 M pj (by rw [Nat.one_mul]; exact hpj) (by omega) rfl rfl rfl) ?_
      simp only [Act.put, List.setIfInBounds_toArray, List.set_cons_zero, List.set_cons_succ]
      refine wpList_run (by kernel_rfl) (.int .i64 (n : Int)) wo rfl ?_
      simp only [Act.put, List.setIfInBounds_toArray, List.set_cons_zero, List.set_cons_succ]
      refine wpList_run (by kernel_rfl) (.bool false) wo (xo_lssF .i64 (pj : Int) (n : Int) (by omega) rfl rfl rfl) ?_
      simp only [Act.put, List.setIfInBounds_toArray, List.set_cons_zero, List.set_cons_succ]
      refine wpList_nil ?_
      go_upto_region 4 with fail
      refine wp_region_lit ?_
      refine wpList_run (by kernel_rfl) (.int .i64 (M : Int)) wo rfl ?_
      simp only [Act.put, List.setIfInBounds_toArray, List.set_cons_zero, List.set_cons_succ]
      refine wpList_call (by kernel_rfl) 67 Try.func67 (by kernel_rfl) (by kernel_rfl) _ _ #[.int .i64 (M : Int)] rfl (by kernel_rfl) ?_
      refine (J.field_rootF M wo (by omega)).mono ?_
      rintro e W1 ⟨rfl, hw1⟩
      rw [hw1]
      clear hw1 W1
      refine ⟨_, rfl, ?_⟩
      simp only [Act.put, List.setIfInBounds_toArray, List.set_cons_zero, List.set_cons_succ]
      refine wpList_run (by kernel_rfl) (.tuple #[.int .u64 (Gold.vF (Gold.rootF M)), .int .i64 0]) wo rfl ?_
      simp only [Act.put, List.setIfInBounds_toArray, List.set_cons_zero, List.set_cons_succ]
      refine wpList_run (by kernel_rfl) (.int .u64 (Gold.vF (Gold.rootF M))) wo rfl ?_
      simp only [Act.put, List.setIfInBounds_toArray, List.set_cons_zero, List.set_cons_succ]
      refine wpList_run (by kernel_rfl) (.int .i64 0) wo rfl ?_
      simp only [Act.put, List.setIfInBounds_toArray, List.set_cons_zero, List.set_cons_succ]
      refine wpList_run (by kernel_rfl) (.int .u64 (Gold.vF (Gold.rootF M))) wo rfl ?_
      simp only [Act.put, List.setIfInBounds_toArray, List.set_cons_zero, List.set_cons_succ]
      refine wpList_run (by kernel_rfl) (.int .i64 0) wo rfl ?_
      simp only [Act.put, List.setIfInBounds_toArray, List.set_cons_zero, List.set_cons_succ]
      refine wpList_nil ?_
      go_upto_region 5 with fail
      refine wp_region_lit ?_
      refine wpList_run (by kernel_rfl) (.int .u64 (Gold.vF (Gold.rootF M))) wo rfl ?_
      simp only [Act.put, List.setIfInBounds_toArray, List.set_cons_zero, List.set_cons_succ]
      refine wpList_run (by kernel_rfl) (.int .i64 (i : Int)) wo rfl ?_
      simp only [Act.put, List.setIfInBounds_toArray, List.set_cons_zero, List.set_cons_succ]
      refine wpList_run (by kernel_rfl) (.int .u64 (i : Int)) wo (xo_cvt .i64 .u64 (i : Int) (i : Int) (by rw [IntKind.wrap_u64]; omega) Try.underlying29 Try.underlying3 rfl rfl) ?_
      simp only [Act.put, List.setIfInBounds_toArray, List.set_cons_zero, List.set_cons_succ]
      refine wpList_call (by kernel_rfl) 68 Try.func68 (by kernel_rfl) (by kernel_rfl) _ _ #[.int .u64 (Gold.vF (Gold.rootF M)), .int .u64 (i : Int)] rfl (by kernel_rfl) ?_
      refine (J.powF (Gold.rootF M) i wo (by omega)).mono ?_
      rintro e W1 ⟨rfl, hw1⟩
      rw [hw1]
      clear hw1 W1
      refine ⟨_, rfl, ?_⟩
      simp only [Act.put, List.setIfInBounds_toArray, List.set_cons_zero, List.set_cons_succ]
      refine wpList_run (by kernel_rfl) (.int .u64 (Gold.vF (Gold.rootF M ^ i))) wo rfl ?_
      simp only [Act.put, List.setIfInBounds_toArray, List.set_cons_zero, List.set_cons_succ]
      refine wpList_nil ?_
      go_wp2_with fail
      go_ret
      exact ⟨rfl, B0.out⟩
set_option maxRecDepth 100000 in
set_option maxHeartbeats 8000000 in
theorem at_yes (A : Option Addr) (n c : Nat) (xs : List Gold.E2) (z K L : Nat) (hn : n = 2 ^ K) (hz : z = 2 ^ L) (hL1 : 1 ≤ L) (hL4 : L ≤ 4) (hKL : K + L ≤ 16) (i : Nat) (hi : i < 2 ^ (K + L)) (w : World) (hX : J.Sl w A n c xs) :
    Calls Try.prog 13 #[.slice A n c, .int .i64 (z : Int), .int .i64 (i : Int)] w fun e w' => e = .returned (.tuple #[.agg #[.int .u64 (Gold.vF (Gold.evE xs (Gold.E2.ofF (Gold.ptF (K + L) i))).A), .int .u64 (Gold.vF (Gold.evE xs (Gold.E2.ofF (Gold.ptF (K + L) i))).B)], .int .i64 0]) ∧ Below w.heap.size w w' := by
  have HX := Lib.hid hX
  have hcp := J.Sl.cap hX
  have htp := J.Sl.top hX
  clear hX
  go_enter Try.func13, Try.ntmps13
  go_upto_region 1 with fail
  refine wp_named1 (fun V1 hb g0 hlt => ?_)
  have B0 := Lib.hid hb
  have Fv0_6 : Hid (V1.heap[w.heap.size]? = some (.cells #[.int .u64 0, .int .u64 0] 31 (0, 0))) := Lib.hid (g0)
  have Gb0 : Hid (w.heap.size ≤ w.heap.size) := Lib.hid (by omega)
  clear hb g0 hlt
  have Lt0 : Hid (w.heap.size < V1.heap.size) := Lib.hid (xp_lt Fv0_6.out)
  have hr := rB_pow (K := K) (L := L) hL1 hL4 hKL
  rw [← hn, ← hz] at hr
  have HR := Lib.hid hr
  have hN65 := Gold.pow2_le hKL
  have hz16 : z ≤ 16 := by rw [hz]; exact Nat.pow_le_pow_right (n := 2) (by omega) hL4
  have hzn : z * n = 2 ^ (K + L) := by rw [hz, hn, Nat.pow_add, Nat.mul_comm]
  obtain ⟨N, hN⟩ : ∃ N, 2 ^ (K + L) = N := ⟨_, rfl⟩
  rw [hN] at hzn hN65
  have hnN : n ≤ N := by rw [← hzn]; exact Nat.le_mul_of_pos_left _ (by rw [hz]; exact Nat.two_pow_pos L)
  have HN := Lib.hid hN
  clear hr hn hz hN
  rw [HN.out] at hi
  have hci1 : ¬ ((i : Int) < 0) := by omega
  have hci2 : ¬ ((i : Int) ≥ (N : Int)) := by omega
  refine wp_region_lit ?_
  refine wpList_run (by kernel_rfl) (.slice A n c) V1 rfl ?_
  simp only [Act.put, List.setIfInBounds_toArray, List.set_cons_zero, List.set_cons_succ]
  refine wpList_run (by kernel_rfl) (.int .i64 (n : Int)) V1 (xo_len A n c Try.underlying28 rfl rfl) ?_
  simp only [Act.put, List.setIfInBounds_toArray, List.set_cons_zero, List.set_cons_succ]
  refine wpList_run (by kernel_rfl) (.int .i64 (z : Int)) V1 rfl ?_
  simp only [Act.put, List.setIfInBounds_toArray, List.set_cons_zero, List.set_cons_succ]
  refine wpList_call (by kernel_rfl) 38 Try.func38 (by kernel_rfl) (by kernel_rfl) _ _ #[.int .i64 (n : Int), .int .i64 (z : Int)] rfl (by kernel_rfl) ?_
  refine (isRow_any n (z : Int) (by omega) V1).mono ?_
  rintro e V2 ⟨rfl, hb⟩
  have B1 := Lib.hid hb
  rw [HR.out]
  clear hb 
  refine ⟨_, rfl, ?_⟩
  simp only [Act.put, List.setIfInBounds_toArray, List.set_cons_zero, List.set_cons_succ]
  refine wpList_run (by kernel_rfl) (.bool false) V2 rfl ?_
  simp only [Act.put, List.setIfInBounds_toArray, List.set_cons_zero, List.set_cons_succ]
  refine wpList_run (by kernel_rfl) (.bool false) V2 rfl ?_
  simp only [Act.put, List.setIfInBounds_toArray, List.set_cons_zero, List.set_cons_succ]
  refine wpList_run (by kernel_rfl) (.int .i64 (i : Int)) V2 rfl ?_
  simp only [Act.put, List.setIfInBounds_toArray, List.set_cons_zero, List.set_cons_succ]
  refine wpList_run (by kernel_rfl) (.bool false) V2 (xo_lssF .i64 (i : Int) 0 (by omega) rfl rfl rfl) ?_
  simp only [Act.put, List.setIfInBounds_toArray, List.set_cons_zero, List.set_cons_succ]
  refine wpList_run (by kernel_rfl) (.bool false) V2 rfl ?_
  simp only [Act.put, List.setIfInBounds_toArray, List.set_cons_zero, List.set_cons_succ]
  refine wpList_run (by kernel_rfl) (.bool false) V2 rfl ?_
  simp only [Act.put, List.setIfInBounds_toArray, List.set_cons_zero, List.set_cons_succ]
  refine wpList_run (by kernel_rfl) (.int .i64 (i : Int)) V2 rfl ?_
  simp only [Act.put, List.setIfInBounds_toArray, List.set_cons_zero, List.set_cons_succ]
  refine wpList_run (by kernel_rfl) (.int .i64 (z : Int)) V2 rfl ?_
  simp only [Act.put, List.setIfInBounds_toArray, List.set_cons_zero, List.set_cons_succ]
  refine wpList_run (by kernel_rfl) (.slice A n c) V2 rfl ?_
  simp only [Act.put, List.setIfInBounds_toArray, List.set_cons_zero, List.set_cons_succ]
  refine wpList_run (by kernel_rfl) (.int .i64 (n : Int)) V2 (xo_len A n c Try.underlying28 rfl rfl) ?_
  simp only [Act.put, List.setIfInBounds_toArray, List.set_cons_zero, List.set_cons_succ]
  refine wpList_run (by kernel_rfl) (.int .i64 (N : Int)) V2 (xo_mulI (z : Int) (n : Int) (N : Int) (by rw [← hzn]; simp) (by omega) (by omega) rfl rfl rfl) ?_
  simp only [Act.put, List.setIfInBounds_toArray, List.set_cons_zero, List.set_cons_succ]
  refine wpList_run (by kernel_rfl) (.bool false) V2 (xo_geqF .i64 (i : Int) (N : Int) (by omega) rfl rfl rfl) ?_
  simp only [Act.put, List.setIfInBounds_toArray, List.set_cons_zero, List.set_cons_succ]
  refine wpList_run (by kernel_rfl) (.bool false) V2 rfl ?_
  simp only [Act.put, List.setIfInBounds_toArray, List.set_cons_zero, List.set_cons_succ]
  refine wpList_nil ?_
  go_upto_region 3 with fail
  refine wp_region_lit ?_
  refine wpList_run (by kernel_rfl) (.slice A n c) V2 rfl ?_
  simp only [Act.put, List.setIfInBounds_toArray, List.set_cons_zero, List.set_cons_succ]
  refine wpList_run (by kernel_rfl) (.int .i64 (z : Int)) V2 rfl ?_
  simp only [Act.put, List.setIfInBounds_toArray, List.set_cons_zero, List.set_cons_succ]
  refine wpList_run (by kernel_rfl) (.slice A n c) V2 rfl ?_
  simp only [Act.put, List.setIfInBounds_toArray, List.set_cons_zero, List.set_cons_succ]
  refine wpList_run (by kernel_rfl) (.int .i64 (n : Int)) V2 (xo_len A n c Try.underlying28 rfl rfl) ?_
  simp only [Act.put, List.setIfInBounds_toArray, List.set_cons_zero, List.set_cons_succ]
  refine wpList_run (by kernel_rfl) (.int .i64 (N : Int)) V2 (xo_mulI (z : Int) (n : Int) (N : Int) (by rw [← hzn]; simp) (by omega) (by omega) rfl rfl rfl) ?_
  simp only [Act.put, List.setIfInBounds_toArray, List.set_cons_zero, List.set_cons_succ]
  refine wpList_run (by kernel_rfl) (.int .i64 (i : Int)) V2 rfl ?_
  simp only [Act.put, List.setIfInBounds_toArray, List.set_cons_zero, List.set_cons_succ]
  refine wpList_call (by kernel_rfl) 45 Try.func45 (by kernel_rfl) (by kernel_rfl) _ _ #[.int .i64 (N : Int), .int .i64 (i : Int)] rfl (by kernel_rfl) ?_
  refine (point_any N (K + L) i HN.out.symm hKL (by omega) V2).mono ?_
  rintro e V3 ⟨rfl, hb⟩
  have B2 := Lib.hid hb
  clear hb 
  refine ⟨_, rfl, ?_⟩
  simp only [Act.put, List.setIfInBounds_toArray, List.set_cons_zero, List.set_cons_succ]
  refine wpList_call (by kernel_rfl) 44 Try.func44 (by kernel_rfl) (by kernel_rfl) _ _ #[.int .u64 (Gold.vF (Gold.ptF (K + L) i))] rfl (by kernel_rfl) ?_
  refine (J.extFromBase_any (Gold.ptF (K + L) i) V3).mono ?_
  rintro e V4 ⟨rfl, hb⟩
  have B3 := Lib.hid hb
  clear hb 
  refine ⟨_, rfl, ?_⟩
  simp only [Act.put, List.setIfInBounds_toArray, List.set_cons_zero, List.set_cons_succ]
  have C0_2 := Lib.hid (bel_step B0.out B1.out)
  have C0_3 := Lib.hid (bel_step C0_2.out B2.out)
  have C0_4 := Lib.hid (bel_step C0_3.out B3.out)
  refine wpList_call (by kernel_rfl) 43 Try.func43 (by kernel_rfl) (by kernel_rfl) _ _ #[.slice A n c, .agg #[.int .u64 (Gold.vF (Gold.E2.ofF (Gold.ptF (K + L) i)).A), .int .u64 (Gold.vF (Gold.E2.ofF (Gold.ptF (K + L) i)).B)]] rfl (by kernel_rfl) ?_
  refine (J.polyEval_any A n c xs (Gold.E2.ofF (Gold.ptF (K + L) i)) V4 (HX.out.keep C0_4.out)).mono ?_
  rintro e V5 ⟨rfl, hb⟩
  have B4 := Lib.hid hb
  clear hb 
  refine ⟨_, rfl, ?_⟩
  simp only [Act.put, List.setIfInBounds_toArray, List.set_cons_zero, List.set_cons_succ]
  have C1_3 := Lib.hid (bel_step B1.out B2.out)
  have C1_4 := Lib.hid (bel_step C1_3.out B3.out)
  have C1_5 := Lib.hid (bel_step C1_4.out B4.out)
  refine wpList_storeW w.heap.size #[.int .u64 0, .int .u64 0] #[.int .u64 (Gold.vF (Gold.evE xs (Gold.E2.ofF (Gold.ptF (K + L) i))).A), .int .u64 (Gold.vF (Gold.evE xs (Gold.E2.ofF (Gold.ptF (K + L) i))).B)] 31 (by kernel_rfl) (heap_keep Fv0_6.out C1_5.out) (xo_storeW w.heap.size #[.int .u64 0, .int .u64 0] #[.int .u64 (Gold.vF (Gold.evE xs (Gold.E2.ofF (Gold.ptF (K + L) i))).A), .int .u64 (Gold.vF (Gold.evE xs (Gold.E2.ofF (Gold.ptF (K + L) i))).B)] (heap_keep Fv0_6.out C1_5.out) (by kernel_rfl) rfl (by simp [Value.oneCell']) rfl rfl rfl) ?_
  intro X5_3 h1 hfar hbel hsz
  have C0_5 := Lib.hid (bel_step C0_4.out B4.out)
  have hbr := hbel _ _ Gb0.out C0_5.out
  clear B0
  have B0 := Lib.hid hbr
  clear hbr
  clear Fv0_6
  have Fv0_6 : Hid (X5_3.heap[w.heap.size]? = some (.cells #[.int .u64 (Gold.vF (Gold.evE xs (Gold.E2.ofF (Gold.ptF (K + L) i))).A), .int .u64 (Gold.vF (Gold.evE xs (Gold.E2.ofF (Gold.ptF (K + L) i))).B)] 31 (0, 0))) := Lib.hid (h1)
  have HszX5_3 := Lib.hid hsz
  clear h1 hfar hbel hsz
  simp only [ptr, Act.put, List.setIfInBounds_toArray, List.set_cons_zero, List.set_cons_succ]
  refine wpList_run (by kernel_rfl) (.int .i64 0) X5_3 rfl ?_
  simp only [Act.put, List.setIfInBounds_toArray, List.set_cons_zero, List.set_cons_succ]
  refine wpList_nil ?_
  go_wp2_with fail
  refine bodyPost_ret (v := .tuple #[.agg #[.int .u64 (Gold.vF (Gold.evE xs (Gold.E2.ofF (Gold.ptF (K + L) i))).A), .int .u64 (Gold.vF (Gold.evE xs (Gold.E2.ofF (Gold.ptF (K + L) i))).B)], .int .i64 0]) ?_ rfl ⟨rfl, B0.out⟩
  exact results_row_tmp rfl _ _ w.heap.size 31 _ (0, 0) _ _ rfl rfl Fv0_6.out Try.underlying31 rfl (by kernel_rfl)
set_option maxRecDepth 100000 in
set_option maxHeartbeats 8000000 in
theorem at_no1 (A : Option Addr) (n c : Nat) (xs : List Gold.E2) (z i : Int) (hr : rB n z = false) (hn : n ≤ 1048576) (w : World) (hX : J.Sl w A n c xs) :
    Calls Try.prog 13 #[.slice A n c, .int .i64 z, .int .i64 i] w fun e w' => e = .returned (.tuple #[.agg #[.int .u64 0, .int .u64 0], .int .i64 1]) ∧ Below w.heap.size w w' := by
  have HX := Lib.hid hX
  have hcp := J.Sl.cap hX
  have htp := J.Sl.top hX
  clear hX
  go_enter Try.func13, Try.ntmps13
  go_upto_region 1 with fail
  refine wp_named1 (fun V1 hb g0 hlt => ?_)
  have B0 := Lib.hid hb
  have Fv0_6 : Hid (V1.heap[w.heap.size]? = some (.cells #[.int .u64 0, .int .u64 0] 31 (0, 0))) := Lib.hid (g0)
  have Gb0 : Hid (w.heap.size ≤ w.heap.size) := Lib.hid (by omega)
  clear hb g0 hlt
  have Lt0 : Hid (w.heap.size < V1.heap.size) := Lib.hid (xp_lt Fv0_6.out)
  refine wp_region_lit ?_
  refine wpList_run (by kernel_rfl) (.slice A n c) V1 rfl ?_
  simp only [Act.put, List.setIfInBounds_toArray, List.set_cons_zero, List.set_cons_succ]
  refine wpList_run (by kernel_rfl) (.int .i64 (n : Int)) V1 (xo_len A n c Try.underlying28 rfl rfl) ?_
  simp only [Act.put, List.setIfInBounds_toArray, List.set_cons_zero, List.set_cons_succ]
  refine wpList_run (by kernel_rfl) (.int .i64 z) V1 rfl ?_
  simp only [Act.put, List.setIfInBounds_toArray, List.set_cons_zero, List.set_cons_succ]
  refine wpList_call (by kernel_rfl) 38 Try.func38 (by kernel_rfl) (by kernel_rfl) _ _ #[.int .i64 (n : Int), .int .i64 z] rfl (by kernel_rfl) ?_
  refine (isRow_any n z (by omega) V1).mono ?_
  rintro e V2 ⟨rfl, hb⟩
  have B1 := Lib.hid hb
  rw [hr]
  clear hb 
  refine ⟨_, rfl, ?_⟩
  simp only [Act.put, List.setIfInBounds_toArray, List.set_cons_zero, List.set_cons_succ]
  refine wpList_run (by kernel_rfl) (.bool true) V2 rfl ?_
  simp only [Act.put, List.setIfInBounds_toArray, List.set_cons_zero, List.set_cons_succ]
  refine wpList_run (by kernel_rfl) (.bool true) V2 rfl ?_
  simp only [Act.put, List.setIfInBounds_toArray, List.set_cons_zero, List.set_cons_succ]
  refine wpList_skip (by kernel_rfl) ?_
  try simp only [Act.put, List.setIfInBounds_toArray, List.set_cons_zero, List.set_cons_succ]
  refine wpList_skip (by kernel_rfl) ?_
  try simp only [Act.put, List.setIfInBounds_toArray, List.set_cons_zero, List.set_cons_succ]
  refine wpList_run (by kernel_rfl) (.bool true) V2 rfl ?_
  simp only [Act.put, List.setIfInBounds_toArray, List.set_cons_zero, List.set_cons_succ]
  refine wpList_run (by kernel_rfl) (.bool true) V2 rfl ?_
  simp only [Act.put, List.setIfInBounds_toArray, List.set_cons_zero, List.set_cons_succ]
  refine wpList_skip (by kernel_rfl) ?_
  try simp only [Act.put, List.setIfInBounds_toArray, List.set_cons_zero, List.set_cons_succ]
  refine wpList_skip (by kernel_rfl) ?_
  try simp only [Act.put, List.setIfInBounds_toArray, List.set_cons_zero, List.set_cons_succ]
  refine wpList_skip (by kernel_rfl) ?_
  try simp only [Act.put, List.setIfInBounds_toArray, List.set_cons_zero, List.set_cons_succ]
  refine wpList_skip (by kernel_rfl) ?_
  try simp only [Act.put, List.setIfInBounds_toArray, List.set_cons_zero, List.set_cons_succ]
  refine wpList_skip (by kernel_rfl) ?_
  try simp only [Act.put, List.setIfInBounds_toArray, List.set_cons_zero, List.set_cons_succ]
  refine wpList_skip (by kernel_rfl) ?_
  try simp only [Act.put, List.setIfInBounds_toArray, List.set_cons_zero, List.set_cons_succ]
  refine wpList_run (by kernel_rfl) (.bool true) V2 rfl ?_
  simp only [Act.put, List.setIfInBounds_toArray, List.set_cons_zero, List.set_cons_succ]
  refine wpList_nil ?_
  go_upto_region 2 with fail
  refine wp_region_lit ?_
  refine wpList_run (by kernel_rfl) (.agg #[.int .u64 0, .int .u64 0]) V2 (by unfold execOp; go_simp) ?_
  simp only [Act.put, List.setIfInBounds_toArray, List.set_cons_zero, List.set_cons_succ]
  refine wpList_storeW w.heap.size #[.int .u64 0, .int .u64 0] #[.int .u64 0, .int .u64 0] 31 (by kernel_rfl) (heap_keep Fv0_6.out B1.out) (xo_storeW w.heap.size #[.int .u64 0, .int .u64 0] #[.int .u64 0, .int .u64 0] (heap_keep Fv0_6.out B1.out) (by kernel_rfl) rfl (by simp [Value.oneCell']) rfl rfl rfl) ?_
  intro X2_1 h1 hfar hbel hsz
  have C0_2 := Lib.hid (bel_step B0.out B1.out)
  have hbr := hbel _ _ Gb0.out C0_2.out
  clear B0
  have B0 := Lib.hid hbr
  clear hbr
  clear Fv0_6
  have Fv0_6 : Hid (X2_1.heap[w.heap.size]? = some (.cells #[.int .u64 0, .int .u64 0] 31 (0, 0))) := Lib.hid (h1)
  have HszX2_1 := Lib.hid hsz
  clear h1 hfar hbel hsz
  simp only [ptr, Act.put, List.setIfInBounds_toArray, List.set_cons_zero, List.set_cons_succ]
  refine wpList_run (by kernel_rfl) (.int .i64 1) X2_1 rfl ?_
  simp only [Act.put, List.setIfInBounds_toArray, List.set_cons_zero, List.set_cons_succ]
  refine wpList_nil ?_
  go_wp2_with fail
  refine bodyPost_ret (v := .tuple #[.agg #[.int .u64 0, .int .u64 0], .int .i64 1]) ?_ rfl ⟨rfl, B0.out⟩
  exact results_row_tmp rfl _ _ w.heap.size 31 _ (0, 0) _ _ rfl rfl Fv0_6.out Try.underlying31 rfl (by kernel_rfl)
set_option maxRecDepth 100000 in
set_option maxHeartbeats 8000000 in
theorem at_no2 (A : Option Addr) (n c : Nat) (xs : List Gold.E2) (z K L : Nat) (hn : n = 2 ^ K) (hz : z = 2 ^ L) (hL1 : 1 ≤ L) (hL4 : L ≤ 4) (hKL : K + L ≤ 16) (i : Int) (hi : i < 0 ∨ ((2 ^ (K + L) : Nat) : Int) ≤ i) (w : World) (hX : J.Sl w A n c xs) :
    Calls Try.prog 13 #[.slice A n c, .int .i64 (z : Int), .int .i64 i] w fun e w' => e = .returned (.tuple #[.agg #[.int .u64 0, .int .u64 0], .int .i64 1]) ∧ Below w.heap.size w w' := by
  have HX := Lib.hid hX
  have hcp := J.Sl.cap hX
  have htp := J.Sl.top hX
  clear hX
  go_enter Try.func13, Try.ntmps13
  go_upto_region 1 with fail
  refine wp_named1 (fun V1 hb g0 hlt => ?_)
  have B0 := Lib.hid hb
  have Fv0_6 : Hid (V1.heap[w.heap.size]? = some (.cells #[.int .u64 0, .int .u64 0] 31 (0, 0))) := Lib.hid (g0)
  have Gb0 : Hid (w.heap.size ≤ w.heap.size) := Lib.hid (by omega)
  clear hb g0 hlt
  have Lt0 : Hid (w.heap.size < V1.heap.size) := Lib.hid (xp_lt Fv0_6.out)
  have hr := rB_pow (K := K) (L := L) hL1 hL4 hKL
  rw [← hn, ← hz] at hr
  have HR := Lib.hid hr
  have hN65 := Gold.pow2_le hKL
  have hz16 : z ≤ 16 := by rw [hz]; exact Nat.pow_le_pow_right (n := 2) (by omega) hL4
  have hzn : z * n = 2 ^ (K + L) := by rw [hz, hn, Nat.pow_add, Nat.mul_comm]
  obtain ⟨N, hN⟩ : ∃ N, 2 ^ (K + L) = N := ⟨_, rfl⟩
  rw [hN] at hzn hN65
  have hnN : n ≤ N := by rw [← hzn]; exact Nat.le_mul_of_pos_left _ (by rw [hz]; exact Nat.two_pow_pos L)
  have HN := Lib.hid hN
  clear hr hn hz hN
  rw [HN.out] at hi
  by_cases hneg : i < 0
  · refine wp_region_lit ?_
    refine wpList_run (by kernel_rfl) (.slice A n c) V1 rfl ?_
    simp only [Act.put, List.setIfInBounds_toArray, List.set_cons_zero, List.set_cons_succ]
    refine wpList_run (by kernel_rfl) (.int .i64 (n : Int)) V1 (xo_len A n c Try.underlying28 rfl rfl) ?_
    simp only [Act.put, List.setIfInBounds_toArray, List.set_cons_zero, List.set_cons_succ]
    refine wpList_run (by kernel_rfl) (.int .i64 (z : Int)) V1 rfl ?_
    simp only [Act.put, List.setIfInBounds_toArray, List.set_cons_zero, List.set_cons_succ]
    refine wpList_call (by kernel_rfl) 38 Try.func38 (by kernel_rfl) (by kernel_rfl) _ _ #[.int .i64 (n : Int), .int .i64 (z : Int)] rfl (by kernel_rfl) ?_
    refine (isRow_any n (z : Int) (by omega) V1).mono ?_
    rintro e V2 ⟨rfl, hb⟩
    have B1 := Lib.hid hb
    rw [HR.out]
    clear hb 
    refine ⟨_, rfl, ?_⟩
    simp only [Act.put, List.setIfInBounds_toArray, List.set_cons_zero, List.set_cons_succ]
    refine wpList_run (by kernel_rfl) (.bool false) V2 rfl ?_
    simp only [Act.put, List.setIfInBounds_toArray, List.set_cons_zero, List.set_cons_succ]
    refine wpList_run (by kernel_rfl) (.bool false) V2 rfl ?_
    simp only [Act.put, List.setIfInBounds_toArray, List.set_cons_zero, List.set_cons_succ]
    refine wpList_run (by kernel_rfl) (.int .i64 i) V2 rfl ?_
    simp only [Act.put, List.setIfInBounds_toArray, List.set_cons_zero, List.set_cons_succ]
    refine wpList_run (by kernel_rfl) (.bool true) V2 (xo_lssT .i64 i 0 hneg rfl rfl rfl) ?_
    simp only [Act.put, List.setIfInBounds_toArray, List.set_cons_zero, List.set_cons_succ]
    refine wpList_run (by kernel_rfl) (.bool true) V2 rfl ?_
    simp only [Act.put, List.setIfInBounds_toArray, List.set_cons_zero, List.set_cons_succ]
    refine wpList_run (by kernel_rfl) (.bool true) V2 rfl ?_
    simp only [Act.put, List.setIfInBounds_toArray, List.set_cons_zero, List.set_cons_succ]
    refine wpList_skip (by kernel_rfl) ?_
    try simp only [Act.put, List.setIfInBounds_toArray, List.set_cons_zero, List.set_cons_succ]
    refine wpList_skip (by kernel_rfl) ?_
    try simp only [Act.put, List.setIfInBounds_toArray, List.set_cons_zero, List.set_cons_succ]
    refine wpList_skip (by kernel_rfl) ?_
    try simp only [Act.put, List.setIfInBounds_toArray, List.set_cons_zero, List.set_cons_succ]
    refine wpList_skip (by kernel_rfl) ?_
    try simp only [Act.put, List.setIfInBounds_toArray, List.set_cons_zero, List.set_cons_succ]
    refine wpList_skip (by kernel_rfl) ?_
    try simp only [Act.put, List.setIfInBounds_toArray, List.set_cons_zero, List.set_cons_succ]
    refine wpList_skip (by kernel_rfl) ?_
    try simp only [Act.put, List.setIfInBounds_toArray, List.set_cons_zero, List.set_cons_succ]
    refine wpList_run (by kernel_rfl) (.bool true) V2 rfl ?_
    simp only [Act.put, List.setIfInBounds_toArray, List.set_cons_zero, List.set_cons_succ]
    refine wpList_nil ?_
    go_upto_region 2 with fail
    refine wp_region_lit ?_
    refine wpList_run (by kernel_rfl) (.agg #[.int .u64 0, .int .u64 0]) V2 (by unfold execOp; go_simp) ?_
    simp only [Act.put, List.setIfInBounds_toArray, List.set_cons_zero, List.set_cons_succ]
    refine wpList_storeW w.heap.size #[.int .u64 0, .int .u64 0] #[.int .u64 0, .int .u64 0] 31 (by kernel_rfl) (heap_keep Fv0_6.out B1.out) (xo_storeW w.heap.size #[.int .u64 0, .int .u64 0] #[.int .u64 0, .int .u64 0] (heap_keep Fv0_6.out B1.out) (by kernel_rfl) rfl (by simp [Value.oneCell']) rfl rfl rfl) ?_
    intro X2_1 h1 hfar hbel hsz
    have C0_2 := Lib.hid (bel_step B0.out B1.out)
    have hbr := hbel _ _ Gb0.out C0_2.out
    clear B0
    have B0 := Lib.hid hbr
    clear hbr
    clear Fv0_6
    have Fv0_6 : Hid (X2_1.heap[w.heap.size]? = some (.cells #[.int .u64 0, .int .u64 0] 31 (0, 0))) := Lib.hid (h1)
    have HszX2_1 := Lib.hid hsz
    clear h1 hfar hbel hsz
    simp only [ptr, Act.put, List.setIfInBounds_toArray, List.set_cons_zero, List.set_cons_succ]
    refine wpList_run (by kernel_rfl) (.int .i64 1) X2_1 rfl ?_
    simp only [Act.put, List.setIfInBounds_toArray, List.set_cons_zero, List.set_cons_succ]
    refine wpList_nil ?_
    go_wp2_with fail
    refine bodyPost_ret (v := .tuple #[.agg #[.int .u64 0, .int .u64 0], .int .i64 1]) ?_ rfl ⟨rfl, B0.out⟩
    exact results_row_tmp rfl _ _ w.heap.size 31 _ (0, 0) _ _ rfl rfl Fv0_6.out Try.underlying31 rfl (by kernel_rfl)
  · have hge : i ≥ (N : Int) := by omega
    refine wp_region_lit ?_
    refine wpList_run (by kernel_rfl) (.slice A n c) V1 rfl ?_
    simp only [Act.put, List.setIfInBounds_toArray, List.set_cons_zero, List.set_cons_succ]
    refine wpList_run (by kernel_rfl) (.int .i64 (n : Int)) V1 (xo_len A n c Try.underlying28 rfl rfl) ?_
    simp only [Act.put, List.setIfInBounds_toArray, List.set_cons_zero, List.set_cons_succ]
    refine wpList_run (by kernel_rfl) (.int .i64 (z : Int)) V1 rfl ?_
    simp only [Act.put, List.setIfInBounds_toArray, List.set_cons_zero, List.set_cons_succ]
    refine wpList_call (by kernel_rfl) 38 Try.func38 (by kernel_rfl) (by kernel_rfl) _ _ #[.int .i64 (n : Int), .int .i64 (z : Int)] rfl (by kernel_rfl) ?_
    refine (isRow_any n (z : Int) (by omega) V1).mono ?_
    rintro e V2 ⟨rfl, hb⟩
    have B1 := Lib.hid hb
    rw [HR.out]
    clear hb 
    refine ⟨_, rfl, ?_⟩
    simp only [Act.put, List.setIfInBounds_toArray, List.set_cons_zero, List.set_cons_succ]
    refine wpList_run (by kernel_rfl) (.bool false) V2 rfl ?_
    simp only [Act.put, List.setIfInBounds_toArray, List.set_cons_zero, List.set_cons_succ]
    refine wpList_run (by kernel_rfl) (.bool false) V2 rfl ?_
    simp only [Act.put, List.setIfInBounds_toArray, List.set_cons_zero, List.set_cons_succ]
    refine wpList_run (by kernel_rfl) (.int .i64 i) V2 rfl ?_
    simp only [Act.put, List.setIfInBounds_toArray, List.set_cons_zero, List.set_cons_succ]
    refine wpList_run (by kernel_rfl) (.bool false) V2 (xo_lssF .i64 i 0 hneg rfl rfl rfl) ?_
    simp only [Act.put, List.setIfInBounds_toArray, List.set_cons_zero, List.set_cons_succ]
    refine wpList_run (by kernel_rfl) (.bool false) V2 rfl ?_
    simp only [Act.put, List.setIfInBounds_toArray, List.set_cons_zero, List.set_cons_succ]
    refine wpList_run (by kernel_rfl) (.bool false) V2 rfl ?_
    simp only [Act.put, List.setIfInBounds_toArray, List.set_cons_zero, List.set_cons_succ]
    refine wpList_run (by kernel_rfl) (.int .i64 i) V2 rfl ?_
    simp only [Act.put, List.setIfInBounds_toArray, List.set_cons_zero, List.set_cons_succ]
    refine wpList_run (by kernel_rfl) (.int .i64 (z : Int)) V2 rfl ?_
    simp only [Act.put, List.setIfInBounds_toArray, List.set_cons_zero, List.set_cons_succ]
    refine wpList_run (by kernel_rfl) (.slice A n c) V2 rfl ?_
    simp only [Act.put, List.setIfInBounds_toArray, List.set_cons_zero, List.set_cons_succ]
    refine wpList_run (by kernel_rfl) (.int .i64 (n : Int)) V2 (xo_len A n c Try.underlying28 rfl rfl) ?_
    simp only [Act.put, List.setIfInBounds_toArray, List.set_cons_zero, List.set_cons_succ]
    refine wpList_run (by kernel_rfl) (.int .i64 (N : Int)) V2 (xo_mulI (z : Int) (n : Int) (N : Int) (by rw [← hzn]; simp) (by omega) (by omega) rfl rfl rfl) ?_
    simp only [Act.put, List.setIfInBounds_toArray, List.set_cons_zero, List.set_cons_succ]
    refine wpList_run (by kernel_rfl) (.bool true) V2 (xo_geqT .i64 i (N : Int) hge rfl rfl rfl) ?_
    simp only [Act.put, List.setIfInBounds_toArray, List.set_cons_zero, List.set_cons_succ]
    refine wpList_run (by kernel_rfl) (.bool true) V2 rfl ?_
    simp only [Act.put, List.setIfInBounds_toArray, List.set_cons_zero, List.set_cons_succ]
    refine wpList_nil ?_
    go_upto_region 2 with fail
    refine wp_region_lit ?_
    refine wpList_run (by kernel_rfl) (.agg #[.int .u64 0, .int .u64 0]) V2 (by unfold execOp; go_simp) ?_
    simp only [Act.put, List.setIfInBounds_toArray, List.set_cons_zero, List.set_cons_succ]
    refine wpList_storeW w.heap.size #[.int .u64 0, .int .u64 0] #[.int .u64 0, .int .u64 0] 31 (by kernel_rfl) (heap_keep Fv0_6.out B1.out) (xo_storeW w.heap.size #[.int .u64 0, .int .u64 0] #[.int .u64 0, .int .u64 0] (heap_keep Fv0_6.out B1.out) (by kernel_rfl) rfl (by simp [Value.oneCell']) rfl rfl rfl) ?_
    intro X2_1 h1 hfar hbel hsz
    have C0_2 := Lib.hid (bel_step B0.out B1.out)
    have hbr := hbel _ _ Gb0.out C0_2.out
    clear B0
    have B0 := Lib.hid hbr
    clear hbr
    clear Fv0_6
    have Fv0_6 : Hid (X2_1.heap[w.heap.size]? = some (.cells #[.int .u64 0, .int .u64 0] 31 (0, 0))) := Lib.hid (h1)
    have HszX2_1 := Lib.hid hsz
    clear h1 hfar hbel hsz
    simp only [ptr, Act.put, List.setIfInBounds_toArray, List.set_cons_zero, List.set_cons_succ]
    refine wpList_run (by kernel_rfl) (.int .i64 1) X2_1 rfl ?_
    simp only [Act.put, List.setIfInBounds_toArray, List.set_cons_zero, List.set_cons_succ]
    refine wpList_nil ?_
    go_wp2_with fail
    refine bodyPost_ret (v := .tuple #[.agg #[.int .u64 0, .int .u64 0], .int .i64 1]) ?_ rfl ⟨rfl, B0.out⟩
    exact results_row_tmp rfl _ _ w.heap.size 31 _ (0, 0) _ _ rfl rfl Fv0_6.out Try.underlying31 rfl (by kernel_rfl)
end Go.Proofs.Ytkefijogpiofbaa

namespace Gold
set_option linter.unusedVariables false
set_option linter.unusedSimpArgs false
set_option linter.unusedSectionVars false
set_option maxRecDepth 8000
theorem inF_unique {xs f : List F} {K : Nat} (hK : K ≤ 15) (hf : Trm f) (hl : f.length ≤ 2 ^ K) (h : ∀ i, i < 2 ^ K → evL f (ptF K i) = cfF xs i) : inF xs K = f := by
  have h65 := pow2_le (k := K) (by omega)
  have hm := mnF_le (inF xs K) f 0 1
  have hle := inF_le xs K
  have hz := zero_at (p := mnF (inF xs K) f 0 1) (K := K) (by omega) (List.range (2 ^ K)) List.nodup_range (fun i hi => List.mem_range.1 hi) (by rw [List.length_range]; exact h65) (by rw [List.length_range]; omega) (fun i hi => by
    have hi := List.mem_range.1 hi
    rw [evL_mnF, inF_at (by omega) hi, h i hi, F_pow_zero]
    grind)
  refine (inF_trm xs K).eq hf fun i => ?_
  have h1 := hz i
  rw [cfF_mnF, if_pos (Nat.zero_le _), Nat.sub_zero] at h1
  grind
theorem evL_const {f : List F} (h : f.length ≤ 1) (x : F) : evL f x = cfF f 0 := by
  match f, h with
  | [], _ => rfl
  | [a], _ => rw [evL_cons, evL_nil]; show 0 * x + a = a; grind
theorem tbF_one (f : Nat → F) : tbF 1 f = [f 0] := rfl
theorem cw_five : cwF [5] 2 = [5, 5, 5, 5] := by
  have e : ∀ x : F, evL [5] x = 5 := fun x => evL_const (by simp) x
  unfold cwF tbF
  simp only [e]
  rfl
theorem cw_lin : cwF [0, 1] 2 = [1, rootF 2, -1, -rootF 2] := by
  have e : ∀ x : F, evL [0, 1] x = x := fun x => by rw [evL_cons, evL_cons, evL_nil]; grind
  have h2 : rootF 2 ^ 2 = -1 := rootF_half (k := 1) (by omega)
  have h3 : rootF 2 ^ 3 = -rootF 2 := by rw [F_pow_succ, h2]; grind
  unfold cwF tbF ptF
  simp only [e]
  show [rootF 2 ^ 0, rootF 2 ^ 1, rootF 2 ^ 2, rootF 2 ^ 3] = _
  rw [F_pow_zero, F_pow_one, h2, h3]
theorem differ_const {f xs : List F} (h : f.length ≤ 1) : differF 4 2 (cfF xs) f = [0, 1, 2, 3].filter fun i => !decide (cfF f 0 = cfF xs i) := by
  unfold differF
  simp only [evL_const h]
  rfl
theorem dec_one {f : List F} (h : f.length ≤ 1) : (differF 4 2 (cfF [5, 5, 7, 5]) f).length = if cfF f 0 = 5 then 1 else if cfF f 0 = 7 then 3 else 4 := by
  rw [differ_const h]
  generalize cfF f 0 = c
  show ([0, 1, 2, 3].filter fun i => !decide (c = cfF [5, 5, 7, 5] i)).length = _
  simp only [List.filter_cons, List.filter_nil, show cfF [5, 5, 7, 5] 0 = 5 from rfl, show cfF [5, 5, 7, 5] 1 = 5 from rfl, show cfF [5, 5, 7, 5] 2 = 7 from rfl, show cfF [5, 5, 7, 5] 3 = 5 from rfl]
  by_cases h5 : c = 5
  · subst h5; decide
  · by_cases h7 : c = 7
    · subst h7; decide
    · simp [h5, h7]
theorem dec_two {f : List F} (h : f.length ≤ 1) : 2 ≤ (differF 4 2 (cfF [5, 5, 7, 7]) f).length := by
  rw [differ_const h]
  generalize cfF f 0 = c
  show 2 ≤ ([0, 1, 2, 3].filter fun i => !decide (c = cfF [5, 5, 7, 7] i)).length
  simp only [List.filter_cons, List.filter_nil, show cfF [5, 5, 7, 7] 0 = 5 from rfl, show cfF [5, 5, 7, 7] 1 = 5 from rfl, show cfF [5, 5, 7, 7] 2 = 7 from rfl, show cfF [5, 5, 7, 7] 3 = 7 from rfl]
  by_cases h5 : c = 5
  · subst h5; decide
  · by_cases h7 : c = 7
    · subst h7; decide
    · simp [h5, h7]
theorem is_five : (inF [5, 5, 5, 5] 2).length ≤ 1 := by
  rw [inF_unique (f := [5]) (by omega) (fun m hm => by have h0 : m = 0 := (by simpa using hm.symm); subst h0; decide) (by decide) (fun i hi => by
    rw [evL_const (by simp)]
    have : i = 0 ∨ i = 1 ∨ i = 2 ∨ i = 3 := by omega
    rcases this with rfl | rfl | rfl | rfl <;> rfl)]
  exact Nat.le_refl _
theorem is_not : ¬ (inF [5, 5, 5, 6] 2).length ≤ 1 := fun h => by
  have h0 := inF_at (xs := [5, 5, 5, 6]) (K := 2) (i := 0) (by omega) (by decide)
  have h3 := inF_at (xs := [5, 5, 5, 6]) (K := 2) (i := 3) (by omega) (by decide)
  rw [evL_const h] at h0 h3
  rw [h0] at h3
  exact absurd h3 (by decide)
theorem at_neg : evE [E2.zero, ⟨1, 3⟩] (E2.ofF (ptF 2 2)) = -(⟨1, 3⟩ : E2) := by
  have h2 : ptF 2 2 = -1 := rootF_half (k := 1) (by omega)
  rw [evE_cons, evE_cons, evE_nil, h2]
  exact E2.ext' (by simp only [E2.add_A, E2.mul_A, E2.neg_A, E2.zero_A, E2.zero_B, E2.add_B, E2.ofF_A, E2.ofF_B]; grind) (by simp only [E2.add_A, E2.mul_B, E2.neg_B, E2.zero_A, E2.zero_B, E2.add_B, E2.ofF_A, E2.ofF_B]; grind)
end Gold
namespace Go.Proofs.Ytkefijogpiofbaa
set_option linter.unusedVariables false
set_option linter.unusedSimpArgs false
set_option linter.unusedSectionVars false
open Go.RowKit Go.Proofs.Ytkefijogpiofbaa.K
/-- an element of the extension field in cells -/
def exC (x : Gold.E2) : List Value := [.int .u64 (Gold.vF x.A), .int .u64 (Gold.vF x.B)]
instance : Enc exC 2 := ⟨fun _ => rfl, fun x u hu => by
  simp only [exC, List.mem_cons, List.not_mem_nil, or_false] at hu
  rcases hu with rfl | rfl <;> rfl, by decide⟩
theorem slOf {w : World} {A : Option Addr} {n c : Nat} {xs : List Gold.E2} (h : Sg exC 2 w A n c xs) : J.Sl w A n c xs :=
  ⟨by rw [List.length_map]; exact h.len.symm, h.cap, h.top, h.nil, fun i p hp => by
    rw [List.getElem?_map] at hp
    obtain ⟨q, hq, rfl⟩ := Option.map_eq_some_iff.1 hp
    obtain ⟨g, off, rfl, hr⟩ := h.at_ i q hq
    refine ⟨⟨g, off, none⟩, rfl, ?_, ?_⟩
    · rw [Addr.add_mid]; exact hr 0 _ rfl
    · rw [Addr.add_mid]; exact hr 1 _ rfl⟩
theorem encodeN (A : Option Addr) (n c : Nat) (xs : List Gold.F) (z K L N M : Nat) (hn : n = 2 ^ K) (hz : z = 2 ^ L) (hL1 : 1 ≤ L) (hL4 : L ≤ 4) (hKL : K + L = M) (hM : M ≤ 16) (hN : N = 2 ^ M) (w : World) (hX : Sg feC 1 w A n c xs) :
    Calls Try.prog 9 #[.slice A n c, .int .i64 (z : Int)] w fun e w' => ∃ g, e = .returned (.tuple #[.slice (some ⟨g, 0, none⟩) N N, .int .i64 0]) ∧ Sg feC 1 w' (some ⟨g, 0, none⟩) N N (Gold.cwF xs M) ∧ Below w.heap.size w w' := by
  subst hKL hN
  exact encode_yes A n c xs z K L hn hz hL1 hL4 hM w hX
theorem decode_one (A : Option Addr) (c : Nat) (w : World) (hX : Sg feC 1 w A 4 c [5, 5, 7, 5]) :
    Calls Try.prog 25 #[.slice A 4 c, .int .i64 4] w fun e w' => ∃ g, e = .returned (.tuple #[.slice (some ⟨g, 0, none⟩) 1 1, .int .i64 1, .int .i64 0]) ∧ Sg feC 1 w' (some ⟨g, 0, none⟩) 1 1 [5] ∧ Below w.heap.size w w' := by
  refine (decode_yes A 4 c [5, 5, 7, 5] 4 0 2 rfl rfl (by omega) (by omega) (by omega) w hX).mono ?_
  rintro e w' ⟨v, dd, er, rfl, h, hb⟩
  rcases h with ⟨rfl, f, hf, hl, hd, rfl, g, rfl, hs⟩ | ⟨_, _, _, hno⟩
  · have hl : f.length ≤ 1 := hl
    have hd : (Gold.differF 4 2 (Gold.cfF [5, 5, 7, 5]) f).length ≤ 1 := hd
    have h1 := Gold.dec_one hl
    have h5 : Gold.cfF f 0 = 5 := by
      by_cases h5 : Gold.cfF f 0 = 5
      · exact h5
      · rw [if_neg h5] at h1
        split at h1 <;> omega
    rw [if_pos h5] at h1
    refine ⟨g, by show Ending.returned (.tuple #[_, .int .i64 (((Gold.differF 4 2 (Gold.cfF [5, 5, 7, 5]) f).length : Nat) : Int), _]) = _; rw [h1]; rfl, ?_, hb⟩
    have hs : Sg feC 1 w' (some ⟨g, 0, none⟩) 1 1 (Gold.tbF 1 (Gold.cfF f)) := hs
    rw [Gold.tbF_one, h5] at hs
    exact hs
  · have h1 := hno [5] (by decide)
    have h2 : (Gold.differF 4 2 (Gold.cfF [5, 5, 7, 5]) [5]).length = 1 := by rw [Gold.dec_one (by simp)]; rfl
    have h1 : (4 - 1) / 2 < (Gold.differF 4 2 (Gold.cfF [5, 5, 7, 5]) [5]).length := h1
    omega
theorem decode_two (A : Option Addr) (c : Nat) (w : World) (hX : Sg feC 1 w A 4 c [5, 5, 7, 7]) :
    Calls Try.prog 25 #[.slice A 4 c, .int .i64 4] w fun e w' => e = .returned (.tuple #[.slice none 0 0, .int .i64 0, .int .i64 4]) ∧ Below w.heap.size w w' := by
  refine (decode_yes A 4 c [5, 5, 7, 7] 4 0 2 rfl rfl (by omega) (by omega) (by omega) w hX).mono ?_
  rintro e w' ⟨v, dd, er, rfl, h, hb⟩
  rcases h with ⟨rfl, f, hf, hl, hd, _⟩ | ⟨rfl, rfl, rfl, _⟩
  · have hl : f.length ≤ 1 := hl
    have hd : (Gold.differF 4 2 (Gold.cfF [5, 5, 7, 7]) f).length ≤ (4 - 1) / 2 := hd
    have := Gold.dec_two hl
    omega
  · exact ⟨rfl, hb⟩
end Go.Proofs.Ytkefijogpiofbaa

