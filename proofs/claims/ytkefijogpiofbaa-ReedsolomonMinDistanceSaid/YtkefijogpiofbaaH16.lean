/- Several texts in one: Ud9, Ue9, Ug9. -/
import Derived.Test.YtkefijogpiofbaaH15
namespace Go.Proofs.Ytkefijogpiofbaa
set_option linter.unusedVariables false
set_option linter.unusedSimpArgs false
set_option linter.unusedSectionVars false
set_option maxRecDepth 8000
open Go.RowKit Go.Proofs.Ytkefijogpiofbaa.K
attribute [local irreducible] wpList wpQuiet
/-- a power of two -/
def pwB (n : Nat) : Bool := decide (1 ≤ n) && ((n &&& (n - 1)) == 0)
theorem rpow9 (x : Gold.F) (i : Nat) (w : World) (hi : i < 18446744073709551616) : Calls Try.prog 58 #[.int .u64 (Gold.vF x), .int .u64 (i : Int)] w fun e w' => e = .returned (.int .u64 (Gold.vF (x ^ i))) ∧ w' = w := by
  refine (J.rpow_nat (Gold.vF x) i w (Gold.El_vF x) hi).mono ?_
  rw [Gold.vF_pow]
  exact fun e w' h => h
theorem bB_no {z : Int} (h : z < 2 ∨ 16 < z) : bB z = false := by
  unfold bB
  simp only [Bool.or_eq_false_iff, decide_eq_false_iff_not]
  omega
theorem bB_pw {n : Nat} (h2 : 2 ≤ n) (h16 : n ≤ 16) : bB (n : Int) = pwB n := by
  have : n = 2 ∨ n = 3 ∨ n = 4 ∨ n = 5 ∨ n = 6 ∨ n = 7 ∨ n = 8 ∨ n = 9 ∨ n = 10 ∨ n = 11 ∨ n = 12 ∨ n = 13 ∨ n = 14 ∨ n = 15 ∨ n = 16 := by omega
  rcases this with rfl | rfl | rfl | rfl | rfl | rfl | rfl | rfl | rfl | rfl | rfl | rfl | rfl | rfl | rfl <;> rfl
theorem rB_pw (n : Nat) (z : Int) : rB n z = (bB z && (pwB n && decide (n ≤ 65536 / z.toNat))) := by
  rw [rB_eq]
  unfold pwB
  cases bB z <;> cases decide (1 ≤ n) <;> cases ((n &&& (n - 1)) == 0) <;> rfl
set_option maxRecDepth 100000 in
set_option maxHeartbeats 8000000 in
theorem rlog_any (n M : Nat) (hn : n = 2 ^ M) (hM : M ≤ 16) (w : World) : Calls Try.prog 57 #[.int .i64 (n : Int)] w fun e w' => e = .returned (.int .i64 (M : Int)) ∧ Below w.heap.size w w' := by
  have HN := Lib.hid hn
  have hn65 : n ≤ 65536 := by rw [hn]; exact Gold.pow2_le hM
  clear hn
  go_enter Try.func57, Try.ntmps57
  go_upto_region 1 with fail
  refine wp_region_lit ?_
  refine wpList_run (by kernel_rfl) (.int .i64 0) w rfl ?_
  simp only [Act.put, List.setIfInBounds_toArray, List.set_cons_zero, List.set_cons_succ]
  refine wpList_nil ?_
  have O0 := (Below.refl w.heap.size w)
  have B0 := Lib.hid (Below.refl w.heap.size w)
  go_wp2_with fail
  go_loopw [3] (fun p wr => ∃ j : Nat, j ≤ M ∧ p = .int .i64 j ∧ Below w.heap.size w wr) (fun p _ => M - (intOf p).toNat)
  case atStart => exact ⟨0, Nat.zero_le _, rfl, O0⟩
  case round =>
    clear O0
    obtain ⟨wo, rfl⟩ : ∃ wo : World, wo = wr := ⟨_, rfl⟩
    obtain ⟨j, hi, rfl, hb0⟩ := hrel
    have hbr := hb0
    clear B0
    have B0 := Lib.hid hbr
    clear hbr
    clear hb0 
    obtain ⟨pj, hpj⟩ : ∃ pj, 2 ^ j = pj := ⟨_, rfl⟩
    have hpjn : pj ≤ n := by rw [← hpj, HN.out]; exact Nat.pow_le_pow_right (by omega) hi
    by_cases hlt : pj < n
    · have hci2 : ((pj : Int) < (n : Int)) := by omega
      have hjM : j < M := by rcases Nat.lt_or_ge j M with h | h; exact h; exact absurd hlt (by have h2 : 2 ^ M ≤ 2 ^ j := Nat.pow_le_pow_right (by omega) h; rw [hpj, ← HN.out] at h2; omega)
      go_upto_region 2 with fail
      refine wp_region_lit ?_
      refine wpList_run (by kernel_rfl) (.int .i64 (j : Int)) wo rfl ?_
      simp only [Act.put, List.setIfInBounds_toArray, List.set_cons_zero, List.set_cons_succ]
      refine wpList_run (by kernel_rfl) (.int .i64 (pj : Int)) wo (xo_shlI .i64 1 j pj (by rw [Nat.one_mul]; exact hpj) (by omega) rfl rfl rfl) ?_
      simp only [Act.put, List.setIfInBounds_toArray, List.set_cons_zero, List.set_cons_succ]
      refine wpList_run (by kernel_rfl) (.int .i64 (n : Int)) wo rfl ?_
      simp only [Act.put, List.setIfInBounds_toArray, List.set_cons_zero, List.set_cons_succ]
      refine wpList_run (by kernel_rfl) (.bool true) wo (xo_lssT .i64 (pj : Int) (n : Int) (by omega) rfl rfl rfl) ?_
      simp only [Act.put, List.setIfInBounds_toArray, List.set_cons_zero, List.set_cons_succ]
      refine wpList_nil ?_
      go_upto_region 3 with fail
      refine wp_region_lit ?_
      refine wpList_run (by kernel_rfl) (.int .i64 (j : Int)) wo rfl ?_
      simp only [Act.put, List.setIfInBounds_toArray, List.set_cons_zero, List.set_cons_succ]
      refine wpList_run (by kernel_rfl) (.int .i64 ((j + 1 : Nat) : Int)) wo (xo_addI (j : Int) 1 ((j + 1 : Nat) : Int) (by omega) (by omega) (by omega) rfl rfl rfl) ?_
      simp only [Act.put, List.setIfInBounds_toArray, List.set_cons_zero, List.set_cons_succ]
      refine wpList_run (by kernel_rfl) (.int .i64 ((j + 1 : Nat) : Int)) wo rfl ?_
      simp only [Act.put, List.setIfInBounds_toArray, List.set_cons_zero, List.set_cons_succ]
      refine wpList_nil ?_
      have hq3 := B0.out
      go_wp2_with fail
      go_roundw
      case rel => exact ⟨j + 1, by omega, by go_num, hq3⟩
      case measure => simp [intOf]; omega
    · have hci2 : ¬ ((pj : Int) < (n : Int)) := by omega
      have hjM : M = j := by rcases Nat.lt_or_ge j M with h | h; exact absurd (show pj < n by rw [← hpj, HN.out]; exact Nat.pow_lt_pow_right (by omega) h) hlt; omega
      subst hjM
      go_upto_region 2 with fail
      refine wp_region_lit ?_
      refine wpList_run (by kernel_rfl) (.int .i64 (M : Int)) wo rfl ?_
      simp only [Act.put, List.setIfInBounds_toArray, List.set_cons_zero, List.set_cons_succ]
      refine wpList_run (by kernel_rfl) (.int .i64 (pj : Int)) wo (xo_shlI .i64 1 M pj (by rw [Nat.one_mul]; exact hpj) (by omega) rfl rfl rfl) ?_
      simp only [Act.put, List.setIfInBounds_toArray, List.set_cons_zero, List.set_cons_succ]
      refine wpList_run (by kernel_rfl) (.int .i64 (n : Int)) wo rfl ?_
      simp only [Act.put, List.setIfInBounds_toArray, List.set_cons_zero, List.set_cons_succ]
      refine wpList_run (by kernel_rfl) (.bool false) wo (xo_lssF .i64 (pj : Int) (n : Int) (by omega) rfl rfl rfl) ?_
      simp only [Act.put, List.setIfInBounds_toArray, List.set_cons_zero, List.set_cons_succ]
      refine wpList_nil ?_
      go_upto_region 4 with fail
      refine wp_region_lit ?_
      refine wpList_run (by kernel_rfl) (.int .i64 (M : Int)) wo rfl ?_
      simp only [Act.put, List.setIfInBounds_toArray, List.set_cons_zero, List.set_cons_succ]
      refine wpList_run (by kernel_rfl) (.int .i64 (M : Int)) wo rfl ?_
      simp only [Act.put, List.setIfInBounds_toArray, List.set_cons_zero, List.set_cons_succ]
      refine wpList_nil ?_
      go_wp2_with fail
      go_ret
      exact ⟨rfl, B0.out⟩
set_option maxRecDepth 100000 in
set_option maxHeartbeats 8000000 in
theorem rpoint_any (n M i : Nat) (hn : n = 2 ^ M) (hM : M ≤ 16) (hi0 : i ≤ 1048576) (w : World) : Calls Try.prog 31 #[.int .i64 (n : Int), .int .i64 (i : Int)] w fun e w' => e = .returned (.int .u64 (Gold.vF (Gold.ptF M i))) ∧ Below w.heap.size w w' := by
  have HN := Lib.hid hn
  clear hn
  go_enter Try.func31, Try.ntmps31
  go_upto_region 1 with fail
  refine wp_region_lit ?_
  refine wpList_run (by kernel_rfl) (.int .i64 (n : Int)) w rfl ?_
  simp only [Act.put, List.setIfInBounds_toArray, List.set_cons_zero, List.set_cons_succ]
  refine wpList_call (by kernel_rfl) 57 Try.func57 (by kernel_rfl) (by kernel_rfl) _ _ #[.int .i64 (n : Int)] rfl (by kernel_rfl) ?_
  refine (rlog_any n M HN.out hM w).mono ?_
  rintro e V1 ⟨rfl, hb⟩
  have B0 := Lib.hid hb
  clear hb 
  refine ⟨_, rfl, ?_⟩
  simp only [Act.put, List.setIfInBounds_toArray, List.set_cons_zero, List.set_cons_succ]
  refine wpList_call (by kernel_rfl) 35 Try.func35 (by kernel_rfl) (by kernel_rfl) _ _ #[.int .i64 (M : Int)] rfl (by kernel_rfl) ?_
  refine (J.ref_rootF M V1 (by omega)).mono ?_
  rintro e W1 ⟨rfl, hw1⟩
  rw [hw1]
  clear hw1 W1
  refine ⟨_, rfl, ?_⟩
  simp only [Act.put, List.setIfInBounds_toArray, List.set_cons_zero, List.set_cons_succ]
  refine wpList_run (by kernel_rfl) (.tuple #[.int .u64 (Gold.vF (Gold.rootF M)), .int .i64 0]) V1 rfl ?_
  simp only [Act.put, List.setIfInBounds_toArray, List.set_cons_zero, List.set_cons_succ]
  refine wpList_run (by kernel_rfl) (.int .u64 (Gold.vF (Gold.rootF M))) V1 rfl ?_
  simp only [Act.put, List.setIfInBounds_toArray, List.set_cons_zero, List.set_cons_succ]
  refine wpList_run (by kernel_rfl) (.int .i64 0) V1 rfl ?_
  simp only [Act.put, List.setIfInBounds_toArray, List.set_cons_zero, List.set_cons_succ]
  refine wpList_run (by kernel_rfl) (.int .u64 (Gold.vF (Gold.rootF M))) V1 rfl ?_
  simp only [Act.put, List.setIfInBounds_toArray, List.set_cons_zero, List.set_cons_succ]
  refine wpList_run (by kernel_rfl) (.int .i64 0) V1 rfl ?_
  simp only [Act.put, List.setIfInBounds_toArray, List.set_cons_zero, List.set_cons_succ]
  refine wpList_nil ?_
  go_upto_region 2 with fail
  refine wp_region_lit ?_
  refine wpList_run (by kernel_rfl) (.int .u64 (Gold.vF (Gold.rootF M))) V1 rfl ?_
  simp only [Act.put, List.setIfInBounds_toArray, List.set_cons_zero, List.set_cons_succ]
  refine wpList_run (by kernel_rfl) (.int .i64 (i : Int)) V1 rfl ?_
  simp only [Act.put, List.setIfInBounds_toArray, List.set_cons_zero, List.set_cons_succ]
  refine wpList_run (by kernel_rfl) (.int .u64 (i : Int)) V1 (xo_cvt .i64 .u64 (i : Int) (i : Int) (by rw [IntKind.wrap_u64]; omega) Try.underlying29 Try.underlying3 rfl rfl) ?_
  simp only [Act.put, List.setIfInBounds_toArray, List.set_cons_zero, List.set_cons_succ]
  refine wpList_call (by kernel_rfl) 58 Try.func58 (by kernel_rfl) (by kernel_rfl) _ _ #[.int .u64 (Gold.vF (Gold.rootF M)), .int .u64 (i : Int)] rfl (by kernel_rfl) ?_
  refine (rpow9 (Gold.rootF M) i V1 (by omega)).mono ?_
  rintro e W1 ⟨rfl, hw1⟩
  rw [hw1]
  clear hw1 W1
  refine ⟨_, rfl, ?_⟩
  simp only [Act.put, List.setIfInBounds_toArray, List.set_cons_zero, List.set_cons_succ]
  refine wpList_run (by kernel_rfl) (.int .u64 (Gold.vF (Gold.rootF M ^ i))) V1 rfl ?_
  simp only [Act.put, List.setIfInBounds_toArray, List.set_cons_zero, List.set_cons_succ]
  refine wpList_nil ?_
  go_wp2_with fail
  go_ret
  exact ⟨rfl, B0.out⟩
set_option maxRecDepth 100000 in
set_option maxHeartbeats 8000000 in
theorem rpower_any (n : Nat) (hn : n < 4611686018427387904) (w : World) : Calls Try.prog 41 #[.int .i64 (n : Int)] w fun e w' => e = .returned (.bool (pwB n)) ∧ Below w.heap.size w w' := by
  go_enter Try.func41, Try.ntmps41
  go_upto_region 1 with fail
  by_cases h1 : 1 ≤ n
  · have hci0 : ((n : Int) ≥ 1) := by omega
    obtain ⟨pn, hpn⟩ : ∃ p, n - 1 = p := ⟨_, rfl⟩
    obtain ⟨an, han⟩ : ∃ a, n &&& pn = a := ⟨_, rfl⟩
    have hanle : an ≤ n := by rw [← han]; exact Nat.and_le_left
    by_cases ha : an = 0
    · have hci1 : ((an : Int) = 0) := by omega
      refine wp_region_lit ?_
      refine wpList_run (by kernel_rfl) (.int .i64 (n : Int)) w rfl ?_
      simp only [Act.put, List.setIfInBounds_toArray, List.set_cons_zero, List.set_cons_succ]
      refine wpList_run (by kernel_rfl) (.bool true) w (xo_geqT .i64 (n : Int) 1 (by omega) rfl rfl rfl) ?_
      simp only [Act.put, List.setIfInBounds_toArray, List.set_cons_zero, List.set_cons_succ]
      refine wpList_run (by kernel_rfl) (.bool true) w rfl ?_
      simp only [Act.put, List.setIfInBounds_toArray, List.set_cons_zero, List.set_cons_succ]
      refine wpList_run (by kernel_rfl) (.int .i64 (n : Int)) w rfl ?_
      simp only [Act.put, List.setIfInBounds_toArray, List.set_cons_zero, List.set_cons_succ]
      refine wpList_run (by kernel_rfl) (.int .i64 (n : Int)) w rfl ?_
      simp only [Act.put, List.setIfInBounds_toArray, List.set_cons_zero, List.set_cons_succ]
      refine wpList_run (by kernel_rfl) (.int .i64 (pn : Int)) w (xo_subI (n : Int) 1 (pn : Int) (by omega) (by omega) (by omega) rfl rfl rfl) ?_
      simp only [Act.put, List.setIfInBounds_toArray, List.set_cons_zero, List.set_cons_succ]
      refine wpList_run (by kernel_rfl) (.int .i64 (an : Int)) w (xo_and .i64 n pn an (by show _ < 2 ^ 64; omega) (by show _ < 2 ^ 64; omega) han (by rw [IntKind.wrap_i64]; omega) rfl rfl rfl) ?_
      simp only [Act.put, List.setIfInBounds_toArray, List.set_cons_zero, List.set_cons_succ]
      refine wpList_run (by kernel_rfl) (.bool true) w (xo_eqlT .i64 (an : Int) 0 (by omega) rfl rfl rfl) ?_
      simp only [Act.put, List.setIfInBounds_toArray, List.set_cons_zero, List.set_cons_succ]
      refine wpList_run (by kernel_rfl) (.bool true) w rfl ?_
      simp only [Act.put, List.setIfInBounds_toArray, List.set_cons_zero, List.set_cons_succ]
      refine wpList_run (by kernel_rfl) (.bool true) w rfl ?_
      simp only [Act.put, List.setIfInBounds_toArray, List.set_cons_zero, List.set_cons_succ]
      refine wpList_nil ?_
      go_wp2_with fail
      go_ret
      exact ⟨by unfold pwB; rw [hpn, han]; simp [ha] <;> omega, (Below.refl w.heap.size w)⟩
    · have hci1 : ¬ ((an : Int) = 0) := by omega
      refine wp_region_lit ?_
      refine wpList_run (by kernel_rfl) (.int .i64 (n : Int)) w rfl ?_
      simp only [Act.put, List.setIfInBounds_toArray, List.set_cons_zero, List.set_cons_succ]
      refine wpList_run (by kernel_rfl) (.bool true) w (xo_geqT .i64 (n : Int) 1 (by omega) rfl rfl rfl) ?_
      simp only [Act.put, List.setIfInBounds_toArray, List.set_cons_zero, List.set_cons_succ]
      refine wpList_run (by kernel_rfl) (.bool true) w rfl ?_
      simp only [Act.put, List.setIfInBounds_toArray, List.set_cons_zero, List.set_cons_succ]
      refine wpList_run (by kernel_rfl) (.int .i64 (n : Int)) w rfl ?_
      simp only [Act.put, List.setIfInBounds_toArray, List.set_cons_zero, List.set_cons_succ]
      refine wpList_run (by kernel_rfl) (.int .i64 (n : Int)) w rfl ?_
      simp only [Act.put, List.setIfInBounds_toArray, List.set_cons_zero, List.set_cons_succ]
      refine wpList_run (by kernel_rfl) (.int .i64 (pn : Int)) w (xo_subI (n : Int) 1 (pn : Int) (by omega) (by omega) (by omega) rfl rfl rfl) ?_
      simp only [Act.put, List.setIfInBounds_toArray, List.set_cons_zero, List.set_cons_succ]
      refine wpList_run (by kernel_rfl) (.int .i64 (an : Int)) w (xo_and .i64 n pn an (by show _ < 2 ^ 64; omega) (by show _ < 2 ^ 64; omega) han (by rw [IntKind.wrap_i64]; omega) rfl rfl rfl) ?_
      simp only [Act.put, List.setIfInBounds_toArray, List.set_cons_zero, List.set_cons_succ]
      refine wpList_run (by kernel_rfl) (.bool false) w (xo_eqlF .i64 (an : Int) 0 (by omega) rfl rfl rfl) ?_
      simp only [Act.put, List.setIfInBounds_toArray, List.set_cons_zero, List.set_cons_succ]
      refine wpList_run (by kernel_rfl) (.bool false) w rfl ?_
      simp only [Act.put, List.setIfInBounds_toArray, List.set_cons_zero, List.set_cons_succ]
      refine wpList_run (by kernel_rfl) (.bool false) w rfl ?_
      simp only [Act.put, List.setIfInBounds_toArray, List.set_cons_zero, List.set_cons_succ]
      refine wpList_nil ?_
      go_wp2_with fail
      go_ret
      exact ⟨by unfold pwB; rw [hpn, han]; simp [ha] <;> omega, (Below.refl w.heap.size w)⟩
  · have hci0 : ¬ ((n : Int) ≥ 1) := by omega
    refine wp_region_lit ?_
    refine wpList_run (by kernel_rfl) (.int .i64 (n : Int)) w rfl ?_
    simp only [Act.put, List.setIfInBounds_toArray, List.set_cons_zero, List.set_cons_succ]
    refine wpList_run (by kernel_rfl) (.bool false) w (xo_geqF .i64 (n : Int) 1 (by omega) rfl rfl rfl) ?_
    simp only [Act.put, List.setIfInBounds_toArray, List.set_cons_zero, List.set_cons_succ]
    refine wpList_run (by kernel_rfl) (.bool false) w rfl ?_
    simp only [Act.put, List.setIfInBounds_toArray, List.set_cons_zero, List.set_cons_succ]
    refine wpList_skip (by kernel_rfl) ?_
    try simp only [Act.put, List.setIfInBounds_toArray, List.set_cons_zero, List.set_cons_succ]
    refine wpList_skip (by kernel_rfl) ?_
    try simp only [Act.put, List.setIfInBounds_toArray, List.set_cons_zero, List.set_cons_succ]
    refine wpList_skip (by kernel_rfl) ?_
    try simp only [Act.put, List.setIfInBounds_toArray, List.set_cons_zero, List.set_cons_succ]
    refine wpList_skip (by kernel_rfl) ?_
    try simp only [Act.put, List.setIfInBounds_toArray, List.set_cons_zero, List.set_cons_succ]
    refine wpList_skip (by kernel_rfl) ?_
    try simp only [Act.put, List.setIfInBounds_toArray, List.set_cons_zero, List.set_cons_succ]
    refine wpList_run (by kernel_rfl) (.bool false) w rfl ?_
    simp only [Act.put, List.setIfInBounds_toArray, List.set_cons_zero, List.set_cons_succ]
    refine wpList_run (by kernel_rfl) (.bool false) w rfl ?_
    simp only [Act.put, List.setIfInBounds_toArray, List.set_cons_zero, List.set_cons_succ]
    refine wpList_nil ?_
    go_wp2_with fail
    go_ret
    exact ⟨by unfold pwB; simp [h1], (Below.refl w.heap.size w)⟩
set_option maxRecDepth 100000 in
set_option maxHeartbeats 8000000 in
theorem rrate_any (z : Int) (w : World) : Calls Try.prog 40 #[.int .i64 z] w fun e w' => e = .returned (.bool (bB z)) ∧ Below w.heap.size w w' := by
  go_enter Try.func40, Try.ntmps40
  go_upto_region 1 with fail
  by_cases h2 : z ≥ 2
  · by_cases h16 : z ≤ 16
    · obtain ⟨zn, rfl⟩ : ∃ zn : Nat, z = (zn : Int) := ⟨z.toNat, by omega⟩
      have hci0 : ((zn : Int) ≥ 2) := by omega
      have hci1 : ((zn : Int) ≤ 16) := by omega
      have hbp := bB_pw (n := zn) (by omega) (by omega)
      refine wp_region_lit ?_
      refine wpList_run (by kernel_rfl) (.int .i64 (zn : Int)) w rfl ?_
      simp only [Act.put, List.setIfInBounds_toArray, List.set_cons_zero, List.set_cons_succ]
      refine wpList_run (by kernel_rfl) (.bool true) w (xo_geqT .i64 (zn : Int) 2 (by omega) rfl rfl rfl) ?_
      simp only [Act.put, List.setIfInBounds_toArray, List.set_cons_zero, List.set_cons_succ]
      refine wpList_run (by kernel_rfl) (.bool true) w rfl ?_
      simp only [Act.put, List.setIfInBounds_toArray, List.set_cons_zero, List.set_cons_succ]
      refine wpList_run (by kernel_rfl) (.int .i64 (zn : Int)) w rfl ?_
      simp only [Act.put, List.setIfInBounds_toArray, List.set_cons_zero, List.set_cons_succ]
      refine wpList_run (by kernel_rfl) (.bool true) w (xo_leqT .i64 (zn : Int) 16 (by omega) rfl rfl rfl) ?_
      simp only [Act.put, List.setIfInBounds_toArray, List.set_cons_zero, List.set_cons_succ]
      refine wpList_run (by kernel_rfl) (.bool true) w rfl ?_
      simp only [Act.put, List.setIfInBounds_toArray, List.set_cons_zero, List.set_cons_succ]
      refine wpList_run (by kernel_rfl) (.bool true) w rfl ?_
      simp only [Act.put, List.setIfInBounds_toArray, List.set_cons_zero, List.set_cons_succ]
      refine wpList_run (by kernel_rfl) (.int .i64 (zn : Int)) w rfl ?_
      simp only [Act.put, List.setIfInBounds_toArray, List.set_cons_zero, List.set_cons_succ]
      refine wpList_call (by kernel_rfl) 41 Try.func41 (by kernel_rfl) (by kernel_rfl) _ _ #[.int .i64 (zn : Int)] rfl (by kernel_rfl) ?_
      refine (rpower_any zn (by omega) w).mono ?_
      rintro e V1 ⟨rfl, hb⟩
      have B0 := Lib.hid hb
      rw [← hbp]
      clear hb 
      refine ⟨_, rfl, ?_⟩
      simp only [Act.put, List.setIfInBounds_toArray, List.set_cons_zero, List.set_cons_succ]
      refine wpList_run (by kernel_rfl) (.bool (bB (zn : Int))) V1 rfl ?_
      simp only [Act.put, List.setIfInBounds_toArray, List.set_cons_zero, List.set_cons_succ]
      refine wpList_run (by kernel_rfl) (.bool (bB (zn : Int))) V1 rfl ?_
      simp only [Act.put, List.setIfInBounds_toArray, List.set_cons_zero, List.set_cons_succ]
      refine wpList_nil ?_
      go_wp2_with fail
      go_ret
      exact ⟨by rfl, B0.out⟩
    · refine wp_region_lit ?_
      refine wpList_run (by kernel_rfl) (.int .i64 z) w rfl ?_
      simp only [Act.put, List.setIfInBounds_toArray, List.set_cons_zero, List.set_cons_succ]
      refine wpList_run (by kernel_rfl) (.bool true) w (xo_geqT .i64 z 2 h2 rfl rfl rfl) ?_
      simp only [Act.put, List.setIfInBounds_toArray, List.set_cons_zero, List.set_cons_succ]
      refine wpList_run (by kernel_rfl) (.bool true) w rfl ?_
      simp only [Act.put, List.setIfInBounds_toArray, List.set_cons_zero, List.set_cons_succ]
      refine wpList_run (by kernel_rfl) (.int .i64 z) w rfl ?_
      simp only [Act.put, List.setIfInBounds_toArray, List.set_cons_zero, List.set_cons_succ]
      refine wpList_run (by kernel_rfl) (.bool false) w (xo_leqF .i64 z 16 h16 rfl rfl rfl) ?_
      simp only [Act.put, List.setIfInBounds_toArray, List.set_cons_zero, List.set_cons_succ]
      refine wpList_run (by kernel_rfl) (.bool false) w rfl ?_
      simp only [Act.put, List.setIfInBounds_toArray, List.set_cons_zero, List.set_cons_succ]
      refine wpList_run (by kernel_rfl) (.bool false) w rfl ?_
      simp only [Act.put, List.setIfInBounds_toArray, List.set_cons_zero, List.set_cons_succ]
      refine wpList_skip (by kernel_rfl) ?_
      try simp only [Act.put, List.setIfInBounds_toArray, List.set_cons_zero, List.set_cons_succ]
      refine wpList_skip (by kernel_rfl) ?_
      try simp only [Act.put, List.setIfInBounds_toArray, List.set_cons_zero, List.set_cons_succ]
      refine wpList_run (by kernel_rfl) (.bool false) w rfl ?_
      simp only [Act.put, List.setIfInBounds_toArray, List.set_cons_zero, List.set_cons_succ]
      refine wpList_run (by kernel_rfl) (.bool false) w rfl ?_
      simp only [Act.put, List.setIfInBounds_toArray, List.set_cons_zero, List.set_cons_succ]
      refine wpList_nil ?_
      go_wp2_with fail
      go_ret
      exact ⟨by rw [bB_no (by omega)]; rfl, (Below.refl w.heap.size w)⟩
  · refine wp_region_lit ?_
    refine wpList_run (by kernel_rfl) (.int .i64 z) w rfl ?_
    simp only [Act.put, List.setIfInBounds_toArray, List.set_cons_zero, List.set_cons_succ]
    refine wpList_run (by kernel_rfl) (.bool false) w (xo_geqF .i64 z 2 h2 rfl rfl rfl) ?_
    simp only [Act.put, List.setIfInBounds_toArray, List.set_cons_zero, List.set_cons_succ]
    refine wpList_run (by kernel_rfl) (.bool false) w rfl ?_
    simp only [Act.put, List.setIfInBounds_toArray, List.set_cons_zero, List.set_cons_succ]
    refine wpList_skip (by kernel_rfl) ?_
    try simp only [Act.put, List.setIfInBounds_toArray, List.set_cons_zero, List.set_cons_succ]
    refine wpList_skip (by kernel_rfl) ?_
    try simp only [Act.put, List.setIfInBounds_toArray, List.set_cons_zero, List.set_cons_succ]
    refine wpList_run (by kernel_rfl) (.bool false) w rfl ?_
    simp only [Act.put, List.setIfInBounds_toArray, List.set_cons_zero, List.set_cons_succ]
    refine wpList_run (by kernel_rfl) (.bool false) w rfl ?_
    simp only [Act.put, List.setIfInBounds_toArray, List.set_cons_zero, List.set_cons_succ]
    refine wpList_skip (by kernel_rfl) ?_
    try simp only [Act.put, List.setIfInBounds_toArray, List.set_cons_zero, List.set_cons_succ]
    refine wpList_skip (by kernel_rfl) ?_
    try simp only [Act.put, List.setIfInBounds_toArray, List.set_cons_zero, List.set_cons_succ]
    refine wpList_run (by kernel_rfl) (.bool false) w rfl ?_
    simp only [Act.put, List.setIfInBounds_toArray, List.set_cons_zero, List.set_cons_succ]
    refine wpList_run (by kernel_rfl) (.bool false) w rfl ?_
    simp only [Act.put, List.setIfInBounds_toArray, List.set_cons_zero, List.set_cons_succ]
    refine wpList_nil ?_
    go_wp2_with fail
    go_ret
    exact ⟨by rw [bB_no (by omega)]; rfl, (Below.refl w.heap.size w)⟩
end Go.Proofs.Ytkefijogpiofbaa

namespace Go.Proofs.Ytkefijogpiofbaa
set_option linter.unusedVariables false
set_option linter.unusedSimpArgs false
set_option linter.unusedSectionVars false
set_option maxRecDepth 8000
open Go.RowKit Go.Proofs.Ytkefijogpiofbaa.K
attribute [local irreducible] wpList wpQuiet
theorem _root_.Gold.tbF_succ (n : Nat) (f : Nat → Gold.F) : Gold.tbF (n + 1) f = Gold.tbF n f ++ [f n] := by simp [Gold.tbF, List.range_succ]
set_option maxRecDepth 100000 in
set_option maxHeartbeats 16000000 in
theorem rencodeN (A : Option Addr) (n c : Nat) (xs : List Gold.F) (z K L N M : Nat) (hn : n = 2 ^ K) (hz : z = 2 ^ L) (hL1 : 1 ≤ L) (hL4 : L ≤ 4) (hKL : K + L = M) (hM : M ≤ 16) (hN : N = 2 ^ M) (w : World) (hX : Sg feC 1 w A n c xs) :
    Calls Try.prog 10 #[.slice A n c, .int .i64 (z : Int)] w fun e w' => ∃ A' c', e = .returned (.tuple #[.slice A' N c', .int .i64 0]) ∧ Sg feC 1 w' A' N c' (Gold.cwF xs M) ∧ Below w.heap.size w w' := by
  have HX := Lib.hid hX
  have hxl := hX.len
  have hcp := hX.cap
  have htp := hX.top
  clear hX
  go_enter Try.func10, Try.ntmps10
  go_upto_region 1 with fail
  have hn65 : n ≤ 65536 := by rw [hn]; exact Gold.pow2_le (by omega)
  have hr := rB_pow (K := K) (L := L) hL1 hL4 (by omega)
  rw [← hn, ← hz, rB_pw] at hr
  simp only [Bool.and_eq_true] at hr
  have HR := Lib.hid hr.1
  have HP := Lib.hid hr.2.1
  have hz16 : z ≤ 16 := by rw [hz]; exact Nat.pow_le_pow_right (n := 2) (by omega) hL4
  have hNN65 : N ≤ 65536 := by rw [hN]; exact Gold.pow2_le hM
  have hzn : z * n = N := by rw [hz, hn, hN, ← hKL, Nat.pow_add, Nat.mul_comm]
  have HNN := Lib.hid hN
  clear hr hn hz hN
  have hci0 : ¬ ((N : Int) > 65536) := by omega
  refine wp_region_lit ?_
  refine wpList_run (by kernel_rfl) (.int .i64 (z : Int)) w rfl ?_
  simp only [Act.put, List.setIfInBounds_toArray, List.set_cons_zero, List.set_cons_succ]
  refine wpList_call (by kernel_rfl) 40 Try.func40 (by kernel_rfl) (by kernel_rfl) _ _ #[.int .i64 (z : Int)] rfl (by kernel_rfl) ?_
  refine (rrate_any (z : Int) w).mono ?_
  rintro e V1 ⟨rfl, hb⟩
  have B0 := Lib.hid hb
  rw [HR.out]
  clear hb 
  refine ⟨_, rfl, ?_⟩
  simp only [Act.put, List.setIfInBounds_toArray, List.set_cons_zero, List.set_cons_succ]
  refine wpList_run (by kernel_rfl) (.bool false) V1 rfl ?_
  simp only [Act.put, List.setIfInBounds_toArray, List.set_cons_zero, List.set_cons_succ]
  refine wpList_run (by kernel_rfl) (.bool false) V1 rfl ?_
  simp only [Act.put, List.setIfInBounds_toArray, List.set_cons_zero, List.set_cons_succ]
  refine wpList_run (by kernel_rfl) (.slice A n c) V1 rfl ?_
  simp only [Act.put, List.setIfInBounds_toArray, List.set_cons_zero, List.set_cons_succ]
  refine wpList_run (by kernel_rfl) (.int .i64 (n : Int)) V1 (xo_len A n c Try.underlying22 rfl rfl) ?_
  simp only [Act.put, List.setIfInBounds_toArray, List.set_cons_zero, List.set_cons_succ]
  refine wpList_call (by kernel_rfl) 41 Try.func41 (by kernel_rfl) (by kernel_rfl) _ _ #[.int .i64 (n : Int)] rfl (by kernel_rfl) ?_
  refine (rpower_any n (by omega) V1).mono ?_
  rintro e V2 ⟨rfl, hb⟩
  have B1 := Lib.hid hb
  rw [HP.out]
  clear hb 
  refine ⟨_, rfl, ?_⟩
  simp only [Act.put, List.setIfInBounds_toArray, List.set_cons_zero, List.set_cons_succ]
  refine wpList_run (by kernel_rfl) (.bool false) V2 rfl ?_
  simp only [Act.put, List.setIfInBounds_toArray, List.set_cons_zero, List.set_cons_succ]
  refine wpList_run (by kernel_rfl) (.bool false) V2 rfl ?_
  simp only [Act.put, List.setIfInBounds_toArray, List.set_cons_zero, List.set_cons_succ]
  refine wpList_run (by kernel_rfl) (.bool false) V2 rfl ?_
  simp only [Act.put, List.setIfInBounds_toArray, List.set_cons_zero, List.set_cons_succ]
  refine wpList_run (by kernel_rfl) (.int .i64 (z : Int)) V2 rfl ?_
  simp only [Act.put, List.setIfInBounds_toArray, List.set_cons_zero, List.set_cons_succ]
  refine wpList_run (by kernel_rfl) (.slice A n c) V2 rfl ?_
  simp only [Act.put, List.setIfInBounds_toArray, List.set_cons_zero, List.set_cons_succ]
  refine wpList_run (by kernel_rfl) (.int .i64 (n : Int)) V2 (xo_len A n c Try.underlying22 rfl rfl) ?_
  simp only [Act.put, List.setIfInBounds_toArray, List.set_cons_zero, List.set_cons_succ]
  refine wpList_run (by kernel_rfl) (.int .i64 (N : Int)) V2 (xo_mulI (z : Int) (n : Int) (N : Int) (by rw [← hzn]; simp) (by omega) (by omega) rfl rfl rfl) ?_
  simp only [Act.put, List.setIfInBounds_toArray, List.set_cons_zero, List.set_cons_succ]
  refine wpList_run (by kernel_rfl) (.bool false) V2 (xo_gtrF .i64 (N : Int) 65536 (by omega) rfl rfl rfl) ?_
  simp only [Act.put, List.setIfInBounds_toArray, List.set_cons_zero, List.set_cons_succ]
  refine wpList_run (by kernel_rfl) (.bool false) V2 rfl ?_
  simp only [Act.put, List.setIfInBounds_toArray, List.set_cons_zero, List.set_cons_succ]
  refine wpList_nil ?_
  go_upto_region 3 with fail
  refine wp_region_lit ?_
  refine wpList_run (by kernel_rfl) (.int .i64 (z : Int)) V2 rfl ?_
  simp only [Act.put, List.setIfInBounds_toArray, List.set_cons_zero, List.set_cons_succ]
  refine wpList_run (by kernel_rfl) (.slice A n c) V2 rfl ?_
  simp only [Act.put, List.setIfInBounds_toArray, List.set_cons_zero, List.set_cons_succ]
  refine wpList_run (by kernel_rfl) (.int .i64 (n : Int)) V2 (xo_len A n c Try.underlying22 rfl rfl) ?_
  simp only [Act.put, List.setIfInBounds_toArray, List.set_cons_zero, List.set_cons_succ]
  refine wpList_run (by kernel_rfl) (.int .i64 (N : Int)) V2 (xo_mulI (z : Int) (n : Int) (N : Int) (by rw [← hzn]; simp) (by omega) (by omega) rfl rfl rfl) ?_
  simp only [Act.put, List.setIfInBounds_toArray, List.set_cons_zero, List.set_cons_succ]
  refine wpList_run (by kernel_rfl) (.int .i64 (N : Int)) V2 rfl ?_
  simp only [Act.put, List.setIfInBounds_toArray, List.set_cons_zero, List.set_cons_succ]
  refine wpList_nil ?_
  have C0_2 := Lib.hid (bel_step B0.out B1.out)
  have HBV1 := Lib.hid C0_2.out
  have YHX := (HX.out.keep C0_2.out)
  clear HX
  have HX := Lib.hid YHX
  clear YHX
  obtain ⟨VB1, rfl⟩ : ∃ VB1 : World, VB1 = V2 := ⟨_, rfl⟩
  go_upto_region 4 with fail
  refine wp_region_lit ?_
  refine wpList_mk (by kernel_rfl) #[] 29 0 0 (xo_empty (size := 1) Try.underlying22 (by kernel_rfl) rfl VB1) ?_
  intro g32 V1 hge h0 hb
  have hge2 := Nat.le_trans (Below.refl VB1.heap.size VB1).size hge
  have B0 := Lib.hid hb
  have Ow32 : Hid (V1.ownsRow VB1.heap.size 29 1 (.slice (some ⟨g32, 0, none⟩) 0 0) 0 (fl feC [])) := Lib.hid (own_new h0 hge2)
  clear hge hge2 h0 hb
  simp only [ptr, Act.put, List.setIfInBounds_toArray, List.set_cons_zero, List.set_cons_succ]
  refine wpList_run (by kernel_rfl) (.slice (some ⟨g32, 0, none⟩) 0 0) V1 rfl ?_
  simp only [Act.put, List.setIfInBounds_toArray, List.set_cons_zero, List.set_cons_succ]
  refine wpList_nil ?_
  go_upto_region 5 with fail
  refine wp_region_lit ?_
  refine wpList_run (by kernel_rfl) (.int .i64 0) V1 rfl ?_
  simp only [Act.put, List.setIfInBounds_toArray, List.set_cons_zero, List.set_cons_succ]
  refine wpList_nil ?_
  have O2 := Ow32.out
  have O3 := B0.out
  go_wp2_with fail
  go_loopw [7, 8, 9, 10, 11] (fun ov p xq vq kq wr => ∃ i : Nat, i ≤ N ∧ p = .int .i64 i ∧ wr.ownsRow VB1.heap.size 29 1 ov i (fl feC (Gold.tbF i fun j => Gold.evL xs (Gold.ptF M j))) ∧ Below VB1.heap.size VB1 wr) (fun _ p _ _ _ _ => N - (intOf p).toNat)
  case atStart => exact ⟨0, Nat.zero_le _, rfl, O2, O3⟩
  case round =>
    clear O3 O2
    obtain ⟨wo, rfl⟩ : ∃ wo : World, wo = wr := ⟨_, rfl⟩
    obtain ⟨i, hi, rfl, hOW, hb0⟩ := hrel
    have hbr := hb0
    clear B0
    have B0 := Lib.hid hbr
    clear hbr
    have OW := Lib.hid hOW
    clear hb0 hOW
    by_cases hi1 : i < N
    · have hci5 : ((i : Int) < (N : Int)) := by omega
      go_upto_region 6 with fail
      refine wp_region_lit ?_
      refine wpList_run (by kernel_rfl) (.int .i64 (i : Int)) wo rfl ?_
      simp only [Act.put, List.setIfInBounds_toArray, List.set_cons_zero, List.set_cons_succ]
      refine wpList_run (by kernel_rfl) (.int .i64 (N : Int)) wo rfl ?_
      simp only [Act.put, List.setIfInBounds_toArray, List.set_cons_zero, List.set_cons_succ]
      refine wpList_run (by kernel_rfl) (.bool true) wo (xo_lssT .i64 (i : Int) (N : Int) (by omega) rfl rfl rfl) ?_
      simp only [Act.put, List.setIfInBounds_toArray, List.set_cons_zero, List.set_cons_succ]
      refine wpList_nil ?_
      go_upto_region 8 with fail
      refine wp_region_lit ?_
      refine wpList_run (by kernel_rfl) (.int .i64 (N : Int)) wo rfl ?_
      simp only [Act.put, List.setIfInBounds_toArray, List.set_cons_zero, List.set_cons_succ]
      refine wpList_run (by kernel_rfl) (.int .i64 (i : Int)) wo rfl ?_
      simp only [Act.put, List.setIfInBounds_toArray, List.set_cons_zero, List.set_cons_succ]
      refine wpList_call (by kernel_rfl) 31 Try.func31 (by kernel_rfl) (by kernel_rfl) _ _ #[.int .i64 (N : Int), .int .i64 (i : Int)] rfl (by kernel_rfl) ?_
      refine (rpoint_any N M i HNN.out hM (by omega) wo).mono ?_
      rintro e V2 ⟨rfl, hb⟩
      have B1 := Lib.hid hb
      clear hb 
      refine ⟨_, rfl, ?_⟩
      simp only [Act.put, List.setIfInBounds_toArray, List.set_cons_zero, List.set_cons_succ]
      refine wpList_run (by kernel_rfl) (.int .u64 (Gold.vF (Gold.ptF M i))) V2 rfl ?_
      simp only [Act.put, List.setIfInBounds_toArray, List.set_cons_zero, List.set_cons_succ]
      refine wpList_nil ?_
      obtain ⟨x, hx⟩ : ∃ x, Gold.ptF M i = x := ⟨_, rfl⟩
      rw [hx]
      have HPT := Lib.hid hx
      clear hx
      go_upto_region 9 with fail
      refine wp_region_lit ?_
      refine wpList_run (by kernel_rfl) (.int .u64 0) V2 rfl ?_
      simp only [Act.put, List.setIfInBounds_toArray, List.set_cons_zero, List.set_cons_succ]
      refine wpList_nil ?_
      go_upto_region 10 with fail
      refine wp_region_lit ?_
      refine wpList_run (by kernel_rfl) (.slice A n c) V2 rfl ?_
      simp only [Act.put, List.setIfInBounds_toArray, List.set_cons_zero, List.set_cons_succ]
      refine wpList_run (by kernel_rfl) (.int .i64 (n : Int)) V2 (xo_len A n c Try.underlying22 rfl rfl) ?_
      simp only [Act.put, List.setIfInBounds_toArray, List.set_cons_zero, List.set_cons_succ]
      refine wpList_run (by kernel_rfl) (.int .i64 ((n : Int) - 1)) V2 (xo_subI (n : Int) 1 ((n : Int) - 1) (by omega) (by omega) (by omega) rfl rfl rfl) ?_
      simp only [Act.put, List.setIfInBounds_toArray, List.set_cons_zero, List.set_cons_succ]
      refine wpList_run (by kernel_rfl) (.int .i64 ((n : Int) - 1)) V2 rfl ?_
      simp only [Act.put, List.setIfInBounds_toArray, List.set_cons_zero, List.set_cons_succ]
      refine wpList_nil ?_
      have C0_2 := Lib.hid (bel_step B0.out B1.out)
      have HBV6 := Lib.hid C0_2.out
      have YHX := (HX.out.keep C0_2.out)
      have YOW := (own_keep OW.out B1.out)
      clear HX
      have HX := Lib.hid YHX
      clear YHX
      clear OW
      have OW := Lib.hid YOW
      clear YOW
      obtain ⟨VB6, rfl⟩ : ∃ VB6 : World, VB6 = V2 := ⟨_, rfl⟩
      have O9 := Lib.hid (show Gold.evL (xs.drop (n - 0)) x = 0 by rw [Nat.sub_zero, List.drop_of_length_le (by omega)]; rfl)
      go_wp2_with fail
      go_loopw [10, 11] (fun vv kv wr => ∃ j : Nat, j ≤ n ∧ kv = .int .i64 ((n : Int) - 1 - (j : Int)) ∧ vv = .int .u64 (Gold.vF (Gold.evL (xs.drop (n - j)) x)) ∧ Below VB6.heap.size VB6 wr) (fun _ kv _ => (intOf kv + 1).toNat)
      case atStart => exact ⟨0, Nat.zero_le _, by simp, by rw [O9.out] <;> rfl, Below.refl _ _⟩
      case round =>
        obtain ⟨wz, rfl⟩ : ∃ wz : World, wz = wr := ⟨_, rfl⟩
        obtain ⟨j, hj, rfl, rfl, hb0⟩ := hrel
        have hbr := hb0
        clear B0
        have B0 := Lib.hid hbr
        clear hbr
        clear hb0
        obtain ⟨v, hv⟩ : ∃ v, Gold.evL (xs.drop (n - j)) x = v := ⟨_, rfl⟩
        rw [hv]
        have HV := Lib.hid hv
        clear hv
        by_cases hj1 : j < n
        · obtain ⟨k, hk⟩ : ∃ k, n - 1 - j = k := ⟨_, rfl⟩
          have hkk : (n : Int) - 1 - (j : Int) = (k : Int) := by omega
          rw [hkk]
          have hci8 : ((k : Int) ≥ 0) := by omega
          go_upto_region 11 with fail
          refine wp_region_lit ?_
          refine wpList_run (by kernel_rfl) (.int .i64 (k : Int)) wz rfl ?_
          simp only [Act.put, List.setIfInBounds_toArray, List.set_cons_zero, List.set_cons_succ]
          refine wpList_run (by kernel_rfl) (.bool true) wz (xo_geqT .i64 (k : Int) 0 (by omega) rfl rfl rfl) ?_
          simp only [Act.put, List.setIfInBounds_toArray, List.set_cons_zero, List.set_cons_succ]
          refine wpList_nil ?_
          obtain ⟨a, ha⟩ : ∃ a, xs[k]? = some a := ⟨_, List.getElem?_eq_getElem (by omega)⟩
          have HEa := Lib.hid ha
          clear ha
          go_upto_region 13 with fail
          refine wp_floatP [0, 1, 2, 3, 4, 5, 6, 7, 8] (l' := [_, _, _, _, _, _, _, _, _]) (by kernel_rfl) (lexOK_of (by kernel_rfl) (by kernel_rfl)) (ordOK_of (by kernel_rfl) (by kernel_rfl)) rfl rfl ?_
          simp only [List.getElem_toArray, List.getElem_cons_succ, List.getElem_cons_zero]
          intro V2 hb hSW
          have B1 := Lib.hid hb
          have HF2 := Lib.hid hSW
          clear hb hSW
          refine wpF_seg 2 (by kernel_rfl) ?_
          simp only [List.take_succ_cons, List.take_zero, List.drop_succ_cons, List.drop_zero]
          refine wpQuiet_val (by kernel_rfl) (.int .u64 (Gold.vF v)) (fun v hv => rfl) ?_
          simp only [Act.put, List.setIfInBounds_toArray, List.set_cons_zero, List.set_cons_succ]
          refine wpQuiet_val (by kernel_rfl) (.int .u64 (Gold.vF x)) (fun v hv => rfl) ?_
          simp only [Act.put, List.setIfInBounds_toArray, List.set_cons_zero, List.set_cons_succ]
          refine wpQuiet_nil ?_
          refine wpF_call 42 Try.func42 (by kernel_rfl) (by kernel_rfl) _ _ #[.int .u64 (Gold.vF v), .int .u64 (Gold.vF x)] rfl (by kernel_rfl) (by kernel_rfl) HF2.out (fun V3 hb => ?_)
          have B2 := Lib.hid hb
          have HF3 := Lib.hid (HF2.out.ext hb)
          clear hb
          refine (J.rmulF v x V3).mono ?_
          rintro e _ ⟨rfl, rfl⟩
          refine ⟨_, rfl, Below.refl _ _, ?_⟩
          simp only [Act.put, List.setIfInBounds_toArray, List.set_cons_zero, List.set_cons_succ]
          refine wpF_seg 4 (by kernel_rfl) ?_
          simp only [List.take_succ_cons, List.take_zero, List.drop_succ_cons, List.drop_zero]
          refine wpQuiet_val (by kernel_rfl) (.slice A n c) (fun v hv => rfl) ?_
          simp only [Act.put, List.setIfInBounds_toArray, List.set_cons_zero, List.set_cons_succ]
          refine wpQuiet_val (by kernel_rfl) (.int .i64 (k : Int)) (fun v hv => rfl) ?_
          simp only [Act.put, List.setIfInBounds_toArray, List.set_cons_zero, List.set_cons_succ]
          refine wpQuiet_val (by kernel_rfl) (.pointer (some (gad A (k * 1)))) (fun v hv => (xg_idx .i64 ((HX.out.keep B0.out).keep (laterF hv)) HEa.out Try.underlying22 (by kernel_rfl) rfl rfl rfl)) ?_
          simp only [Act.put, List.setIfInBounds_toArray, List.set_cons_zero, List.set_cons_succ]
          refine wpQuiet_val (by kernel_rfl) (.int .u64 (Gold.vF a)) (fun v hv => (xg_load1 (E := feC) (i := k) (j := 0) ((HX.out.keep B0.out).keep (laterF hv)) HEa.out rfl rfl Try.underlying29 rfl rfl rfl)) ?_
          simp only [Act.put, List.setIfInBounds_toArray, List.set_cons_zero, List.set_cons_succ]
          refine wpQuiet_nil ?_
          refine wpF_call 32 Try.func32 (by kernel_rfl) (by kernel_rfl) _ _ #[.int .u64 (Gold.vF (v * x)), .int .u64 (Gold.vF a)] rfl (by kernel_rfl) (by kernel_rfl) HF3.out (fun V4 hb => ?_)
          have B3 := Lib.hid hb
          have HF4 := Lib.hid (HF3.out.ext hb)
          clear hb
          refine (J.raddF (v * x) a V4).mono ?_
          rintro e _ ⟨rfl, rfl⟩
          refine ⟨_, rfl, Below.refl _ _, ?_⟩
          simp only [Act.put, List.setIfInBounds_toArray, List.set_cons_zero, List.set_cons_succ]
          refine wpF_seg 1 (by kernel_rfl) ?_
          simp only [List.take_succ_cons, List.take_zero, List.drop_succ_cons, List.drop_zero]
          refine wpQuiet_val (by kernel_rfl) (.int .u64 (Gold.vF ((v * x) + a))) (fun v hv => rfl) ?_
          simp only [Act.put, List.setIfInBounds_toArray, List.set_cons_zero, List.set_cons_succ]
          refine wpQuiet_nil ?_
          refine wpF_nil (fun V5 hb => ?_)
          have B4 := Lib.hid hb
          clear hb
          clear HF2
          clear HF3
          clear HF4
          go_upto_region 12 with fail
          refine wp_region_lit ?_
          refine wpList_run (by kernel_rfl) (.int .i64 (k : Int)) V5 rfl ?_
          simp only [Act.put, List.setIfInBounds_toArray, List.set_cons_zero, List.set_cons_succ]
          refine wpList_run (by kernel_rfl) (.int .i64 ((k : Int) - 1)) V5 (xo_subI (k : Int) 1 ((k : Int) - 1) (by omega) (by omega) (by omega) rfl rfl rfl) ?_
          simp only [Act.put, List.setIfInBounds_toArray, List.set_cons_zero, List.set_cons_succ]
          refine wpList_run (by kernel_rfl) (.int .i64 ((k : Int) - 1)) V5 rfl ?_
          simp only [Act.put, List.setIfInBounds_toArray, List.set_cons_zero, List.set_cons_succ]
          refine wpList_nil ?_
          have hnx : v * x + a = Gold.evL (xs.drop (n - (j + 1))) x := by rw [show n - (j + 1) = k by omega, List.drop_eq_getElem_cons (by omega), Gold.evL_cons, show k + 1 = n - j by omega, HV.out]; congr 1; exact (Option.some.inj ((List.getElem?_eq_getElem (by omega)).symm.trans HEa.out)).symm
          have C0_2 := Lib.hid (bel_step B0.out B1.out)
          have C0_3 := Lib.hid (bel_step C0_2.out B2.out)
          have C0_4 := Lib.hid (bel_step C0_3.out B3.out)
          have C0_5 := Lib.hid (bel_step C0_4.out B4.out)
          have hq9 := C0_5.out
          go_wp2_with fail
          go_roundw
          case rel => exact ⟨j + 1, by omega, (by congr 1; omega), (by rw [← hnx] <;> rfl), hq9⟩
          case measure => simp [intOf] <;> omega
        · obtain rfl : n = j := by omega
          have hkk : ¬ ((n : Int) - 1 - (n : Int) ≥ 0) := by omega
          go_upto_region 11 with fail
          refine wp_region_lit ?_
          refine wpList_run (by kernel_rfl) (.int .i64 ((n : Int) - 1 - (n : Int))) wz rfl ?_
          simp only [Act.put, List.setIfInBounds_toArray, List.set_cons_zero, List.set_cons_succ]
          refine wpList_run (by kernel_rfl) (.bool false) wz (xo_geqF .i64 ((n : Int) - 1 - (n : Int)) 0 hkk rfl rfl rfl) ?_
          simp only [Act.put, List.setIfInBounds_toArray, List.set_cons_zero, List.set_cons_succ]
          refine wpList_nil ?_
          have hcb := HBV6.out.trans (B0.out.mono HBV6.out.size)
          have YHX := (HX.out.keep B0.out)
          have YOW := (own_keep OW.out B0.out)
          clear HX
          have HX := Lib.hid YHX
          clear YHX
          clear OW
          have OW := Lib.hid YOW
          clear YOW
          have B0 := Lib.hid hcb
          clear hcb
          have hvx : Gold.evL xs (Gold.ptF M i) = v := by rw [HPT.out, ← HV.out, Nat.sub_self]; rfl
          go_upto_region 14 with fail
          refine wp_region_lit ?_
          refine wpList_run (by kernel_rfl) (u7) wz rfl ?_
          simp only [Act.put, List.setIfInBounds_toArray, List.set_cons_zero, List.set_cons_succ]
          refine wpList_run (by kernel_rfl) (.int .u64 (Gold.vF v)) wz rfl ?_
          simp only [Act.put, List.setIfInBounds_toArray, List.set_cons_zero, List.set_cons_succ]
          refine wpList_mk (by kernel_rfl) ([v].flatMap feC).toArray 29 1 1 (xg_lit (E := feC) (bytes := 8) (.int .u64 0) [.tmp 57] [v] 1 Try.underlying22 (by kernel_rfl) rfl (by decide) (by decide) rfl rfl) ?_
          intro g58 V2 hge h0 hb
          have Ge8 : Hid (wz.heap.size ≤ g58) := Lib.hid hge
          have B1 := Lib.hid hb
          have Fv9_58 : Hid (RowG feC V2 g58 29 ([v])) := Lib.hid (h0)
          have Lt10 : Hid (g58 < V2.heap.size) := Lib.hid (xp_lt Fv9_58.out)
          clear hge h0 hb
          simp only [ptr, Act.put, List.setIfInBounds_toArray, List.set_cons_zero, List.set_cons_succ]
          have C0_2 := Lib.hid (bel_step B0.out B1.out)
          refine wpList_app2 (size := 1) (by kernel_rfl) (.tmp 56) (.tmp 58) 22 rfl (.int .u64 0) 8 Try.underlying22 (by kernel_rfl) rfl (by decide) rfl (own_keep OW.out B1.out) (some ⟨g58, 0, none⟩) 1 1 (fl feC ([v])) rfl (RowG.sg (n := 1) (c := 1) Fv9_58.out (show ([v]).length = 1 from rfl) (Nat.le_refl _) (by omega)).src (by unfold maxLen; omega) (by omega) C0_2.out.size ?_
          intro v59 X2_11 ho hb1 hg hloc
          have hox : X2_11.ownsRow VB1.heap.size 29 1 v59 (i + 1) (fl feC ((Gold.tbF i fun j => Gold.evL xs (Gold.ptF M j)) ++ ([v]))) := by rw [fl_append]; exact ho
          have hbr := C0_2.out.trans hb1
          clear B0
          have B0 := Lib.hid hbr
          clear hbr
          have Ow59_12 := Lib.hid hox
          clear ho hox hb1 hg hloc
          simp only [ptr, Act.put, List.setIfInBounds_toArray, List.set_cons_zero, List.set_cons_succ]
          refine wpList_run (by kernel_rfl) (v59) X2_11 rfl ?_
          simp only [Act.put, List.setIfInBounds_toArray, List.set_cons_zero, List.set_cons_succ]
          refine wpList_nil ?_
          have hko := Ow59_12.out
          have hme : (Gold.tbF i fun j => Gold.evL xs (Gold.ptF M j)) ++ [v] = (Gold.tbF (i + 1) fun j => Gold.evL xs (Gold.ptF M j)) := by rw [Gold.tbF_succ, hvx]
          rw [hme] at hko
          go_upto_region 7 with fail
          refine wp_region_lit ?_
          refine wpList_run (by kernel_rfl) (.int .i64 (i : Int)) X2_11 rfl ?_
          simp only [Act.put, List.setIfInBounds_toArray, List.set_cons_zero, List.set_cons_succ]
          refine wpList_run (by kernel_rfl) (.int .i64 ((i + 1 : Nat) : Int)) X2_11 (xo_addI (i : Int) 1 ((i + 1 : Nat) : Int) (by omega) (by omega) (by omega) rfl rfl rfl) ?_
          simp only [Act.put, List.setIfInBounds_toArray, List.set_cons_zero, List.set_cons_succ]
          refine wpList_run (by kernel_rfl) (.int .i64 ((i + 1 : Nat) : Int)) X2_11 rfl ?_
          simp only [Act.put, List.setIfInBounds_toArray, List.set_cons_zero, List.set_cons_succ]
          refine wpList_nil ?_
          have hq13 := B0.out
          go_wp2_with fail
          go_roundw
          case rel => exact ⟨i + 1, by omega, by go_num, hko, hq13⟩
          case measure => simp [intOf]; omega
    · have hci5 : ¬ ((i : Int) < (N : Int)) := by omega
      go_upto_region 6 with fail
      refine wp_region_lit ?_
      refine wpList_run (by kernel_rfl) (.int .i64 (i : Int)) wo rfl ?_
      simp only [Act.put, List.setIfInBounds_toArray, List.set_cons_zero, List.set_cons_succ]
      refine wpList_run (by kernel_rfl) (.int .i64 (N : Int)) wo rfl ?_
      simp only [Act.put, List.setIfInBounds_toArray, List.set_cons_zero, List.set_cons_succ]
      refine wpList_run (by kernel_rfl) (.bool false) wo (xo_lssF .i64 (i : Int) (N : Int) (by omega) rfl rfl rfl) ?_
      simp only [Act.put, List.setIfInBounds_toArray, List.set_cons_zero, List.set_cons_succ]
      refine wpList_nil ?_
      obtain rfl : N = i := by omega
      obtain ⟨As, cs, hvs⟩ := own_form OW.out
      subst hvs
      have hso := Sg.ownS OW.out
      have hcw : (Gold.tbF N fun j => Gold.evL xs (Gold.ptF M j)) = Gold.cwF xs M := by unfold Gold.cwF; rw [← HNN.out]
      rw [hcw] at hso
      have HSs := Lib.hid hso
      clear hso
      go_upto_region 15 with fail
      refine wp_region_lit ?_
      refine wpList_run (by kernel_rfl) (.slice As N cs) wo rfl ?_
      simp only [Act.put, List.setIfInBounds_toArray, List.set_cons_zero, List.set_cons_succ]
      refine wpList_run (by kernel_rfl) (.slice As N cs) wo rfl ?_
      simp only [Act.put, List.setIfInBounds_toArray, List.set_cons_zero, List.set_cons_succ]
      refine wpList_run (by kernel_rfl) (.int .i64 0) wo rfl ?_
      simp only [Act.put, List.setIfInBounds_toArray, List.set_cons_zero, List.set_cons_succ]
      refine wpList_nil ?_
      go_wp2_with fail
      go_ret2
      exact ⟨As, cs, rfl, HSs.out, HBV1.out.trans (B0.out.mono HBV1.out.size)⟩
set_option maxRecDepth 100000 in
set_option maxHeartbeats 8000000 in
theorem rencode_no (A : Option Addr) (n c : Nat) (xs : List Gold.F) (z : Int) (hr : rB n z = false) (hn : n ≤ 1048576) (w : World) (hX : Sg feC 1 w A n c xs) :
    Calls Try.prog 10 #[.slice A n c, .int .i64 z] w fun e w' => e = .returned (.tuple #[.slice none 0 0, .int .i64 1]) ∧ Below w.heap.size w w' := by
  have HX := Lib.hid hX
  have hxl := hX.len
  have hcp := hX.cap
  have htp := hX.top
  clear hX
  go_enter Try.func10, Try.ntmps10
  go_upto_region 1 with fail
  cases hbz : bB z with
  | false =>
    refine wp_region_lit ?_
    refine wpList_run (by kernel_rfl) (.int .i64 z) w rfl ?_
    simp only [Act.put, List.setIfInBounds_toArray, List.set_cons_zero, List.set_cons_succ]
    refine wpList_call (by kernel_rfl) 40 Try.func40 (by kernel_rfl) (by kernel_rfl) _ _ #[.int .i64 z] rfl (by kernel_rfl) ?_
    refine (rrate_any z w).mono ?_
    rintro e V1 ⟨rfl, hb⟩
    have B0 := Lib.hid hb
    rw [hbz]
    clear hb 
    refine ⟨_, rfl, ?_⟩
    simp only [Act.put, List.setIfInBounds_toArray, List.set_cons_zero, List.set_cons_succ]
    refine wpList_run (by kernel_rfl) (.bool true) V1 rfl ?_
    simp only [Act.put, List.setIfInBounds_toArray, List.set_cons_zero, List.set_cons_succ]
    refine wpList_run (by kernel_rfl) (.bool true) V1 rfl ?_
    simp only [Act.put, List.setIfInBounds_toArray, List.set_cons_zero, List.set_cons_succ]
    refine wpList_skip (by kernel_rfl) ?_
    try simp only [Act.put, List.setIfInBounds_toArray, List.set_cons_zero, List.set_cons_succ]
    refine wpList_skip (by kernel_rfl) ?_
    try simp only [Act.put, List.setIfInBounds_toArray, List.set_cons_zero, List.set_cons_succ]
    refine wpList_skip (by kernel_rfl) ?_
    try simp only [Act.put, List.setIfInBounds_toArray, List.set_cons_zero, List.set_cons_succ]
    refine wpList_skip (by kernel_rfl) ?_
    try simp only [Act.put, List.setIfInBounds_toArray, List.set_cons_zero, List.set_cons_succ]
    refine wpList_run (by kernel_rfl) (.bool true) V1 rfl ?_
    simp only [Act.put, List.setIfInBounds_toArray, List.set_cons_zero, List.set_cons_succ]
    refine wpList_run (by kernel_rfl) (.bool true) V1 rfl ?_
    simp only [Act.put, List.setIfInBounds_toArray, List.set_cons_zero, List.set_cons_succ]
    refine wpList_skip (by kernel_rfl) ?_
    try simp only [Act.put, List.setIfInBounds_toArray, List.set_cons_zero, List.set_cons_succ]
    refine wpList_skip (by kernel_rfl) ?_
    try simp only [Act.put, List.setIfInBounds_toArray, List.set_cons_zero, List.set_cons_succ]
    refine wpList_skip (by kernel_rfl) ?_
    try simp only [Act.put, List.setIfInBounds_toArray, List.set_cons_zero, List.set_cons_succ]
    refine wpList_skip (by kernel_rfl) ?_
    try simp only [Act.put, List.setIfInBounds_toArray, List.set_cons_zero, List.set_cons_succ]
    refine wpList_skip (by kernel_rfl) ?_
    try simp only [Act.put, List.setIfInBounds_toArray, List.set_cons_zero, List.set_cons_succ]
    refine wpList_run (by kernel_rfl) (.bool true) V1 rfl ?_
    simp only [Act.put, List.setIfInBounds_toArray, List.set_cons_zero, List.set_cons_succ]
    refine wpList_nil ?_
    go_upto_region 2 with fail
    refine wp_region_lit ?_
    refine wpList_run (by kernel_rfl) (.slice none 0 0) V1 rfl ?_
    simp only [Act.put, List.setIfInBounds_toArray, List.set_cons_zero, List.set_cons_succ]
    refine wpList_run (by kernel_rfl) (.int .i64 1) V1 rfl ?_
    simp only [Act.put, List.setIfInBounds_toArray, List.set_cons_zero, List.set_cons_succ]
    refine wpList_nil ?_
    go_wp2_with fail
    go_ret2
    exact ⟨rfl, B0.out⟩
  | true =>
    obtain ⟨zn, hzn, hz2, hz16⟩ := bB_yes hbz
    subst hzn
    cases hpw : pwB n with
    | false =>
      refine wp_region_lit ?_
      refine wpList_run (by kernel_rfl) (.int .i64 (zn : Int)) w rfl ?_
      simp only [Act.put, List.setIfInBounds_toArray, List.set_cons_zero, List.set_cons_succ]
      refine wpList_call (by kernel_rfl) 40 Try.func40 (by kernel_rfl) (by kernel_rfl) _ _ #[.int .i64 (zn : Int)] rfl (by kernel_rfl) ?_
      refine (rrate_any (zn : Int) w).mono ?_
      rintro e V1 ⟨rfl, hb⟩
      have B0 := Lib.hid hb
      rw [hbz]
      clear hb 
      refine ⟨_, rfl, ?_⟩
      simp only [Act.put, List.setIfInBounds_toArray, List.set_cons_zero, List.set_cons_succ]
      refine wpList_run (by kernel_rfl) (.bool false) V1 rfl ?_
      simp only [Act.put, List.setIfInBounds_toArray, List.set_cons_zero, List.set_cons_succ]
      refine wpList_run (by kernel_rfl) (.bool false) V1 rfl ?_
      simp only [Act.put, List.setIfInBounds_toArray, List.set_cons_zero, List.set_cons_succ]
      refine wpList_run (by kernel_rfl) (.slice A n c) V1 rfl ?_
      simp only [Act.put, List.setIfInBounds_toArray, List.set_cons_zero, List.set_cons_succ]
      refine wpList_run (by kernel_rfl) (.int .i64 (n : Int)) V1 (xo_len A n c Try.underlying22 rfl rfl) ?_
      simp only [Act.put, List.setIfInBounds_toArray, List.set_cons_zero, List.set_cons_succ]
      refine wpList_call (by kernel_rfl) 41 Try.func41 (by kernel_rfl) (by kernel_rfl) _ _ #[.int .i64 (n : Int)] rfl (by kernel_rfl) ?_
      refine (rpower_any n (by omega) V1).mono ?_
      rintro e V2 ⟨rfl, hb⟩
      have B1 := Lib.hid hb
      rw [hpw]
      clear hb 
      refine ⟨_, rfl, ?_⟩
      simp only [Act.put, List.setIfInBounds_toArray, List.set_cons_zero, List.set_cons_succ]
      refine wpList_run (by kernel_rfl) (.bool true) V2 rfl ?_
      simp only [Act.put, List.setIfInBounds_toArray, List.set_cons_zero, List.set_cons_succ]
      refine wpList_run (by kernel_rfl) (.bool true) V2 rfl ?_
      simp only [Act.put, List.setIfInBounds_toArray, List.set_cons_zero, List.set_cons_succ]
      refine wpList_run (by kernel_rfl) (.bool true) V2 rfl ?_
      simp only [Act.put, List.setIfInBounds_toArray, List.set_cons_zero, List.set_cons_succ]
      refine wpList_skip (by kernel_rfl) ?_
      try simp only [Act.put, List.setIfInBounds_toArray, List.set_cons_zero, List.set_cons_succ]
      refine wpList_skip (by kernel_rfl) ?_
      try simp only [Act.put, List.setIfInBounds_toArray, List.set_cons_zero, List.set_cons_succ]
      refine wpList_skip (by kernel_rfl) ?_
      try simp only [Act.put, List.setIfInBounds_toArray, List.set_cons_zero, List.set_cons_succ]
      refine wpList_skip (by kernel_rfl) ?_
      try simp only [Act.put, List.setIfInBounds_toArray, List.set_cons_zero, List.set_cons_succ]
      refine wpList_skip (by kernel_rfl) ?_
      try simp only [Act.put, List.setIfInBounds_toArray, List.set_cons_zero, List.set_cons_succ]
      refine wpList_run (by kernel_rfl) (.bool true) V2 rfl ?_
      simp only [Act.put, List.setIfInBounds_toArray, List.set_cons_zero, List.set_cons_succ]
      refine wpList_nil ?_
      go_upto_region 2 with fail
      refine wp_region_lit ?_
      refine wpList_run (by kernel_rfl) (.slice none 0 0) V2 rfl ?_
      simp only [Act.put, List.setIfInBounds_toArray, List.set_cons_zero, List.set_cons_succ]
      refine wpList_run (by kernel_rfl) (.int .i64 1) V2 rfl ?_
      simp only [Act.put, List.setIfInBounds_toArray, List.set_cons_zero, List.set_cons_succ]
      refine wpList_nil ?_
      go_wp2_with fail
      go_ret2
      have C0_2 := Lib.hid (bel_step B0.out B1.out)
      exact ⟨rfl, C0_2.out⟩
    | true =>
      have hbig : 65536 < zn * n := by rw [rB_pw, hbz, hpw] at hr; simp only [Bool.true_and, decide_eq_false_iff_not, Int.toNat_natCast, Nat.not_le] at hr; have := (Nat.div_lt_iff_lt_mul (by omega)).1 hr; rw [Nat.mul_comm]; exact this
      have hnb : zn * n ≤ 16 * 1048576 := Nat.mul_le_mul hz16 hn
      obtain ⟨pz, hpz⟩ : ∃ p, zn * n = p := ⟨_, rfl⟩
      rw [hpz] at hbig hnb
      have hci0 : ((pz : Int) > 65536) := by omega
      refine wp_region_lit ?_
      refine wpList_run (by kernel_rfl) (.int .i64 (zn : Int)) w rfl ?_
      simp only [Act.put, List.setIfInBounds_toArray, List.set_cons_zero, List.set_cons_succ]
      refine wpList_call (by kernel_rfl) 40 Try.func40 (by kernel_rfl) (by kernel_rfl) _ _ #[.int .i64 (zn : Int)] rfl (by kernel_rfl) ?_
      refine (rrate_any (zn : Int) w).mono ?_
      rintro e V1 ⟨rfl, hb⟩
      have B0 := Lib.hid hb
      rw [hbz]
      clear hb 
      refine ⟨_, rfl, ?_⟩
      simp only [Act.put, List.setIfInBounds_toArray, List.set_cons_zero, List.set_cons_succ]
      refine wpList_run (by kernel_rfl) (.bool false) V1 rfl ?_
      simp only [Act.put, List.setIfInBounds_toArray, List.set_cons_zero, List.set_cons_succ]
      refine wpList_run (by kernel_rfl) (.bool false) V1 rfl ?_
      simp only [Act.put, List.setIfInBounds_toArray, List.set_cons_zero, List.set_cons_succ]
      refine wpList_run (by kernel_rfl) (.slice A n c) V1 rfl ?_
      simp only [Act.put, List.setIfInBounds_toArray, List.set_cons_zero, List.set_cons_succ]
      refine wpList_run (by kernel_rfl) (.int .i64 (n : Int)) V1 (xo_len A n c Try.underlying22 rfl rfl) ?_
      simp only [Act.put, List.setIfInBounds_toArray, List.set_cons_zero, List.set_cons_succ]
      refine wpList_call (by kernel_rfl) 41 Try.func41 (by kernel_rfl) (by kernel_rfl) _ _ #[.int .i64 (n : Int)] rfl (by kernel_rfl) ?_
      refine (rpower_any n (by omega) V1).mono ?_
      rintro e V2 ⟨rfl, hb⟩
      have B1 := Lib.hid hb
      rw [hpw]
      clear hb 
      refine ⟨_, rfl, ?_⟩
      simp only [Act.put, List.setIfInBounds_toArray, List.set_cons_zero, List.set_cons_succ]
      refine wpList_run (by kernel_rfl) (.bool false) V2 rfl ?_
      simp only [Act.put, List.setIfInBounds_toArray, List.set_cons_zero, List.set_cons_succ]
      refine wpList_run (by kernel_rfl) (.bool false) V2 rfl ?_
      simp only [Act.put, List.setIfInBounds_toArray, List.set_cons_zero, List.set_cons_succ]
      refine wpList_run (by kernel_rfl) (.bool false) V2 rfl ?_
      simp only [Act.put, List.setIfInBounds_toArray, List.set_cons_zero, List.set_cons_succ]
      refine wpList_run (by kernel_rfl) (.int .i64 (zn : Int)) V2 rfl ?_
      simp only [Act.put, List.setIfInBounds_toArray, List.set_cons_zero, List.set_cons_succ]
      refine wpList_run (by kernel_rfl) (.slice A n c) V2 rfl ?_
      simp only [Act.put, List.setIfInBounds_toArray, List.set_cons_zero, List.set_cons_succ]
      refine wpList_run (by kernel_rfl) (.int .i64 (n : Int)) V2 (xo_len A n c Try.underlying22 rfl rfl) ?_
      simp only [Act.put, List.setIfInBounds_toArray, List.set_cons_zero, List.set_cons_succ]
      refine wpList_run (by kernel_rfl) (.int .i64 (pz : Int)) V2 (xo_mulI (zn : Int) (n : Int) (pz : Int) (by rw [← hpz]; simp) (by omega) (by omega) rfl rfl rfl) ?_
      simp only [Act.put, List.setIfInBounds_toArray, List.set_cons_zero, List.set_cons_succ]
      refine wpList_run (by kernel_rfl) (.bool true) V2 (xo_gtrT .i64 (pz : Int) 65536 (by omega) rfl rfl rfl) ?_
      simp only [Act.put, List.setIfInBounds_toArray, List.set_cons_zero, List.set_cons_succ]
      refine wpList_run (by kernel_rfl) (.bool true) V2 rfl ?_
      simp only [Act.put, List.setIfInBounds_toArray, List.set_cons_zero, List.set_cons_succ]
      refine wpList_nil ?_
      go_upto_region 2 with fail
      refine wp_region_lit ?_
      refine wpList_run (by kernel_rfl) (.slice none 0 0) V2 rfl ?_
      simp only [Act.put, List.setIfInBounds_toArray, List.set_cons_zero, List.set_cons_succ]
      refine wpList_run (by kernel_rfl) (.int .i64 1) V2 rfl ?_
      simp only [Act.put, List.setIfInBounds_toArray, List.set_cons_zero, List.set_cons_succ]
      refine wpList_nil ?_
      go_wp2_with fail
      go_ret2
      have C0_2 := Lib.hid (bel_step B0.out B1.out)
      exact ⟨rfl, C0_2.out⟩
end Go.Proofs.Ytkefijogpiofbaa

namespace Gold
set_option linter.unusedVariables false
set_option linter.unusedSimpArgs false
set_option linter.unusedSectionVars false
set_option maxRecDepth 8000
/-- the i-th basis polynomial's value, the first m positions taken -/
def lagF (p : Nat → F) (i : Nat) (x : F) : Nat → F
  | 0 => 1
  | m + 1 => if m = i then lagF p i x m else lagF p i x m * (-p m * invF (p i - p m) + x * invF (p i - p m))
theorem lagF_ne {p : Nat → F} {i m : Nat} {x : F} (h : ¬ m = i) : lagF p i x (m + 1) = lagF p i x m * (-p m * invF (p i - p m) + x * invF (p i - p m)) := if_neg h
theorem lagF_eq {p : Nat → F} {i m : Nat} {x : F} (h : m = i) : lagF p i x (m + 1) = lagF p i x m := if_pos h
theorem lagF_self {p : Nat → F} {i k : Nat} (hp : ∀ m, m < k → m ≠ i → p i ≠ p m) (m : Nat) (h : m ≤ k) : lagF p i (p i) m = 1 := by
  induction m with
  | zero => rfl
  | succ m ih =>
    unfold lagF
    split
    · exact ih (by omega)
    · next hm =>
      rw [ih (by omega)]
      have hi := mul_invF (x := p i - p m) (fun e => hp m (by omega) hm (by grind))
      generalize invF (p i - p m) = v at hi ⊢
      grind
theorem lagF_other {p : Nat → F} {i j : Nat} (hij : j ≠ i) (m : Nat) (h : j < m) : lagF p i (p j) m = 0 := by
  induction m with
  | zero => omega
  | succ m ih =>
    unfold lagF
    split
    · next hm => exact ih (by omega)
    · next hm =>
      by_cases e : j = m
      · subst e
        generalize lagF p i (p j) j = u
        generalize invF (p i - p j) = v
        grind
      · rw [ih (by omega)]
        generalize invF (p i - p m) = v
        grind
theorem lag_sum {p w : Nat → F} {k j : Nat} (hj : j < k) (hp : ∀ i m, i < k → m < k → m ≠ i → p i ≠ p m) : sumF (fun i => w i * lagF p i (p j) k) k = w j := by
  rw [sumF_one (m := j) hj (fun i hi hij => by rw [lagF_other (fun e => hij e.symm) k hj]; grind), lagF_self (fun m hm hmj => hp j m hj hm hmj) k (Nat.le_refl _)]
  grind
theorem evE_basis (bs : List E2) (c0 c1 x v : F) (h : evE bs (E2.ofF x) = E2.ofF v) : evE (mulE bs [E2.ofF c0, E2.ofF c1]) (E2.ofF x) = E2.ofF (v * (c0 + x * c1)) := by
  rw [evE_mulE, h, evE_cons, evE_cons, evE_nil, E2.mul_zero, E2.add_zero, E2.ofF_mul, E2.ofF_add, E2.ofF_mul]
theorem evE_sumF (ss bs : List E2) (x u v : F) (h1 : evE ss (E2.ofF x) = E2.ofF u) (h2 : evE bs (E2.ofF x) = E2.ofF v) : evE (addE ss bs) (E2.ofF x) = E2.ofF (u + v) := by
  rw [evE_addE, h1, h2, E2.ofF_add]
theorem evL_A {ss : List E2} {x u : F} (h : evE ss (E2.ofF x) = E2.ofF u) : evL (ss.map E2.A) x = u := by
  rw [evE_parts] at h
  exact congrArg E2.A h
theorem evE_one9 (a x : F) : evE [E2.ofF a] (E2.ofF x) = E2.ofF a := by rw [evE_cons, evE_nil, E2.mul_zero, E2.add_zero]
end Gold
namespace Go.Proofs.Ytkefijogpiofbaa
set_option linter.unusedVariables false
set_option linter.unusedSimpArgs false
set_option linter.unusedSectionVars false
open Go.RowKit Go.Proofs.Ytkefijogpiofbaa.K
/-- a number in a cell -/
def ixC (x : Nat) : List Value := [.int .i64 (x : Int)]
instance : Enc ixC 1 := ⟨fun _ => rfl, fun x u hu => by
  simp only [ixC, List.mem_cons, List.not_mem_nil, or_false] at hu
  rw [hu]
  rfl, by decide⟩
theorem fiG_cfF (f : Nat → Gold.F) (n m : Nat) (hm : m ≤ n) (h0 : ∀ i, m ≤ i → f i = 0) (i : Nat) : Gold.cfF (fiG (0 : Gold.F) f n m) i = f i := by
  by_cases hi : i < n
  · rw [Gold.cfF_some (fiG_get _ _ hi)]
    split
    · rfl
    · exact (h0 i (by omega)).symm
  · rw [Gold.cfF_none (by rw [fiG_length]; omega), h0 i (by omega)]
theorem pt_ne {n M : Nat} {js : List Nat} (hn : n = 2 ^ M) (hM : M ≤ 16) (hd : js.Nodup) (hlt : ∀ j ∈ js, j < n) {i m a b : Nat} (hi : js[i]? = some a) (hm : js[m]? = some b) (hne : m ≠ i) : Gold.ptF M a ≠ Gold.ptF M b := fun e => by
  have hab := Gold.ptF_inj (by omega) (by rw [← hn]; exact hlt a (List.mem_of_getElem? hi)) (by rw [← hn]; exact hlt b (List.mem_of_getElem? hm)) e
  subst hab
  obtain ⟨h1, e1⟩ := List.getElem?_eq_some_iff.1 hi
  obtain ⟨h2, e2⟩ := List.getElem?_eq_some_iff.1 hm
  have hp := List.pairwise_iff_getElem.1 hd
  rcases Nat.lt_trichotomy i m with hl | hl | hl
  · exact hp i m h1 h2 hl (e1.trans e2.symm)
  · exact hne hl.symm
  · exact hp m i h2 h1 hl (e2.trans e1.symm)
end Go.Proofs.Ytkefijogpiofbaa

