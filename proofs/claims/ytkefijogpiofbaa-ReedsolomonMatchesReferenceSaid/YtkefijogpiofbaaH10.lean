/- Several texts in one: So9, Sp9. -/
import Derived.Test.YtkefijogpiofbaaH09
namespace Go.Proofs.Ytkefijogpiofbaa
set_option linter.unusedVariables false
set_option linter.unusedSimpArgs false
set_option linter.unusedSectionVars false
set_option maxRecDepth 8000
open Go.RowKit Go.Proofs.Ytkefijogpiofbaa.K
attribute [local irreducible] wpList wpQuiet
/-- a blowup -/
def bB (z : Int) : Bool := decide (z = 2) || (decide (z = 4) || (decide (z = 8) || decide (z = 16)))
theorem bB_yes {z : Int} (h : bB z = true) : ∃ n : Nat, z = (n : Int) ∧ 2 ≤ n ∧ n ≤ 16 := by
  simp only [bB, Bool.or_eq_true, decide_eq_true_eq] at h
  exact ⟨z.toNat, by omega, by omega, by omega⟩
def rB (n : Nat) (z : Int) : Bool := bB z && (decide (1 ≤ n) && (((n &&& (n - 1)) == 0) && decide (n ≤ 65536 / z.toNat)))
theorem rB_eq (n : Nat) (z : Int) : rB n z = (bB z && (decide (1 ≤ n) && (((n &&& (n - 1)) == 0) && decide (n ≤ 65536 / z.toNat)))) := rfl
def wB (n : Nat) (z : Int) : Bool := bB z && ((n % z.toNat == 0) && rB (n / z.toNat) z)
theorem wB_eq (n : Nat) (z : Int) : wB n z = (bB z && ((n % z.toNat == 0) && rB (n / z.toNat) z)) := rfl
set_option maxRecDepth 100000 in
set_option maxHeartbeats 8000000 in
theorem isBlowup_any (z : Int) (w : World) : Calls Try.prog 60 #[.int .i64 z] w fun e w' => e = .returned (.bool (bB z)) ∧ Below w.heap.size w w' := by
  go_enter Try.func60, Try.ntmps60
  go_upto_region 1 with fail
  by_cases h2 : z = 2
  · subst h2
    refine wp_region_lit ?_
    refine wpList_run (by kernel_rfl) (.int .i64 2) w rfl ?_
    simp only [Act.put, List.setIfInBounds_toArray, List.set_cons_zero, List.set_cons_succ]
    refine wpList_run (by kernel_rfl) (.bool true) w (xo_eqlT .i64 2 2 (by omega) rfl rfl rfl) ?_
    simp only [Act.put, List.setIfInBounds_toArray, List.set_cons_zero, List.set_cons_succ]
    refine wpList_run (by kernel_rfl) (.bool true) w rfl ?_
    simp only [Act.put, List.setIfInBounds_toArray, List.set_cons_zero, List.set_cons_succ]
    refine wpList_skip (by kernel_rfl) ?_
    try simp only [Act.put, List.setIfInBounds_toArray, List.set_cons_zero, List.set_cons_succ]
    refine wpList_skip (by kernel_rfl) ?_
    try simp only [Act.put, List.setIfInBounds_toArray, List.set_cons_zero, List.set_cons_succ]
    refine wpList_run (by kernel_rfl) (.bool true) w rfl ?_
    simp only [Act.put, List.setIfInBounds_toArray, List.set_cons_zero, List.set_cons_succ]
    refine wpList_run (by kernel_rfl) (.bool true) w rfl ?_
    simp only [Act.put, List.setIfInBounds_toArray, List.set_cons_zero, List.set_cons_succ]
    refine wpList_skip (by kernel_rfl) ?_
    try simp only [Act.put, List.setIfInBounds_toArray, List.set_cons_zero, List.set_cons_succ]
    refine wpList_skip (by kernel_rfl) ?_
    try simp only [Act.put, List.setIfInBounds_toArray, List.set_cons_zero, List.set_cons_succ]
    refine wpList_run (by kernel_rfl) (.bool true) w rfl ?_
    simp only [Act.put, List.setIfInBounds_toArray, List.set_cons_zero, List.set_cons_succ]
    refine wpList_run (by kernel_rfl) (.bool true) w rfl ?_
    simp only [Act.put, List.setIfInBounds_toArray, List.set_cons_zero, List.set_cons_succ]
    refine wpList_skip (by kernel_rfl) ?_
    try simp only [Act.put, List.setIfInBounds_toArray, List.set_cons_zero, List.set_cons_succ]
    refine wpList_skip (by kernel_rfl) ?_
    try simp only [Act.put, List.setIfInBounds_toArray, List.set_cons_zero, List.set_cons_succ]
    refine wpList_run (by kernel_rfl) (.bool true) w rfl ?_
    simp only [Act.put, List.setIfInBounds_toArray, List.set_cons_zero, List.set_cons_succ]
    refine wpList_run (by kernel_rfl) (.bool true) w rfl ?_
    simp only [Act.put, List.setIfInBounds_toArray, List.set_cons_zero, List.set_cons_succ]
    refine wpList_nil ?_
    go_wp2_with fail
    go_ret
    exact ⟨by simp [bB, *], (Below.refl w.heap.size w)⟩
  · by_cases h4 : z = 4
    · subst h4
      refine wp_region_lit ?_
      refine wpList_run (by kernel_rfl) (.int .i64 4) w rfl ?_
      simp only [Act.put, List.setIfInBounds_toArray, List.set_cons_zero, List.set_cons_succ]
      refine wpList_run (by kernel_rfl) (.bool false) w (xo_eqlF .i64 4 2 (by omega) rfl rfl rfl) ?_
      simp only [Act.put, List.setIfInBounds_toArray, List.set_cons_zero, List.set_cons_succ]
      refine wpList_run (by kernel_rfl) (.bool false) w rfl ?_
      simp only [Act.put, List.setIfInBounds_toArray, List.set_cons_zero, List.set_cons_succ]
      refine wpList_run (by kernel_rfl) (.int .i64 4) w rfl ?_
      simp only [Act.put, List.setIfInBounds_toArray, List.set_cons_zero, List.set_cons_succ]
      refine wpList_run (by kernel_rfl) (.bool true) w (xo_eqlT .i64 4 4 (by omega) rfl rfl rfl) ?_
      simp only [Act.put, List.setIfInBounds_toArray, List.set_cons_zero, List.set_cons_succ]
      refine wpList_run (by kernel_rfl) (.bool true) w rfl ?_
      simp only [Act.put, List.setIfInBounds_toArray, List.set_cons_zero, List.set_cons_succ]
      refine wpList_run (by kernel_rfl) (.bool true) w rfl ?_
      simp only [Act.put, List.setIfInBounds_toArray, List.set_cons_zero, List.set_cons_succ]
      refine wpList_skip (by kernel_rfl) ?_
      try simp only [Act.put, List.setIfInBounds_toArray, List.set_cons_zero, List.set_cons_succ]
      refine wpList_skip (by kernel_rfl) ?_
      try simp only [Act.put, List.setIfInBounds_toArray, List.set_cons_zero, List.set_cons_succ]
      refine wpList_run (by kernel_rfl) (.bool true) w rfl ?_
      simp only [Act.put, List.setIfInBounds_toArray, List.set_cons_zero, List.set_cons_succ]
      refine wpList_run (by kernel_rfl) (.bool true) w rfl ?_
      simp only [Act.put, List.setIfInBounds_toArray, List.set_cons_zero, List.set_cons_succ]
      refine wpList_skip (by kernel_rfl) ?_
      try simp only [Act.put, List.setIfInBounds_toArray, List.set_cons_zero, List.set_cons_succ]
      refine wpList_skip (by kernel_rfl) ?_
      try simp only [Act.put, List.setIfInBounds_toArray, List.set_cons_zero, List.set_cons_succ]
      refine wpList_run (by kernel_rfl) (.bool true) w rfl ?_
      simp only [Act.put, List.setIfInBounds_toArray, List.set_cons_zero, List.set_cons_succ]
      refine wpList_run (by kernel_rfl) (.bool true) w rfl ?_
      simp only [Act.put, List.setIfInBounds_toArray, List.set_cons_zero, List.set_cons_succ]
      refine wpList_nil ?_
      go_wp2_with fail
      go_ret
      exact ⟨by simp [bB, *], (Below.refl w.heap.size w)⟩
    · by_cases h8 : z = 8
      · subst h8
        refine wp_region_lit ?_
        refine wpList_run (by kernel_rfl) (.int .i64 8) w rfl ?_
        simp only [Act.put, List.setIfInBounds_toArray, List.set_cons_zero, List.set_cons_succ]
        refine wpList_run (by kernel_rfl) (.bool false) w (xo_eqlF .i64 8 2 (by omega) rfl rfl rfl) ?_
        simp only [Act.put, List.setIfInBounds_toArray, List.set_cons_zero, List.set_cons_succ]
        refine wpList_run (by kernel_rfl) (.bool false) w rfl ?_
        simp only [Act.put, List.setIfInBounds_toArray, List.set_cons_zero, List.set_cons_succ]
        refine wpList_run (by kernel_rfl) (.int .i64 8) w rfl ?_
        simp only [Act.put, List.setIfInBounds_toArray, List.set_cons_zero, List.set_cons_succ]
        refine wpList_run (by kernel_rfl) (.bool false) w (xo_eqlF .i64 8 4 (by omega) rfl rfl rfl) ?_
        simp only [Act.put, List.setIfInBounds_toArray, List.set_cons_zero, List.set_cons_succ]
        refine wpList_run (by kernel_rfl) (.bool false) w rfl ?_
        simp only [Act.put, List.setIfInBounds_toArray, List.set_cons_zero, List.set_cons_succ]
        refine wpList_run (by kernel_rfl) (.bool false) w rfl ?_
        simp only [Act.put, List.setIfInBounds_toArray, List.set_cons_zero, List.set_cons_succ]
        refine wpList_run (by kernel_rfl) (.int .i64 8) w rfl ?_
        simp only [Act.put, List.setIfInBounds_toArray, List.set_cons_zero, List.set_cons_succ]
        refine wpList_run (by kernel_rfl) (.bool true) w (xo_eqlT .i64 8 8 (by omega) rfl rfl rfl) ?_
        simp only [Act.put, List.setIfInBounds_toArray, List.set_cons_zero, List.set_cons_succ]
        refine wpList_run (by kernel_rfl) (.bool true) w rfl ?_
        simp only [Act.put, List.setIfInBounds_toArray, List.set_cons_zero, List.set_cons_succ]
        refine wpList_run (by kernel_rfl) (.bool true) w rfl ?_
        simp only [Act.put, List.setIfInBounds_toArray, List.set_cons_zero, List.set_cons_succ]
        refine wpList_skip (by kernel_rfl) ?_
        try simp only [Act.put, List.setIfInBounds_toArray, List.set_cons_zero, List.set_cons_succ]
        refine wpList_skip (by kernel_rfl) ?_
        try simp only [Act.put, List.setIfInBounds_toArray, List.set_cons_zero, List.set_cons_succ]
        refine wpList_run (by kernel_rfl) (.bool true) w rfl ?_
        simp only [Act.put, List.setIfInBounds_toArray, List.set_cons_zero, List.set_cons_succ]
        refine wpList_run (by kernel_rfl) (.bool true) w rfl ?_
        simp only [Act.put, List.setIfInBounds_toArray, List.set_cons_zero, List.set_cons_succ]
        refine wpList_nil ?_
        go_wp2_with fail
        go_ret
        exact ⟨by simp [bB, *], (Below.refl w.heap.size w)⟩
      · by_cases h16 : z = 16
        · subst h16
          refine wp_region_lit ?_
          refine wpList_run (by kernel_rfl) (.int .i64 16) w rfl ?_
          simp only [Act.put, List.setIfInBounds_toArray, List.set_cons_zero, List.set_cons_succ]
          refine wpList_run (by kernel_rfl) (.bool false) w (xo_eqlF .i64 16 2 (by omega) rfl rfl rfl) ?_
          simp only [Act.put, List.setIfInBounds_toArray, List.set_cons_zero, List.set_cons_succ]
          refine wpList_run (by kernel_rfl) (.bool false) w rfl ?_
          simp only [Act.put, List.setIfInBounds_toArray, List.set_cons_zero, List.set_cons_succ]
          refine wpList_run (by kernel_rfl) (.int .i64 16) w rfl ?_
          simp only [Act.put, List.setIfInBounds_toArray, List.set_cons_zero, List.set_cons_succ]
          refine wpList_run (by kernel_rfl) (.bool false) w (xo_eqlF .i64 16 4 (by omega) rfl rfl rfl) ?_
          simp only [Act.put, List.setIfInBounds_toArray, List.set_cons_zero, List.set_cons_succ]
          refine wpList_run (by kernel_rfl) (.bool false) w rfl ?_
          simp only [Act.put, List.setIfInBounds_toArray, List.set_cons_zero, List.set_cons_succ]
          refine wpList_run (by kernel_rfl) (.bool false) w rfl ?_
          simp only [Act.put, List.setIfInBounds_toArray, List.set_cons_zero, List.set_cons_succ]
          refine wpList_run (by kernel_rfl) (.int .i64 16) w rfl ?_
          simp only [Act.put, List.setIfInBounds_toArray, List.set_cons_zero, List.set_cons_succ]
          refine wpList_run (by kernel_rfl) (.bool false) w (xo_eqlF .i64 16 8 (by omega) rfl rfl rfl) ?_
          simp only [Act.put, List.setIfInBounds_toArray, List.set_cons_zero, List.set_cons_succ]
          refine wpList_run (by kernel_rfl) (.bool false) w rfl ?_
          simp only [Act.put, List.setIfInBounds_toArray, List.set_cons_zero, List.set_cons_succ]
          refine wpList_run (by kernel_rfl) (.bool false) w rfl ?_
          simp only [Act.put, List.setIfInBounds_toArray, List.set_cons_zero, List.set_cons_succ]
          refine wpList_run (by kernel_rfl) (.int .i64 16) w rfl ?_
          simp only [Act.put, List.setIfInBounds_toArray, List.set_cons_zero, List.set_cons_succ]
          refine wpList_run (by kernel_rfl) (.bool true) w (xo_eqlT .i64 16 16 (by omega) rfl rfl rfl) ?_
          simp only [Act.put, List.setIfInBounds_toArray, List.set_cons_zero, List.set_cons_succ]
          refine wpList_run (by kernel_rfl) (.bool true) w rfl ?_
          simp only [Act.put, List.setIfInBounds_toArray, List.set_cons_zero, List.set_cons_succ]
          refine wpList_run (by kernel_rfl) (.bool true) w rfl ?_
          simp only [Act.put, List.setIfInBounds_toArray, List.set_cons_zero, List.set_cons_succ]
          refine wpList_nil ?_
          go_wp2_with fail
          go_ret
          exact ⟨by simp [bB, *], (Below.refl w.heap.size w)⟩
        · refine wp_region_lit ?_
          refine wpList_run (by kernel_rfl) (.int .i64 z) w rfl ?_
          simp only [Act.put, List.setIfInBounds_toArray, List.set_cons_zero, List.set_cons_succ]
          refine wpList_run (by kernel_rfl) (.bool false) w (xo_eqlF .i64 z 2 h2 rfl rfl rfl) ?_
          simp only [Act.put, List.setIfInBounds_toArray, List.set_cons_zero, List.set_cons_succ]
          refine wpList_run (by kernel_rfl) (.bool false) w rfl ?_
          simp only [Act.put, List.setIfInBounds_toArray, List.set_cons_zero, List.set_cons_succ]
          refine wpList_run (by kernel_rfl) (.int .i64 z) w rfl ?_
          simp only [Act.put, List.setIfInBounds_toArray, List.set_cons_zero, List.set_cons_succ]
          refine wpList_run (by kernel_rfl) (.bool false) w (xo_eqlF .i64 z 4 h4 rfl rfl rfl) ?_
          simp only [Act.put, List.setIfInBounds_toArray, List.set_cons_zero, List.set_cons_succ]
          refine wpList_run (by kernel_rfl) (.bool false) w rfl ?_
          simp only [Act.put, List.setIfInBounds_toArray, List.set_cons_zero, List.set_cons_succ]
          refine wpList_run (by kernel_rfl) (.bool false) w rfl ?_
          simp only [Act.put, List.setIfInBounds_toArray, List.set_cons_zero, List.set_cons_succ]
          refine wpList_run (by kernel_rfl) (.int .i64 z) w rfl ?_
          simp only [Act.put, List.setIfInBounds_toArray, List.set_cons_zero, List.set_cons_succ]
          refine wpList_run (by kernel_rfl) (.bool false) w (xo_eqlF .i64 z 8 h8 rfl rfl rfl) ?_
          simp only [Act.put, List.setIfInBounds_toArray, List.set_cons_zero, List.set_cons_succ]
          refine wpList_run (by kernel_rfl) (.bool false) w rfl ?_
          simp only [Act.put, List.setIfInBounds_toArray, List.set_cons_zero, List.set_cons_succ]
          refine wpList_run (by kernel_rfl) (.bool false) w rfl ?_
          simp only [Act.put, List.setIfInBounds_toArray, List.set_cons_zero, List.set_cons_succ]
          refine wpList_run (by kernel_rfl) (.int .i64 z) w rfl ?_
          simp only [Act.put, List.setIfInBounds_toArray, List.set_cons_zero, List.set_cons_succ]
          refine wpList_run (by kernel_rfl) (.bool false) w (xo_eqlF .i64 z 16 h16 rfl rfl rfl) ?_
          simp only [Act.put, List.setIfInBounds_toArray, List.set_cons_zero, List.set_cons_succ]
          refine wpList_run (by kernel_rfl) (.bool false) w rfl ?_
          simp only [Act.put, List.setIfInBounds_toArray, List.set_cons_zero, List.set_cons_succ]
          refine wpList_run (by kernel_rfl) (.bool false) w rfl ?_
          simp only [Act.put, List.setIfInBounds_toArray, List.set_cons_zero, List.set_cons_succ]
          refine wpList_nil ?_
          go_wp2_with fail
          go_ret
          exact ⟨by simp [bB, *], (Below.refl w.heap.size w)⟩
set_option maxRecDepth 100000 in
set_option maxHeartbeats 8000000 in
theorem isRow_any (n : Nat) (z : Int) (hn : n < 4611686018427387904) (w : World) : Calls Try.prog 38 #[.int .i64 (n : Int), .int .i64 z] w fun e w' => e = .returned (.bool (rB n z)) ∧ Below w.heap.size w w' := by
  go_enter Try.func38, Try.ntmps38
  go_upto_region 1 with fail
  cases hbz : bB z with
  | false =>
    refine wp_region_lit ?_
    refine wpList_run (by kernel_rfl) (.int .i64 z) w rfl ?_
    simp only [Act.put, List.setIfInBounds_toArray, List.set_cons_zero, List.set_cons_succ]
    refine wpList_call (by kernel_rfl) 60 Try.func60 (by kernel_rfl) (by kernel_rfl) _ _ #[.int .i64 z] rfl (by kernel_rfl) ?_
    refine (isBlowup_any z w).mono ?_
    rintro e V1 ⟨rfl, hb⟩
    have B0 := Lib.hid hb
    rw [hbz]
    clear hb 
    refine ⟨_, rfl, ?_⟩
    simp only [Act.put, List.setIfInBounds_toArray, List.set_cons_zero, List.set_cons_succ]
    refine wpList_run (by kernel_rfl) (.bool false) V1 rfl ?_
    simp only [Act.put, List.setIfInBounds_toArray, List.set_cons_zero, List.set_cons_succ]
    refine wpList_skip (by kernel_rfl) ?_
    try simp only [Act.put, List.setIfInBounds_toArray, List.set_cons_zero, List.set_cons_succ]
    refine wpList_skip (by kernel_rfl) ?_
    try simp only [Act.put, List.setIfInBounds_toArray, List.set_cons_zero, List.set_cons_succ]
    refine wpList_run (by kernel_rfl) (.bool false) V1 rfl ?_
    simp only [Act.put, List.setIfInBounds_toArray, List.set_cons_zero, List.set_cons_succ]
    refine wpList_run (by kernel_rfl) (.bool false) V1 rfl ?_
    simp only [Act.put, List.setIfInBounds_toArray, List.set_cons_zero, List.set_cons_succ]
    refine wpList_skip (by kernel_rfl) ?_
    try simp only [Act.put, List.setIfInBounds_toArray, List.set_cons_zero, List.set_cons_succ]
    refine wpList_skip (by kernel_rfl) ?_
    try simp only [Act.put, List.setIfInBounds_toArray, List.set_cons_zero, List.set_cons_succ]
    refine wpList_skip (by kernel_rfl) ?_
    try simp only [Act.put, List.setIfInBounds_toArray, List.set_cons_zero, List.set_cons_succ]
    refine wpList_skip (by kernel_rfl) ?_
    try simp only [Act.put, List.setIfInBounds_toArray, List.set_cons_zero, List.set_cons_succ]
    refine wpList_skip (by kernel_rfl) ?_
    try simp only [Act.put, List.setIfInBounds_toArray, List.set_cons_zero, List.set_cons_succ]
    refine wpList_run (by kernel_rfl) (.bool false) V1 rfl ?_
    simp only [Act.put, List.setIfInBounds_toArray, List.set_cons_zero, List.set_cons_succ]
    refine wpList_run (by kernel_rfl) (.bool false) V1 rfl ?_
    simp only [Act.put, List.setIfInBounds_toArray, List.set_cons_zero, List.set_cons_succ]
    refine wpList_skip (by kernel_rfl) ?_
    try simp only [Act.put, List.setIfInBounds_toArray, List.set_cons_zero, List.set_cons_succ]
    refine wpList_skip (by kernel_rfl) ?_
    try simp only [Act.put, List.setIfInBounds_toArray, List.set_cons_zero, List.set_cons_succ]
    refine wpList_skip (by kernel_rfl) ?_
    try simp only [Act.put, List.setIfInBounds_toArray, List.set_cons_zero, List.set_cons_succ]
    refine wpList_skip (by kernel_rfl) ?_
    try simp only [Act.put, List.setIfInBounds_toArray, List.set_cons_zero, List.set_cons_succ]
    refine wpList_run (by kernel_rfl) (.bool false) V1 rfl ?_
    simp only [Act.put, List.setIfInBounds_toArray, List.set_cons_zero, List.set_cons_succ]
    refine wpList_run (by kernel_rfl) (.bool false) V1 rfl ?_
    simp only [Act.put, List.setIfInBounds_toArray, List.set_cons_zero, List.set_cons_succ]
    refine wpList_nil ?_
    go_wp2_with fail
    go_ret
    exact ⟨by simp [rB, hbz], B0.out⟩
  | true =>
    have hzb := bB_yes hbz
    obtain ⟨zn, hzn, hz2, hz16⟩ := hzb
    subst hzn
    by_cases h1 : 1 ≤ n
    · have hci0 : ((n : Int) ≥ 1) := by omega
      obtain ⟨pn, hpn⟩ : ∃ p, n - 1 = p := ⟨_, rfl⟩
      obtain ⟨an, han⟩ : ∃ a, n &&& pn = a := ⟨_, rfl⟩
      have hanle : an ≤ n := by rw [← han]; exact Nat.and_le_left
      obtain ⟨qz, hqz⟩ : ∃ q, 65536 / zn = q := ⟨_, rfl⟩
      have hqzl : qz ≤ 65536 := by rw [← hqz]; exact Nat.div_le_self _ _
      have hZ : 0 < zn := by omega
      by_cases ha : an = 0
      · have hci1 : ((an : Int) = 0) := by omega
        by_cases hq : n ≤ qz
        · have hci2 : ((n : Int) ≤ (qz : Int)) := by omega
          refine wp_region_lit ?_
          refine wpList_run (by kernel_rfl) (.int .i64 (zn : Int)) w rfl ?_
          simp only [Act.put, List.setIfInBounds_toArray, List.set_cons_zero, List.set_cons_succ]
          refine wpList_call (by kernel_rfl) 60 Try.func60 (by kernel_rfl) (by kernel_rfl) _ _ #[.int .i64 (zn : Int)] rfl (by kernel_rfl) ?_
          refine (isBlowup_any (zn : Int) w).mono ?_
          rintro e V1 ⟨rfl, hb⟩
          have B0 := Lib.hid hb
          rw [hbz]
          clear hb 
          refine ⟨_, rfl, ?_⟩
          simp only [Act.put, List.setIfInBounds_toArray, List.set_cons_zero, List.set_cons_succ]
          refine wpList_run (by kernel_rfl) (.bool true) V1 rfl ?_
          simp only [Act.put, List.setIfInBounds_toArray, List.set_cons_zero, List.set_cons_succ]
          refine wpList_run (by kernel_rfl) (.int .i64 (n : Int)) V1 rfl ?_
          simp only [Act.put, List.setIfInBounds_toArray, List.set_cons_zero, List.set_cons_succ]
          refine wpList_run (by kernel_rfl) (.bool true) V1 (xo_geqT .i64 (n : Int) 1 (by omega) rfl rfl rfl) ?_
          simp only [Act.put, List.setIfInBounds_toArray, List.set_cons_zero, List.set_cons_succ]
          refine wpList_run (by kernel_rfl) (.bool true) V1 rfl ?_
          simp only [Act.put, List.setIfInBounds_toArray, List.set_cons_zero, List.set_cons_succ]
          refine wpList_run (by kernel_rfl) (.bool true) V1 rfl ?_
          simp only [Act.put, List.setIfInBounds_toArray, List.set_cons_zero, List.set_cons_succ]
          refine wpList_run (by kernel_rfl) (.int .i64 (n : Int)) V1 rfl ?_
          simp only [Act.put, List.setIfInBounds_toArray, List.set_cons_zero, List.set_cons_succ]
          refine wpList_run (by kernel_rfl) (.int .i64 (n : Int)) V1 rfl ?_
          simp only [Act.put, List.setIfInBounds_toArray, List.set_cons_zero, List.set_cons_succ]
          refine wpList_run (by kernel_rfl) (.int .i64 (pn : Int)) V1 (xo_subI (n : Int) 1 (pn : Int) (by omega) (by omega) (by omega) rfl rfl rfl) ?_
          simp only [Act.put, List.setIfInBounds_toArray, List.set_cons_zero, List.set_cons_succ]
          refine wpList_run (by kernel_rfl) (.int .i64 (an : Int)) V1 (xo_and .i64 n pn an (by show _ < 2 ^ 64; omega) (by show _ < 2 ^ 64; omega) han (by rw [IntKind.wrap_i64]; omega) rfl rfl rfl) ?_
          simp only [Act.put, List.setIfInBounds_toArray, List.set_cons_zero, List.set_cons_succ]
          refine wpList_run (by kernel_rfl) (.bool true) V1 (xo_eqlT .i64 (an : Int) 0 (by omega) rfl rfl rfl) ?_
          simp only [Act.put, List.setIfInBounds_toArray, List.set_cons_zero, List.set_cons_succ]
          refine wpList_run (by kernel_rfl) (.bool true) V1 rfl ?_
          simp only [Act.put, List.setIfInBounds_toArray, List.set_cons_zero, List.set_cons_succ]
          refine wpList_run (by kernel_rfl) (.bool true) V1 rfl ?_
          simp only [Act.put, List.setIfInBounds_toArray, List.set_cons_zero, List.set_cons_succ]
          refine wpList_run (by kernel_rfl) (.int .i64 (n : Int)) V1 rfl ?_
          simp only [Act.put, List.setIfInBounds_toArray, List.set_cons_zero, List.set_cons_succ]
          refine wpList_run (by kernel_rfl) (.int .i64 (zn : Int)) V1 rfl ?_
          simp only [Act.put, List.setIfInBounds_toArray, List.set_cons_zero, List.set_cons_succ]
          refine wpList_run (by kernel_rfl) (.int .i64 (qz : Int)) V1 (xo_quoN .i64 65536 zn qz (by omega) hqz (by rw [IntKind.wrap_i64]; omega) rfl rfl rfl) ?_
          simp only [Act.put, List.setIfInBounds_toArray, List.set_cons_zero, List.set_cons_succ]
          refine wpList_run (by kernel_rfl) (.bool true) V1 (xo_leqT .i64 (n : Int) (qz : Int) (by omega) rfl rfl rfl) ?_
          simp only [Act.put, List.setIfInBounds_toArray, List.set_cons_zero, List.set_cons_succ]
          refine wpList_run (by kernel_rfl) (.bool true) V1 rfl ?_
          simp only [Act.put, List.setIfInBounds_toArray, List.set_cons_zero, List.set_cons_succ]
          refine wpList_run (by kernel_rfl) (.bool true) V1 rfl ?_
          simp only [Act.put, List.setIfInBounds_toArray, List.set_cons_zero, List.set_cons_succ]
          refine wpList_nil ?_
          go_wp2_with fail
          go_ret
          exact ⟨by rw [rB_eq, hbz, hpn, han, Int.toNat_natCast, hqz]; simp [ha, hq] <;> omega, B0.out⟩
        · have hci2 : ¬ ((n : Int) ≤ (qz : Int)) := by omega
          refine wp_region_lit ?_
          refine wpList_run (by kernel_rfl) (.int .i64 (zn : Int)) w rfl ?_
          simp only [Act.put, List.setIfInBounds_toArray, List.set_cons_zero, List.set_cons_succ]
          refine wpList_call (by kernel_rfl) 60 Try.func60 (by kernel_rfl) (by kernel_rfl) _ _ #[.int .i64 (zn : Int)] rfl (by kernel_rfl) ?_
          refine (isBlowup_any (zn : Int) w).mono ?_
          rintro e V1 ⟨rfl, hb⟩
          have B0 := Lib.hid hb
          rw [hbz]
          clear hb 
          refine ⟨_, rfl, ?_⟩
          simp only [Act.put, List.setIfInBounds_toArray, List.set_cons_zero, List.set_cons_succ]
          refine wpList_run (by kernel_rfl) (.bool true) V1 rfl ?_
          simp only [Act.put, List.setIfInBounds_toArray, List.set_cons_zero, List.set_cons_succ]
          refine wpList_run (by kernel_rfl) (.int .i64 (n : Int)) V1 rfl ?_
          simp only [Act.put, List.setIfInBounds_toArray, List.set_cons_zero, List.set_cons_succ]
          refine wpList_run (by kernel_rfl) (.bool true) V1 (xo_geqT .i64 (n : Int) 1 (by omega) rfl rfl rfl) ?_
          simp only [Act.put, List.setIfInBounds_toArray, List.set_cons_zero, List.set_cons_succ]
          refine wpList_run (by kernel_rfl) (.bool true) V1 rfl ?_
          simp only [Act.put, List.setIfInBounds_toArray, List.set_cons_zero, List.set_cons_succ]
          refine wpList_run (by kernel_rfl) (.bool true) V1 rfl ?_
          simp only [Act.put, List.setIfInBounds_toArray, List.set_cons_zero, List.set_cons_succ]
          refine wpList_run (by kernel_rfl) (.int .i64 (n : Int)) V1 rfl ?_
          simp only [Act.put, List.setIfInBounds_toArray, List.set_cons_zero, List.set_cons_succ]
          refine wpList_run (by kernel_rfl) (.int .i64 (n : Int)) V1 rfl ?_
          simp only [Act.put, List.setIfInBounds_toArray, List.set_cons_zero, List.set_cons_succ]
          refine wpList_run (by kernel_rfl) (.int .i64 (pn : Int)) V1 (xo_subI (n : Int) 1 (pn : Int) (by omega) (by omega) (by omega) rfl rfl rfl) ?_
          simp only [Act.put, List.setIfInBounds_toArray, List.set_cons_zero, List.set_cons_succ]
          refine wpList_run (by kernel_rfl) (.int .i64 (an : Int)) V1 (xo_and .i64 n pn an (by show _ < 2 ^ 64; omega) (by show _ < 2 ^ 64; omega) han (by rw [IntKind.wrap_i64]; omega) rfl rfl rfl) ?_
          simp only [Act.put, List.setIfInBounds_toArray, List.set_cons_zero, List.set_cons_succ]
          refine wpList_run (by kernel_rfl) (.bool true) V1 (xo_eqlT .i64 (an : Int) 0 (by omega) rfl rfl rfl) ?_
          simp only [Act.put, List.setIfInBounds_toArray, List.set_cons_zero, List.set_cons_succ]
          refine wpList_run (by kernel_rfl) (.bool true) V1 rfl ?_
          simp only [Act.put, List.setIfInBounds_toArray, List.set_cons_zero, List.set_cons_succ]
          refine wpList_run (by kernel_rfl) (.bool true) V1 rfl ?_
          simp only [Act.put, List.setIfInBounds_toArray, List.set_cons_zero, List.set_cons_succ]
          refine wpList_run (by kernel_rfl) (.int .i64 (n : Int)) V1 rfl ?_
          simp only [Act.put, List.setIfInBounds_toArray, List.set_cons_zero, List.set_cons_succ]
          refine wpList_run (by kernel_rfl) (.int .i64 (zn : Int)) V1 rfl ?_
          simp only [Act.put, List.setIfInBounds_toArray, List.set_cons_zero, List.set_cons_succ]
          refine wpList_run (by kernel_rfl) (.int .i64 (qz : Int)) V1 (xo_quoN .i64 65536 zn qz (by omega) hqz (by rw [IntKind.wrap_i64]; omega) rfl rfl rfl) ?_
          simp only [Act.put, List.setIfInBounds_toArray, List.set_cons_zero, List.set_cons_succ]
          refine wpList_run (by kernel_rfl) (.bool false) V1 (xo_leqF .i64 (n : Int) (qz : Int) (by omega) rfl rfl rfl) ?_
          simp only [Act.put, List.setIfInBounds_toArray, List.set_cons_zero, List.set_cons_succ]
          refine wpList_run (by kernel_rfl) (.bool false) V1 rfl ?_
          simp only [Act.put, List.setIfInBounds_toArray, List.set_cons_zero, List.set_cons_succ]
          refine wpList_run (by kernel_rfl) (.bool false) V1 rfl ?_
          simp only [Act.put, List.setIfInBounds_toArray, List.set_cons_zero, List.set_cons_succ]
          refine wpList_nil ?_
          go_wp2_with fail
          go_ret
          exact ⟨by rw [rB_eq, hbz, hpn, han, Int.toNat_natCast, hqz]; simp [ha, hq] <;> omega, B0.out⟩
      · have hci1 : ¬ ((an : Int) = 0) := by omega
        refine wp_region_lit ?_
        refine wpList_run (by kernel_rfl) (.int .i64 (zn : Int)) w rfl ?_
        simp only [Act.put, List.setIfInBounds_toArray, List.set_cons_zero, List.set_cons_succ]
        refine wpList_call (by kernel_rfl) 60 Try.func60 (by kernel_rfl) (by kernel_rfl) _ _ #[.int .i64 (zn : Int)] rfl (by kernel_rfl) ?_
        refine (isBlowup_any (zn : Int) w).mono ?_
        rintro e V1 ⟨rfl, hb⟩
        have B0 := Lib.hid hb
        rw [hbz]
        clear hb 
        refine ⟨_, rfl, ?_⟩
        simp only [Act.put, List.setIfInBounds_toArray, List.set_cons_zero, List.set_cons_succ]
        refine wpList_run (by kernel_rfl) (.bool true) V1 rfl ?_
        simp only [Act.put, List.setIfInBounds_toArray, List.set_cons_zero, List.set_cons_succ]
        refine wpList_run (by kernel_rfl) (.int .i64 (n : Int)) V1 rfl ?_
        simp only [Act.put, List.setIfInBounds_toArray, List.set_cons_zero, List.set_cons_succ]
        refine wpList_run (by kernel_rfl) (.bool true) V1 (xo_geqT .i64 (n : Int) 1 (by omega) rfl rfl rfl) ?_
        simp only [Act.put, List.setIfInBounds_toArray, List.set_cons_zero, List.set_cons_succ]
        refine wpList_run (by kernel_rfl) (.bool true) V1 rfl ?_
        simp only [Act.put, List.setIfInBounds_toArray, List.set_cons_zero, List.set_cons_succ]
        refine wpList_run (by kernel_rfl) (.bool true) V1 rfl ?_
        simp only [Act.put, List.setIfInBounds_toArray, List.set_cons_zero, List.set_cons_succ]
        refine wpList_run (by kernel_rfl) (.int .i64 (n : Int)) V1 rfl ?_
        simp only [Act.put, List.setIfInBounds_toArray, List.set_cons_zero, List.set_cons_succ]
        refine wpList_run (by kernel_rfl) (.int .i64 (n : Int)) V1 rfl ?_
        simp only [Act.put, List.setIfInBounds_toArray, List.set_cons_zero, List.set_cons_succ]
        refine wpList_run (by kernel_rfl) (.int .i64 (pn : Int)) V1 (xo_subI (n : Int) 1 (pn : Int) (by omega) (by omega) (by omega) rfl rfl rfl) ?_
        simp only [Act.put, List.setIfInBounds_toArray, List.set_cons_zero, List.set_cons_succ]
        refine wpList_run (by kernel_rfl) (.int .i64 (an : Int)) V1 (xo_and .i64 n pn an (by show _ < 2 ^ 64; omega) (by show _ < 2 ^ 64; omega) han (by rw [IntKind.wrap_i64]; omega) rfl rfl rfl) ?_
        simp only [Act.put, List.setIfInBounds_toArray, List.set_cons_zero, List.set_cons_succ]
        refine wpList_run (by kernel_rfl) (.bool false) V1 (xo_eqlF .i64 (an : Int) 0 (by omega) rfl rfl rfl) ?_
        simp only [Act.put, List.setIfInBounds_toArray, List.set_cons_zero, List.set_cons_succ]
        refine wpList_run (by kernel_rfl) (.bool false) V1 rfl ?_
        simp only [Act.put, List.setIfInBounds_toArray, List.set_cons_zero, List.set_cons_succ]
        refine wpList_run (by kernel_rfl) (.bool false) V1 rfl ?_
        simp only [Act.put, List.setIfInBounds_toArray, List.set_cons_zero, List.set_cons_succ]
        refine wpList_skip (by kernel_rfl) ?_
        try simp only [Act.put, List.setIfInBounds_toArray, List.set_cons_zero, List.set_cons_succ]
        refine wpList_skip (by kernel_rfl) ?_
        try simp only [Act.put, List.setIfInBounds_toArray, List.set_cons_zero, List.set_cons_succ]
        refine wpList_skip (by kernel_rfl) ?_
        try simp only [Act.put, List.setIfInBounds_toArray, List.set_cons_zero, List.set_cons_succ]
        refine wpList_skip (by kernel_rfl) ?_
        try simp only [Act.put, List.setIfInBounds_toArray, List.set_cons_zero, List.set_cons_succ]
        refine wpList_run (by kernel_rfl) (.bool false) V1 rfl ?_
        simp only [Act.put, List.setIfInBounds_toArray, List.set_cons_zero, List.set_cons_succ]
        refine wpList_run (by kernel_rfl) (.bool false) V1 rfl ?_
        simp only [Act.put, List.setIfInBounds_toArray, List.set_cons_zero, List.set_cons_succ]
        refine wpList_nil ?_
        go_wp2_with fail
        go_ret
        exact ⟨by rw [rB_eq, hbz, hpn, han]; simp [ha], B0.out⟩
    · have hci0 : ¬ ((n : Int) ≥ 1) := by omega
      refine wp_region_lit ?_
      refine wpList_run (by kernel_rfl) (.int .i64 (zn : Int)) w rfl ?_
      simp only [Act.put, List.setIfInBounds_toArray, List.set_cons_zero, List.set_cons_succ]
      refine wpList_call (by kernel_rfl) 60 Try.func60 (by kernel_rfl) (by kernel_rfl) _ _ #[.int .i64 (zn : Int)] rfl (by kernel_rfl) ?_
      refine (isBlowup_any (zn : Int) w).mono ?_
      rintro e V1 ⟨rfl, hb⟩
      have B0 := Lib.hid hb
      rw [hbz]
      clear hb 
      refine ⟨_, rfl, ?_⟩
      simp only [Act.put, List.setIfInBounds_toArray, List.set_cons_zero, List.set_cons_succ]
      refine wpList_run (by kernel_rfl) (.bool true) V1 rfl ?_
      simp only [Act.put, List.setIfInBounds_toArray, List.set_cons_zero, List.set_cons_succ]
      refine wpList_run (by kernel_rfl) (.int .i64 (n : Int)) V1 rfl ?_
      simp only [Act.put, List.setIfInBounds_toArray, List.set_cons_zero, List.set_cons_succ]
      refine wpList_run (by kernel_rfl) (.bool false) V1 (xo_geqF .i64 (n : Int) 1 (by omega) rfl rfl rfl) ?_
      simp only [Act.put, List.setIfInBounds_toArray, List.set_cons_zero, List.set_cons_succ]
      refine wpList_run (by kernel_rfl) (.bool false) V1 rfl ?_
      simp only [Act.put, List.setIfInBounds_toArray, List.set_cons_zero, List.set_cons_succ]
      refine wpList_run (by kernel_rfl) (.bool false) V1 rfl ?_
      simp only [Act.put, List.setIfInBounds_toArray, List.set_cons_zero, List.set_cons_succ]
      refine wpList_skip (by kernel_rfl) ?_
      try simp only [Act.put, List.setIfInBounds_toArray, List.set_cons_zero, List.set_cons_succ]
      refine wpList_skip (by kernel_rfl) ?_
      try simp only [Act.put, List.setIfInBounds_toArray, List.set_cons_zero, List.set_cons_succ]
      refine wpList_skip (by kernel_rfl) ?_
      try simp only [Act.put, List.setIfInBounds_toArray, List.set_cons_zero, List.set_cons_succ]
      refine wpList_skip (by kernel_rfl) ?_
      try simp only [Act.put, List.setIfInBounds_toArray, List.set_cons_zero, List.set_cons_succ]
      refine wpList_skip (by kernel_rfl) ?_
      try simp only [Act.put, List.setIfInBounds_toArray, List.set_cons_zero, List.set_cons_succ]
      refine wpList_run (by kernel_rfl) (.bool false) V1 rfl ?_
      simp only [Act.put, List.setIfInBounds_toArray, List.set_cons_zero, List.set_cons_succ]
      refine wpList_run (by kernel_rfl) (.bool false) V1 rfl ?_
      simp only [Act.put, List.setIfInBounds_toArray, List.set_cons_zero, List.set_cons_succ]
      refine wpList_skip (by kernel_rfl) ?_
      try simp only [Act.put, List.setIfInBounds_toArray, List.set_cons_zero, List.set_cons_succ]
      refine wpList_skip (by kernel_rfl) ?_
      try simp only [Act.put, List.setIfInBounds_toArray, List.set_cons_zero, List.set_cons_succ]
      refine wpList_skip (by kernel_rfl) ?_
      try simp only [Act.put, List.setIfInBounds_toArray, List.set_cons_zero, List.set_cons_succ]
      refine wpList_skip (by kernel_rfl) ?_
      try simp only [Act.put, List.setIfInBounds_toArray, List.set_cons_zero, List.set_cons_succ]
      refine wpList_run (by kernel_rfl) (.bool false) V1 rfl ?_
      simp only [Act.put, List.setIfInBounds_toArray, List.set_cons_zero, List.set_cons_succ]
      refine wpList_run (by kernel_rfl) (.bool false) V1 rfl ?_
      simp only [Act.put, List.setIfInBounds_toArray, List.set_cons_zero, List.set_cons_succ]
      refine wpList_nil ?_
      go_wp2_with fail
      go_ret
      exact ⟨by rw [rB_eq, hbz]; simp [h1], B0.out⟩
set_option maxRecDepth 100000 in
set_option maxHeartbeats 8000000 in
theorem isWord_any (n : Nat) (z : Int) (hn : n < 4611686018427387904) (w : World) : Calls Try.prog 47 #[.int .i64 (n : Int), .int .i64 z] w fun e w' => e = .returned (.bool (wB n z)) ∧ Below w.heap.size w w' := by
  go_enter Try.func47, Try.ntmps47
  go_upto_region 1 with fail
  cases hbz : bB z with
  | false =>
    refine wp_region_lit ?_
    refine wpList_run (by kernel_rfl) (.int .i64 z) w rfl ?_
    simp only [Act.put, List.setIfInBounds_toArray, List.set_cons_zero, List.set_cons_succ]
    refine wpList_call (by kernel_rfl) 60 Try.func60 (by kernel_rfl) (by kernel_rfl) _ _ #[.int .i64 z] rfl (by kernel_rfl) ?_
    refine (isBlowup_any z w).mono ?_
    rintro e V1 ⟨rfl, hb⟩
    have B0 := Lib.hid hb
    rw [hbz]
    clear hb 
    refine ⟨_, rfl, ?_⟩
    simp only [Act.put, List.setIfInBounds_toArray, List.set_cons_zero, List.set_cons_succ]
    refine wpList_run (by kernel_rfl) (.bool false) V1 rfl ?_
    simp only [Act.put, List.setIfInBounds_toArray, List.set_cons_zero, List.set_cons_succ]
    refine wpList_skip (by kernel_rfl) ?_
    try simp only [Act.put, List.setIfInBounds_toArray, List.set_cons_zero, List.set_cons_succ]
    refine wpList_skip (by kernel_rfl) ?_
    try simp only [Act.put, List.setIfInBounds_toArray, List.set_cons_zero, List.set_cons_succ]
    refine wpList_skip (by kernel_rfl) ?_
    try simp only [Act.put, List.setIfInBounds_toArray, List.set_cons_zero, List.set_cons_succ]
    refine wpList_skip (by kernel_rfl) ?_
    try simp only [Act.put, List.setIfInBounds_toArray, List.set_cons_zero, List.set_cons_succ]
    refine wpList_run (by kernel_rfl) (.bool false) V1 rfl ?_
    simp only [Act.put, List.setIfInBounds_toArray, List.set_cons_zero, List.set_cons_succ]
    refine wpList_run (by kernel_rfl) (.bool false) V1 rfl ?_
    simp only [Act.put, List.setIfInBounds_toArray, List.set_cons_zero, List.set_cons_succ]
    refine wpList_skip (by kernel_rfl) ?_
    try simp only [Act.put, List.setIfInBounds_toArray, List.set_cons_zero, List.set_cons_succ]
    refine wpList_skip (by kernel_rfl) ?_
    try simp only [Act.put, List.setIfInBounds_toArray, List.set_cons_zero, List.set_cons_succ]
    refine wpList_skip (by kernel_rfl) ?_
    try simp only [Act.put, List.setIfInBounds_toArray, List.set_cons_zero, List.set_cons_succ]
    refine wpList_skip (by kernel_rfl) ?_
    try simp only [Act.put, List.setIfInBounds_toArray, List.set_cons_zero, List.set_cons_succ]
    refine wpList_skip (by kernel_rfl) ?_
    try simp only [Act.put, List.setIfInBounds_toArray, List.set_cons_zero, List.set_cons_succ]
    refine wpList_run (by kernel_rfl) (.bool false) V1 rfl ?_
    simp only [Act.put, List.setIfInBounds_toArray, List.set_cons_zero, List.set_cons_succ]
    refine wpList_run (by kernel_rfl) (.bool false) V1 rfl ?_
    simp only [Act.put, List.setIfInBounds_toArray, List.set_cons_zero, List.set_cons_succ]
    refine wpList_nil ?_
    go_wp2_with fail
    go_ret
    exact ⟨by simp [wB, hbz], B0.out⟩
  | true =>
    have hzb := bB_yes hbz
    obtain ⟨zn, hzn, hz2, hz16⟩ := hzb
    subst hzn
    obtain ⟨rm, hrm⟩ : ∃ r, n % zn = r := ⟨_, rfl⟩
    obtain ⟨qn, hqn⟩ : ∃ q, n / zn = q := ⟨_, rfl⟩
    have hqnl : qn ≤ n := by rw [← hqn]; exact Nat.div_le_self _ _
    have hZ : 0 < zn := by omega
    have hrml : rm < zn := by rw [← hrm]; exact Nat.mod_lt _ hZ
    by_cases hr : rm = 0
    · have hci0 : ((rm : Int) = 0) := by omega
      refine wp_region_lit ?_
      refine wpList_run (by kernel_rfl) (.int .i64 (zn : Int)) w rfl ?_
      simp only [Act.put, List.setIfInBounds_toArray, List.set_cons_zero, List.set_cons_succ]
      refine wpList_call (by kernel_rfl) 60 Try.func60 (by kernel_rfl) (by kernel_rfl) _ _ #[.int .i64 (zn : Int)] rfl (by kernel_rfl) ?_
      refine (isBlowup_any (zn : Int) w).mono ?_
      rintro e V1 ⟨rfl, hb⟩
      have B0 := Lib.hid hb
      rw [hbz]
      clear hb 
      refine ⟨_, rfl, ?_⟩
      simp only [Act.put, List.setIfInBounds_toArray, List.set_cons_zero, List.set_cons_succ]
      refine wpList_run (by kernel_rfl) (.bool true) V1 rfl ?_
      simp only [Act.put, List.setIfInBounds_toArray, List.set_cons_zero, List.set_cons_succ]
      refine wpList_run (by kernel_rfl) (.int .i64 (n : Int)) V1 rfl ?_
      simp only [Act.put, List.setIfInBounds_toArray, List.set_cons_zero, List.set_cons_succ]
      refine wpList_run (by kernel_rfl) (.int .i64 (zn : Int)) V1 rfl ?_
      simp only [Act.put, List.setIfInBounds_toArray, List.set_cons_zero, List.set_cons_succ]
      refine wpList_run (by kernel_rfl) (.int .i64 (rm : Int)) V1 (xo_remN .i64 n zn rm (by omega) hrm rfl rfl rfl) ?_
      simp only [Act.put, List.setIfInBounds_toArray, List.set_cons_zero, List.set_cons_succ]
      refine wpList_run (by kernel_rfl) (.bool true) V1 (xo_eqlT .i64 (rm : Int) 0 (by omega) rfl rfl rfl) ?_
      simp only [Act.put, List.setIfInBounds_toArray, List.set_cons_zero, List.set_cons_succ]
      refine wpList_run (by kernel_rfl) (.bool true) V1 rfl ?_
      simp only [Act.put, List.setIfInBounds_toArray, List.set_cons_zero, List.set_cons_succ]
      refine wpList_run (by kernel_rfl) (.bool true) V1 rfl ?_
      simp only [Act.put, List.setIfInBounds_toArray, List.set_cons_zero, List.set_cons_succ]
      refine wpList_run (by kernel_rfl) (.int .i64 (n : Int)) V1 rfl ?_
      simp only [Act.put, List.setIfInBounds_toArray, List.set_cons_zero, List.set_cons_succ]
      refine wpList_run (by kernel_rfl) (.int .i64 (zn : Int)) V1 rfl ?_
      simp only [Act.put, List.setIfInBounds_toArray, List.set_cons_zero, List.set_cons_succ]
      refine wpList_run (by kernel_rfl) (.int .i64 (qn : Int)) V1 (xo_quoN .i64 n zn qn (by omega) hqn (by rw [IntKind.wrap_i64]; omega) rfl rfl rfl) ?_
      simp only [Act.put, List.setIfInBounds_toArray, List.set_cons_zero, List.set_cons_succ]
      refine wpList_run (by kernel_rfl) (.int .i64 (zn : Int)) V1 rfl ?_
      simp only [Act.put, List.setIfInBounds_toArray, List.set_cons_zero, List.set_cons_succ]
      refine wpList_call (by kernel_rfl) 38 Try.func38 (by kernel_rfl) (by kernel_rfl) _ _ #[.int .i64 (qn : Int), .int .i64 (zn : Int)] rfl (by kernel_rfl) ?_
      refine (isRow_any qn (zn : Int) (by omega) V1).mono ?_
      rintro e V2 ⟨rfl, hb⟩
      have B1 := Lib.hid hb
      clear hb 
      refine ⟨_, rfl, ?_⟩
      simp only [Act.put, List.setIfInBounds_toArray, List.set_cons_zero, List.set_cons_succ]
      refine wpList_run (by kernel_rfl) (.bool (rB qn (zn : Int))) V2 rfl ?_
      simp only [Act.put, List.setIfInBounds_toArray, List.set_cons_zero, List.set_cons_succ]
      refine wpList_run (by kernel_rfl) (.bool (rB qn (zn : Int))) V2 rfl ?_
      simp only [Act.put, List.setIfInBounds_toArray, List.set_cons_zero, List.set_cons_succ]
      refine wpList_nil ?_
      go_wp2_with fail
      go_ret
      have C0_2 := Lib.hid (bel_step B0.out B1.out)
      exact ⟨by rw [wB_eq, hbz, Int.toNat_natCast, hrm, hqn, hr]; rfl, C0_2.out⟩
    · have hci0 : ¬ ((rm : Int) = 0) := by omega
      refine wp_region_lit ?_
      refine wpList_run (by kernel_rfl) (.int .i64 (zn : Int)) w rfl ?_
      simp only [Act.put, List.setIfInBounds_toArray, List.set_cons_zero, List.set_cons_succ]
      refine wpList_call (by kernel_rfl) 60 Try.func60 (by kernel_rfl) (by kernel_rfl) _ _ #[.int .i64 (zn : Int)] rfl (by kernel_rfl) ?_
      refine (isBlowup_any (zn : Int) w).mono ?_
      rintro e V1 ⟨rfl, hb⟩
      have B0 := Lib.hid hb
      rw [hbz]
      clear hb 
      refine ⟨_, rfl, ?_⟩
      simp only [Act.put, List.setIfInBounds_toArray, List.set_cons_zero, List.set_cons_succ]
      refine wpList_run (by kernel_rfl) (.bool true) V1 rfl ?_
      simp only [Act.put, List.setIfInBounds_toArray, List.set_cons_zero, List.set_cons_succ]
      refine wpList_run (by kernel_rfl) (.int .i64 (n : Int)) V1 rfl ?_
      simp only [Act.put, List.setIfInBounds_toArray, List.set_cons_zero, List.set_cons_succ]
      refine wpList_run (by kernel_rfl) (.int .i64 (zn : Int)) V1 rfl ?_
      simp only [Act.put, List.setIfInBounds_toArray, List.set_cons_zero, List.set_cons_succ]
      refine wpList_run (by kernel_rfl) (.int .i64 (rm : Int)) V1 (xo_remN .i64 n zn rm (by omega) hrm rfl rfl rfl) ?_
      simp only [Act.put, List.setIfInBounds_toArray, List.set_cons_zero, List.set_cons_succ]
      refine wpList_run (by kernel_rfl) (.bool false) V1 (xo_eqlF .i64 (rm : Int) 0 (by omega) rfl rfl rfl) ?_
      simp only [Act.put, List.setIfInBounds_toArray, List.set_cons_zero, List.set_cons_succ]
      refine wpList_run (by kernel_rfl) (.bool false) V1 rfl ?_
      simp only [Act.put, List.setIfInBounds_toArray, List.set_cons_zero, List.set_cons_succ]
      refine wpList_run (by kernel_rfl) (.bool false) V1 rfl ?_
      simp only [Act.put, List.setIfInBounds_toArray, List.set_cons_zero, List.set_cons_succ]
      refine wpList_skip (by kernel_rfl) ?_
      try simp only [Act.put, List.setIfInBounds_toArray, List.set_cons_zero, List.set_cons_succ]
      refine wpList_skip (by kernel_rfl) ?_
      try simp only [Act.put, List.setIfInBounds_toArray, List.set_cons_zero, List.set_cons_succ]
      refine wpList_skip (by kernel_rfl) ?_
      try simp only [Act.put, List.setIfInBounds_toArray, List.set_cons_zero, List.set_cons_succ]
      refine wpList_skip (by kernel_rfl) ?_
      try simp only [Act.put, List.setIfInBounds_toArray, List.set_cons_zero, List.set_cons_succ]
      refine wpList_skip (by kernel_rfl) ?_
      try simp only [Act.put, List.setIfInBounds_toArray, List.set_cons_zero, List.set_cons_succ]
      refine wpList_run (by kernel_rfl) (.bool false) V1 rfl ?_
      simp only [Act.put, List.setIfInBounds_toArray, List.set_cons_zero, List.set_cons_succ]
      refine wpList_run (by kernel_rfl) (.bool false) V1 rfl ?_
      simp only [Act.put, List.setIfInBounds_toArray, List.set_cons_zero, List.set_cons_succ]
      refine wpList_nil ?_
      go_wp2_with fail
      go_ret
      exact ⟨by rw [wB_eq, hbz, Int.toNat_natCast, hrm]; simp [hr], B0.out⟩
set_option maxRecDepth 100000 in
set_option maxHeartbeats 8000000 in
theorem minDistance_any (n b : Nat) (hb1 : 1 ≤ b) (hbn : b * n ≤ 1048576) (w : World) : Calls Try.prog 33 #[.int .i64 (n : Int), .int .i64 (b : Int)] w fun e w' => e = .returned (.int .i64 ((b * n - n + 1 : Nat) : Int)) ∧ Below w.heap.size w w' := by
  go_enter Try.func33, Try.ntmps33
  go_upto_region 1 with fail
  obtain ⟨p, hp⟩ : ∃ p, b * n = p := ⟨_, rfl⟩
  have hpl : n ≤ p ∧ p ≤ 1048576 := by rw [← hp]; exact ⟨Nat.le_mul_of_pos_left _ (by omega), hbn⟩
  refine wp_region_lit ?_
  refine wpList_run (by kernel_rfl) (.int .i64 (b : Int)) w rfl ?_
  simp only [Act.put, List.setIfInBounds_toArray, List.set_cons_zero, List.set_cons_succ]
  refine wpList_run (by kernel_rfl) (.int .i64 (n : Int)) w rfl ?_
  simp only [Act.put, List.setIfInBounds_toArray, List.set_cons_zero, List.set_cons_succ]
  refine wpList_run (by kernel_rfl) (.int .i64 (p : Int)) w (xo_mulI (b : Int) (n : Int) (p : Int) (by rw [← hp]; simp) (by omega) (by omega) rfl rfl rfl) ?_
  simp only [Act.put, List.setIfInBounds_toArray, List.set_cons_zero, List.set_cons_succ]
  refine wpList_run (by kernel_rfl) (.int .i64 (n : Int)) w rfl ?_
  simp only [Act.put, List.setIfInBounds_toArray, List.set_cons_zero, List.set_cons_succ]
  refine wpList_run (by kernel_rfl) (.int .i64 ((p - n : Nat) : Int)) w (xo_subI (p : Int) (n : Int) ((p - n : Nat) : Int) (by omega) (by omega) (by omega) rfl rfl rfl) ?_
  simp only [Act.put, List.setIfInBounds_toArray, List.set_cons_zero, List.set_cons_succ]
  refine wpList_run (by kernel_rfl) (.int .i64 (((p - n) + 1 : Nat) : Int)) w (xo_addI ((p - n : Nat) : Int) 1 (((p - n) + 1 : Nat) : Int) (by omega) (by omega) (by omega) rfl rfl rfl) ?_
  simp only [Act.put, List.setIfInBounds_toArray, List.set_cons_zero, List.set_cons_succ]
  refine wpList_run (by kernel_rfl) (.int .i64 (((p - n) + 1 : Nat) : Int)) w rfl ?_
  simp only [Act.put, List.setIfInBounds_toArray, List.set_cons_zero, List.set_cons_succ]
  refine wpList_nil ?_
  go_wp2_with fail
  go_ret
  exact ⟨by rw [hp]; rfl, (Below.refl w.heap.size w)⟩
end Go.Proofs.Ytkefijogpiofbaa

namespace Go.Proofs.Ytkefijogpiofbaa
set_option linter.unusedVariables false
set_option linter.unusedSimpArgs false
set_option linter.unusedSectionVars false
set_option maxRecDepth 8000
open Go.RowKit Go.Proofs.Ytkefijogpiofbaa.K
attribute [local irreducible] wpList wpQuiet
/-- at how many of the first i places two lists differ -/
def cntF (xs ys : List Gold.F) (i : Nat) : Nat := ((List.range i).filter fun j => !decide (Gold.cfF xs j = Gold.cfF ys j)).length
theorem cntF_le (xs ys : List Gold.F) (i : Nat) : cntF xs ys i ≤ i := by
  have := List.length_filter_le (fun j => !decide (Gold.cfF xs j = Gold.cfF ys j)) (List.range i)
  rw [List.length_range] at this
  exact this
theorem cntF_succ {xs ys : List Gold.F} {i : Nat} {x y : Gold.F} (hx : xs[i]? = some x) (hy : ys[i]? = some y) : cntF xs ys (i + 1) = if x = y then cntF xs ys i else cntF xs ys i + 1 := by
  unfold cntF
  rw [List.range_succ, List.filter_append, List.length_append]
  simp only [List.filter_cons, Gold.cfF_some hx, Gold.cfF_some hy, List.filter_nil]
  by_cases h : x = y <;> simp [h]
/-- Hamming's distance -/
def dstF (xs ys : List Gold.F) : Nat := (max xs.length ys.length - min xs.length ys.length) + cntF xs ys (min xs.length ys.length)
theorem sg_of {w : World} {g n c : Nat} {xs : List Gold.F} (h : J.Sf w (some ⟨g, 0, none⟩) n c xs) : Sg feC 1 w (some ⟨g, 0, none⟩) n c xs :=
  ⟨(J.Sf.len h).symm, J.Sf.cap h, J.Sf.top h, fun e => (by cases e), fun i x hx => ⟨g, 0, rfl, fun j v hv => by
    obtain ⟨ad, e, hc⟩ := J.Sf.at_ h hx
    injection e with e
    subst e
    obtain rfl : j = 0 := by
      have := (List.getElem?_eq_some_iff.1 hv).1
      simpa [feC] using this
    simp only [feC, List.getElem?_cons_zero, Option.some.injEq] at hv
    subst hv
    rw [Addr.add_mid] at hc
    simpa using hc⟩⟩
theorem rB_pow {K L : Nat} (h1 : 1 ≤ L) (h4 : L ≤ 4) (h : K + L ≤ 16) : rB (2 ^ K) ((2 ^ L : Nat) : Int) = true := by
  have hb : bB ((2 ^ L : Nat) : Int) = true := by
    have : L = 1 ∨ L = 2 ∨ L = 3 ∨ L = 4 := by omega
    rcases this with rfl | rfl | rfl | rfl <;> rfl
  have h3 : 2 ^ K ≤ 65536 / 2 ^ L := by
    rw [Nat.le_div_iff_mul_le (Nat.two_pow_pos L), ← Nat.pow_add]
    exact Gold.pow2_le h
  have h5 : 1 ≤ 2 ^ K := Nat.two_pow_pos K
  rw [rB_eq, hb, J.and_pred, Int.toNat_natCast]
  simp [h3, h5]
theorem wB_pow {M L : Nat} (h1 : 1 ≤ L) (h4 : L ≤ 4) (h : L ≤ M) (hM : M ≤ 16) : wB (2 ^ M) ((2 ^ L : Nat) : Int) = true := by
  obtain ⟨K, rfl⟩ : ∃ K, M = K + L := ⟨M - L, by omega⟩
  have hr := rB_pow (K := K) h1 h4 hM
  have hb : bB ((2 ^ L : Nat) : Int) = true := by
    have : L = 1 ∨ L = 2 ∨ L = 3 ∨ L = 4 := by omega
    rcases this with rfl | rfl | rfl | rfl <;> rfl
  rw [wB_eq, hb, Int.toNat_natCast, Nat.pow_add, Nat.mul_mod_left, Nat.mul_div_cancel _ (Nat.two_pow_pos L), hr]
  rfl
end Go.Proofs.Ytkefijogpiofbaa
namespace Gold
set_option linter.unusedVariables false
set_option linter.unusedSimpArgs false
set_option linter.unusedSectionVars false
/-- the codeword of length 2^M -/
def cwF (xs : List F) (M : Nat) : List F := tbF (2 ^ M) fun i => evL xs (ptF M i)
theorem cw_tab {xs : List F} {M : Nat} (h : xs.length ≤ 2 ^ M) : Go.Proofs.Ytkefijogpiofbaa.J.tabF (2 ^ M) (fwdF (cfF xs) M) = cwF xs M := by
  unfold Go.Proofs.Ytkefijogpiofbaa.J.tabF cwF tbF
  refine List.map_congr_left fun i _ => ?_
  exact evL_evF' h _
end Gold
namespace Go.Proofs.Ytkefijogpiofbaa
set_option linter.unusedVariables false
set_option linter.unusedSimpArgs false
set_option linter.unusedSectionVars false
open Go.RowKit Go.Proofs.Ytkefijogpiofbaa.K
attribute [local irreducible] wpList wpQuiet
set_option maxRecDepth 100000 in
set_option maxHeartbeats 8000000 in
theorem distance_any (A : Option Addr) (n c : Nat) (xs : List Gold.F) (E : Option Addr) (m d : Nat) (ys : List Gold.F) (hn : n ≤ 1048576) (hm : m ≤ 1048576) (w : World) (hX : Sg feC 1 w A n c xs) (hY : Sg feC 1 w E m d ys) :
    Calls Try.prog 19 #[.slice A n c, .slice E m d] w fun e w' => e = .returned (.int .i64 ((dstF xs ys : Nat) : Int)) ∧ Below w.heap.size w w' := by
  have HX := Lib.hid hX
  have HY := Lib.hid hY
  have hxl := hX.len
  have hyl := hY.len
  have hc1 := hX.cap
  have ht1 := hX.top
  have hc2 := hY.cap
  have ht2 := hY.top
  clear hX hY
  obtain ⟨cm, hcm⟩ : ∃ cm, min n m = cm := ⟨_, rfl⟩
  obtain ⟨mx, hmx⟩ : ∃ mx, max n m = mx := ⟨_, rfl⟩
  obtain ⟨bs, hbs⟩ : ∃ bs, mx - cm = bs := ⟨_, rfl⟩
  go_enter Try.func19, Try.ntmps19
  go_upto_region 1 with fail
  refine wp_region_lit ?_
  refine wpList_run (by kernel_rfl) (.slice A n c) w rfl ?_
  simp only [Act.put, List.setIfInBounds_toArray, List.set_cons_zero, List.set_cons_succ]
  refine wpList_run (by kernel_rfl) (.int .i64 (n : Int)) w (xo_len A n c Try.underlying22 rfl rfl) ?_
  simp only [Act.put, List.setIfInBounds_toArray, List.set_cons_zero, List.set_cons_succ]
  refine wpList_run (by kernel_rfl) (.slice E m d) w rfl ?_
  simp only [Act.put, List.setIfInBounds_toArray, List.set_cons_zero, List.set_cons_succ]
  refine wpList_run (by kernel_rfl) (.int .i64 (m : Int)) w (xo_len E m d Try.underlying22 rfl rfl) ?_
  simp only [Act.put, List.setIfInBounds_toArray, List.set_cons_zero, List.set_cons_succ]
  refine wpList_run (by kernel_rfl) (.int .i64 (cm : Int)) w (xo_min .i64 (n : Int) (m : Int) (cm : Int) (by split <;> omega) rfl rfl rfl) ?_
  simp only [Act.put, List.setIfInBounds_toArray, List.set_cons_zero, List.set_cons_succ]
  refine wpList_run (by kernel_rfl) (.int .i64 (cm : Int)) w rfl ?_
  simp only [Act.put, List.setIfInBounds_toArray, List.set_cons_zero, List.set_cons_succ]
  refine wpList_nil ?_
  go_upto_region 2 with fail
  refine wp_region_lit ?_
  refine wpList_run (by kernel_rfl) (.slice A n c) w rfl ?_
  simp only [Act.put, List.setIfInBounds_toArray, List.set_cons_zero, List.set_cons_succ]
  refine wpList_run (by kernel_rfl) (.int .i64 (n : Int)) w (xo_len A n c Try.underlying22 rfl rfl) ?_
  simp only [Act.put, List.setIfInBounds_toArray, List.set_cons_zero, List.set_cons_succ]
  refine wpList_run (by kernel_rfl) (.slice E m d) w rfl ?_
  simp only [Act.put, List.setIfInBounds_toArray, List.set_cons_zero, List.set_cons_succ]
  refine wpList_run (by kernel_rfl) (.int .i64 (m : Int)) w (xo_len E m d Try.underlying22 rfl rfl) ?_
  simp only [Act.put, List.setIfInBounds_toArray, List.set_cons_zero, List.set_cons_succ]
  refine wpList_run (by kernel_rfl) (.int .i64 (mx : Int)) w (xo_max .i64 (n : Int) (m : Int) (mx : Int) (by split <;> omega) rfl rfl rfl) ?_
  simp only [Act.put, List.setIfInBounds_toArray, List.set_cons_zero, List.set_cons_succ]
  refine wpList_run (by kernel_rfl) (.int .i64 (cm : Int)) w rfl ?_
  simp only [Act.put, List.setIfInBounds_toArray, List.set_cons_zero, List.set_cons_succ]
  refine wpList_run (by kernel_rfl) (.int .i64 (bs : Int)) w (xo_subI (mx : Int) (cm : Int) (bs : Int) (by omega) (by omega) (by omega) rfl rfl rfl) ?_
  simp only [Act.put, List.setIfInBounds_toArray, List.set_cons_zero, List.set_cons_succ]
  refine wpList_run (by kernel_rfl) (.int .i64 (bs : Int)) w rfl ?_
  simp only [Act.put, List.setIfInBounds_toArray, List.set_cons_zero, List.set_cons_succ]
  refine wpList_nil ?_
  go_upto_region 3 with fail
  refine wp_region_lit ?_
  refine wpList_run (by kernel_rfl) (.int .i64 (cm : Int)) w rfl ?_
  simp only [Act.put, List.setIfInBounds_toArray, List.set_cons_zero, List.set_cons_succ]
  refine wpList_run (by kernel_rfl) (.int .i64 0) w rfl ?_
  simp only [Act.put, List.setIfInBounds_toArray, List.set_cons_zero, List.set_cons_succ]
  refine wpList_nil ?_
  have O0 := (Below.refl w.heap.size w)
  have B0 := Lib.hid (Below.refl w.heap.size w)
  go_wp2_with fail
  go_loopw [6, 7, 21] (fun dv kv p wr => ∃ i : Nat, i ≤ cm ∧ p = .int .i64 i ∧ dv = .int .i64 ((bs + cntF xs ys i : Nat) : Int) ∧ Below w.heap.size w wr) (fun _ _ p _ => cm - (intOf p).toNat)
  case atStart => exact ⟨0, Nat.zero_le _, rfl, rfl, O0⟩
  case round =>
    clear O0
    obtain ⟨wo, rfl⟩ : ∃ wo : World, wo = wr := ⟨_, rfl⟩
    obtain ⟨i, hi, rfl, hhdv, hb0⟩ := hrel
    have hbr := hb0
    clear B0
    have B0 := Lib.hid hbr
    clear hbr
    have hdv := Lib.hid hhdv
    clear hb0 hhdv
    have hdve := hdv.out
    subst hdve
    have hcl := cntF_le xs ys i
    obtain ⟨dn, hdn⟩ : ∃ dn, bs + cntF xs ys i = dn := ⟨_, rfl⟩
    rw [hdn]
    by_cases hi1 : i < cm
    · have hci2 : ((i : Int) < (cm : Int)) := by omega
      go_upto_region 4 with fail
      refine wp_region_lit ?_
      refine wpList_run (by kernel_rfl) (.bool true) wo (xo_lssT .i64 (i : Int) (cm : Int) (by omega) rfl rfl rfl) ?_
      simp only [Act.put, List.setIfInBounds_toArray, List.set_cons_zero, List.set_cons_succ]
      refine wpList_nil ?_
      go_upto_region 5 with fail
      refine wp_region_lit ?_
      refine wpList_run (by kernel_rfl) (.int .i64 (i : Int)) wo rfl ?_
      simp only [Act.put, List.setIfInBounds_toArray, List.set_cons_zero, List.set_cons_succ]
      refine wpList_run (by kernel_rfl) (.int .i64 (i : Int)) wo rfl ?_
      simp only [Act.put, List.setIfInBounds_toArray, List.set_cons_zero, List.set_cons_succ]
      refine wpList_nil ?_
      obtain ⟨x, hx⟩ : ∃ x, xs[i]? = some x := ⟨_, List.getElem?_eq_getElem (by omega)⟩
      have HEx := Lib.hid hx
      clear hx
      obtain ⟨y, hy⟩ : ∃ y, ys[i]? = some y := ⟨_, List.getElem?_eq_getElem (by omega)⟩
      have HEy := Lib.hid hy
      clear hy
      by_cases hxy : x = y
      · have hvv : Gold.vF x = Gold.vF y := by rw [hxy]
        go_upto_region 6 with fail
        refine wp_later_lex (by kernel_rfl) (lexOK_of (by kernel_rfl) (by kernel_rfl)) ?_
        refine wpQuiet_val (by kernel_rfl) (.slice A n c) (fun v hv => rfl) ?_
        simp only [Act.put, List.setIfInBounds_toArray, List.set_cons_zero, List.set_cons_succ]
        refine wpQuiet_val (by kernel_rfl) (.int .i64 (i : Int)) (fun v hv => rfl) ?_
        simp only [Act.put, List.setIfInBounds_toArray, List.set_cons_zero, List.set_cons_succ]
        refine wpQuiet_val (by kernel_rfl) (.pointer (some (gad A (i * 1)))) (fun v hv => (xg_idx .i64 ((HX.out.keep B0.out).keep (later_bel hv)) HEx.out Try.underlying22 (by kernel_rfl) rfl rfl rfl)) ?_
        simp only [Act.put, List.setIfInBounds_toArray, List.set_cons_zero, List.set_cons_succ]
        refine wpQuiet_val (by kernel_rfl) (.int .u64 (Gold.vF x)) (fun v hv => (xg_load1 (E := feC) (i := i) (j := 0) ((HX.out.keep B0.out).keep (later_bel hv)) HEx.out rfl rfl Try.underlying29 rfl rfl rfl)) ?_
        simp only [Act.put, List.setIfInBounds_toArray, List.set_cons_zero, List.set_cons_succ]
        refine wpQuiet_val (by kernel_rfl) (.slice E m d) (fun v hv => rfl) ?_
        simp only [Act.put, List.setIfInBounds_toArray, List.set_cons_zero, List.set_cons_succ]
        refine wpQuiet_val (by kernel_rfl) (.int .i64 (i : Int)) (fun v hv => rfl) ?_
        simp only [Act.put, List.setIfInBounds_toArray, List.set_cons_zero, List.set_cons_succ]
        refine wpQuiet_val (by kernel_rfl) (.pointer (some (gad E (i * 1)))) (fun v hv => (xg_idx .i64 ((HY.out.keep B0.out).keep (later_bel hv)) HEy.out Try.underlying22 (by kernel_rfl) rfl rfl rfl)) ?_
        simp only [Act.put, List.setIfInBounds_toArray, List.set_cons_zero, List.set_cons_succ]
        refine wpQuiet_val (by kernel_rfl) (.int .u64 (Gold.vF y)) (fun v hv => (xg_load1 (E := feC) (i := i) (j := 0) ((HY.out.keep B0.out).keep (later_bel hv)) HEy.out rfl rfl Try.underlying29 rfl rfl rfl)) ?_
        simp only [Act.put, List.setIfInBounds_toArray, List.set_cons_zero, List.set_cons_succ]
        refine wpQuiet_val (by kernel_rfl) (.bool false) (fun v hv => (xo_neqF .u64 (Gold.vF x) (Gold.vF y) hvv rfl rfl rfl)) ?_
        simp only [Act.put, List.setIfInBounds_toArray, List.set_cons_zero, List.set_cons_succ]
        refine wpQuiet_nil ?_
        intro X1_3
        have hb := X1_3.below
        generalize X1_3.at = V2 at *
        have B1 := Lib.hid hb
        clear hb
        go_upto_region 8 with fail
        refine wp_region_lit ?_
        refine wpList_run (by kernel_rfl) (.int .i64 ((i + 1 : Nat) : Int)) V2 (xo_addI (i : Int) 1 ((i + 1 : Nat) : Int) (by omega) (by omega) (by omega) rfl rfl rfl) ?_
        simp only [Act.put, List.setIfInBounds_toArray, List.set_cons_zero, List.set_cons_succ]
        refine wpList_run (by kernel_rfl) (.int .i64 ((i + 1 : Nat) : Int)) V2 rfl ?_
        simp only [Act.put, List.setIfInBounds_toArray, List.set_cons_zero, List.set_cons_succ]
        refine wpList_nil ?_
        have hcs := cntF_succ HEx.out HEy.out
        rw [if_pos hxy] at hcs
        have C0_2 := Lib.hid (bel_step B0.out B1.out)
        have hq4 := C0_2.out
        go_wp2_with fail
        go_roundw
        case rel => exact ⟨i + 1, by omega, by go_num, (by rw [hcs, ← hdn] <;> rfl), hq4⟩
        case measure => simp [intOf]; omega
      · have hvv : Gold.vF x ≠ Gold.vF y := fun h => hxy (Gold.vF_inj h)
        go_upto_region 6 with fail
        refine wp_later_lex (by kernel_rfl) (lexOK_of (by kernel_rfl) (by kernel_rfl)) ?_
        refine wpQuiet_val (by kernel_rfl) (.slice A n c) (fun v hv => rfl) ?_
        simp only [Act.put, List.setIfInBounds_toArray, List.set_cons_zero, List.set_cons_succ]
        refine wpQuiet_val (by kernel_rfl) (.int .i64 (i : Int)) (fun v hv => rfl) ?_
        simp only [Act.put, List.setIfInBounds_toArray, List.set_cons_zero, List.set_cons_succ]
        refine wpQuiet_val (by kernel_rfl) (.pointer (some (gad A (i * 1)))) (fun v hv => (xg_idx .i64 ((HX.out.keep B0.out).keep (later_bel hv)) HEx.out Try.underlying22 (by kernel_rfl) rfl rfl rfl)) ?_
        simp only [Act.put, List.setIfInBounds_toArray, List.set_cons_zero, List.set_cons_succ]
        refine wpQuiet_val (by kernel_rfl) (.int .u64 (Gold.vF x)) (fun v hv => (xg_load1 (E := feC) (i := i) (j := 0) ((HX.out.keep B0.out).keep (later_bel hv)) HEx.out rfl rfl Try.underlying29 rfl rfl rfl)) ?_
        simp only [Act.put, List.setIfInBounds_toArray, List.set_cons_zero, List.set_cons_succ]
        refine wpQuiet_val (by kernel_rfl) (.slice E m d) (fun v hv => rfl) ?_
        simp only [Act.put, List.setIfInBounds_toArray, List.set_cons_zero, List.set_cons_succ]
        refine wpQuiet_val (by kernel_rfl) (.int .i64 (i : Int)) (fun v hv => rfl) ?_
        simp only [Act.put, List.setIfInBounds_toArray, List.set_cons_zero, List.set_cons_succ]
        refine wpQuiet_val (by kernel_rfl) (.pointer (some (gad E (i * 1)))) (fun v hv => (xg_idx .i64 ((HY.out.keep B0.out).keep (later_bel hv)) HEy.out Try.underlying22 (by kernel_rfl) rfl rfl rfl)) ?_
        simp only [Act.put, List.setIfInBounds_toArray, List.set_cons_zero, List.set_cons_succ]
        refine wpQuiet_val (by kernel_rfl) (.int .u64 (Gold.vF y)) (fun v hv => (xg_load1 (E := feC) (i := i) (j := 0) ((HY.out.keep B0.out).keep (later_bel hv)) HEy.out rfl rfl Try.underlying29 rfl rfl rfl)) ?_
        simp only [Act.put, List.setIfInBounds_toArray, List.set_cons_zero, List.set_cons_succ]
        refine wpQuiet_val (by kernel_rfl) (.bool true) (fun v hv => (xo_neqT .u64 (Gold.vF x) (Gold.vF y) hvv rfl rfl rfl)) ?_
        simp only [Act.put, List.setIfInBounds_toArray, List.set_cons_zero, List.set_cons_succ]
        refine wpQuiet_nil ?_
        intro X1_3
        have hb := X1_3.below
        generalize X1_3.at = V2 at *
        have B1 := Lib.hid hb
        clear hb
        go_upto_region 7 with fail
        refine wp_region_lit ?_
        refine wpList_run (by kernel_rfl) (.int .i64 (dn : Int)) V2 rfl ?_
        simp only [Act.put, List.setIfInBounds_toArray, List.set_cons_zero, List.set_cons_succ]
        refine wpList_run (by kernel_rfl) (.int .i64 ((dn + 1 : Nat) : Int)) V2 (xo_addI (dn : Int) 1 ((dn + 1 : Nat) : Int) (by omega) (by omega) (by omega) rfl rfl rfl) ?_
        simp only [Act.put, List.setIfInBounds_toArray, List.set_cons_zero, List.set_cons_succ]
        refine wpList_run (by kernel_rfl) (.int .i64 ((dn + 1 : Nat) : Int)) V2 rfl ?_
        simp only [Act.put, List.setIfInBounds_toArray, List.set_cons_zero, List.set_cons_succ]
        refine wpList_nil ?_
        go_upto_region 8 with fail
        refine wp_region_lit ?_
        refine wpList_run (by kernel_rfl) (.int .i64 ((i + 1 : Nat) : Int)) V2 (xo_addI (i : Int) 1 ((i + 1 : Nat) : Int) (by omega) (by omega) (by omega) rfl rfl rfl) ?_
        simp only [Act.put, List.setIfInBounds_toArray, List.set_cons_zero, List.set_cons_succ]
        refine wpList_run (by kernel_rfl) (.int .i64 ((i + 1 : Nat) : Int)) V2 rfl ?_
        simp only [Act.put, List.setIfInBounds_toArray, List.set_cons_zero, List.set_cons_succ]
        refine wpList_nil ?_
        have hcs := cntF_succ HEx.out HEy.out
        rw [if_neg hxy] at hcs
        have C0_2 := Lib.hid (bel_step B0.out B1.out)
        have hq4 := C0_2.out
        go_wp2_with fail
        go_roundw
        case rel => exact ⟨i + 1, by omega, by go_num, (by rw [hcs, ← hdn] <;> rfl), hq4⟩
        case measure => simp [intOf]; omega
    · have hci2 : ¬ ((i : Int) < (cm : Int)) := by omega
      go_upto_region 4 with fail
      refine wp_region_lit ?_
      refine wpList_run (by kernel_rfl) (.bool false) wo (xo_lssF .i64 (i : Int) (cm : Int) (by omega) rfl rfl rfl) ?_
      simp only [Act.put, List.setIfInBounds_toArray, List.set_cons_zero, List.set_cons_succ]
      refine wpList_nil ?_
      go_upto_region 9 with fail
      refine wp_region_lit ?_
      refine wpList_run (by kernel_rfl) (.int .i64 (dn : Int)) wo rfl ?_
      simp only [Act.put, List.setIfInBounds_toArray, List.set_cons_zero, List.set_cons_succ]
      refine wpList_run (by kernel_rfl) (.int .i64 (dn : Int)) wo rfl ?_
      simp only [Act.put, List.setIfInBounds_toArray, List.set_cons_zero, List.set_cons_succ]
      refine wpList_nil ?_
      obtain rfl : cm = i := by omega
      go_wp2_with fail
      go_ret
      exact ⟨by unfold dstF; rw [hxl, hyl, hcm, hmx, hbs, hdn] <;> rfl, B0.out⟩
set_option maxRecDepth 100000 in
set_option maxHeartbeats 8000000 in
theorem encode_yes (A : Option Addr) (n c : Nat) (xs : List Gold.F) (z K L : Nat) (hn : n = 2 ^ K) (hz : z = 2 ^ L) (hL1 : 1 ≤ L) (hL4 : L ≤ 4) (hKL : K + L ≤ 16) (w : World) (hX : Sg feC 1 w A n c xs) :
    Calls Try.prog 9 #[.slice A n c, .int .i64 (z : Int)] w fun e w' => ∃ g, e = .returned (.tuple #[.slice (some ⟨g, 0, none⟩) (2 ^ (K + L)) (2 ^ (K + L)), .int .i64 0]) ∧ Sg feC 1 w' (some ⟨g, 0, none⟩) (2 ^ (K + L)) (2 ^ (K + L)) (Gold.cwF xs (K + L)) ∧ Below w.heap.size w w' := by
  have HX := Lib.hid hX
  have hxl := hX.len
  have hcp := hX.cap
  have htp := hX.top
  clear hX
  go_enter Try.func9, Try.ntmps9
  go_upto_region 1 with fail
  have hn65 : n ≤ 65536 := by rw [hn]; exact Gold.pow2_le (by omega)
  have hr := rB_pow (K := K) (L := L) hL1 hL4 hKL
  rw [← hn, ← hz] at hr
  have HR := Lib.hid hr
  clear hr
  have hz16 : z ≤ 16 := by rw [hz]; exact Nat.pow_le_pow_right (n := 2) (by omega) hL4
  refine wp_region_lit ?_
  refine wpList_run (by kernel_rfl) (.slice A n c) w rfl ?_
  simp only [Act.put, List.setIfInBounds_toArray, List.set_cons_zero, List.set_cons_succ]
  refine wpList_run (by kernel_rfl) (.int .i64 (n : Int)) w (xo_len A n c Try.underlying22 rfl rfl) ?_
  simp only [Act.put, List.setIfInBounds_toArray, List.set_cons_zero, List.set_cons_succ]
  refine wpList_run (by kernel_rfl) (.int .i64 (z : Int)) w rfl ?_
  simp only [Act.put, List.setIfInBounds_toArray, List.set_cons_zero, List.set_cons_succ]
  refine wpList_call (by kernel_rfl) 38 Try.func38 (by kernel_rfl) (by kernel_rfl) _ _ #[.int .i64 (n : Int), .int .i64 (z : Int)] rfl (by kernel_rfl) ?_
  refine (isRow_any n (z : Int) (by omega) w).mono ?_
  rintro e V1 ⟨rfl, hb⟩
  have B0 := Lib.hid hb
  rw [HR.out]
  clear hb 
  refine ⟨_, rfl, ?_⟩
  simp only [Act.put, List.setIfInBounds_toArray, List.set_cons_zero, List.set_cons_succ]
  refine wpList_run (by kernel_rfl) (.bool false) V1 rfl ?_
  simp only [Act.put, List.setIfInBounds_toArray, List.set_cons_zero, List.set_cons_succ]
  refine wpList_nil ?_
  go_upto_region 3 with fail
  refine wp_region_lit ?_
  refine wpList_run (by kernel_rfl) (.slice A n c) V1 rfl ?_
  simp only [Act.put, List.setIfInBounds_toArray, List.set_cons_zero, List.set_cons_succ]
  refine wpList_run (by kernel_rfl) (.int .i64 (z : Int)) V1 rfl ?_
  simp only [Act.put, List.setIfInBounds_toArray, List.set_cons_zero, List.set_cons_succ]
  refine wpList_call (by kernel_rfl) 39 Try.func39 (by kernel_rfl) (by kernel_rfl) _ _ #[.slice A n c, .int .i64 (z : Int)] rfl (by kernel_rfl) ?_
  refine (J.extend_yes A n c xs z (2 ^ (K + L)) K L V1 (sf_of (HX.out.keep B0.out)) hn hz rfl hKL).mono ?_
  rintro e V2 ⟨g, rfl, hs, hb⟩
  have B1 := Lib.hid hb
  have hs2 := sg_of hs
  rw [Gold.cw_tab (by rw [hxl, hn]; exact Nat.pow_le_pow_right (by omega) (by omega))] at hs2
  have HS := Lib.hid hs2
  clear hb hs2
  refine ⟨_, rfl, ?_⟩
  simp only [Act.put, List.setIfInBounds_toArray, List.set_cons_zero, List.set_cons_succ]
  refine wpList_run (by kernel_rfl) (.slice (some ⟨g, 0, none⟩) (2 ^ (K + L)) (2 ^ (K + L))) V2 rfl ?_
  simp only [Act.put, List.setIfInBounds_toArray, List.set_cons_zero, List.set_cons_succ]
  refine wpList_run (by kernel_rfl) (.int .i64 0) V2 rfl ?_
  simp only [Act.put, List.setIfInBounds_toArray, List.set_cons_zero, List.set_cons_succ]
  refine wpList_run (by kernel_rfl) (.slice (some ⟨g, 0, none⟩) (2 ^ (K + L)) (2 ^ (K + L))) V2 rfl ?_
  simp only [Act.put, List.setIfInBounds_toArray, List.set_cons_zero, List.set_cons_succ]
  refine wpList_run (by kernel_rfl) (.int .i64 0) V2 rfl ?_
  simp only [Act.put, List.setIfInBounds_toArray, List.set_cons_zero, List.set_cons_succ]
  refine wpList_nil ?_
  go_wp2_with fail
  go_ret2
  have C0_2 := Lib.hid (bel_step B0.out B1.out)
  exact ⟨g, rfl, HS.out, C0_2.out⟩
set_option maxRecDepth 100000 in
set_option maxHeartbeats 8000000 in
theorem encode_no (A : Option Addr) (n c : Nat) (xs : List Gold.F) (z : Int) (hr : rB n z = false) (hn : n ≤ 1048576) (w : World) (hX : Sg feC 1 w A n c xs) :
    Calls Try.prog 9 #[.slice A n c, .int .i64 z] w fun e w' => e = .returned (.tuple #[.slice none 0 0, .int .i64 1]) ∧ Below w.heap.size w w' := by
  have HX := Lib.hid hX
  have hxl := hX.len
  have hcp := hX.cap
  have htp := hX.top
  clear hX
  go_enter Try.func9, Try.ntmps9
  go_upto_region 1 with fail
  refine wp_region_lit ?_
  refine wpList_run (by kernel_rfl) (.slice A n c) w rfl ?_
  simp only [Act.put, List.setIfInBounds_toArray, List.set_cons_zero, List.set_cons_succ]
  refine wpList_run (by kernel_rfl) (.int .i64 (n : Int)) w (xo_len A n c Try.underlying22 rfl rfl) ?_
  simp only [Act.put, List.setIfInBounds_toArray, List.set_cons_zero, List.set_cons_succ]
  refine wpList_run (by kernel_rfl) (.int .i64 z) w rfl ?_
  simp only [Act.put, List.setIfInBounds_toArray, List.set_cons_zero, List.set_cons_succ]
  refine wpList_call (by kernel_rfl) 38 Try.func38 (by kernel_rfl) (by kernel_rfl) _ _ #[.int .i64 (n : Int), .int .i64 z] rfl (by kernel_rfl) ?_
  refine (isRow_any n z (by omega) w).mono ?_
  rintro e V1 ⟨rfl, hb⟩
  have B0 := Lib.hid hb
  rw [hr]
  clear hb 
  refine ⟨_, rfl, ?_⟩
  simp only [Act.put, List.setIfInBounds_toArray, List.set_cons_zero, List.set_cons_succ]
  refine wpList_run (by kernel_rfl) (.bool true) V1 rfl ?_
  simp only [Act.put, List.setIfInBounds_toArray, List.set_cons_zero, List.set_cons_succ]
  refine wpList_nil ?_
  go_upto_region 2 with fail
  refine wp_region_lit ?_
  refine wpList_run (by kernel_rfl) (.slice none 0 0) V1 rfl ?_
  simp only [Act.put, List.setIfInBounds_toArray, List.set_cons_zero, List.set_cons_succ]
  refine wpList_run (by kernel_rfl) (.int .i64 1) V1 rfl ?_
  simp only [Act.put, List.setIfInBounds_toArray, List.set_cons_zero, List.set_cons_succ]
  refine wpList_nil ?_
  go_wp2_with fail
  go_ret2
  exact ⟨rfl, B0.out⟩
set_option maxRecDepth 100000 in
set_option maxHeartbeats 8000000 in
theorem is_yes (A : Option Addr) (n c : Nat) (xs : List Gold.F) (z M L : Nat) (hn : n = 2 ^ M) (hz : z = 2 ^ L) (hL1 : 1 ≤ L) (hL4 : L ≤ 4) (hLM : L ≤ M) (hM : M ≤ 16) (w : World) (hX : Sg feC 1 w A n c xs) :
    Calls Try.prog 15 #[.slice A n c, .int .i64 (z : Int)] w fun e w' => e = .returned (.tuple #[.bool (decide ((Gold.inF xs M).length ≤ n / z)), .int .i64 0]) ∧ Below w.heap.size w w' := by
  have HX := Lib.hid hX
  have hxl := hX.len
  have hcp := hX.cap
  have htp := hX.top
  clear hX
  go_enter Try.func15, Try.ntmps15
  go_upto_region 1 with fail
  have hr := wB_pow (M := M) (L := L) hL1 hL4 hLM hM
  rw [← hn, ← hz] at hr
  have HR := Lib.hid hr
  clear hr
  have HN := Lib.hid hn
  have hn65 : n ≤ 65536 := by rw [hn]; exact Gold.pow2_le hM
  have hz0 : 0 < z := by rw [hz]; exact Nat.two_pow_pos L
  have hz16 : z ≤ 16 := by rw [hz]; exact Nat.pow_le_pow_right (n := 2) (by omega) hL4
  clear hn
  obtain ⟨qz, hqz⟩ : ∃ q, n / z = q := ⟨_, rfl⟩
  have hql : qz ≤ n := by rw [← hqz]; exact Nat.div_le_self _ _
  obtain ⟨il, hil⟩ : ∃ il, (Gold.inF xs M).length = il := ⟨_, rfl⟩
  refine wp_region_lit ?_
  refine wpList_run (by kernel_rfl) (.slice A n c) w rfl ?_
  simp only [Act.put, List.setIfInBounds_toArray, List.set_cons_zero, List.set_cons_succ]
  refine wpList_run (by kernel_rfl) (.int .i64 (n : Int)) w (xo_len A n c Try.underlying22 rfl rfl) ?_
  simp only [Act.put, List.setIfInBounds_toArray, List.set_cons_zero, List.set_cons_succ]
  refine wpList_run (by kernel_rfl) (.int .i64 (z : Int)) w rfl ?_
  simp only [Act.put, List.setIfInBounds_toArray, List.set_cons_zero, List.set_cons_succ]
  refine wpList_call (by kernel_rfl) 47 Try.func47 (by kernel_rfl) (by kernel_rfl) _ _ #[.int .i64 (n : Int), .int .i64 (z : Int)] rfl (by kernel_rfl) ?_
  refine (isWord_any n (z : Int) (by omega) w).mono ?_
  rintro e V1 ⟨rfl, hb⟩
  have B0 := Lib.hid hb
  rw [HR.out]
  clear hb 
  refine ⟨_, rfl, ?_⟩
  simp only [Act.put, List.setIfInBounds_toArray, List.set_cons_zero, List.set_cons_succ]
  refine wpList_run (by kernel_rfl) (.bool false) V1 rfl ?_
  simp only [Act.put, List.setIfInBounds_toArray, List.set_cons_zero, List.set_cons_succ]
  refine wpList_nil ?_
  go_upto_region 3 with fail
  refine wp_floatP [0, 1, 2, 3, 4, 5, 6, 7, 8, 9] (l' := [_, _, _, _, _, _, _, _, _, _]) (by kernel_rfl) (lexOK_of (by kernel_rfl) (by kernel_rfl)) (ordOK_of (by kernel_rfl) (by kernel_rfl)) rfl rfl ?_
  simp only [List.getElem_toArray, List.getElem_cons_succ, List.getElem_cons_zero]
  intro V2 hb hSW
  have B1 := Lib.hid hb
  have HF2 := Lib.hid hSW
  clear hb hSW
  refine wpF_seg 1 (by kernel_rfl) ?_
  simp only [List.take_succ_cons, List.take_zero, List.drop_succ_cons, List.drop_zero]
  refine wpQuiet_val (by kernel_rfl) (.slice A n c) (fun v hv => rfl) ?_
  simp only [Act.put, List.setIfInBounds_toArray, List.set_cons_zero, List.set_cons_succ]
  refine wpQuiet_nil ?_
  refine wpF_call 48 Try.func48 (by kernel_rfl) (by kernel_rfl) _ _ #[.slice A n c] rfl (by kernel_rfl) (by kernel_rfl) HF2.out (fun V3 hb => ?_)
  have B2 := Lib.hid hb
  have HF3 := Lib.hid (HF2.out.ext hb)
  clear hb
  have C0_2 := Lib.hid (bel_step B0.out B1.out)
  have C0_3 := Lib.hid (bel_step C0_2.out B2.out)
  refine (interpolated_any A n c xs M HN.out hM V3 (HX.out.keep C0_3.out)).mono ?_
  rintro e V4 ⟨g, rfl, hro, hb⟩
  have B3 := Lib.hid hb
  have HF4 := Lib.hid (HF3.out.ext hb)
  clear hro
  rw [hil]
  refine ⟨_, rfl, hb, ?_⟩
  clear hb 
  simp only [Act.put, List.setIfInBounds_toArray, List.set_cons_zero, List.set_cons_succ]
  refine wpF_seg 8 (by kernel_rfl) ?_
  simp only [List.take_succ_cons, List.take_zero, List.drop_succ_cons, List.drop_zero]
  refine wpQuiet_val (by kernel_rfl) (.int .i64 (il : Int)) (fun v hv => (xo_len (some ⟨g, 0, none⟩) il n Try.underlying22 rfl rfl)) ?_
  simp only [Act.put, List.setIfInBounds_toArray, List.set_cons_zero, List.set_cons_succ]
  refine wpQuiet_val (by kernel_rfl) (.slice A n c) (fun v hv => rfl) ?_
  simp only [Act.put, List.setIfInBounds_toArray, List.set_cons_zero, List.set_cons_succ]
  refine wpQuiet_val (by kernel_rfl) (.int .i64 (n : Int)) (fun v hv => (xo_len A n c Try.underlying22 rfl rfl)) ?_
  simp only [Act.put, List.setIfInBounds_toArray, List.set_cons_zero, List.set_cons_succ]
  refine wpQuiet_val (by kernel_rfl) (.int .i64 (z : Int)) (fun v hv => rfl) ?_
  simp only [Act.put, List.setIfInBounds_toArray, List.set_cons_zero, List.set_cons_succ]
  refine wpQuiet_val (by kernel_rfl) (.int .i64 (qz : Int)) (fun v hv => (xo_quoN .i64 n z qz (by omega) hqz (by rw [IntKind.wrap_i64]; omega) rfl rfl rfl)) ?_
  simp only [Act.put, List.setIfInBounds_toArray, List.set_cons_zero, List.set_cons_succ]
  refine wpQuiet_val (by kernel_rfl) (.bool (decide (il ≤ qz))) (fun v hv => (xo_cmp .leq .i64 (il : Int) (qz : Int) (decide (il ≤ qz)) (.inr (.inr (.inr (.inl ⟨rfl, (by rw [Bool.eq_iff_iff, decide_eq_true_iff, decide_eq_true_iff]; omega)⟩)))) rfl rfl rfl)) ?_
  simp only [Act.put, List.setIfInBounds_toArray, List.set_cons_zero, List.set_cons_succ]
  refine wpQuiet_val (by kernel_rfl) (.bool (decide (il ≤ qz))) (fun v hv => rfl) ?_
  simp only [Act.put, List.setIfInBounds_toArray, List.set_cons_zero, List.set_cons_succ]
  refine wpQuiet_val (by kernel_rfl) (.int .i64 0) (fun v hv => rfl) ?_
  simp only [Act.put, List.setIfInBounds_toArray, List.set_cons_zero, List.set_cons_succ]
  refine wpQuiet_nil ?_
  refine wpF_nil (fun V5 hb => ?_)
  have B4 := Lib.hid hb
  clear hb
  clear HF2
  clear HF3
  clear HF4
  go_wp2_with fail
  go_ret2
  have C0_4 := Lib.hid (bel_step C0_3.out B3.out)
  have C0_5 := Lib.hid (bel_step C0_4.out B4.out)
  exact ⟨by rw [hil, hqz]; rfl, C0_5.out⟩
set_option maxRecDepth 100000 in
set_option maxHeartbeats 8000000 in
theorem is_no (A : Option Addr) (n c : Nat) (xs : List Gold.F) (z : Int) (hr : wB n z = false) (hn : n ≤ 1048576) (w : World) (hX : Sg feC 1 w A n c xs) :
    Calls Try.prog 15 #[.slice A n c, .int .i64 z] w fun e w' => e = .returned (.tuple #[.bool false, .int .i64 1]) ∧ Below w.heap.size w w' := by
  have HX := Lib.hid hX
  have hxl := hX.len
  have hcp := hX.cap
  have htp := hX.top
  clear hX
  go_enter Try.func15, Try.ntmps15
  go_upto_region 1 with fail
  refine wp_region_lit ?_
  refine wpList_run (by kernel_rfl) (.slice A n c) w rfl ?_
  simp only [Act.put, List.setIfInBounds_toArray, List.set_cons_zero, List.set_cons_succ]
  refine wpList_run (by kernel_rfl) (.int .i64 (n : Int)) w (xo_len A n c Try.underlying22 rfl rfl) ?_
  simp only [Act.put, List.setIfInBounds_toArray, List.set_cons_zero, List.set_cons_succ]
  refine wpList_run (by kernel_rfl) (.int .i64 z) w rfl ?_
  simp only [Act.put, List.setIfInBounds_toArray, List.set_cons_zero, List.set_cons_succ]
  refine wpList_call (by kernel_rfl) 47 Try.func47 (by kernel_rfl) (by kernel_rfl) _ _ #[.int .i64 (n : Int), .int .i64 z] rfl (by kernel_rfl) ?_
  refine (isWord_any n z (by omega) w).mono ?_
  rintro e V1 ⟨rfl, hb⟩
  have B0 := Lib.hid hb
  rw [hr]
  clear hb 
  refine ⟨_, rfl, ?_⟩
  simp only [Act.put, List.setIfInBounds_toArray, List.set_cons_zero, List.set_cons_succ]
  refine wpList_run (by kernel_rfl) (.bool true) V1 rfl ?_
  simp only [Act.put, List.setIfInBounds_toArray, List.set_cons_zero, List.set_cons_succ]
  refine wpList_nil ?_
  go_upto_region 2 with fail
  refine wp_region_lit ?_
  refine wpList_run (by kernel_rfl) (.bool false) V1 rfl ?_
  simp only [Act.put, List.setIfInBounds_toArray, List.set_cons_zero, List.set_cons_succ]
  refine wpList_run (by kernel_rfl) (.int .i64 1) V1 rfl ?_
  simp only [Act.put, List.setIfInBounds_toArray, List.set_cons_zero, List.set_cons_succ]
  refine wpList_nil ?_
  go_wp2_with fail
  go_ret2
  exact ⟨rfl, B0.out⟩
end Go.Proofs.Ytkefijogpiofbaa

