/- Contracts of the leaf functions of package field and of its reference, over field elements: each returns the stated number and leaves memory alone. -/
import Derived.Test.YtombcjdhjcmhhaaProg
import Derived.Test.YtombcjdhjcmhhaaFe
import Derived.WalkKit
import Derived.WalkSpells
import Derived.WalkSmall
import Derived.Laws.MathBits
namespace Go.Proofs.Ytombcjdhjcmhhaa
set_option maxRecDepth 8000
open Go.RowKit Gold

theorem ret_int {k : IntKind} {a b : Int} (h : a = b) : Ending.returned (.int k a) = .returned (.int k b) := by rw [h]
theorem wrap_range (a : Int) : U64 (IntKind.u64.wrap a) := by unfold U64; rw [IntKind.wrap_u64]; omega

set_option maxHeartbeats 400000 in
theorem valid_any (a : Int) (w : World) :
    Calls Try.prog 85 #[.int .u64 a] w fun e w' => e = .returned (.bool (decide (a < 18446744069414584321))) ∧ w' = w := by
  go_enter Try.func85, Try.ntmps85
  go_wp2
  go_ret
  exact ⟨rfl, rfl⟩

set_option maxHeartbeats 400000 in
theorem rvalid_any (a : Int) (w : World) :
    Calls Try.prog 59 #[.int .u64 a] w fun e w' => e = .returned (.bool (decide (a < 18446744069414584321))) ∧ w' = w := by
  go_enter Try.func59, Try.ntmps59
  go_wp2
  go_ret
  exact ⟨rfl, rfl⟩

set_option maxHeartbeats 400000 in
theorem reduce_any (a : Int) (w : World) (ha : U64 a)  :
    Calls Try.prog 106 #[.int .u64 a] w fun e w' => e = .returned (.int .u64 (fred a)) ∧ w' = w := by
  unfold U64 at ha
  go_enter Try.func106, Try.ntmps106
  go_wp2
  all_goals 
    go_ret
    refine ⟨ret_int ?_, rfl⟩
    unfold fred
    omega

set_option maxHeartbeats 400000 in
theorem rreduce_any (a : Int) (w : World) (ha : U64 a)  :
    Calls Try.prog 51 #[.int .u64 a] w fun e w' => e = .returned (.int .u64 (fred a)) ∧ w' = w := by
  unfold U64 at ha
  go_enter Try.func51, Try.ntmps51
  go_wp2
  all_goals 
    go_ret
    refine ⟨ret_int ?_, rfl⟩
    unfold fred
    omega

set_option maxHeartbeats 400000 in
theorem fromInt_any (a : Int) (w : World) (ha0 : -9223372036854775808 ≤ a) (ha : a < 9223372036854775808)  :
    Calls Try.prog 108 #[.int .i64 a] w fun e w' => e = .returned (.int .u64 (fred a)) ∧ w' = w := by
  go_enter Try.func108, Try.ntmps108
  go_wp2
  all_goals 
    go_ret
    refine ⟨ret_int ?_, rfl⟩
    unfold fred
    try simp only [IntKind.wrap_u64] at *
    omega

set_option maxHeartbeats 400000 in
theorem rfromInt_any (a : Int) (w : World) (ha0 : -9223372036854775808 ≤ a) (ha : a < 9223372036854775808)  :
    Calls Try.prog 57 #[.int .i64 a] w fun e w' => e = .returned (.int .u64 (fred a)) ∧ w' = w := by
  go_enter Try.func57, Try.ntmps57
  go_wp2
  all_goals 
    go_ret
    refine ⟨ret_int ?_, rfl⟩
    unfold fred
    try simp only [IntKind.wrap_u64] at *
    omega

set_option maxHeartbeats 400000 in
theorem add_any (a b : Int) (w : World) (ha : El a) (hb : El b) :
    Calls Try.prog 65 #[.int .u64 a, .int .u64 b] w fun e w' => e = .returned (.int .u64 (fadd a b)) ∧ w' = w := by
  unfold El at ha hb
  go_enter Try.func65, Try.ntmps65
  go_wp2
  all_goals 
    go_ret
    refine ⟨ret_int ?_, rfl⟩
    unfold fadd
    simp only [IntKind.wrap_u64] at *
    omega

set_option maxHeartbeats 400000 in
theorem radd_any (a b : Int) (w : World) (ha : El a) (hb : El b) :
    Calls Try.prog 52 #[.int .u64 a, .int .u64 b] w fun e w' => e = .returned (.int .u64 (fadd a b)) ∧ w' = w := by
  unfold El at ha hb
  go_enter Try.func52, Try.ntmps52
  go_wp2
  all_goals 
    go_ret
    refine ⟨ret_int ?_, rfl⟩
    unfold fadd
    try simp only [IntKind.wrap_u64] at *
    omega

set_option maxHeartbeats 400000 in
theorem sub_any (a b : Int) (w : World) (ha : El a) (hb : El b) :
    Calls Try.prog 79 #[.int .u64 a, .int .u64 b] w fun e w' => e = .returned (.int .u64 (fsub a b)) ∧ w' = w := by
  unfold El at ha hb
  go_enter Try.func79, Try.ntmps79
  go_wp2
  all_goals 
    go_ret
    refine ⟨ret_int ?_, rfl⟩
    unfold fsub
    try simp only [IntKind.wrap_u64] at *
    omega

set_option maxHeartbeats 400000 in
theorem neg_any (a : Int) (w : World) (ha : El a) :
    Calls Try.prog 115 #[.int .u64 a] w fun e w' => e = .returned (.int .u64 (fneg a)) ∧ w' = w := by
  go_enter Try.func115, Try.ntmps115
  go_wp2_with (go_at_call 79; refine (sub_any _ _ _ (by unfold El; omega) ha).mono ?_; rintro e w' ⟨rfl, rfl⟩)
  go_ret
  refine ⟨ret_int ?_, rfl⟩
  unfold fsub fneg
  omega

set_option maxHeartbeats 400000 in
theorem rneg_any (a : Int) (w : World) (ha : El a) :
    Calls Try.prog 74 #[.int .u64 a] w fun e w' => e = .returned (.int .u64 (fneg a)) ∧ w' = w := by
  unfold El at ha
  by_cases h : a = 0
  all_goals
    go_enter Try.func74, Try.ntmps74
    go_wp2
    go_ret
    refine ⟨ret_int ?_, rfl⟩
    unfold fneg
    omega


theorem high_eq (a b : Int) (ha : U64 a) (hb : U64 b) :
    IntKind.u64.wrap (IntKind.u64.wrap (IntKind.u64.wrap (a / 4294967296 * (b / 4294967296)) + IntKind.u64.wrap (IntKind.u64.wrap (a / 4294967296 * (b % 4294967296)) + IntKind.u64.wrap (a % 4294967296 * (b % 4294967296)) / 4294967296) / 4294967296)
      + IntKind.u64.wrap (IntKind.u64.wrap (a % 4294967296 * (b / 4294967296)) + IntKind.u64.wrap (IntKind.u64.wrap (a / 4294967296 * (b % 4294967296)) + IntKind.u64.wrap (a % 4294967296 * (b % 4294967296)) / 4294967296) % 4294967296) / 4294967296)
    = a * b / 18446744073709551616 := by
  have h := high_parts a b ha hb _ _ _ _ rfl rfl rfl rfl
  generalize a / 4294967296 * (b / 4294967296) = x at *
  generalize a / 4294967296 * (b % 4294967296) = y at *
  generalize a % 4294967296 * (b / 4294967296) = z at *
  generalize a % 4294967296 * (b % 4294967296) = v at *
  generalize a * b = c at *
  simp only [IntKind.wrap_u64]
  omega

theorem wrap_low (x : Int) : bits .and .u64 (IntKind.u64.wrap x) 4294967295 = IntKind.u64.wrap x % 4294967296 := and_low32 _ (wrap_range x).1 (wrap_range x).2

set_option maxHeartbeats 400000 in
theorem high_any (a b : Int) (w : World) (ha : U64 a) (hb : U64 b) :
    Calls Try.prog 101 #[.int .u64 a, .int .u64 b] w fun e w' => e = .returned (.int .u64 (a * b / 18446744073709551616)) ∧ w' = w := by
  unfold U64 at ha hb
  go_enter Try.func101, Try.ntmps101
  go_wp2
  go_ret
  refine ⟨ret_int ?_, rfl⟩
  rw [← high_eq a b ha hb, and_low32 a ha.1 ha.2, and_low32 b hb.1 hb.2, wrap_low]

theorem wide_eq (a b d x : Int) (ha : U64 a) (hb : U64 b) (hd : (b < a / 4294967296 ∧ d = IntKind.u64.wrap (IntKind.u64.wrap (b - a / 4294967296) - 4294967295)) ∨ (a / 4294967296 ≤ b ∧ d = b - a / 4294967296))
    (hx : (IntKind.u64.wrap (d + IntKind.u64.wrap (bits .and .u64 a 4294967295 * 4294967295)) < d ∧ x = IntKind.u64.wrap (IntKind.u64.wrap (d + IntKind.u64.wrap (bits .and .u64 a 4294967295 * 4294967295)) + 4294967295)) ∨
      (d ≤ IntKind.u64.wrap (d + IntKind.u64.wrap (bits .and .u64 a 4294967295 * 4294967295)) ∧ x = IntKind.u64.wrap (d + IntKind.u64.wrap (bits .and .u64 a 4294967295 * 4294967295)))) :
    fred x = (a * 18446744073709551616 + b) % 18446744069414584321 := by
  rw [and_low32 a ha.1 ha.2] at hx
  unfold U64 at ha hb
  rw [wide_mod]
  have h0 : 0 ≤ a / 4294967296 ∧ a / 4294967296 ≤ 4294967295 := by omega
  have h1 : 0 ≤ a % 4294967296 * 4294967295 ∧ a % 4294967296 * 4294967295 ≤ 18446744065119617025 := by omega
  generalize a / 4294967296 = a1 at *
  generalize a % 4294967296 * 4294967295 = m at *
  have em : IntKind.u64.wrap m = m := by rw [IntKind.wrap_u64]; omega
  rw [em] at hx
  simp only [IntKind.wrap_u64] at hd hx
  have hd' : (d = b - a1 ∧ a1 ≤ b) ∨ (d = b - a1 + 18446744069414584321 ∧ b < a1) := by omega
  have hd0 : 0 ≤ d ∧ d < 18446744073709551616 := by omega
  clear hd
  have hx' : x = d + m ∨ x = d + m - 18446744069414584321 := by omega
  clear hx
  unfold fred
  omega

set_option maxHeartbeats 400000 in
theorem wide_any (a b : Int) (w : World) (ha : U64 a) (hb : U64 b) :
    Calls Try.prog 100 #[.int .u64 a, .int .u64 b] w fun e w' => e = .returned (.int .u64 ((a * 18446744073709551616 + b) % 18446744069414584321)) ∧ w' = w := by
  have ha' := ha
  have hb' := hb
  unfold U64 at ha hb
  go_enter Try.func100, Try.ntmps100
  go_wp2_with (go_at_call 106; refine (reduce_any _ _ (wrap_range _)).mono ?_; rintro e w' ⟨rfl, rfl⟩)
  · go_ret
    exact ⟨ret_int (wide_eq a b _ _ ha' hb' (Or.inl ⟨by assumption, rfl⟩) (Or.inl ⟨by assumption, rfl⟩)), rfl⟩
  · go_ret
    exact ⟨ret_int (wide_eq a b _ _ ha' hb' (Or.inl ⟨by assumption, rfl⟩) (Or.inr ⟨by assumption, rfl⟩)), rfl⟩
  · go_ret
    exact ⟨ret_int (wide_eq a b _ _ ha' hb' (Or.inr ⟨by assumption, rfl⟩) (Or.inl ⟨by assumption, rfl⟩)), rfl⟩
  · go_ret
    exact ⟨ret_int (wide_eq a b _ _ ha' hb' (Or.inr ⟨by assumption, rfl⟩) (Or.inr ⟨by assumption, rfl⟩)), rfl⟩

theorem mul_range (a b : Int) (ha : U64 a) (hb : U64 b) : U64 (a * b / 18446744073709551616) := by
  have h := high_parts a b ha hb _ _ _ _ rfl rfl rfl rfl
  generalize a / 4294967296 * (b / 4294967296) = x at *
  generalize a / 4294967296 * (b % 4294967296) = y at *
  generalize a % 4294967296 * (b / 4294967296) = z at *
  generalize a % 4294967296 * (b % 4294967296) = v at *
  generalize a * b = c at *
  unfold U64
  omega

set_option maxHeartbeats 400000 in
theorem mul_any (a b : Int) (w : World) (ha : U64 a) (hb : U64 b) :
    Calls Try.prog 94 #[.int .u64 a, .int .u64 b] w fun e w' => e = .returned (.int .u64 (fmul a b)) ∧ w' = w := by
  go_enter Try.func94, Try.ntmps94
  go_wp2_with (first
    | (go_at_call 101; refine (high_any _ _ _ ha hb).mono ?_; rintro e w' ⟨rfl, rfl⟩)
    | (go_at_call 100; refine (wide_any _ _ _ (mul_range a b ha hb) (wrap_range _)).mono ?_; rintro e w' ⟨rfl, rfl⟩))
  go_ret
  refine ⟨ret_int ?_, rfl⟩
  rw [IntKind.wrap_u64]
  unfold fmul
  congr 1
  omega

theorem mod_mod_add (a b : Int) : (a % 18446744069414584321 + b % 18446744069414584321) % 18446744069414584321 = (a + b) % 18446744069414584321 := by
  omega

theorem shift_eq (a : Int) : fadd (fred (a % 4294967296 * 4294967296)) (fred (a / 4294967296 * 4294967295)) = fmul a 4294967296 := by
  unfold fadd fmul fred
  rw [mod_mod_add]
  have e : a * 4294967296 = (a % 4294967296 * 4294967296 + a / 4294967296 * 4294967295) + a / 4294967296 * 18446744069414584321 := by omega
  rw [e, Int.add_mul_emod_self_right]

set_option maxHeartbeats 400000 in
theorem shift_any (a : Int) (w : World) (ha : El a) :
    Calls Try.prog 76 #[.int .u64 a] w fun e w' => e = .returned (.int .u64 (fmul a 4294967296)) ∧ w' = w := by
  unfold El at ha
  go_enter Try.func76, Try.ntmps76
  go_wp2_with (first
    | (go_at_call 51; refine (rreduce_any _ _ (by unfold U64; omega)).mono ?_; rintro e w' ⟨rfl, rfl⟩)
    | (go_at_call 52; refine (radd_any _ _ _ (El_fred _) (El_fred _)).mono ?_; rintro e w' ⟨rfl, rfl⟩))
  go_ret
  exact ⟨ret_int (shift_eq a), rfl⟩

theorem half_eq (a b : Int) (ha : El a) (hb : 0 ≤ b ∧ b < 4294967296) :
    fadd (fred (IntKind.u64.wrap (a % 4294967296 * b))) (fmul (fred (IntKind.u64.wrap (a / 4294967296 * b))) 4294967296) = fmul a b := by
  unfold El at ha
  have bound : ∀ p : Int, 0 ≤ p → p ≤ 4294967295 → 0 ≤ p * b ∧ p * b ≤ 18446744065119617025 := by
    intro p hp0 hp
    refine ⟨Int.mul_nonneg hp0 hb.1, ?_⟩
    have := Int.mul_le_mul hp (show b ≤ 4294967295 by omega) hb.1 (by decide : (0 : Int) ≤ 4294967295)
    exact Int.le_trans this (by decide)
  have h0 := bound (a / 4294967296) (by omega) (by omega)
  have h1 := bound (a % 4294967296) (by omega) (by omega)
  have e : a * b = a % 4294967296 * b + a / 4294967296 * b * 4294967296 := by
    have : a = a % 4294967296 + 4294967296 * (a / 4294967296) := by omega
    conv => lhs; rw [this, Int.add_mul, Int.mul_assoc, Int.mul_comm 4294967296]
  unfold fmul
  rw [e]
  generalize a / 4294967296 * b = x at *
  generalize a % 4294967296 * b = y at *
  have ex : IntKind.u64.wrap x = x := by rw [IntKind.wrap_u64]; omega
  have ey : IntKind.u64.wrap y = y := by rw [IntKind.wrap_u64]; omega
  rw [ex, ey]
  unfold fadd fred
  omega

set_option maxHeartbeats 400000 in
theorem half_any (a b : Int) (w : World) (ha : El a) (hb : 0 ≤ b ∧ b < 4294967296) :
    Calls Try.prog 75 #[.int .u64 a, .int .u64 b] w fun e w' => e = .returned (.int .u64 (fmul a b)) ∧ w' = w := by
  have ha' := ha
  have hb' := hb
  unfold El at ha
  go_enter Try.func75, Try.ntmps75
  go_wp2_with (first
    | (go_at_call 51; refine (rreduce_any _ _ (wrap_range _)).mono ?_; rintro e w' ⟨rfl, rfl⟩)
    | (go_at_call 76; refine (shift_any _ _ (El_fred _)).mono ?_; rintro e w' ⟨rfl, rfl⟩)
    | (go_at_call 52; refine (radd_any _ _ _ (El_fred _) (El_fmul _ _)).mono ?_; rintro e w' ⟨rfl, rfl⟩))
  go_ret
  exact ⟨ret_int (half_eq a b ha' hb'), rfl⟩

theorem rmul_eq (a b : Int) : fadd (fmul a (b % 4294967296)) (fmul (fmul a (b / 4294967296)) 4294967296) = fmul a b := by
  have e : a * b = a * (b % 4294967296) + a * (b / 4294967296) * 4294967296 := by
    rw [Int.mul_assoc, ← Int.mul_add]
    congr 1
    omega
  unfold fadd fmul
  rw [e]
  generalize a * (b / 4294967296) = x
  generalize a * (b % 4294967296) = y
  omega

set_option maxHeartbeats 400000 in
theorem rmul_any (a b : Int) (w : World) (ha : El a) (hb : El b) :
    Calls Try.prog 56 #[.int .u64 a, .int .u64 b] w fun e w' => e = .returned (.int .u64 (fmul a b)) ∧ w' = w := by
  have ha' := ha
  unfold El at ha hb
  go_enter Try.func56, Try.ntmps56
  go_wp2_with (first
    | (go_at_call 75; refine (half_any _ _ _ ha' (by omega)).mono ?_; rintro e w' ⟨rfl, rfl⟩)
    | (go_at_call 76; refine (shift_any _ _ (El_fmul _ _)).mono ?_; rintro e w' ⟨rfl, rfl⟩)
    | (go_at_call 52; refine (radd_any _ _ _ (El_fmul _ _) (El_fmul _ _)).mono ?_; rintro e w' ⟨rfl, rfl⟩))
  go_ret
  exact ⟨ret_int (rmul_eq a b), rfl⟩

end Go.Proofs.Ytombcjdhjcmhhaa
