/- Bits of words: powers of two, and adding one from the highest bit downward; no program, no conditions but ranges. -/
import Derived.Test.YtihneehceclffaaNsl
import Derived.Laws.Bits64
namespace Go.Proofs.Ytihneehceclffaa
open Go.RowKit Gold

theorem bits_and_i64_nat (a b : Nat) (ha : a < 9223372036854775808) (hb : b < 9223372036854775808) :
    bits .and .i64 (a : Int) (b : Int) = ((a &&& b : Nat) : Int) := by
  have hx : a &&& b < 2 ^ 63 := Nat.and_lt_two_pow _ (by omega)
  have h1 : (BitVec.ofInt 64 (a : Int)).toNat = a := by
    rw [BitVec.ofInt_natCast, BitVec.toNat_ofNat]; exact Nat.mod_eq_of_lt (by omega)
  have h2 : (BitVec.ofInt 64 (b : Int)).toNat = b := by
    rw [BitVec.ofInt_natCast, BitVec.toNat_ofNat]; exact Nat.mod_eq_of_lt (by omega)
  show IntKind.i64.wrap ((BitVec.ofInt 64 (a : Int) &&& BitVec.ofInt 64 (b : Int)).toNat : Int) = _
  rw [BitVec.toNat_and, h1, h2, IntKind.wrap_i64]
  omega
theorem and_pred (k : Nat) : 2 ^ k &&& (2 ^ k - 1) = 0 := by rw [Nat.and_two_pow_sub_one_eq_mod, Nat.mod_self]
theorem pow_of_and {n : Nat} (h0 : 1 ≤ n) (h : n &&& (n - 1) = 0) : ∃ k, n = 2 ^ k := by
  refine ⟨n.log2, Classical.byContradiction fun hne => ?_⟩
  have h1 : 2 ^ n.log2 ≤ n := Nat.log2_self_le (by omega)
  have h2 : n < 2 ^ (n.log2 + 1) := Nat.lt_log2_self
  rw [pow2_succ] at h2
  have hp := Nat.two_pow_pos n.log2
  have key : ∀ x, 2 ^ n.log2 ≤ x → x < 2 ^ n.log2 + 2 ^ n.log2 → x.testBit n.log2 = true := by
    intro x a b
    rw [Nat.testBit_eq_decide_div_mod_eq]
    have : x / 2 ^ n.log2 = 1 := Nat.div_eq_of_lt_le (by omega) (by omega)
    rw [this]
    rfl
  have h3 : (n &&& (n - 1)).testBit n.log2 = true := by
    rw [Nat.testBit_and, key n h1 h2, key (n - 1) (by omega) (by omega)]
    rfl
  rw [h, Nat.zero_testBit] at h3
  cases h3
theorem rev_and (m i : Nat) : revN (m + 1) i &&& 2 ^ m = i % 2 * 2 ^ m := by
  have hl := revN_lt m (i / 2)
  have hp := Nat.two_pow_pos m
  have : (revN (m + 1) i).testBit m = decide (i % 2 = 1) := by
    rw [Nat.testBit_eq_decide_div_mod_eq]
    have e : revN (m + 1) i = revN m (i / 2) + i % 2 * 2 ^ m := rfl
    rw [e, Nat.add_mul_div_right _ _ hp, Nat.div_eq_of_lt hl, Nat.zero_add, Nat.mod_mod]
  apply Nat.eq_of_testBit_eq
  intro j
  rw [Nat.testBit_and, Nat.testBit_two_pow]
  by_cases e : m = j
  · subst e
    rw [this, decide_eq_true rfl, Bool.and_true]
    rcases Nat.mod_two_eq_zero_or_one i with h | h <;> rw [h]
    · rw [Nat.zero_mul, Nat.zero_testBit]; rfl
    · rw [Nat.one_mul, Nat.testBit_two_pow_self]; rfl
  · rw [decide_eq_false e, Bool.and_false]
    rcases Nat.mod_two_eq_zero_or_one i with h | h <;> rw [h]
    · rw [Nat.zero_mul, Nat.zero_testBit]
    · rw [Nat.one_mul, Nat.testBit_two_pow, decide_eq_false e]
theorem rev_even {m i : Nat} (h : i % 2 = 0) : revN (m + 1) i = revN m (i / 2) ∧ revN (m + 1) (i + 1) = revN (m + 1) i + 2 ^ m := by
  have e1 : revN (m + 1) i = revN m (i / 2) + i % 2 * 2 ^ m := rfl
  have e2 : revN (m + 1) (i + 1) = revN m ((i + 1) / 2) + (i + 1) % 2 * 2 ^ m := rfl
  rw [e1, e2, show (i + 1) / 2 = i / 2 by omega, show (i + 1) % 2 = 1 by omega, h]
  omega
theorem rev_odd {m i : Nat} (h : i % 2 = 1) : revN (m + 1) i = revN m (i / 2) + 2 ^ m ∧ revN (m + 1) (i + 1) = revN m (i / 2 + 1) := by
  have e1 : revN (m + 1) i = revN m (i / 2) + i % 2 * 2 ^ m := rfl
  have e2 : revN (m + 1) (i + 1) = revN m ((i + 1) / 2) + (i + 1) % 2 * 2 ^ m := rfl
  rw [e1, e2, show (i + 1) / 2 = i / 2 + 1 by omega, show (i + 1) % 2 = 0 by omega, h]
  omega
theorem wrap_pow2 {k : Nat} (h : k ≤ 62) : wrap64 (2 ^ k) = ((2 ^ k : Nat) : Int) := by
  have h1 : 2 ^ k ≤ 2 ^ 62 := Nat.pow_le_pow_right (by omega) h
  have h2 : ((2 ^ k : Nat) : Int) = (2 : Int) ^ k := by rw [Int.natCast_pow]; rfl
  rw [← h2]
  generalize 2 ^ k = N at *
  unfold wrap64
  omega
theorem pow2_inj {k l : Nat} (h : 2 ^ k = 2 ^ l) : k = l := by
  rcases Nat.lt_trichotomy k l with h1 | h1 | h1
  · have := Nat.pow_lt_pow_right (a := 2) (by omega) h1; omega
  · exact h1
  · have := Nat.pow_lt_pow_right (a := 2) (by omega) h1; omega

/-! ### Roots -/
theorem field_rootF (k : Nat) (w : World) (hk : k ≤ 32) : Calls Try.prog 48 #[.int .i64 (k : Int)] w fun e w' => e = .returned (.tuple #[.int .u64 (vF (rootF k)), .int .i64 0]) ∧ w' = w := by
  rw [vF_root]
  exact root_nat k w hk
theorem ref_rootF (k : Nat) (w : World) (hk : k ≤ 32) : Calls Try.prog 27 #[.int .i64 (k : Int)] w fun e w' => e = .returned (.tuple #[.int .u64 (vF (rootF k)), .int .i64 0]) ∧ w' = w := by
  rw [vF_root]
  exact rroot_nat k w hk

/-! ### Lengths -/
set_option maxHeartbeats 400000 in
theorem isl_yes (N k : Nat) (w : World) (hN : N = 2 ^ k) (hk : k ≤ 16) : Calls Try.prog 32 #[.int .i64 (N : Int)] w fun e w' => e = .returned (.bool true) ∧ w' = w := by
  have h1 : 1 ≤ N := by rw [hN]; exact Nat.two_pow_pos k
  have h2 : N ≤ 65536 := by rw [hN]; exact pow2_le hk
  have hb : bits .and .i64 (N : Int) ((N : Int) - 1) = 0 := by
    rw [show (N : Int) - 1 = ((N - 1 : Nat) : Int) by omega, bits_and_i64_nat _ _ (by omega) (by omega), hN, and_pred]
    rfl
  clear hN
  have i1 : (1 : Int) ≤ (N : Int) := by omega
  have i2 : (N : Int) ≤ 65536 := by omega
  go_enter Try.func32, Try.ntmps32
  go_wp2
  go_ret
  exact ⟨rfl, rfl⟩
theorem isl_no (n : Int) (w : World) (h0 : -9223372036854775808 ≤ n) (h1 : n < 9223372036854775808) (h : ∀ k : Nat, k ≤ 16 → n ≠ ((2 ^ k : Nat) : Int)) : Calls Try.prog 32 #[.int .i64 n] w fun e w' => e = .returned (.bool false) ∧ w' = w := by
  by_cases c1 : 1 ≤ n
  · by_cases c2 : n ≤ 65536
    · have hb : (bits .and .i64 n (n - 1) == 0) = false := by
        rw [beq_eq_false_iff_ne]
        intro e
        have e1 : bits .and .i64 ((n.toNat : Nat) : Int) ((n.toNat - 1 : Nat) : Int) = 0 := by
          rw [show ((n.toNat : Nat) : Int) = n by omega, show ((n.toNat - 1 : Nat) : Int) = n - 1 by omega]
          exact e
        rw [bits_and_i64_nat _ _ (by omega) (by omega)] at e1
        obtain ⟨k, hk⟩ := pow_of_and (n := n.toNat) (by omega) (by omega)
        refine h k ?_ (by omega)
        refine Classical.byContradiction fun hn => ?_
        have : 2 ^ 17 ≤ 2 ^ k := Nat.pow_le_pow_right (by omega) (by omega)
        omega
      have H := Lib.hid h
      clear h
      go_enter Try.func32, Try.ntmps32
      go_wp2
      go_ret
      exact ⟨rfl, rfl⟩
    · have c3 : decide (n ≤ 65536) = false := decide_eq_false c2
      have H := Lib.hid h
      clear h c2
      go_enter Try.func32, Try.ntmps32
      go_wp2
      go_ret
      exact ⟨rfl, rfl⟩
  · have c3 : decide (1 ≤ n) = false := decide_eq_false c1
    have H := Lib.hid h
    clear h c1
    go_enter Try.func32, Try.ntmps32
    go_wp2
    go_ret
    exact ⟨rfl, rfl⟩
set_option maxHeartbeats 400000 in
theorem log_yes (N k : Nat) (w : World) (hN : N = 2 ^ k) (hk : k ≤ 16) : Calls Try.prog 28 #[.int .i64 (N : Int)] w fun e w' => e = .returned (.int .i64 (k : Int)) ∧ w' = w := by
  have HN := Lib.hid hN
  clear hN
  go_enter Try.func28, Try.ntmps28
  go_wp2
  go_loop [3] (fun i => ∃ j : Nat, j ≤ k ∧ i = .int .i64 j) (fun i => k - (intOf i).toNat)
  case atStart => exact ⟨0, Nat.zero_le _, rfl⟩
  case round =>
    obtain ⟨j, hj, rfl⟩ := hrel
    have h16 : (j : Int) ≤ 16 := by omega
    by_cases e : j = k
    · subst e
      have hb : ((N : Int) == wrap64 (2 ^ j)) = true := by rw [wrap_pow2 (by omega), beq_iff_eq, HN.out]
      go_wp2
      go_ret
      exact ⟨rfl, rfl⟩
    · have hb : ((N : Int) == wrap64 (2 ^ j)) = false := by
        rw [wrap_pow2 (by omega), beq_eq_false_iff_ne, HN.out]
        intro e1
        exact e (pow2_inj (by omega))
      have hlt : j < k := by omega
      clear e
      go_wp2
      go_round
      case rel => exact ⟨j + 1, by omega, by go_num⟩
      case measure => simp [intOf]; omega
set_option maxHeartbeats 400000 in
theorem log_no (n : Int) (w : World) (h : ∀ k : Nat, k ≤ 16 → n ≠ ((2 ^ k : Nat) : Int)) : Calls Try.prog 28 #[.int .i64 n] w fun e w' => e = .returned (.int .i64 (-1)) ∧ w' = w := by
  have H := Lib.hid h
  clear h
  go_enter Try.func28, Try.ntmps28
  go_wp2
  go_loop [3] (fun i => ∃ j : Nat, j ≤ 17 ∧ i = .int .i64 j) (fun i => 17 - (intOf i).toNat)
  case atStart => exact ⟨0, Nat.zero_le _, rfl⟩
  case round =>
    obtain ⟨j, hj, rfl⟩ := hrel
    by_cases e : j ≤ 16
    · have h16 : (j : Int) ≤ 16 := by omega
      have hb : (n == wrap64 (2 ^ j)) = false := by rw [wrap_pow2 (by omega), beq_eq_false_iff_ne]; exact H.out j e
      go_wp2
      go_round
      case rel => exact ⟨j + 1, by omega, by go_num⟩
      case measure => simp [intOf]; omega
    · have h16 : ¬ (j : Int) ≤ 16 := by omega
      go_wp2
      go_ret
      exact ⟨rfl, rfl⟩

end Go.Proofs.Ytihneehceclffaa
