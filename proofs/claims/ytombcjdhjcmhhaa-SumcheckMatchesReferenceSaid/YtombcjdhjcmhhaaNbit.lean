/- Bits of words: powers of two, and adding one from the highest bit downward; no program, no conditions but ranges. -/
import Derived.Test.YtombcjdhjcmhhaaNsl
import Derived.Laws.Bits64
namespace Go.Proofs.Ytombcjdhjcmhhaa
set_option maxRecDepth 8000
open Go.RowKit Gold

theorem bits_and_i64_nat (a b : Nat) (ha : a < 9223372036854775808) (hb : b < 9223372036854775808) :
    bits .and .i64 (a : Int) (b : Int) = ((a &&& b : Nat) : Int) := by
  have hx : a &&& b < 2 ^ 63 := Nat.and_lt_two_pow _ (by omega)
  have h1 : (BitVec.ofInt 64 (a : Int)).toNat = a := by
    rw [BitVec.ofInt_natCast, BitVec.toNat_ofNat]; exact Nat.mod_eq_of_lt (by omega)
  have h2 : (BitVec.ofInt 64 (b : Int)).toNat = b := by
    rw [BitVec.ofInt_natCast, BitVec.toNat_ofNat]; exact Nat.mod_eq_of_lt (by omega)
  show IntKind.i64.wrap ((BitVec.ofInt 64 (a : Int) &&& BitVec.ofInt 64 (b : Int)).toNat : Int) = _
  rw [BitVec.toNat_and, h1, h2, IntKind.wrap_i64]
  omega
theorem and_pred (k : Nat) : 2 ^ k &&& (2 ^ k - 1) = 0 := by rw [Nat.and_two_pow_sub_one_eq_mod, Nat.mod_self]
theorem pow_of_and {n : Nat} (h0 : 1 ≤ n) (h : n &&& (n - 1) = 0) : ∃ k, n = 2 ^ k := by
  refine ⟨n.log2, Classical.byContradiction fun hne => ?_⟩
  have h1 : 2 ^ n.log2 ≤ n := Nat.log2_self_le (by omega)
  have h2 : n < 2 ^ (n.log2 + 1) := Nat.lt_log2_self
  rw [pow2_succ] at h2
  have hp := Nat.two_pow_pos n.log2
  have key : ∀ x, 2 ^ n.log2 ≤ x → x < 2 ^ n.log2 + 2 ^ n.log2 → x.testBit n.log2 = true := by
    intro x a b
    rw [Nat.testBit_eq_decide_div_mod_eq]
    have : x / 2 ^ n.log2 = 1 := Nat.div_eq_of_lt_le (by omega) (by omega)
    rw [this]
    rfl
  have h3 : (n &&& (n - 1)).testBit n.log2 = true := by
    rw [Nat.testBit_and, key n h1 h2, key (n - 1) (by omega) (by omega)]
    rfl
  rw [h, Nat.zero_testBit] at h3
  cases h3
theorem rev_and (m i : Nat) : revN (m + 1) i &&& 2 ^ m = i % 2 * 2 ^ m := by
  have hl := revN_lt m (i / 2)
  have hp := Nat.two_pow_pos m
  have : (revN (m + 1) i).testBit m = decide (i % 2 = 1) := by
    rw [Nat.testBit_eq_decide_div_mod_eq]
    have e : revN (m + 1) i = revN m (i / 2) + i % 2 * 2 ^ m := rfl
    rw [e, Nat.add_mul_div_right _ _ hp, Nat.div_eq_of_lt hl, Nat.zero_add, Nat.mod_mod]
  apply Nat.eq_of_testBit_eq
  intro j
  rw [Nat.testBit_and, Nat.testBit_two_pow]
  by_cases e : m = j
  · subst e
    rw [this, decide_eq_true rfl, Bool.and_true]
    rcases Nat.mod_two_eq_zero_or_one i with h | h <;> rw [h]
    · rw [Nat.zero_mul, Nat.zero_testBit]; rfl
    · rw [Nat.one_mul, Nat.testBit_two_pow_self]; rfl
  · rw [decide_eq_false e, Bool.and_false]
    rcases Nat.mod_two_eq_zero_or_one i with h | h <;> rw [h]
    · rw [Nat.zero_mul, Nat.zero_testBit]
    · rw [Nat.one_mul, Nat.testBit_two_pow, decide_eq_false e]
theorem rev_even {m i : Nat} (h : i % 2 = 0) : revN (m + 1) i = revN m (i / 2) ∧ revN (m + 1) (i + 1) = revN (m + 1) i + 2 ^ m := by
  have e1 : revN (m + 1) i = revN m (i / 2) + i % 2 * 2 ^ m := rfl
  have e2 : revN (m + 1) (i + 1) = revN m ((i + 1) / 2) + (i + 1) % 2 * 2 ^ m := rfl
  rw [e1, e2, show (i + 1) / 2 = i / 2 by omega, show (i + 1) % 2 = 1 by omega, h]
  omega
theorem rev_odd {m i : Nat} (h : i % 2 = 1) : revN (m + 1) i = revN m (i / 2) + 2 ^ m ∧ revN (m + 1) (i + 1) = revN m (i / 2 + 1) := by
  have e1 : revN (m + 1) i = revN m (i / 2) + i % 2 * 2 ^ m := rfl
  have e2 : revN (m + 1) (i + 1) = revN m ((i + 1) / 2) + (i + 1) % 2 * 2 ^ m := rfl
  rw [e1, e2, show (i + 1) / 2 = i / 2 + 1 by omega, show (i + 1) % 2 = 0 by omega, h]
  omega
theorem wrap_pow2 {k : Nat} (h : k ≤ 62) : wrap64 (2 ^ k) = ((2 ^ k : Nat) : Int) := by
  have h1 : 2 ^ k ≤ 2 ^ 62 := Nat.pow_le_pow_right (by omega) h
  have h2 : ((2 ^ k : Nat) : Int) = (2 : Int) ^ k := by rw [Int.natCast_pow]; rfl
  rw [← h2]
  generalize 2 ^ k = N at *
  unfold wrap64
  omega
theorem pow2_inj {k l : Nat} (h : 2 ^ k = 2 ^ l) : k = l := by
  rcases Nat.lt_trichotomy k l with h1 | h1 | h1
  · have := Nat.pow_lt_pow_right (a := 2) (by omega) h1; omega
  · exact h1
  · have := Nat.pow_lt_pow_right (a := 2) (by omega) h1; omega

/-! ### Roots -/

/-! ### Lengths -/

end Go.Proofs.Ytombcjdhjcmhhaa
