/- Contract of the laws' own fixed examples: they come out true, and memory is only added to; no conditions. -/
import Derived.Test.YtnhiggpndhndfaaW3
namespace Go.Proofs.Ytnhiggpndhndfaa
open Go.RowKit Gold

theorem fpow_lit (a n : Nat) (ha : a < P) (hn : n < 2 ^ 64) : fpow a n = ((pm 64 a n % P : Nat) : Int) := by
  have h : El (a : Int) := by
    have hP : P = 18446744069414584321 := rfl
    unfold El; omega
  rw [fpow_nat h, pm_eq 64 a n hn]
  rfl

theorem finv_two : finv 2 = 9223372034707292161 := by
  refine fmul_cancel (a := 2) (by unfold El; omega) (by omega) (El_fpow _ _) (by unfold El; omega) ?_
  rw [fmul_finv (by unfold El; omega) (by omega)]
  unfold fmul
  omega

theorem root_one : fpow 7 (18446744069414584320 / 2 ^ 1) = 18446744069414584320 := by
  have h := fpow_lit 7 9223372034707292160 (by decide) (by decide)
  rw [show pm 64 7 9223372034707292160 % P = 18446744069414584320 by decide +kernel] at h
  exact h

theorem root_zero : fpow 7 (18446744069414584320 / 2 ^ 0) = 1 := by
  have h := fpow_lit 7 18446744069414584320 (by decide) (by decide)
  rw [show pm 64 7 18446744069414584320 % P = 1 by decide +kernel] at h
  exact h

theorem root_last : fpow 7 (18446744069414584320 / 2 ^ 32) = 1753635133440165772 := by
  have h := fpow_lit 7 4294967295 (by decide) (by decide)
  rw [show pm 64 7 4294967295 % P = 1753635133440165772 by decide +kernel] at h
  exact h

theorem root_at1 (w : World) : Calls Try.prog 15 #[.int .i64 1] w fun e w' => e = .returned (.tuple #[.int .u64 18446744069414584320, .int .i64 0]) ∧ w' = w := by
  have h := root_nat 1 w (by omega)
  rw [root_one] at h
  exact h
theorem root_at0 (w : World) : Calls Try.prog 15 #[.int .i64 0] w fun e w' => e = .returned (.tuple #[.int .u64 1, .int .i64 0]) ∧ w' = w := by
  have h := root_nat 0 w (by omega)
  rw [root_zero] at h
  exact h
theorem root_at32 (w : World) : Calls Try.prog 15 #[.int .i64 32] w fun e w' => e = .returned (.tuple #[.int .u64 1753635133440165772, .int .i64 0]) ∧ w' = w := by
  have h := root_nat 32 w (by omega)
  rw [root_last] at h
  exact h
theorem inv_at2 (w : World) : Calls Try.prog 13 #[.int .u64 2] w fun e w' => e = .returned (.tuple #[.int .u64 9223372034707292161, .int .i64 0]) ∧ Below w.heap.size w w' := by
  have h := inv_any 2 w (by unfold El; omega) (by omega)
  rw [finv_two] at h
  exact h

theorem reduce_lit (a c : Int) (w : World) (ha : U64 a) (h : fred a = c) : Calls Try.prog 19 #[.int .u64 a] w fun e w' => e = .returned (.int .u64 c) ∧ w' = w := h ▸ reduce_any a w ha
theorem fromInt_lit (a c : Int) (w : World) (ha : -9223372036854775808 ≤ a ∧ a < 9223372036854775808) (h : fred a = c) : Calls Try.prog 20 #[.int .i64 a] w fun e w' => e = .returned (.int .u64 c) ∧ w' = w := h ▸ fromInt_any a w ha.1 ha.2
theorem add_lit (a b c : Int) (w : World) (ha : El a) (hb : El b) (h : fadd a b = c) : Calls Try.prog 22 #[.int .u64 a, .int .u64 b] w fun e w' => e = .returned (.int .u64 c) ∧ w' = w := h ▸ add_any a b w ha hb
theorem sub_lit (a b c : Int) (w : World) (ha : El a) (hb : El b) (h : fsub a b = c) : Calls Try.prog 24 #[.int .u64 a, .int .u64 b] w fun e w' => e = .returned (.int .u64 c) ∧ w' = w := h ▸ sub_any a b w ha hb
theorem neg_lit (a c : Int) (w : World) (ha : El a) (h : fneg a = c) : Calls Try.prog 26 #[.int .u64 a] w fun e w' => e = .returned (.int .u64 c) ∧ w' = w := h ▸ neg_any a w ha
theorem mul_lit (a b c : Int) (w : World) (ha : El a) (hb : El b) (h : fmul a b = c) : Calls Try.prog 28 #[.int .u64 a, .int .u64 b] w fun e w' => e = .returned (.int .u64 c) ∧ w' = w := h ▸ mul_any a b w ha.u64 hb.u64
theorem pow_lit (a n c : Int) (w : World) (ha : El a) (hn : U64 n) (h : fpow a n = c) : Calls Try.prog 30 #[.int .u64 a, .int .u64 n] w fun e w' => e = .returned (.int .u64 c) ∧ w' = w := h ▸ pow_any a n w ha hn
theorem valid_yes (a : Int) (w : World) (h : El a) : Calls Try.prog 17 #[.int .u64 a] w fun e w' => e = .returned (.bool true) ∧ w' = w := by
  have e := valid_any a w
  rw [show decide (a < 18446744069414584321) = true from decide_eq_true h.2] at e
  exact e
theorem valid_no (a : Int) (w : World) (h : 18446744069414584321 ≤ a) : Calls Try.prog 17 #[.int .u64 a] w fun e w' => e = .returned (.bool false) ∧ w' = w := by
  have e := valid_any a w
  rw [show decide (a < 18446744069414584321) = false from decide_eq_false (by omega)] at e
  exact e
theorem pow00 : fpow 0 0 = 1 := rfl
theorem pow75 : fpow 7 5 = 16807 := by
  unfold fpow
  decide

set_option maxHeartbeats 1000000 in
set_option maxRecDepth 100000 in
theorem sanity_any (w : World) : Calls Try.prog 11 #[] w fun e w' => e = .returned (.bool true) ∧ Below w.heap.size w w' := by
  go_enter Try.func11, Try.ntmps11
  go_wp2_with (first
    | (go_at_call 13; ((with_reducible refine (inv_at2 _).mono ?_)); rintro e w1 ⟨rfl, hB1⟩)
    | (go_at_call 13; ((with_reducible refine (inv_zero _).mono ?_)); rintro e w2 ⟨rfl, hB2⟩)
    | (go_at_call 15; ((with_reducible refine (root_at1 _).mono ?_)); rintro e w' ⟨rfl, rfl⟩)
    | (go_at_call 15; ((with_reducible refine (root_at0 _).mono ?_)); rintro e w' ⟨rfl, rfl⟩)
    | (go_at_call 15; ((with_reducible refine (root_at32 _).mono ?_)); rintro e w' ⟨rfl, rfl⟩)
    | (go_at_call 15; ((with_reducible refine (root_no _ _ (by omega)).mono ?_)); rintro e w' ⟨rfl, rfl⟩)
    | (go_at_call 17; ((with_reducible refine (valid_yes 18446744069414584320 _ (by unfold El; omega)).mono ?_)); rintro e w' ⟨rfl, rfl⟩)
    | (go_at_call 17; ((with_reducible refine (valid_no 18446744069414584321 _ (by omega)).mono ?_)); rintro e w' ⟨rfl, rfl⟩)
    | (go_at_call 19; ((with_reducible refine (reduce_lit 18446744073709551615 4294967294 _ (by unfold U64; omega) (by unfold fred; omega)).mono ?_)); rintro e w' ⟨rfl, rfl⟩)
    | (go_at_call 20; ((with_reducible refine (fromInt_lit (-1) 18446744069414584320 _ (by omega) (by unfold fred; omega)).mono ?_)); rintro e w' ⟨rfl, rfl⟩)
    | (go_at_call 20; ((with_reducible refine (fromInt_lit (-9223372036854775808) 9223372032559808513 _ (by omega) (by unfold fred; omega)).mono ?_)); rintro e w' ⟨rfl, rfl⟩)
    | (go_at_call 20; ((with_reducible refine (fromInt_lit 5 5 _ (by omega) (by unfold fred; omega)).mono ?_)); rintro e w' ⟨rfl, rfl⟩)
    | (go_at_call 22; ((with_reducible refine (add_lit 18446744069414584320 2 1 _ (by unfold El; omega) (by unfold El; omega) (by unfold fadd; omega)).mono ?_)); rintro e w' ⟨rfl, rfl⟩)
    | (go_at_call 24; ((with_reducible refine (sub_lit 0 1 18446744069414584320 _ (by unfold El; omega) (by unfold El; omega) (by unfold fsub; omega)).mono ?_)); rintro e w' ⟨rfl, rfl⟩)
    | (go_at_call 26; ((with_reducible refine (neg_lit 0 0 _ (by unfold El; omega) (by unfold fneg; omega)).mono ?_)); rintro e w' ⟨rfl, rfl⟩)
    | (go_at_call 26; ((with_reducible refine (neg_lit 1 18446744069414584320 _ (by unfold El; omega) (by unfold fneg; omega)).mono ?_)); rintro e w' ⟨rfl, rfl⟩)
    | (go_at_call 28; ((with_reducible refine (mul_lit 4294967296 4294967296 4294967295 _ (by unfold El; omega) (by unfold El; omega) (by unfold fmul; omega)).mono ?_)); rintro e w' ⟨rfl, rfl⟩)
    | (go_at_call 28; ((with_reducible refine (mul_lit 18446744069414584320 18446744069414584320 1 _ (by unfold El; omega) (by unfold El; omega) (by unfold fmul; omega)).mono ?_)); rintro e w' ⟨rfl, rfl⟩)
    | (go_at_call 30; ((with_reducible refine (pow_lit 0 0 1 _ (by unfold El; omega) (by unfold U64; omega) pow00).mono ?_)); rintro e w' ⟨rfl, rfl⟩)
    | (go_at_call 30; ((with_reducible refine (pow_lit 7 5 16807 _ (by unfold El; omega) (by unfold U64; omega) pow75).mono ?_)); rintro e w' ⟨rfl, rfl⟩))
  go_ret
  exact ⟨rfl, hB1.trans (hB2.mono hB1.size)⟩
end Go.Proofs.Ytnhiggpndhndfaa
