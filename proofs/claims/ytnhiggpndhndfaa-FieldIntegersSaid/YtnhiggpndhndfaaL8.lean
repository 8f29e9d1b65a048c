/- FieldIntegers, the walk: FromInt respects sums, differences and products of integers below 2^31 in magnitude, and is injective. -/
import Derived.Test.YtnhiggpndhndfaaW4
import Derived.Test.YtnhiggpndhndfaaL0
import Derived.Deep.QuietTactic
import Derived.BigQuiet
import Derived.Test.YtnhiggpndhndfaaL1
namespace Go.Proofs.Ytnhiggpndhndfaa
open Go.RowKit Gold

theorem fred_add (m n : Int) : fadd (fred m) (fred n) = fred (m + n) := by unfold fadd fred; omega
theorem fred_sub (m n : Int) : fsub (fred m) (fred n) = fred (m - n) := by unfold fsub fred; omega
theorem fred_neg (m : Int) : fneg (fred m) = fred (-m) := by unfold fneg fred; omega
theorem fred_mul (m n : Int) : fmul (fred m) (fred n) = fred (m * n) := by
  unfold fmul fred
  rw [mulmod_left, Int.mul_comm, mulmod_left, Int.mul_comm]
theorem prod_range {m n : Int} (hm : -2147483648 ≤ m ∧ m < 2147483648) (hn : -2147483648 ≤ n ∧ n < 2147483648) : -4611686018427387904 ≤ m * n ∧ m * n ≤ 4611686018427387904 := by
  have key : ∀ a b : Int, 0 ≤ a → a ≤ 2147483648 → 0 ≤ b → b ≤ 2147483648 → 0 ≤ a * b ∧ a * b ≤ 4611686018427387904 := fun a b h1 h2 h3 h4 =>
    ⟨Int.mul_nonneg h1 h3, Int.le_trans (Int.mul_le_mul h2 h4 h3 (by decide)) (by decide)⟩
  rcases Int.le_total 0 m with h1 | h1 <;> rcases Int.le_total 0 n with h2 | h2
  · have := key m n h1 (by omega) h2 (by omega); omega
  · have := key m (-n) h1 (by omega) (by omega) (by omega); rw [Int.mul_neg] at this; omega
  · have := key (-m) n (by omega) (by omega) h2 (by omega); rw [Int.neg_mul] at this; omega
  · have := key (-m) (-n) (by omega) (by omega) (by omega) (by omega); rw [Int.neg_mul_neg] at this; omega

set_option maxHeartbeats 1000000 in
set_option maxRecDepth 100000 in
theorem integers_any (m n : Int) (w : World) (hm : -2147483648 ≤ m ∧ m < 2147483648) (hn : -2147483648 ≤ n ∧ n < 2147483648) :
    Calls Try.prog 10 #[.int .i32 m, .int .i32 n] w fun e w' => e = .returned (.bool true) ∧ Below w.heap.size w w' := by
  have hp := prod_range hm hn
  have e1 := beq_of (fred_add m n)
  have e2 := beq_of (fred_sub m n)
  have e3 := beq_of (fred_mul m n)
  have e4 := beq_of (fred_neg m)
  have e5 : ((fred m == fred n) == (m == n)) = true := by
    by_cases h : m = n
    · subst h; simp
    · have h2 : fred m ≠ fred n := by unfold fred; omega
      rw [beq_not h, beq_not h2]; rfl
  go_enter Try.func10, Try.ntmps10
  go_wp2_with (go_at_call 11; refine (sanity_any _).mono ?_; rintro e w1 ⟨rfl, hB⟩; have HB := Lib.hid hB; clear hB)
  go_wp2_with (first
    | (go_at_call 20; refine (fromInt_any _ _ (by omega) (by omega)).mono ?_; rintro e w' ⟨rfl, rfl⟩)
    | (go_at_call 22; refine (add_any _ _ _ (by first | assumption | exact El_fadd _ _ | exact El_fmul _ _ | exact El_fsub _ _ | exact El_fneg _ | exact El_fpow _ _ | exact El_finv _ | exact El_fred _ | exact El_zero | exact El_one) (by first | assumption | exact El_fadd _ _ | exact El_fmul _ _ | exact El_fsub _ _ | exact El_fneg _ | exact El_fpow _ _ | exact El_finv _ | exact El_fred _ | exact El_zero | exact El_one)).mono ?_; rintro e w' ⟨rfl, rfl⟩)
    | (go_at_call 24; refine (sub_any _ _ _ (by first | assumption | exact El_fadd _ _ | exact El_fmul _ _ | exact El_fsub _ _ | exact El_fneg _ | exact El_fpow _ _ | exact El_finv _ | exact El_fred _ | exact El_zero | exact El_one) (by first | assumption | exact El_fadd _ _ | exact El_fmul _ _ | exact El_fsub _ _ | exact El_fneg _ | exact El_fpow _ _ | exact El_finv _ | exact El_fred _ | exact El_zero | exact El_one)).mono ?_; rintro e w' ⟨rfl, rfl⟩)
    | (go_at_call 26; refine (neg_any _ _ (by first | assumption | exact El_fadd _ _ | exact El_fmul _ _ | exact El_fsub _ _ | exact El_fneg _ | exact El_fpow _ _ | exact El_finv _ | exact El_fred _ | exact El_zero | exact El_one)).mono ?_; rintro e w' ⟨rfl, rfl⟩)
    | (go_at_call 28; refine (mul_any _ _ _ (El.u64 (by first | assumption | exact El_fadd _ _ | exact El_fmul _ _ | exact El_fsub _ _ | exact El_fneg _ | exact El_fpow _ _ | exact El_finv _ | exact El_fred _ | exact El_zero | exact El_one)) (El.u64 (by first | assumption | exact El_fadd _ _ | exact El_fmul _ _ | exact El_fsub _ _ | exact El_fneg _ | exact El_fpow _ _ | exact El_finv _ | exact El_fred _ | exact El_zero | exact El_one))).mono ?_; rintro e w' ⟨rfl, rfl⟩)
    | (go_at_call 18; refine (rvalid_yes _ _ (by first | assumption | exact El_fadd _ _ | exact El_fmul _ _ | exact El_fsub _ _ | exact El_fneg _ | exact El_fpow _ _ | exact El_finv _ | exact El_fred _ | exact El_zero | exact El_one)).mono ?_; rintro e w' ⟨rfl, rfl⟩))
  go_ret
  exact ⟨rfl, HB.out⟩

end Go.Proofs.Ytnhiggpndhndfaa
