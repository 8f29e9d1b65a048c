/- The algebra of the field of 2^64 - 2^32 + 1 elements that the laws compare by: ring laws, inverses, powers; no conditions but that the numbers are field elements. -/
import Derived.Test.YtombcjdhjcmhhaaFe
namespace Gold
set_option maxRecDepth 8000

theorem fadd_comm (a b : Int) : fadd a b = fadd b a := by unfold fadd; rw [Int.add_comm]
theorem fmul_comm (a b : Int) : fmul a b = fmul b a := by unfold fmul; rw [Int.mul_comm]
theorem fadd_assoc (a b c : Int) : fadd (fadd a b) c = fadd a (fadd b c) := by unfold fadd; omega
theorem fmul_assoc (a b c : Int) : fmul (fmul a b) c = fmul a (fmul b c) := by
  unfold fmul
  rw [mulmod_left, Int.mul_comm a (b * c % _), mulmod_left, Int.mul_comm (b * c), Int.mul_assoc]
theorem fmul_fadd (a b c : Int) : fmul (fadd a b) c = fadd (fmul a c) (fmul b c) := by
  unfold fmul fadd
  rw [mulmod_left, Int.add_mul]
  generalize a * c = x
  generalize b * c = y
  omega
theorem fadd_zero {a : Int} (h : El a) : fadd a 0 = a := by unfold fadd; unfold El at h; omega
theorem fmul_one {a : Int} (h : El a) : fmul a 1 = a := by unfold fmul; unfold El at h; omega
theorem fmul_zero (a : Int) : fmul a 0 = 0 := by unfold fmul; omega
theorem El_zero : El 0 := by unfold El; omega
theorem beq_of {a b : Int} (h : a = b) : (a == b) = true := by simp [h]
theorem beq_not {a b : Int} (h : a ≠ b) : (a == b) = false := by simp [h]
theorem bne_of {a b : Int} (h : a = b) : (a != b) = false := by simp [h]
theorem bne_not {a b : Int} (h : a ≠ b) : (a != b) = true := by simp [h]

theorem fadd_fneg (a : Int) : fadd a (fneg a) = 0 := by unfold fadd fneg; omega
theorem fneg_fneg {a : Int} (h : El a) : fneg (fneg a) = a := by unfold fneg; unfold El at h; omega
theorem fsub_eq (a b : Int) : fsub a b = fadd a (fneg b) := by unfold fsub fadd fneg; omega
theorem fadd_fsub {a : Int} (b : Int) (h : El a) : fadd (fsub a b) b = a := by unfold fadd fsub; unfold El at h; omega
theorem fmul_fneg (a b : Int) : fmul (fneg a) b = fneg (fmul a b) := by
  unfold fmul fneg
  rw [mulmod_left, Int.neg_mul]
  generalize a * b = x
  omega

theorem fmul_ne_zero {a b : Int} (ha : El a) (hb : El b) (h0 : a ≠ 0) (h1 : b ≠ 0) : fmul a b ≠ 0 := by
  intro h
  exact h1 (fmul_cancel ha h0 hb El_zero (h.trans (fmul_zero a).symm))
theorem El_finv (a : Int) : El (finv a) := El_fpow _ _
theorem finv_ne_zero {a : Int} (ha : El a) (h0 : a ≠ 0) : finv a ≠ 0 := by
  intro h
  have := fmul_finv ha h0
  rw [h, fmul_zero] at this
  omega
theorem finv_finv {a : Int} (ha : El a) (h0 : a ≠ 0) : finv (finv a) = a := by
  refine fmul_cancel (a := finv a) (El_finv _) (finv_ne_zero ha h0) (El_finv _) ha ?_
  rw [fmul_finv (El_finv _) (finv_ne_zero ha h0), fmul_comm, fmul_finv ha h0]
theorem finv_fmul {a b : Int} (ha : El a) (hb : El b) (h0 : a ≠ 0) (h1 : b ≠ 0) : finv (fmul a b) = fmul (finv a) (finv b) := by
  refine fmul_cancel (El_fmul a b) (fmul_ne_zero ha hb h0 h1) (El_fpow _ _) (El_fmul _ _) ?_
  rw [fmul_finv (El_fmul a b) (fmul_ne_zero ha hb h0 h1), fmul_assoc, fmul_comm b, fmul_assoc, fmul_comm (finv b), fmul_finv hb h1, fmul_one (El_finv _), fmul_finv ha h0]

theorem fpow_add (a m n : Int) (hm : 0 ≤ m) (hn : 0 ≤ n) : fmul (fpow a m) (fpow a n) = fpow a (m + n) := by
  unfold fmul fpow
  rw [mulmod_left, Int.mul_comm, mulmod_left, Int.mul_comm, ← Int.pow_add, Int.toNat_add hm hn]
theorem fpow_mul (a m n : Int) (hm : 0 ≤ m) (hn : 0 ≤ n) : fpow (fpow a m) n = fpow a (m * n) := by
  unfold fpow
  rw [powmod, ← Int.pow_mul, Int.toNat_mul hm hn]
theorem fpow_fmul (a b n : Int) : fpow (fmul a b) n = fmul (fpow a n) (fpow b n) := by
  unfold fpow fmul
  rw [powmod, mulmod_left, Int.mul_comm (a ^ _), mulmod_left, Int.mul_pow, Int.mul_comm]
theorem fpow_zero (a : Int) : fpow a 0 = 1 := by
  unfold fpow
  show a ^ 0 % _ = 1
  rw [Int.pow_zero]
  rfl
theorem fpow_one {a : Int} (h : El a) : fpow a 1 = a := by
  unfold fpow
  show a ^ 1 % _ = a
  rw [Int.pow_succ, Int.pow_zero, Int.one_mul]
  exact h.mod
theorem fpow_two (a : Int) : fpow a 2 = fmul a a := by
  unfold fpow fmul
  show a ^ 2 % _ = _
  rw [Int.pow_succ, Int.pow_succ, Int.pow_zero, Int.one_mul]
theorem fpow_order {a : Int} (ha : El a) : fpow a 18446744069414584321 = a := by
  have e := fpow_nat ha P
  rw [P_prime.fermat] at e
  refine Eq.trans (show fpow a 18446744069414584321 = fpow a ((P : Nat) : Int) from rfl) (e.trans ?_)
  have hP : P = 18446744069414584321 := rfl
  unfold El at ha
  rw [Nat.mod_eq_of_lt (by omega)]
  omega
theorem fpow_half {a : Int} (ha : El a) (h0 : a ≠ 0) : fpow a 9223372034707292160 = 1 ∨ fpow a 9223372034707292160 = 18446744069414584320 := by
  have hs : fmul (fpow a 9223372034707292160) (fpow a 9223372034707292160) = 1 := by
    rw [fpow_add _ _ _ (by omega) (by omega)]
    exact fpow_fermat ha h0
  have hE := El_fpow a 9223372034707292160
  generalize fpow a 9223372034707292160 = s at *
  by_cases h1 : s = 1
  · exact Or.inl h1
  · right
    -- (s - 1)(s + 1) = 0
    have h2 : fsub s 1 ≠ 0 := by unfold fsub; unfold El at hE; omega
    have h3 : fmul (fsub s 1) (fadd s 1) = fmul (fsub s 1) 0 := by
      rw [fmul_zero, fsub_eq, fmul_fadd, fmul_comm s, fmul_fadd, hs, fmul_comm 1 s, fmul_one hE, fmul_fneg, fmul_comm 1, fmul_one (El_fadd _ _)]
      unfold fadd fneg
      omega
    have h4 := fmul_cancel (El_fsub s 1) h2 (El_fadd s 1) El_zero h3
    unfold fadd at h4
    unfold El at hE
    omega

end Gold
