/- Roots of unity of the field, without any program: squares, powers of two, and the sum of all powers of a primitive root; no conditions but the ranges of the exponents. -/
import Derived.Test.YtombcjdhjcmhhaaFieldL
namespace Gold
set_option maxRecDepth 8000

def froot (k : Int) : Int := fpow 7 (18446744069414584320 / 2 ^ k.toNat)
theorem El_froot (k : Int) : El (froot k) := El_fpow _ _
theorem El_seven : El 7 := by unfold El; omega

/-- a power of two -/
def pw2 (s : Nat) : Int := 2 ^ s
theorem pw2_succ (s : Nat) : pw2 (s + 1) = pw2 s * 2 := by unfold pw2; rw [Int.pow_succ]
theorem pw2_le : ∀ (s : Nat), s ≤ 32 → 1 ≤ pw2 s ∧ pw2 s ≤ 4294967296 := by
  intro s hs
  have h : ∀ t : Fin 33, 1 ≤ pw2 t.val ∧ pw2 t.val ≤ 4294967296 := by decide
  exact h ⟨s, by omega⟩

theorem halves : ∀ t : Fin 32, 18446744069414584320 / (2 : Int) ^ (t.val + 1) + 18446744069414584320 / (2 : Int) ^ (t.val + 1) = 18446744069414584320 / (2 : Int) ^ t.val := by decide
theorem halves_nonneg (k : Nat) : (0 : Int) ≤ 18446744069414584320 / 2 ^ k := Int.ediv_nonneg (by decide) (Int.le_of_lt (Int.pow_pos (by decide)))
theorem halves_pow : ∀ t : Fin 32, 18446744069414584320 / (2 : Int) ^ (t.val + 1) * pw2 t.val = 9223372034707292160 := by decide

theorem seven_half : fpow 7 9223372034707292160 = 18446744069414584320 := by
  have h := fpow_nat El_seven 9223372034707292160
  have e := pm_eq 64 7 9223372034707292160 (by decide)
  rw [show Int.toNat 7 = 7 from rfl, ← e, minus_one] at h
  exact h

theorem froot_nat (k : Int) (t : Nat) (h : k.toNat = t) : froot k = fpow 7 (18446744069414584320 / 2 ^ t) := by unfold froot; rw [h]

theorem froot_sq (k : Int) (h : 0 ≤ k ∧ k < 32) : fmul (froot (1 + k)) (froot (1 + k)) = froot (1 + k - 1) := by
  rw [froot_nat (1 + k) (k.toNat + 1) (by omega), froot_nat (1 + k - 1) k.toNat (by omega), fpow_add _ _ _ (halves_nonneg _) (halves_nonneg _), halves ⟨k.toNat, by omega⟩]

theorem froot_half (k : Int) (s : Nat) (h : 0 ≤ k ∧ k < 32) (hs : (s : Int) = k) : fpow (froot (1 + k)) (pw2 s) = 18446744069414584320 := by
  rw [froot_nat (1 + k) (s + 1) (by omega), fpow_mul _ _ _ (halves_nonneg _) (by have := pw2_le s (by omega); omega), halves_pow ⟨s, by omega⟩, seven_half]

theorem froot_full (k : Int) (s : Nat) (h : 0 ≤ k ∧ k < 32) (hs : (s : Int) = k) : fpow (froot (1 + k)) (2 * pw2 s) = 1 := by
  have hp := pw2_le s (by omega)
  rw [Int.mul_comm, ← fpow_mul _ _ _ (by omega) (by omega), froot_half k s h hs, fpow_two]
  unfold fmul
  omega

/-- the sum of the first t powers of u -/
def gsum (u : Int) : Nat → Int
  | 0 => 0
  | t + 1 => fadd (gsum u t) (fpow u t)
theorem El_gsum (u : Int) : ∀ t, El (gsum u t)
  | 0 => El_zero
  | _ + 1 => El_fadd _ _

theorem fsub_one_mul (u p : Int) : fmul (fsub u 1) p = fsub (fmul u p) p := by
  unfold fmul fsub
  rw [mulmod_left, Int.sub_mul, Int.one_mul]
  generalize u * p = x
  omega

theorem gsum_geo (u : Int) : ∀ t : Nat, fmul (fsub u 1) (gsum u t) = fsub (fpow u t) 1
  | 0 => by
    rw [show ((0 : Nat) : Int) = 0 from rfl, fpow_zero]
    exact fmul_zero _
  | t + 1 => by
    have ih := gsum_geo u t
    show fmul (fsub u 1) (fadd (gsum u t) (fpow u t)) = _
    rw [fmul_comm, fmul_fadd, fmul_comm, ih, fmul_comm (fpow u t), fsub_one_mul, fpow_succ]
    unfold fadd fsub
    omega

theorem fpow_base_one (n : Int) : fpow 1 n = 1 := by
  unfold fpow
  rw [Int.one_pow]
  rfl

theorem gsum_root (j : Int) (t : Nat) (h : 0 ≤ j ∧ j < 32) (ht : (t : Int) = pw2 (j.toNat + 1)) : gsum (froot (1 + j)) t = 0 ∧ fpow (froot (1 + j)) t = 1 := by
  have e : fpow (froot (1 + j)) t = 1 := by
    rw [ht, pw2_succ, Int.mul_comm]
    exact froot_full j j.toNat h (by omega)
  refine ⟨?_, e⟩
  have hg := gsum_geo (froot (1 + j)) t
  rw [e] at hg
  have hu : froot (1 + j) ≠ 1 := by
    intro h1
    have := froot_half j j.toNat h (by omega)
    rw [h1, fpow_base_one] at this
    omega
  have hE := El_froot (1 + j)
  refine fmul_cancel (El_fsub (froot (1 + j)) 1) ?_ (El_gsum _ _) El_zero ?_
  · unfold fsub
    unfold El at hE
    omega
  · rw [hg, fmul_zero]
    rfl

end Gold
