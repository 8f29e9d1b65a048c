/- The field of 2^64 - 2^32 + 1 elements as a type of its own, its extension by a square root of 7, and what the numbers of a program say in them; no program, no conditions. -/
import Derived.Test.YtombcjdhjcmhhaaFieldL
namespace Gold
set_option maxRecDepth 8000

/-- the field -/
abbrev F := Fin 18446744069414584321

theorem P_eq : P = 18446744069414584321 := rfl
/-- the number that stands for a field element in a program -/
def vF (x : F) : Int := (x.val : Int)
/-- the field element of an integer -/
def toF (a : Int) : F := ⟨(a % 18446744069414584321).toNat, by omega⟩

theorem El_vF (x : F) : El (vF x) := by unfold El vF; have := x.isLt; omega
theorem vF_toF (a : Int) : vF (toF a) = fred a := by unfold vF toF fred; simp only; omega
theorem vF_toF_El {a : Int} (h : El a) : vF (toF a) = a := by rw [vF_toF]; unfold fred; exact h.mod
theorem toF_vF (x : F) : toF (vF x) = x := by
  apply Fin.ext
  unfold toF vF
  have := x.isLt
  simp only
  omega
theorem vF_inj {x y : F} (h : vF x = vF y) : x = y := by rw [← toF_vF x, h, toF_vF]
theorem El_some {a : Int} (h : El a) : ∃ x : F, a = vF x := ⟨toF a, (vF_toF_El h).symm⟩
theorem beq_vF (x y : F) : (vF x == vF y) = decide (x = y) := by
  by_cases h : x = y
  · subst h; simp
  · have : vF x ≠ vF y := fun e => h (vF_inj e)
    simp [h, this]
theorem vF_zero : vF 0 = 0 := rfl
theorem vF_one : vF 1 = 1 := rfl
theorem vF_seven : vF 7 = 7 := rfl

theorem vF_add (x y : F) : fadd (vF x) (vF y) = vF (x + y) := by
  unfold fadd vF
  rw [Fin.val_add]
  omega
theorem vF_neg (x : F) : fneg (vF x) = vF (-x) := by
  unfold fneg vF
  have : (-x).val = (18446744069414584321 - x.val) % 18446744069414584321 := rfl
  rw [this]
  have := x.isLt
  omega
theorem vF_sub (x y : F) : fsub (vF x) (vF y) = vF (x - y) := by
  have e : x - y = x + -y := by grind
  rw [e, ← vF_add, ← vF_neg, fsub_eq]
theorem vF_mul (x y : F) : fmul (vF x) (vF y) = vF (x * y) := by
  unfold fmul vF
  rw [Fin.val_mul]
  rw [Int.natCast_emod, Int.natCast_mul]
  rfl
theorem vF_pow (x : F) (n : Nat) : fpow (vF x) n = vF (x ^ n) := by
  induction n with
  | zero =>
    rw [show ((0 : Nat) : Int) = 0 from rfl, fpow_zero, show x ^ 0 = 1 by grind]
    rfl
  | succ n ih =>
    rw [← fpow_succ, ih, vF_mul, show x * x ^ n = x ^ (n + 1) by grind]
theorem vF_pow_int (x : F) (n : Int) (h : 0 ≤ n) : fpow (vF x) n = vF (x ^ n.toNat) := by
  rw [← vF_pow, Int.toNat_of_nonneg h]

/-- the inverse -/
def invF (x : F) : F := x ^ 18446744069414584319
theorem vF_inv (x : F) : finv (vF x) = vF (invF x) := vF_pow x 18446744069414584319

theorem vF_ne_zero {x : F} (h : x ≠ 0) : vF x ≠ 0 := fun e => h (vF_inj e)
theorem mul_invF {x : F} (h : x ≠ 0) : x * invF x = 1 := by
  apply vF_inj
  rw [← vF_mul, ← vF_inv]
  exact fmul_finv (El_vF x) (vF_ne_zero h)
theorem F_cancel {x y z : F} (h : x ≠ 0) (e : x * y = x * z) : y = z := by
  have h1 := mul_invF h
  grind
theorem F_zero_divisor {x y : F} (e : x * y = 0) : x = 0 ∨ y = 0 := by
  by_cases h : x = 0
  · exact Or.inl h
  · right
    refine F_cancel h (e.trans ?_)
    grind
theorem invF_ne_zero {x : F} (h : x ≠ 0) : invF x ≠ 0 := by
  intro e
  have h1 := mul_invF h
  rw [e] at h1
  have : x * 0 = 0 := by grind
  rw [this] at h1
  exact absurd h1 (by decide)
theorem inv_unique {x y : F} (e : x * y = 1) : y = invF x := by
  have h : x ≠ 0 := by
    rintro rfl
    have : (0 : F) * y = 0 := by grind
    rw [this] at e
    exact absurd e (by decide)
  exact F_cancel h (e.trans (mul_invF h).symm)
theorem F_zero_pow (n : Nat) (h : 0 < n) : (0 : F) ^ n = 0 := by
  obtain ⟨m, rfl⟩ : ∃ m, n = m + 1 := ⟨n - 1, by omega⟩
  rw [show (0 : F) ^ (m + 1) = 0 ^ m * 0 by grind]
  grind
theorem invF_zero : invF 0 = 0 := F_zero_pow 18446744069414584319 (by omega)
theorem F_fermat (x : F) : x ^ 18446744069414584321 = x := by
  apply vF_inj
  rw [← vF_pow]
  exact fpow_order (El_vF x)
theorem F_fermat_one {x : F} (h : x ≠ 0) : x ^ 18446744069414584320 = 1 := by
  apply vF_inj
  rw [← vF_pow]
  exact fpow_fermat (El_vF x) (vF_ne_zero h)
theorem F_pow_mul (x : F) (m n : Nat) : x ^ (m * n) = (x ^ m) ^ n := by
  induction n with
  | zero => grind
  | succ n ih => rw [show m * (n + 1) = m * n + m by rfl, show x ^ (m * n + m) = x ^ (m * n) * x ^ m by grind, ih, show (x ^ m) ^ (n + 1) = (x ^ m) ^ n * x ^ m by grind]
theorem F_mul_pow (x y : F) (n : Nat) : (x * y) ^ n = x ^ n * y ^ n := by
  induction n with
  | zero => grind
  | succ n ih => rw [show (x * y) ^ (n + 1) = (x * y) ^ n * (x * y) by grind, ih]; grind

theorem seven_half_F : (7 : F) ^ 9223372034707292160 = -1 := by
  apply vF_inj
  rw [← vF_pow]
  exact (show fpow 7 9223372034707292160 = 18446744069414584320 by
    have h := fpow_nat (a := 7) (by unfold El; omega) 9223372034707292160
    have e := pm_eq 64 7 9223372034707292160 (by decide)
    rw [show Int.toNat 7 = 7 from rfl, ← e, minus_one] at h
    exact h)

/-- 7 is no square -/
theorem seven_no_square (x : F) : x * x ≠ 7 := by
  intro h
  have h0 : x ≠ 0 := by
    rintro rfl
    exact absurd h (by decide)
  have e : (x * x) ^ 9223372034707292160 = 1 := by
    rw [show x * x = x ^ 2 by grind, ← F_pow_mul]
    exact F_fermat_one h0
  rw [h, seven_half_F] at e
  exact absurd e (by decide)

end Gold
