/- The extension of the field of 2^64 - 2^32 + 1 elements by a square root X of 7: its ring laws, inverses, conjugation as the power of the order, and powers; no program, no conditions. -/
import Derived.Test.YtombcjdhjcmhhaaGold
import Derived.Test.YtombcjdhjcmhhaaFp
namespace Gold
set_option maxRecDepth 8000

/-- an element A + B X -/
structure E2 where
  A : F
  B : F

namespace E2
theorem ext' {x y : E2} (h : x.A = y.A) (k : x.B = y.B) : x = y := by
  cases x; cases y; cases h; cases k; rfl
theorem ext_iff' {x y : E2} : x = y ↔ x.A = y.A ∧ x.B = y.B := ⟨fun h => h ▸ ⟨rfl, rfl⟩, fun h => ext' h.1 h.2⟩

def add (x y : E2) : E2 := ⟨x.A + y.A, x.B + y.B⟩
def sub (x y : E2) : E2 := ⟨x.A - y.A, x.B - y.B⟩
def neg (x : E2) : E2 := ⟨-x.A, -x.B⟩
def mul (x y : E2) : E2 := ⟨x.A * y.A + 7 * (x.B * y.B), x.A * y.B + x.B * y.A⟩
instance : Add E2 := ⟨add⟩
instance : Sub E2 := ⟨sub⟩
instance : Neg E2 := ⟨neg⟩
instance : Mul E2 := ⟨mul⟩
def ofF (a : F) : E2 := ⟨a, 0⟩
def zero : E2 := ⟨0, 0⟩
def one : E2 := ⟨1, 0⟩
def conj (x : E2) : E2 := ⟨x.A, -x.B⟩
def norm (x : E2) : F := x.A * x.A - 7 * (x.B * x.B)
def inv (x : E2) : E2 := ⟨x.A * invF (norm x), -x.B * invF (norm x)⟩
def pow (x : E2) : Nat → E2
  | 0 => one
  | n + 1 => pow x n * x

theorem add_A (x y : E2) : (x + y).A = x.A + y.A := rfl
theorem add_B (x y : E2) : (x + y).B = x.B + y.B := rfl
theorem sub_A (x y : E2) : (x - y).A = x.A - y.A := rfl
theorem sub_B (x y : E2) : (x - y).B = x.B - y.B := rfl
theorem neg_A (x : E2) : (-x).A = -x.A := rfl
theorem neg_B (x : E2) : (-x).B = -x.B := rfl
theorem mul_A (x y : E2) : (x * y).A = x.A * y.A + 7 * (x.B * y.B) := rfl
theorem mul_B (x y : E2) : (x * y).B = x.A * y.B + x.B * y.A := rfl
theorem zero_A : zero.A = 0 := rfl
theorem zero_B : zero.B = 0 := rfl
theorem one_A : one.A = 1 := rfl
theorem one_B : one.B = 0 := rfl
theorem conj_A (x : E2) : (conj x).A = x.A := rfl
theorem conj_B (x : E2) : (conj x).B = -x.B := rfl
theorem ofF_A (a : F) : (ofF a).A = a := rfl
theorem ofF_B (a : F) : (ofF a).B = 0 := rfl
attribute [local simp] add_A add_B sub_A sub_B neg_A neg_B mul_A mul_B zero_A zero_B one_A one_B conj_A conj_B ofF_A ofF_B

/-! ### Ring laws -/
theorem add_comm (x y : E2) : x + y = y + x := ext' (by simp; grind) (by simp; grind)
theorem add_assoc (x y z : E2) : x + y + z = x + (y + z) := ext' (by simp; grind) (by simp; grind)
theorem mul_comm (x y : E2) : x * y = y * x := ext' (by simp; grind) (by simp; grind)
theorem mul_assoc (x y z : E2) : x * y * z = x * (y * z) := ext' (by simp; grind) (by simp; grind)
theorem mul_add (x y z : E2) : x * (y + z) = x * y + x * z := ext' (by simp; grind) (by simp; grind)
theorem add_mul (x y z : E2) : (x + y) * z = x * z + y * z := ext' (by simp; grind) (by simp; grind)
theorem add_zero (x : E2) : x + zero = x := ext' (by simp; try grind) (by simp; try grind)
theorem zero_add (x : E2) : zero + x = x := ext' (by simp; try grind) (by simp; try grind)
theorem mul_one (x : E2) : x * one = x := ext' (by simp; try grind) (by simp; try grind)
theorem one_mul (x : E2) : one * x = x := ext' (by simp; try grind) (by simp; try grind)
theorem mul_zero (x : E2) : x * zero = zero := ext' (by simp; try grind) (by simp; try grind)
theorem zero_mul (x : E2) : zero * x = zero := ext' (by simp; try grind) (by simp; try grind)
theorem sub_eq (x y : E2) : x - y = x + -y := ext' (by simp; grind) (by simp; grind)
theorem add_neg (x : E2) : x + -x = zero := ext' (by simp; try grind) (by simp; try grind)
theorem neg_neg (x : E2) : -(-x) = x := ext' (by simp; try grind) (by simp; try grind)
theorem neg_mul (x y : E2) : -x * y = -(x * y) := ext' (by simp; grind) (by simp; grind)
theorem mul_left_comm (x y z : E2) : x * (y * z) = y * (x * z) := ext' (by simp; grind) (by simp; grind)
theorem sub_self (x : E2) : x - x = zero := ext' (by simp; try grind) (by simp; try grind)
theorem sub_eq_zero {x y : E2} (h : x - y = zero) : x = y := by
  have h1 := congrArg A h
  have h2 := congrArg B h
  simp at h1 h2
  exact ext' (by grind) (by grind)

/-! ### Inverses -/
theorem norm_ne_zero {x : E2} (h : x ≠ zero) : norm x ≠ 0 := by
  intro e
  unfold norm at e
  by_cases hB : x.B = 0
  · rw [hB] at e
    have hA : x.A * x.A = 0 := by grind
    rcases F_zero_divisor hA with hA | hA <;> exact h (ext' hA hB)
  · have hi := mul_invF hB
    refine seven_no_square (x.A * invF x.B) ?_
    grind
theorem mul_conj (x : E2) : x * conj x = ofF (norm x) := ext' (by simp [norm]; grind) (by simp; grind)
theorem mul_inv {x : E2} (h : x ≠ zero) : x * inv x = one := by
  have hn := mul_invF (norm_ne_zero h)
  apply ext'
  · simp [inv]
    unfold norm at *
    grind
  · simp [inv]
    grind
theorem inv_eq (x : E2) : inv x = conj x * ofF (invF (norm x)) := ext' (by simp [inv]; grind) (by simp [inv]; grind)
theorem mul_cancel {x y z : E2} (h : x ≠ zero) (e : x * y = x * z) : y = z := by
  have h1 := mul_inv h
  have h2 : inv x * (x * y) = inv x * (x * z) := by rw [e]
  rw [← mul_assoc, ← mul_assoc, mul_comm (inv x), h1, one_mul, one_mul] at h2
  exact h2
theorem zero_divisor {x y : E2} (e : x * y = zero) : x = zero ∨ y = zero := by
  by_cases h : x = zero
  · exact Or.inl h
  · right
    exact mul_cancel h (e.trans (mul_zero x).symm)
theorem one_ne_zero : one ≠ zero := by
  intro h
  exact absurd (congrArg A h) (by decide)
theorem inv_ne_zero {x : E2} (h : x ≠ zero) : inv x ≠ zero := by
  intro e
  have h1 := mul_inv h
  rw [e, mul_zero] at h1
  exact one_ne_zero h1.symm
theorem inv_unique {x y : E2} (e : x * y = one) : y = inv x := by
  have h : x ≠ zero := by
    intro h
    rw [h, zero_mul] at e
    exact one_ne_zero e.symm
  exact mul_cancel h (e.trans (mul_inv h).symm)
theorem inv_inv {x : E2} (h : x ≠ zero) : inv (inv x) = x :=
  (inv_unique ((mul_comm (inv x) x).trans (mul_inv h))).symm
theorem inv_ofF (a : F) : inv (ofF a) = ofF (invF a) := by
  by_cases h : a = 0
  · subst h
    apply ext'
    · simp [inv, invF_zero]
      try grind
    · simp [inv]
      grind
  · symm
    apply inv_unique
    have := mul_invF h
    exact ext' (by simp; grind) (by simp; grind)

/-! ### Powers -/
theorem pow_zero (x : E2) : pow x 0 = one := rfl
theorem pow_succ (x : E2) (n : Nat) : pow x (n + 1) = pow x n * x := rfl
theorem pow_one (x : E2) : pow x 1 = x := one_mul x
theorem pow_add (x : E2) (m n : Nat) : pow x (m + n) = pow x m * pow x n := by
  induction n with
  | zero => rw [pow_zero, mul_one]; rfl
  | succ n ih => rw [← Nat.add_assoc, pow_succ, ih, pow_succ, mul_assoc]
theorem pow_mul (x : E2) (m n : Nat) : pow x (m * n) = pow (pow x m) n := by
  induction n with
  | zero => rfl
  | succ n ih => rw [Nat.mul_succ, pow_add, ih, pow_succ]
theorem mul_pow (x y : E2) (n : Nat) : pow (x * y) n = pow x n * pow y n := by
  induction n with
  | zero => rw [pow_zero, pow_zero, pow_zero, mul_one]
  | succ n ih => rw [pow_succ, ih, pow_succ, pow_succ, mul_assoc, mul_assoc, mul_left_comm x]
theorem one_pow (n : Nat) : pow one n = one := by
  induction n with
  | zero => rfl
  | succ n ih => rw [pow_succ, ih, mul_one]
theorem zero_pow {n : Nat} (h : 0 < n) : pow zero n = zero := by
  obtain ⟨m, rfl⟩ : ∃ m, n = m + 1 := ⟨n - 1, by omega⟩
  rw [pow_succ, mul_zero]
theorem ofF_mul (a b : F) : ofF a * ofF b = ofF (a * b) := ext' (by simp; try grind) (by simp; grind)
theorem ofF_add (a b : F) : ofF a + ofF b = ofF (a + b) := ext' (by simp) (by simp)
theorem ofF_pow (a : F) (n : Nat) : pow (ofF a) n = ofF (a ^ n) := by
  induction n with
  | zero => rw [pow_zero, show a ^ 0 = 1 by grind]; rfl
  | succ n ih => rw [pow_succ, ih, ofF_mul]; congr 1
theorem sq_pow (x : E2) (n : Nat) : pow (x * x) n = pow x (2 * n) := by
  rw [pow_mul]
  congr 1
  exact (congrArg (· * x) (one_mul x)).symm

/-! ### Conjugation is the power of the order -/
/-- a natural number in the field -/
def nat (n : Nat) : F := Fin.ofNat _ n
theorem nat_add (m n : Nat) : nat (m + n) = nat m + nat n := by
  apply Fin.ext
  show (m + n) % 18446744069414584321 = (m % 18446744069414584321 + n % 18446744069414584321) % 18446744069414584321
  omega
theorem nat_one : nat 1 = 1 := rfl
theorem nat_dvd {n : Nat} (h : P ∣ n) : nat n = 0 := by
  apply Fin.ext
  show n % 18446744069414584321 = 0
  exact Nat.mod_eq_zero_of_dvd h

/-- the first k terms of the binomial expansion of (1 + x)^n -/
def binE (n : Nat) (x : E2) : Nat → E2
  | 0 => zero
  | k + 1 => binE n x k + ofF (nat (ch n k)) * pow x k
theorem binE_one (n : Nat) (x : E2) : binE n x 1 = one := by
  show zero + ofF (nat (ch n 0)) * pow x 0 = one
  rw [ch_zero, nat_one, pow_zero, mul_one, zero_add]
  rfl
theorem binE_succ (n : Nat) (x : E2) : ∀ k : Nat, binE (n + 1) x (k + 1) = binE n x (k + 1) + x * binE n x k
  | 0 => by rw [binE_one, binE_one, show binE n x 0 = zero from rfl, mul_zero, add_zero]
  | k + 1 => by
    have h := binE_succ n x k
    show binE (n + 1) x (k + 1) + ofF (nat (ch (n + 1) (k + 1))) * pow x (k + 1) = binE n x (k + 1) + ofF (nat (ch n (k + 1))) * pow x (k + 1) + x * (binE n x k + ofF (nat (ch n k)) * pow x k)
    rw [h, ch_succ, nat_add, ← ofF_add, pow_succ]
    generalize binE n x (k + 1) = u
    generalize binE n x k = v
    generalize pow x k = p
    generalize nat (ch n k) = c
    generalize nat (ch n (k + 1)) = d
    exact ext' (by simp; grind) (by simp; grind)
theorem binE_full (n : Nat) (x : E2) : binE n x (n + 1) = pow (one + x) n := by
  induction n with
  | zero => exact binE_one 0 x
  | succ n ih =>
    have e : binE n x (n + 1 + 1) = binE n x (n + 1) := by
      show binE n x (n + 1) + ofF (nat (ch n (n + 1))) * pow x (n + 1) = _
      rw [ch_above n (n + 1) (by omega), show ofF (nat 0) = zero from rfl, zero_mul, add_zero]
    rw [binE_succ, e, ih, pow_succ, mul_add, mul_one, mul_comm x]

theorem binE_prime (x : E2) : ∀ k, k < P → binE P x (k + 1) = one
  | 0, _ => binE_one P x
  | k + 1, hk => by
    have ih := binE_prime x k (by omega)
    show binE P x (k + 1) + ofF (nat (ch P (k + 1))) * pow x (k + 1) = one
    rw [ih, nat_dvd (P_prime.dvd_ch (by omega) hk), show ofF 0 = zero from rfl, zero_mul, add_zero]

theorem freshman (x : E2) : pow (one + x) P = one + pow x P := by
  have hP : P - 1 + 1 = P := by rw [P_eq]
  have h := binE_prime x (P - 1) (by rw [P_eq]; omega)
  rw [hP] at h
  rw [← binE_full]
  show binE P x P + ofF (nat (ch P P)) * pow x P = _
  rw [h, ch_self, nat_one, show ofF 1 = one from rfl, one_mul]

/-- the square root of 7 -/
def X : E2 := ⟨0, 1⟩
theorem X_A : X.A = 0 := rfl
theorem X_B : X.B = 1 := rfl
attribute [local simp] X_A X_B
theorem X_sq : X * X = ofF 7 := ext' (by simp; try grind) (by simp; try grind)
theorem X_pow {n h : Nat} (hh : h = 9223372034707292160) (hn : n = 2 * h + 1) : pow X n = -X := by
  rw [hn, pow_succ, ← sq_pow, X_sq, ofF_pow, hh, seven_half_F]
  exact ext' (by simp; grind) (by simp; grind)

theorem frob (x : E2) : pow x P = conj x := by
  have hX : pow X P = -X := X_pow (h := 9223372034707292160) rfl (by rw [P_eq])
  have hf : ∀ a : F, a ^ P = a := F_fermat
  by_cases hA : x.A = 0
  · have e : x = ofF x.B * X := ext' (by simp; grind) (by simp; grind)
    have e2 : pow x P = ofF x.B * -X := by
      conv => lhs; rw [e]
      rw [mul_pow, ofF_pow, hf, hX]
    rw [e2]
    exact ext' (by simp; grind) (by simp; grind)
  · have hi := mul_invF hA
    have e : x = ofF x.A * (one + ofF (x.B * invF x.A) * X) := ext' (by simp; grind) (by simp; grind)
    have e2 : pow x P = ofF x.A * (one + ofF (x.B * invF x.A) * -X) := by
      conv => lhs; rw [e]
      rw [mul_pow, freshman, mul_pow, ofF_pow, ofF_pow, hf, hf, hX]
    rw [e2]
    exact ext' (by simp; grind) (by simp; grind)

theorem conj_add (x y : E2) : conj (x + y) = conj x + conj y := ext' (by simp) (by simp; grind)
theorem conj_mul (x y : E2) : conj (x * y) = conj x * conj y := ext' (by simp; grind) (by simp; grind)
theorem conj_conj (x : E2) : conj (conj x) = x := ext' (by simp) (by simp; try grind)
theorem conj_fix (x : E2) : conj x = x ↔ x.B = 0 := by
  constructor
  · intro h
    have h1 := congrArg B h
    simp at h1
    have h2 : (2 : F) * x.B = 0 := by grind
    rcases F_zero_divisor h2 with h2 | h2
    · exact absurd h2 (by decide)
    · exact h2
  · intro h
    exact ext' rfl (by simp [h]; try grind)

theorem order (x : E2) (h : x ≠ zero) {m n : Nat} (hm : m = P - 1) (hn : n = P + 1) : pow (pow x m) n = one := by
  rw [← pow_mul, Nat.mul_comm, pow_mul, hn, pow_succ, frob, mul_comm, mul_conj, ofF_pow, hm]
  rw [show norm x ^ (P - 1) = 1 from F_fermat_one (norm_ne_zero h)]
  rfl

theorem sq_eq (x y : E2) : x * x = y * y ↔ x = y ∨ x = -y := by
  constructor
  · intro h
    have e : (x - y) * (x + y) = zero := by
      have h1 := congrArg A h
      have h2 := congrArg B h
      simp at h1 h2
      exact ext' (by simp; grind) (by simp; grind)
    rcases zero_divisor e with e | e
    · exact Or.inl (sub_eq_zero e)
    · right
      have h1 := congrArg A e
      have h2 := congrArg B e
      simp at h1 h2
      exact ext' (by simp; grind) (by simp; grind)
  · rintro (rfl | rfl)
    · rfl
    · exact ext' (by simp; grind) (by simp; grind)

end E2
end Gold
