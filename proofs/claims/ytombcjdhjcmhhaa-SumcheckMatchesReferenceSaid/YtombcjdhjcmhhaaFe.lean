/- Plain arithmetic of the field of 2^64 - 2^32 + 1 elements over the integers, without any program: sums, products and powers modulo the order, and what words of 64 bits make of them; no conditions. -/
import Derived.Test.YtombcjdhjcmhhaaGold
namespace Gold
set_option maxRecDepth 8000

/-- the order, as an integer -/
def Q : Int := 18446744069414584321
def El (a : Int) : Prop := 0 ≤ a ∧ a < 18446744069414584321
def U64 (a : Int) : Prop := 0 ≤ a ∧ a < 18446744073709551616

def fred (a : Int) : Int := a % 18446744069414584321
def fadd (a b : Int) : Int := (a + b) % 18446744069414584321
def fsub (a b : Int) : Int := (a - b) % 18446744069414584321
def fneg (a : Int) : Int := (-a) % 18446744069414584321
def fmul (a b : Int) : Int := (a * b) % 18446744069414584321
def fpow (a n : Int) : Int := (a ^ n.toNat) % 18446744069414584321

theorem El_fred (a : Int) : El (fred a) := by unfold El fred; omega
theorem El_fadd (a b : Int) : El (fadd a b) := by unfold El fadd; omega
theorem El_fsub (a b : Int) : El (fsub a b) := by unfold El fsub; omega
theorem El_fneg (a : Int) : El (fneg a) := by unfold El fneg; omega
theorem El_fmul (a b : Int) : El (fmul a b) := by unfold El fmul; omega
theorem El_fpow (a n : Int) : El (fpow a n) := by unfold El fpow; omega
theorem El.u64 {a : Int} (h : El a) : U64 a := by unfold El U64 at *; omega
theorem El.mod {a : Int} (h : El a) : a % 18446744069414584321 = a := by unfold El at h; exact Int.emod_eq_of_lt h.1 h.2

/-- the upper word of a product, out of products of half words -/
theorem high_parts (a b : Int) (ha : U64 a) (hb : U64 b) (x y z v : Int) (hx : x = a / 4294967296 * (b / 4294967296)) (hy : y = a / 4294967296 * (b % 4294967296))
    (hz : z = a % 4294967296 * (b / 4294967296)) (hv : v = a % 4294967296 * (b % 4294967296)) :
    a * b = x * 18446744073709551616 + (y + z) * 4294967296 + v ∧ (0 ≤ x ∧ x ≤ 18446744065119617025) ∧ (0 ≤ y ∧ y ≤ 18446744065119617025) ∧ (0 ≤ z ∧ z ≤ 18446744065119617025) ∧ (0 ≤ v ∧ v ≤ 18446744065119617025) := by
  unfold U64 at ha hb
  have bound : ∀ p q : Int, 0 ≤ p → p ≤ 4294967295 → 0 ≤ q → q ≤ 4294967295 → 0 ≤ p * q ∧ p * q ≤ 18446744065119617025 := by
    intro p q hp0 hp hq0 hq
    refine ⟨Int.mul_nonneg hp0 hq0, ?_⟩
    have := Int.mul_le_mul hp hq hq0 (by decide : (0 : Int) ≤ 4294967295)
    exact Int.le_trans this (by decide)
  refine ⟨?_, hx ▸ bound _ _ (by omega) (by omega) (by omega) (by omega), hy ▸ bound _ _ (by omega) (by omega) (by omega) (by omega), hz ▸ bound _ _ (by omega) (by omega) (by omega) (by omega), hv ▸ bound _ _ (by omega) (by omega) (by omega) (by omega)⟩
  have ea : a = a / 4294967296 * 4294967296 + a % 4294967296 := by omega
  have eb : b = b / 4294967296 * 4294967296 + b % 4294967296 := by omega
  generalize a / 4294967296 = a1 at *
  generalize a % 4294967296 = a0 at *
  generalize b / 4294967296 = b1 at *
  generalize b % 4294967296 = b0 at *
  subst ea eb hx hy hz hv
  have e1 : (a1 * 4294967296 + a0) * (b1 * 4294967296 + b0) = a1 * 4294967296 * (b1 * 4294967296) + a1 * 4294967296 * b0 + (a0 * (b1 * 4294967296) + a0 * b0) := by
    rw [Int.mul_add, Int.add_mul, Int.add_mul]; omega
  have e2 : a1 * 4294967296 * (b1 * 4294967296) = a1 * b1 * 18446744073709551616 := by
    rw [Int.mul_assoc, Int.mul_comm 4294967296 (b1 * 4294967296), Int.mul_assoc b1, ← Int.mul_assoc a1]; rfl
  have e3 : a1 * 4294967296 * b0 = a1 * b0 * 4294967296 := by rw [Int.mul_assoc, Int.mul_comm 4294967296 b0, ← Int.mul_assoc]
  have e4 : a0 * (b1 * 4294967296) = a0 * b1 * 4294967296 := by rw [← Int.mul_assoc]
  rw [e1, e2, e3, e4]
  omega

/-- hi * 2^64 + lo modulo the order: 2^96 is -1, 2^64 is 2^32 - 1 -/
theorem wide_mod (a b : Int) : (a * 18446744073709551616 + b) % 18446744069414584321 = (b - a / 4294967296 + a % 4294967296 * 4294967295) % 18446744069414584321 := by
  have e : a * 18446744073709551616 + b = (b - a / 4294967296 + a % 4294967296 * 4294967295) + (a / 4294967296 * 4294967297 + a % 4294967296) * 18446744069414584321 := by omega
  rw [e, Int.add_mul_emod_self_right]

/-- what a round of squaring keeps: r times the k-th power of b -/
def Pw (b : Int) (k : Nat) (r : Int) : Int := (r * b ^ k) % 18446744069414584321

theorem mulmod_left (a b : Int) : (a % 18446744069414584321 * b) % 18446744069414584321 = (a * b) % 18446744069414584321 := by
  rw [Int.mul_emod, Int.emod_emod_of_dvd _ (Int.dvd_refl _), ← Int.mul_emod]

theorem powmod (b : Int) (j : Nat) : (b % 18446744069414584321) ^ j % 18446744069414584321 = b ^ j % 18446744069414584321 := by
  induction j with
  | zero => simp
  | succ j ih =>
    rw [Int.pow_succ, Int.mul_emod, ih, ← Int.mul_emod, Int.pow_succ, Int.mul_comm, mulmod_left, Int.mul_comm]

theorem mulpowmod (r b : Int) (j : Nat) : (r * (b % 18446744069414584321) ^ j) % 18446744069414584321 = (r * b ^ j) % 18446744069414584321 := by
  rw [Int.mul_emod, powmod, ← Int.mul_emod]

theorem sq_pow (b : Int) (j : Nat) : (b * b) ^ j = b ^ (2 * j) := by
  rw [Int.pow_mul]
  congr 1
  rw [Int.pow_succ, Int.pow_succ]; simp

theorem Pw_odd (b r : Int) (k : Nat) (h : k % 2 = 1) : Pw (fmul b b) (k / 2) (fmul r b) = Pw b k r := by
  unfold Pw fmul
  rw [mulpowmod, mulmod_left, sq_pow, Int.mul_assoc]
  congr 2
  have : k = 2 * (k / 2) + 1 := by omega
  conv => rhs; rw [this, Int.pow_succ, Int.mul_comm]

theorem Pw_even (b r : Int) (k : Nat) (h : k % 2 = 0) : Pw (fmul b b) (k / 2) r = Pw b k r := by
  unfold Pw fmul
  rw [mulpowmod, sq_pow]
  congr 3
  omega

theorem Pw_zero (b r : Int) (h : El r) : Pw b 0 r = r := by
  unfold Pw
  rw [Int.pow_zero, Int.mul_one]
  exact h.mod

theorem Pw_one (a : Int) (n : Nat) : Pw a n 1 = fpow a n := by
  unfold Pw fpow
  rw [Int.one_mul]
  rfl

theorem El_one : El 1 := by unfold El; omega


/-- what Euclid's algorithm keeps: the last two remainders are these factors times a, and have no common divisor -/
def Euc (a l r g f : Int) : Prop := 1 < l ∧ 0 ≤ r ∧ r < l ∧ l ≤ 18446744069414584321 ∧ El g ∧ El f ∧ (g * a - l) % 18446744069414584321 = 0 ∧ (f * a - r) % 18446744069414584321 = 0 ∧ Int.gcd l r = 1

theorem Euc.start {a : Int} (ha : El a) (h0 : a ≠ 0) : Euc a 18446744069414584321 a 0 1 := by
  unfold El at ha
  refine ⟨by omega, ha.1, ha.2, by omega, by unfold El; omega, by unfold El; omega, by rw [Int.zero_mul]; omega, by rw [Int.one_mul]; omega, ?_⟩
  have hn : ¬ P ∣ a.toNat := by
    intro hd
    have := Nat.le_of_dvd (by omega) hd
    have : P = 18446744069414584321 := rfl
    omega
  have hc := P_prime.coprime hn
  have e : a.natAbs = a.toNat := by omega
  have e2 : Int.natAbs 18446744069414584321 = P := by unfold P; omega
  unfold Int.gcd
  rw [e, e2]
  exact hc

theorem Euc.step {a l r g f : Int} (h : Euc a l r g f) (hr : 2 ≤ r) : Euc a r (l - l / r * r) f (fsub g (fmul (l / r) f)) := by
  obtain ⟨h1, h2, h3, h4, hg, hf, hl, hr', hgcd⟩ := h
  have e : l - l / r * r = l % r := by rw [Int.emod_def, Int.mul_comm]
  rw [e]
  refine ⟨by omega, Int.emod_nonneg _ (by omega), Int.emod_lt_of_pos _ (by omega), by omega, hf, El_fsub _ _, hr', ?_, ?_⟩
  · rw [Int.emod_def l r, Int.mul_comm r]
    generalize l / r = q
    unfold fsub fmul
    obtain ⟨c, hc⟩ := Int.dvd_of_emod_eq_zero hl
    obtain ⟨d, hd⟩ := Int.dvd_of_emod_eq_zero hr'
    have e1 : q * f % 18446744069414584321 = q * f - 18446744069414584321 * (q * f / 18446744069414584321) := Int.emod_def _ _
    have e2 : (g - q * f % 18446744069414584321) % 18446744069414584321 = (g - q * f % 18446744069414584321) - 18446744069414584321 * ((g - q * f % 18446744069414584321) / 18446744069414584321) := Int.emod_def _ _
    rw [e2]
    generalize (g - q * f % 18446744069414584321) / 18446744069414584321 = v
    rw [e1]
    generalize q * f / 18446744069414584321 = u
    apply Int.emod_eq_zero_of_dvd
    refine ⟨c - q * d + u * a - v * a, ?_⟩
    have k1 : (g - (q * f - 18446744069414584321 * u) - 18446744069414584321 * v) * a = g * a - q * (f * a) + 18446744069414584321 * (u * a) - 18446744069414584321 * (v * a) := by
      rw [Int.sub_mul, Int.sub_mul, Int.sub_mul, Int.mul_assoc, Int.mul_assoc, Int.mul_assoc]; omega
    rw [k1]
    have k2 : f * a = r + 18446744069414584321 * d := by omega
    have k3 : g * a = l + 18446744069414584321 * c := by omega
    have k4 : q * (18446744069414584321 * d) = 18446744069414584321 * (q * d) := by rw [← Int.mul_assoc, Int.mul_comm q, Int.mul_assoc]
    rw [k2, k3, Int.mul_add, k4]
    omega
  · rw [Int.gcd_comm]
    have e1 : (l % r).natAbs = l.natAbs % r.natAbs := by
      have : ((l % r).natAbs : Int) = ((l.natAbs % r.natAbs : Nat) : Int) := by
        rw [Int.natAbs_of_nonneg (Int.emod_nonneg _ (by omega)), Int.natCast_emod, Int.natAbs_of_nonneg (by omega), Int.natAbs_of_nonneg h2]
      omega
    unfold Int.gcd at *
    rw [e1, ← Nat.gcd_rec, Nat.gcd_comm]
    exact hgcd

theorem Euc.not_zero {a l g f : Int} (h : Euc a l 0 g f) : False := by
  obtain ⟨h1, _, _, _, _, _, _, _, hg⟩ := h
  rw [Int.gcd_zero_right] at hg
  omega

theorem Euc.one {a l g f : Int} (h : Euc a l 1 g f) : fmul a f = 1 := by
  obtain ⟨_, _, _, _, _, _, _, hf, _⟩ := h
  unfold fmul
  rw [Int.mul_comm]
  generalize f * a = x at *
  omega

/-- the inverse of a, by Fermat's little theorem -/
def finv (a : Int) : Int := fpow a 18446744069414584319

theorem El.not_dvd {a : Int} (ha : El a) (h0 : a ≠ 0) : ¬ P ∣ a.toNat := by
  unfold El at ha
  intro hd
  have := Nat.le_of_dvd (by omega) hd
  have : P = 18446744069414584321 := rfl
  omega

/-- a product modulo the order, in natural numbers -/
theorem fmul_nat {a b : Int} (ha : El a) (hb : El b) : fmul a b = ((a.toNat * b.toNat % P : Nat) : Int) := by
  unfold El at ha hb
  have hP : ((P : Nat) : Int) = 18446744069414584321 := rfl
  unfold fmul
  rw [Int.natCast_emod, Int.natCast_mul, hP, Int.toNat_of_nonneg ha.1, Int.toNat_of_nonneg hb.1]

theorem fpow_nat {a : Int} (ha : El a) (n : Nat) : fpow a n = ((a.toNat ^ n % P : Nat) : Int) := by
  unfold El at ha
  have hP : ((P : Nat) : Int) = 18446744069414584321 := rfl
  unfold fpow
  rw [Int.natCast_emod, Int.natCast_pow, hP, Int.toNat_of_nonneg ha.1]
  rfl

theorem fmul_cancel {a x y : Int} (ha : El a) (h0 : a ≠ 0) (hx : El x) (hy : El y) (h : fmul a x = fmul a y) : x = y := by
  rw [fmul_nat ha hx, fmul_nat ha hy] at h
  have := P_prime.cancel (El.not_dvd ha h0) (Int.ofNat_inj.mp h)
  unfold El at hx hy
  have hP : P = 18446744069414584321 := rfl
  rw [Nat.mod_eq_of_lt (by omega), Nat.mod_eq_of_lt (by omega)] at this
  omega

theorem fpow_succ (a : Int) (n : Nat) : fmul a (fpow a n) = fpow a ((n + 1 : Nat) : Int) := by
  unfold fmul fpow
  show a * (a ^ n % 18446744069414584321) % 18446744069414584321 = a ^ (n + 1) % 18446744069414584321
  rw [Int.mul_comm, mulmod_left, Int.pow_succ]

theorem fpow_fermat {a : Int} (ha : El a) (h0 : a ≠ 0) : fpow a 18446744069414584320 = 1 := by
  have h := P_prime.fermat_one (El.not_dvd ha h0)
  have e := fpow_nat ha (P - 1)
  rw [h] at e
  exact e

theorem fmul_finv {a : Int} (ha : El a) (h0 : a ≠ 0) : fmul a (finv a) = 1 :=
  (fpow_succ a 18446744069414584319).trans (fpow_fermat ha h0)

theorem Euc.finv {a l g f : Int} (ha : El a) (h0 : a ≠ 0) (h : Euc a l 1 g f) : f = finv a :=
  fmul_cancel ha h0 h.2.2.2.2.2.1 (El_fpow _ _) (h.one.trans (fmul_finv ha h0).symm)


end Gold
