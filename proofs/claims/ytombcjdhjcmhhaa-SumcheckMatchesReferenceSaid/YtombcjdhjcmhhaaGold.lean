/- Plain number theory without any program: Fermat's little theorem for a prime modulus, that 2^64 - 2^32 + 1 is prime (from one power of 7), and fast powers that the kernel can reckon; no conditions. -/
namespace Gold
set_option maxRecDepth 8000

/-! ### Fermat's little theorem -/

def ch : Nat → Nat → Nat
  | _, 0 => 1
  | 0, _ + 1 => 0
  | n + 1, k + 1 => ch n k + ch n (k + 1)

theorem ch_zero (n : Nat) : ch n 0 = 1 := by cases n <;> rfl
theorem ch_succ (n k : Nat) : ch (n + 1) (k + 1) = ch n k + ch n (k + 1) := rfl

theorem ch_above : ∀ (n k : Nat), n < k → ch n k = 0
  | 0, k + 1, _ => rfl
  | n + 1, k + 1, h => by rw [ch_succ, ch_above n k (by omega), ch_above n (k + 1) (by omega)]

theorem ch_self : ∀ n : Nat, ch n n = 1
  | 0 => rfl
  | n + 1 => by rw [ch_succ, ch_self n, ch_above n (n + 1) (by omega)]

theorem ch_mul : ∀ (n k : Nat), (k + 1) * ch (n + 1) (k + 1) = (n + 1) * ch n k
  | 0, 0 => rfl
  | 0, k + 1 => by simp [ch]
  | n + 1, 0 => by
    have h := ch_mul n 0
    rw [ch_succ (n + 1) 0, ch_zero, Nat.mul_add, h, ch_zero]
    omega
  | n + 1, k + 1 => by
    have h1 := ch_mul n k
    have h2 := ch_mul n (k + 1)
    rw [ch_succ (n + 1) (k + 1), Nat.mul_add, h2]
    have h3 : (k + 1 + 1) * ch (n + 1) (k + 1) = (k + 1) * ch (n + 1) (k + 1) + ch (n + 1) (k + 1) := by
      rw [Nat.add_mul (k + 1) 1, Nat.one_mul]
    rw [h3, h1, ch_succ n k]
    simp only [Nat.mul_add, Nat.add_mul, Nat.one_mul]
    omega

def bin (n a : Nat) : Nat → Nat
  | 0 => 0
  | k + 1 => bin n a k + ch n k * a ^ k

theorem bin_one (n a : Nat) : bin n a 1 = 1 := by simp [bin, ch_zero]

theorem bin_succ (n a : Nat) : ∀ k : Nat, bin (n + 1) a (k + 1) = bin n a (k + 1) + a * bin n a k
  | 0 => by simp [bin, ch_zero]
  | k + 1 => by
    have h := bin_succ n a k
    show bin (n + 1) a (k + 1) + ch (n + 1) (k + 1) * a ^ (k + 1) = bin n a (k + 1) + ch n (k + 1) * a ^ (k + 1) + a * (bin n a k + ch n k * a ^ k)
    rw [h, ch_succ, Nat.add_mul, Nat.mul_add, Nat.pow_succ]
    have e : ch n k * (a ^ k * a) = a * (ch n k * a ^ k) := by
      rw [Nat.mul_comm (a ^ k) a, ← Nat.mul_assoc, Nat.mul_comm (ch n k) a, Nat.mul_assoc]
    rw [e]
    omega

theorem bin_full (n a : Nat) : bin n a (n + 1) = (a + 1) ^ n := by
  induction n with
  | zero => simp [bin, ch_zero]
  | succ n ih =>
    have e : bin n a (n + 1 + 1) = bin n a (n + 1) := by
      show bin n a (n + 1) + ch n (n + 1) * a ^ (n + 1) = _
      rw [ch_above n (n + 1) (by omega)]; simp
    rw [bin_succ, e, ih, Nat.pow_succ, Nat.mul_add, Nat.mul_one, Nat.mul_comm a]
    omega

/-- a prime number: greater than one, and its divisors are one and itself -/
def Pr (q : Nat) : Prop := 1 < q ∧ ∀ d, d ∣ q → d = 1 ∨ d = q

theorem Pr.coprime {q a : Nat} (h : Pr q) (ha : ¬ q ∣ a) : Nat.Coprime q a := by
  have hd := h.2 (Nat.gcd q a) (Nat.gcd_dvd_left q a)
  rcases hd with hd | hd
  · exact hd
  · exact absurd (hd ▸ Nat.gcd_dvd_right q a) ha

theorem Pr.dvd_mul {q a b : Nat} (h : Pr q) (hab : q ∣ a * b) : q ∣ a ∨ q ∣ b := by
  by_cases ha : q ∣ a
  · exact Or.inl ha
  · exact Or.inr ((h.coprime ha).dvd_of_dvd_mul_left hab)

theorem Pr.dvd_ch {q k : Nat} (h : Pr q) (h0 : 0 < k) (hk : k < q) : q ∣ ch q k := by
  obtain ⟨n, rfl⟩ : ∃ n, q = n + 1 := ⟨q - 1, by omega⟩
  obtain ⟨j, rfl⟩ : ∃ j, k = j + 1 := ⟨k - 1, by omega⟩
  have e := ch_mul n j
  have hd : (n + 1) ∣ (j + 1) * ch (n + 1) (j + 1) := e ▸ Nat.dvd_mul_right _ _
  rcases h.dvd_mul hd with hd | hd
  · have := Nat.le_of_dvd (by omega) hd
    omega
  · exact hd

theorem Pr.bin_mod {q : Nat} (h : Pr q) (a : Nat) : ∀ k, k < q → bin q a (k + 1) % q = 1
  | 0, _ => by rw [bin_one]; exact Nat.mod_eq_of_lt h.1
  | k + 1, hk => by
    have ih := h.bin_mod a k (by omega)
    show (bin q a (k + 1) + ch q (k + 1) * a ^ (k + 1)) % q = 1
    obtain ⟨c, hc⟩ := h.dvd_ch (k := k + 1) (by omega) hk
    rw [hc, Nat.mul_assoc, Nat.add_mul_mod_self_left, ih]

theorem Pr.fermat {q : Nat} (h : Pr q) (a : Nat) : a ^ q % q = a % q := by
  induction a with
  | zero =>
    rw [Nat.zero_pow (by have := h.1; omega)]
  | succ a ih =>
    have hb : bin q a (q - 1 + 1) % q = 1 := h.bin_mod a (q - 1) (by have := h.1; omega)
    have hq : q - 1 + 1 = q := by have := h.1; omega
    rw [hq] at hb
    have e : bin q a (q + 1) = bin q a q + ch q q * a ^ q := rfl
    rw [← bin_full, e, ch_self, Nat.one_mul, Nat.add_mod, hb, ih, ← Nat.add_mod_mod]
    rw [Nat.add_comm a 1]
    simp

theorem Pr.cancel {q a x y : Nat} (h : Pr q) (ha : ¬ q ∣ a) (e : a * x % q = a * y % q) : x % q = y % q := by
  have key : ∀ x y : Nat, x ≤ y → a * x % q = a * y % q → x % q = y % q := by
    intro x y hxy e
    have hd : q ∣ a * (y - x) := by
      rw [Nat.mul_sub]
      exact Nat.dvd_of_mod_eq_zero (Nat.sub_mod_eq_zero_of_mod_eq e.symm)
    rcases h.dvd_mul hd with hd | ⟨c, hc⟩
    · exact absurd hd ha
    · have : y = x + q * c := by omega
      rw [this, Nat.add_mul_mod_self_left]
  rcases Nat.le_total x y with hxy | hxy
  · exact key x y hxy e
  · exact (key y x hxy e.symm).symm

theorem Pr.fermat_one {q a : Nat} (h : Pr q) (ha : ¬ q ∣ a) : a ^ (q - 1) % q = 1 := by
  have e := h.fermat a
  have hq : q - 1 + 1 = q := by have := h.1; omega
  have e2 : a * a ^ (q - 1) % q = a * 1 % q := by
    rw [Nat.mul_comm, ← Nat.pow_succ, Nat.succ_eq_add_one, hq, e, Nat.mul_one]
  rw [h.cancel ha e2, Nat.mod_eq_of_lt h.1]

/-! ### Every number above one has a prime divisor -/

theorem prime_divisor : ∀ (n m : Nat), m ≤ n → 1 < m → ∃ q, Pr q ∧ q ∣ m
  | 0, m, h, h1 => by omega
  | n + 1, m, h, h1 => by
    by_cases hp : Pr m
    · exact ⟨m, hp, Nat.dvd_refl m⟩
    · have : ∃ d, d ∣ m ∧ d ≠ 1 ∧ d ≠ m := by
        apply Classical.byContradiction
        intro hn
        refine hp ⟨h1, fun d hd => ?_⟩
        by_cases h1 : d = 1
        · exact Or.inl h1
        · by_cases h2 : d = m
          · exact Or.inr h2
          · exact absurd ⟨d, hd, h1, h2⟩ hn
      obtain ⟨d, hd, hd1, hdm⟩ := this
      have hle := Nat.le_of_dvd (by omega) hd
      have h0 : d ≠ 0 := by
        rintro rfl
        have := Nat.eq_zero_of_zero_dvd hd
        omega
      obtain ⟨q, hq, hqd⟩ := prime_divisor n d (by omega) (by omega)
      exact ⟨q, hq, Nat.dvd_trans hqd hd⟩

/-- a number is a power of two times an odd number -/
theorem two_part : ∀ (n e : Nat), e ≤ n → 0 < e → ∃ t o, e = 2 ^ t * o ∧ o % 2 = 1
  | 0, e, h, h0 => by omega
  | n + 1, e, h, h0 => by
    by_cases h2 : e % 2 = 1
    · exact ⟨0, e, by simp, h2⟩
    · obtain ⟨t, o, ht, ho⟩ := two_part n (e / 2) (by omega) (by omega)
      refine ⟨t + 1, o, ?_, ho⟩
      rw [Nat.pow_succ, Nat.mul_comm (2 ^ t) 2, Nat.mul_assoc, ← ht]
      omega

theorem odd_pow {d x : Nat} (h : d ∣ x + 1) : ∀ k : Nat, d ∣ x ^ (2 * k + 1) + 1
  | 0 => by simpa using h
  | k + 1 => by
    obtain ⟨c, hc⟩ := odd_pow h k
    obtain ⟨b, hb⟩ := h
    -- x^(2k+3) + 1 = x^2 (x^(2k+1) + 1) - (x^2 - 1), in the integers
    have e : x ^ (2 * (k + 1) + 1) = x ^ (2 * k + 1) * x * x := by
      rw [show 2 * (k + 1) + 1 = 2 * k + 1 + 1 + 1 by omega, Nat.pow_succ, Nat.pow_succ]
    rw [e]
    have i1 : ((x ^ (2 * k + 1) : Nat) : Int) = d * c - 1 := by
      have := congrArg (Nat.cast : Nat → Int) hc
      simp only [Int.natCast_add, Int.natCast_mul, Int.natCast_one] at this ⊢
      omega
    have i2 : (x : Int) = d * b - 1 := by
      have := congrArg (Nat.cast : Nat → Int) hb
      simp only [Int.natCast_add, Int.natCast_mul, Int.natCast_one] at this ⊢
      omega
    refine Int.natCast_dvd_natCast.mp ?_
    rw [Int.natCast_add, Int.natCast_mul, Int.natCast_mul, i1, i2, Int.natCast_one]
    refine ⟨c * (d * b - 1) * (d * b - 1) - (d * b * b - 2 * b), ?_⟩
    simp only [Int.mul_sub, Int.sub_mul, Int.mul_one, Int.one_mul]
    have c1 : (d : Int) * c * (d * b) * (d * b) = d * (c * (d * b) * (d * b)) := by
      simp only [Int.mul_assoc]
    have c2 : (d : Int) * c * (d * b) = d * (c * (d * b)) := by simp only [Int.mul_assoc]
    have c3 : (d : Int) * b * (d * b) = d * (d * b * b) := by
      simp only [Int.mul_assoc, Int.mul_left_comm]
    have c4 : (d : Int) * (2 * b) = d * b + d * b := by
      rw [Int.two_mul, Int.mul_add]
    rw [c1, c2, c3, c4]
    omega

/-- a prime that divides x + 1 for x = g^(2^m) is greater than 2^(m+1) -/
theorem Pr.large {q g m : Nat} (h : Pr q) (h2 : 2 < q) (hg : q ∣ g ^ (2 ^ m) + 1) : 2 ^ (m + 1) < q := by
  have hng : ¬ q ∣ g := by
    intro hd
    have h1 : q ∣ g ^ (2 ^ m) := by
      have hp : 0 < 2 ^ m := Nat.two_pow_pos m
      obtain ⟨k, hk⟩ : ∃ k, 2 ^ m = k + 1 := ⟨2 ^ m - 1, by omega⟩
      rw [hk, Nat.pow_succ]
      exact Nat.dvd_trans hd (Nat.dvd_mul_left _ _)
    have := (Nat.dvd_add_right h1).mp hg
    have := Nat.le_of_dvd (by omega) this
    omega
  have hf := h.fermat_one hng
  obtain ⟨t, o, hto, ho⟩ := two_part (q - 1) (q - 1) (Nat.le_refl _) (by omega)
  by_cases htm : m + 1 ≤ t
  · have hle : 2 ^ (m + 1) ≤ 2 ^ t := Nat.pow_le_pow_right (by omega) htm
    have : 2 ^ t * 1 ≤ 2 ^ t * o := Nat.mul_le_mul_left _ (by omega)
    omega
  · exfalso
    -- g^(2^t o) = 1, so g^(2^m o) = 1; but g^(2^m) = -1 and o is odd
    obtain ⟨j, hj⟩ : ∃ j, m = t + j := ⟨m - t, by omega⟩
    obtain ⟨k, hk⟩ : ∃ k, o = 2 * k + 1 := ⟨o / 2, by omega⟩
    have hodd := odd_pow hg k
    rw [← hk, ← Nat.pow_mul] at hodd
    have e : 2 ^ m * o = (q - 1) * 2 ^ j := by
      rw [hto, hj, Nat.pow_add, Nat.mul_assoc, Nat.mul_assoc, Nat.mul_comm (2 ^ j) o]
    rw [e, Nat.pow_mul] at hodd
    have h1 : (g ^ (q - 1)) ^ (2 ^ j) % q = 1 := by
      rw [Nat.pow_mod, hf, Nat.one_pow, Nat.mod_eq_of_lt h.1]
    have h3 := Nat.mod_eq_zero_of_dvd hodd
    rw [Nat.add_mod, h1, Nat.mod_eq_of_lt (show 1 < q by omega), Nat.mod_eq_of_lt (show 1 + 1 < q by omega)] at h3
    omega

/-! ### The prime 2^64 - 2^32 + 1 -/

/-- the order of the field -/
def P : Nat := 18446744069414584321

/-- a to the power of n modulo P, for n below 2^fuel, by squaring: the kernel reckons it -/
def pm : Nat → Nat → Nat → Nat
  | 0, _, _ => 1
  | f + 1, a, n => if n % 2 = 1 then a * pm f (a * a % P) (n / 2) % P else pm f (a * a % P) (n / 2)

theorem pm_eq : ∀ (f a n : Nat), n < 2 ^ f → pm f a n % P = a ^ n % P
  | 0, a, n, h => by
    obtain rfl : n = 0 := by simpa using h
    rfl
  | f + 1, a, n, h => by
    have ih := pm_eq f (a * a % P) (n / 2) (by rw [Nat.pow_succ] at h; omega)
    have e : (a * a % P) ^ (n / 2) % P = a ^ (2 * (n / 2)) % P := by
      rw [← Nat.pow_mod, Nat.pow_mul]
      congr 2
      exact (Nat.pow_two a).symm
    rw [e] at ih
    unfold pm
    split
    · have : n = 2 * (n / 2) + 1 := by omega
      rw [Nat.mod_mod, Nat.mul_mod, ih, ← Nat.mul_mod]
      conv => rhs; rw [this, Nat.pow_succ, Nat.mul_comm]
    · have : n = 2 * (n / 2) := by omega
      rw [ih, ← this]

theorem minus_one : pm 64 7 9223372034707292160 = 18446744069414584320 := by decide +kernel

theorem minus_one_dvd : ∃ g m : Nat, m = 31 ∧ P ∣ g ^ (2 ^ m) + 1 := by
  obtain ⟨m, hm⟩ : ∃ m : Nat, m = 31 := ⟨_, rfl⟩
  obtain ⟨n, hn⟩ : ∃ n : Nat, n = 4294967295 := ⟨_, rfl⟩
  refine ⟨7 ^ n, m, hm, ?_⟩
  have h := pm_eq 64 7 9223372034707292160 (by decide)
  have e : n * 2 ^ m = 9223372034707292160 := by subst hm; subst hn; decide
  rw [← e] at h
  rw [← Nat.pow_mul]
  have h1 : 7 ^ (n * 2 ^ m) % P = 18446744069414584320 := by
    rw [← h, e, minus_one]
    rfl
  apply Nat.dvd_of_mod_eq_zero
  rw [Nat.add_mod, h1]
  rfl

theorem P_divisor_large {d : Nat} (hd : d ∣ P) (h1 : 1 < d) : 4294967296 < d := by
  obtain ⟨q, hq, hqd⟩ := prime_divisor d d (Nat.le_refl _) h1
  have hqP := Nat.dvd_trans hqd hd
  have h2 : 2 < q := by
    have := hq.1
    by_cases e : q = 2
    · rw [e] at hqP
      exact absurd hqP (by decide)
    · omega
  obtain ⟨g, m, hm, hg⟩ := minus_one_dvd
  have hl := hq.large h2 (Nat.dvd_trans hqP hg)
  have := Nat.le_of_dvd (by omega) hqd
  have e : 2 ^ (m + 1) = 4294967296 := by subst hm; decide
  omega

theorem P_prime : Pr P := by
  refine ⟨by decide, fun d hd => ?_⟩
  obtain ⟨c, hc⟩ := id hd
  by_cases h1 : d = 1
  · exact Or.inl h1
  · by_cases h2 : c = 1
    · right; rw [hc, h2, Nat.mul_one]
    · exfalso
      have hP : P = 18446744069414584321 := rfl
      have d0 : d ≠ 0 := by rintro rfl; rw [Nat.zero_mul] at hc; omega
      have c0 : c ≠ 0 := by rintro rfl; rw [Nat.mul_zero] at hc; omega
      have hd' := P_divisor_large hd (by omega)
      have hc' := P_divisor_large (hc ▸ Nat.dvd_mul_left c d : c ∣ P) (by omega)
      have hm : 4294967297 * 4294967297 ≤ d * c := Nat.mul_le_mul (by omega) (by omega)
      rw [← hc, hP] at hm
      exact absurd hm (by decide)

end Gold
