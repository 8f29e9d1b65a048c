/- The mathematics of the number-theoretic transform over the field: sums, values, roots of unity, the transform by halves, bits in reverse order, inversion, products; no program, no conditions but the ranges of the exponents. -/
import Derived.Test.YtombcjdhjcmhhaaFp
import Derived.Test.YtombcjdhjcmhhaaFieldR
namespace Gold
set_option maxRecDepth 8000

/-! ### Powers, sums -/
theorem F_pow_zero (x : F) : x ^ 0 = 1 := by grind
theorem F_pow_one (x : F) : x ^ 1 = x := by grind
theorem F_pow_succ (x : F) (n : Nat) : x ^ (n + 1) = x ^ n * x := by grind
theorem F_pow_add (x : F) (m n : Nat) : x ^ (m + n) = x ^ m * x ^ n := by grind
theorem F_one_pow (n : Nat) : (1 : F) ^ n = 1 := by
  induction n with
  | zero => exact F_pow_zero _
  | succ n ih => rw [F_pow_succ, ih]; grind
theorem F_mul_comm (x y : F) : x * y = y * x := by grind
theorem F_mul_one (x : F) : x * 1 = x := by grind
theorem F_one_mul (x : F) : 1 * x = x := by grind
theorem F_mul_zero (x : F) : x * 0 = 0 := by grind
theorem F_zero_mul (x : F) : 0 * x = 0 := by grind
theorem F_add_zero (x : F) : x + 0 = x := by grind
theorem F_zero_add (x : F) : 0 + x = x := by grind

/-- f 0 + .. + f (n - 1) -/
def sumF (f : Nat → F) : Nat → F
  | 0 => 0
  | n + 1 => sumF f n + f n
theorem sumF_congr {f g : Nat → F} : ∀ {n : Nat}, (∀ i, i < n → f i = g i) → sumF f n = sumF g n
  | 0, _ => rfl
  | n + 1, h => by
    show sumF f n + f n = sumF g n + g n
    rw [sumF_congr (fun i hi => h i (by omega)), h n (by omega)]
theorem sumF_zero : ∀ n, sumF (fun _ => 0) n = 0
  | 0 => rfl
  | n + 1 => by
    show sumF (fun _ => 0) n + 0 = 0
    rw [sumF_zero n]
    grind
theorem sumF_add (f g : Nat → F) : ∀ n, sumF (fun i => f i + g i) n = sumF f n + sumF g n
  | 0 => by show (0 : F) = 0 + 0; grind
  | n + 1 => by
    show sumF (fun i => f i + g i) n + (f n + g n) = sumF f n + f n + (sumF g n + g n)
    rw [sumF_add f g n]
    grind
theorem sumF_mul (c : F) (f : Nat → F) : ∀ n, sumF (fun i => c * f i) n = c * sumF f n
  | 0 => by show (0 : F) = c * 0; grind
  | n + 1 => by
    show sumF (fun i => c * f i) n + c * f n = c * (sumF f n + f n)
    rw [sumF_mul c f n]
    grind
theorem sumF_swap (f : Nat → Nat → F) (m : Nat) : ∀ n, sumF (fun i => sumF (fun j => f i j) m) n = sumF (fun j => sumF (fun i => f i j) n) m
  | 0 => (sumF_zero m).symm
  | n + 1 => by
    show sumF (fun i => sumF (fun j => f i j) m) n + sumF (fun j => f n j) m = sumF (fun j => sumF (fun i => f i j) n + f n j) m
    rw [sumF_swap f m n, sumF_add]
theorem sumF_split (f : Nat → F) (m : Nat) : ∀ n, sumF f (m + n) = sumF f m + sumF (fun i => f (m + i)) n
  | 0 => by show sumF f m = sumF f m + 0; grind
  | n + 1 => by
    show sumF f (m + n) + f (m + n) = sumF f m + (sumF (fun i => f (m + i)) n + f (m + n))
    rw [sumF_split f m n]
    grind
theorem sumF_tail {f : Nat → F} {m n : Nat} (hmn : m ≤ n) (h : ∀ i, m ≤ i → i < n → f i = 0) : sumF f n = sumF f m := by
  obtain ⟨d, rfl⟩ : ∃ d, n = m + d := ⟨n - m, by omega⟩
  rw [sumF_split, sumF_congr (g := fun _ => 0) (fun i hi => h (m + i) (by omega) (by omega)), sumF_zero]
  grind
theorem sumF_one {f : Nat → F} {m n : Nat} (hm : m < n) (h : ∀ i, i < n → i ≠ m → f i = 0) : sumF f n = f m := by
  rw [sumF_tail (m := m + 1) (by omega) (fun i h1 h2 => h i h2 (by omega))]
  show sumF f m + f m = f m
  rw [sumF_tail (m := 0) (by omega) (fun i h1 h2 => h i (by omega) (by omega))]
  show 0 + f m = f m
  grind
theorem sumF_rev (f : Nat → F) : ∀ n, sumF (fun i => f (n - 1 - i)) n = sumF f n
  | 0 => rfl
  | n + 1 => by
    have h1 := sumF_split (fun i => f (n + 1 - 1 - i)) 1 n
    rw [Nat.add_comm 1 n] at h1
    rw [h1]
    show (0 + f (n + 1 - 1 - 0)) + sumF (fun i => f (n + 1 - 1 - (1 + i))) n = sumF f n + f n
    rw [sumF_congr (g := fun i => f (n - 1 - i)) (fun i hi => by show f _ = f _; congr 1; omega), sumF_rev f n, show n + 1 - 1 - 0 = n by omega]
    grind

/-! ### Values -/
/-- the value at x of the polynomial with the first n coefficients of a -/
def evF (a : Nat → F) (n : Nat) (x : F) : F := sumF (fun j => a j * x ^ j) n
/-- coefficient -/
def cfF (xs : List F) (i : Nat) : F := (xs[i]?).getD 0
theorem cfF_some {xs : List F} {i : Nat} {x : F} (h : xs[i]? = some x) : cfF xs i = x := by unfold cfF; rw [h]; rfl
theorem cfF_none {xs : List F} {i : Nat} (h : xs.length ≤ i) : cfF xs i = 0 := by unfold cfF; rw [List.getElem?_eq_none h]; rfl
theorem evF_congr {a b : Nat → F} {n : Nat} (h : ∀ i, i < n → a i = b i) (x : F) : evF a n x = evF b n x := sumF_congr fun i hi => by rw [h i hi]
theorem evF_add (a b : Nat → F) (n : Nat) (x : F) : evF (fun i => a i + b i) n x = evF a n x + evF b n x := by
  unfold evF
  rw [← sumF_add]
  exact sumF_congr fun i _ => by grind
theorem evF_mul (c : F) (a : Nat → F) (n : Nat) (x : F) : evF (fun i => c * a i) n x = c * evF a n x := by
  unfold evF
  rw [← sumF_mul]
  exact sumF_congr fun i _ => by grind
theorem evF_pad {a : Nat → F} {m n : Nat} (hmn : m ≤ n) (h : ∀ i, m ≤ i → a i = 0) (x : F) : evF a n x = evF a m x := sumF_tail hmn fun i hi _ => by rw [h i hi]; grind
theorem evF_one (a : Nat → F) (x : F) : evF a 1 x = a 0 := by
  show 0 + a 0 * x ^ 0 = a 0
  rw [F_pow_zero]
  grind
theorem evF_halves (a : Nat → F) (x : F) : ∀ n, evF a (n + n) x = evF (fun i => a (2 * i)) n (x * x) + x * evF (fun i => a (2 * i + 1)) n (x * x)
  | 0 => by show (0 : F) = 0 + x * 0; grind
  | n + 1 => by
    have ih := evF_halves a x n
    have e1 : evF a (n + 1 + (n + 1)) x = evF a (n + n) x + a (n + n) * x ^ (n + n) + a (n + n + 1) * x ^ (n + n + 1) := by
      rw [show n + 1 + (n + 1) = n + n + 1 + 1 by omega]
      rfl
    have e2 : (x * x) ^ n = x ^ (n + n) := by rw [F_pow_add, F_mul_pow]
    rw [e1, ih]
    show _ = evF (fun i => a (2 * i)) n (x * x) + a (2 * n) * (x * x) ^ n + x * (evF (fun i => a (2 * i + 1)) n (x * x) + a (2 * n + 1) * (x * x) ^ n)
    rw [e2, F_pow_succ, show n + n = 2 * n by omega]
    grind
/-- Horner's rule -/
def evL : List F → F → F
  | [], _ => 0
  | a :: l, x => evL l x * x + a
theorem sumF_front (f : Nat → F) (n : Nat) : sumF f (n + 1) = f 0 + sumF (fun i => f (i + 1)) n := by
  have h := sumF_split f 1 n
  rw [Nat.add_comm] at h
  rw [h]
  show 0 + f 0 + _ = _
  rw [sumF_congr (g := fun i => f (i + 1)) (fun i _ => by show f _ = f _; congr 1; omega)]
  grind
theorem evL_evF (x : F) : ∀ xs : List F, evL xs x = evF (cfF xs) xs.length x
  | [] => rfl
  | a :: l => by
    show evL l x * x + a = sumF _ (l.length + 1)
    rw [evL_evF x l, sumF_front]
    show evF (cfF l) l.length x * x + a = a * x ^ 0 + sumF (fun i => cfF l i * x ^ (i + 1)) l.length
    rw [sumF_congr (g := fun i => x * (cfF l i * x ^ i)) (fun i _ => by rw [F_pow_succ]; grind), sumF_mul, F_pow_zero]
    show _ = a * 1 + x * evF (cfF l) l.length x
    grind
theorem evL_evF' {xs : List F} {n : Nat} (h : xs.length ≤ n) (x : F) : evF (cfF xs) n x = evL xs x := by rw [evL_evF, evF_pad h fun i hi => cfF_none hi]

/-! ### Roots of unity -/
/-- the root of unity of order 2^k -/
def rootF (k : Nat) : F := toF (froot k)
theorem vF_root (k : Nat) : vF (rootF k) = froot k := vF_toF_El (El_froot _)
theorem rootF_sq {k : Nat} (h : k < 32) : rootF (k + 1) * rootF (k + 1) = rootF k := by
  apply vF_inj
  rw [← vF_mul, vF_root, vF_root]
  have := froot_sq (k : Int) ⟨by omega, by omega⟩
  rw [show ((k + 1 : Nat) : Int) = 1 + (k : Int) by omega]
  rw [this, show 1 + (k : Int) - 1 = (k : Int) by omega]
theorem rootF_zero : rootF 0 = 1 := by
  apply vF_inj
  rw [vF_root, vF_one]
  have h7 := fpow_fermat (a := 7) (by unfold El; omega) (by omega)
  unfold froot
  exact h7
theorem pow2_succ (k : Nat) : 2 ^ (k + 1) = 2 ^ k + 2 ^ k := by rw [Nat.pow_succ]; omega
theorem rootF_full : ∀ {k : Nat}, k ≤ 32 → rootF k ^ (2 ^ k) = 1
  | 0, _ => by rw [rootF_zero]; exact F_one_pow _
  | k + 1, h => by
    rw [pow2_succ, F_pow_add, ← F_mul_pow, rootF_sq (by omega)]
    exact rootF_full (by omega)
theorem rootF_one : rootF 1 = -1 := by
  apply vF_inj
  rw [vF_root]
  have := seven_half
  unfold froot
  exact this
theorem rootF_half : ∀ {k : Nat}, k < 32 → rootF (k + 1) ^ (2 ^ k) = -1
  | 0, _ => by rw [show 2 ^ 0 = 1 from rfl, F_pow_one]; exact rootF_one
  | k + 1, h => by
    rw [pow2_succ, F_pow_add, ← F_mul_pow, rootF_sq (by omega)]
    exact rootF_half (by omega)
theorem neg_one_odd : ∀ e : Nat, (-1 : F) ^ (2 * e + 1) = -1
  | 0 => F_pow_one _
  | e + 1 => by
    rw [show 2 * (e + 1) + 1 = 2 * e + 1 + 1 + 1 by omega, F_pow_succ, F_pow_succ, neg_one_odd e]
    decide
theorem rootF_ne : ∀ (k : Nat), k ≤ 32 → ∀ d, 0 < d → d < 2 ^ k → rootF k ^ d ≠ 1
  | 0, _, d, h0, h1 => by simp at h1; omega
  | k + 1, hk, d, h0, h1 => by
    rcases Nat.mod_two_eq_zero_or_one d with he | he
    · obtain ⟨e, rfl⟩ : ∃ e, d = e + e := ⟨d / 2, by omega⟩
      rw [F_pow_add, ← F_mul_pow, rootF_sq (by omega)]
      exact rootF_ne k (by omega) e (by omega) (by rw [pow2_succ] at h1; omega)
    · intro h
      obtain ⟨e, rfl⟩ : ∃ e, d = 2 * e + 1 := ⟨d / 2, by omega⟩
      have h2 : (rootF (k + 1) ^ (2 * e + 1)) ^ (2 ^ k) = -1 := by
        rw [← F_pow_mul, Nat.mul_comm, F_pow_mul, rootF_half (by omega)]
        exact neg_one_odd e
      rw [h, F_one_pow] at h2
      exact absurd h2 (by decide)

/-! ### Inversion -/
theorem geo (z : F) : ∀ n, (z - 1) * sumF (fun j => z ^ j) n = z ^ n - 1
  | 0 => by rw [F_pow_zero]; show (z - 1) * 0 = 1 - 1; grind
  | n + 1 => by
    show (z - 1) * (sumF (fun j => z ^ j) n + z ^ n) = _
    have := geo z n
    rw [F_pow_succ]
    grind
/-- n times one -/
def natF (n : Nat) : F := toF n
theorem natF_zero : natF 0 = 0 := by decide
theorem natF_succ (n : Nat) : natF (n + 1) = natF n + 1 := by
  apply vF_inj
  rw [← vF_add]
  unfold natF
  rw [vF_toF, vF_toF, vF_one]
  unfold fred fadd
  omega
theorem sumF_ones : ∀ n, sumF (fun _ => 1) n = natF n
  | 0 => natF_zero.symm
  | n + 1 => by
    show sumF (fun _ => 1) n + 1 = _
    rw [sumF_ones n, natF_succ]
theorem natF_ne {n : Nat} (h0 : 0 < n) (h : n ≤ 65536) : natF n ≠ 0 := by
  intro e
  have h1 : vF (natF n) = vF 0 := by rw [e]
  unfold natF at h1
  rw [vF_toF, vF_zero] at h1
  unfold fred at h1
  omega
/-- the inverse of the root -/
def vrootF (k : Nat) : F := rootF k ^ (2 ^ k - 1)
theorem vroot_mul {k : Nat} (h : k ≤ 32) : rootF k * vrootF k = 1 := by
  unfold vrootF
  have h1 := rootF_full h
  rw [show 2 ^ k = (2 ^ k - 1) + 1 by have := Nat.two_pow_pos k; omega, F_pow_succ, F_mul_comm] at h1
  exact h1
theorem vroot_pow {k : Nat} (h : k ≤ 32) (i : Nat) : rootF k ^ i * vrootF k ^ i = 1 := by rw [← F_mul_pow, vroot_mul h, F_one_pow]
theorem orth {k : Nat} (hk : k ≤ 32) {i l : Nat} (hi : i < 2 ^ k) (hl : l < 2 ^ k) : sumF (fun j => (rootF k ^ i * vrootF k ^ l) ^ j) (2 ^ k) = if i = l then natF (2 ^ k) else 0 := by
  by_cases h : i = l
  · subst h
    rw [if_pos rfl, vroot_pow hk, sumF_congr (g := fun _ => 1) (fun j _ => F_one_pow j), sumF_ones]
  · rw [if_neg h]
    have hz : (rootF k ^ i * vrootF k ^ l) ^ (2 ^ k) = 1 := by
      unfold vrootF
      rw [← F_pow_mul, ← F_pow_add, ← F_pow_mul, Nat.mul_comm, F_pow_mul, rootF_full hk, F_one_pow]
    have hg := geo (rootF k ^ i * vrootF k ^ l) (2 ^ k)
    rw [hz] at hg
    have hne : rootF k ^ i * vrootF k ^ l - 1 ≠ 0 := by
      intro e
      have e1 : rootF k ^ i * vrootF k ^ l = 1 := by grind
      have e2 := vroot_pow hk l
      have e3 : rootF k ^ i = rootF k ^ l := by grind
      have key : ∀ a b : Nat, a < b → b < 2 ^ k → rootF k ^ a = rootF k ^ b → False := by
        intro a b hab hb e4
        refine rootF_ne k hk (b - a) (by omega) (by omega) ?_
        have e5 := vroot_pow hk a
        rw [show b = a + (b - a) by omega, F_pow_add] at e4
        grind
      rcases Nat.lt_or_gt_of_ne h with h1 | h1
      · exact key i l h1 hl e3
      · exact key l i h1 hi e3.symm
    have h1 : (rootF k ^ i * vrootF k ^ l - 1) * sumF (fun j => (rootF k ^ i * vrootF k ^ l) ^ j) (2 ^ k) = 0 := by rw [hg]; grind
    exact (F_zero_divisor h1).elim (fun h => absurd h hne) id
/-- the transform -/
def fwdF (a : Nat → F) (k i : Nat) : F := evF a (2 ^ k) (rootF k ^ i)
/-- the values at the inverse powers, over the length -/
def invT (a : Nat → F) (k i : Nat) : F := invF (natF (2 ^ k)) * evF a (2 ^ k) (vrootF k ^ i)
theorem pow2_le {k : Nat} (h : k ≤ 16) : 2 ^ k ≤ 65536 := by
  have : 2 ^ k ≤ 2 ^ 16 := Nat.pow_le_pow_right (by omega) h
  simpa using this
theorem natF_inv {k : Nat} (h : k ≤ 16) : invF (natF (2 ^ k)) * natF (2 ^ k) = 1 := by
  rw [F_mul_comm]
  exact mul_invF (natF_ne (Nat.two_pow_pos k) (pow2_le h))
theorem inv_fwd {k : Nat} (hk : k ≤ 16) (a : Nat → F) {i : Nat} (hi : i < 2 ^ k) : invT (fwdF a k) k i = a i := by
  unfold invT fwdF evF
  have h1 : sumF (fun j => sumF (fun l => a l * (rootF k ^ j) ^ l) (2 ^ k) * (vrootF k ^ i) ^ j) (2 ^ k) = sumF (fun l => a l * sumF (fun j => (rootF k ^ l * vrootF k ^ i) ^ j) (2 ^ k)) (2 ^ k) := by
    rw [sumF_congr (g := fun j => sumF (fun l => a l * (rootF k ^ l * vrootF k ^ i) ^ j) (2 ^ k)) ?_, sumF_swap]
    · exact sumF_congr fun l _ => sumF_mul _ _ _
    · intro j _
      rw [F_mul_comm, ← sumF_mul]
      refine sumF_congr fun l _ => ?_
      have e : (rootF k ^ j) ^ l = (rootF k ^ l) ^ j := by rw [← F_pow_mul, ← F_pow_mul, Nat.mul_comm]
      rw [F_mul_pow, e]
      grind
  rw [h1, sumF_one hi ?_, orth (by omega) hi hi, if_pos rfl]
  · have := natF_inv hk
    grind
  · intro l hl hne
    rw [orth (by omega) hl hi, if_neg hne]
    exact F_mul_zero _
theorem fwd_inv {k : Nat} (hk : k ≤ 16) (a : Nat → F) {i : Nat} (hi : i < 2 ^ k) : fwdF (invT a k) k i = a i := by
  unfold fwdF invT
  rw [evF_mul]
  unfold evF
  have h1 : sumF (fun j => sumF (fun l => a l * (vrootF k ^ j) ^ l) (2 ^ k) * (rootF k ^ i) ^ j) (2 ^ k) = sumF (fun l => a l * sumF (fun j => (rootF k ^ i * vrootF k ^ l) ^ j) (2 ^ k)) (2 ^ k) := by
    rw [sumF_congr (g := fun j => sumF (fun l => a l * (rootF k ^ i * vrootF k ^ l) ^ j) (2 ^ k)) ?_, sumF_swap]
    · exact sumF_congr fun l _ => sumF_mul _ _ _
    · intro j _
      rw [F_mul_comm, ← sumF_mul]
      refine sumF_congr fun l _ => ?_
      have e : (vrootF k ^ j) ^ l = (vrootF k ^ l) ^ j := by rw [← F_pow_mul, ← F_pow_mul, Nat.mul_comm]
      rw [F_mul_pow, e]
      grind
  rw [h1, sumF_one hi ?_, orth (by omega) hi hi, if_pos rfl]
  · have := natF_inv hk
    grind
  · intro l hl hne
    rw [orth (by omega) hi hl, if_neg (Ne.symm hne)]
    exact F_mul_zero _
/-- equal values: equal coefficients -/
theorem coef_eq {k : Nat} (hk : k ≤ 16) {a b : Nat → F} (h : ∀ x, evF a (2 ^ k) x = evF b (2 ^ k) x) {i : Nat} (hi : i < 2 ^ k) : a i = b i := by
  rw [← inv_fwd hk a hi, ← inv_fwd hk b hi]
  unfold invT
  congr 1
  exact evF_congr (fun j _ => h _) _
theorem vroot_index {k : Nat} (hk : k ≤ 32) {i : Nat} (hi : i < 2 ^ k) : rootF k ^ ((2 ^ k - i) % 2 ^ k) = vrootF k ^ i := by
  have h1 := vroot_pow hk i
  have h2 : rootF k ^ i * rootF k ^ ((2 ^ k - i) % 2 ^ k) = 1 := by
    rw [← F_pow_add]
    by_cases h0 : i = 0
    · subst h0
      rw [Nat.sub_zero, Nat.mod_self, Nat.add_zero, F_pow_zero]
    · rw [Nat.mod_eq_of_lt (by omega), show i + (2 ^ k - i) = 2 ^ k by omega]
      exact rootF_full hk
  grind

/-! ### Products -/
/-- the coefficients of a product -/
def convF (a b : Nat → F) (m : Nat) : F := sumF (fun i => a i * b (m - i)) (m + 1)
theorem conv_sum (f : Nat → Nat → F) : ∀ n, sumF (fun m => sumF (fun i => f i (m - i)) (m + 1)) n = sumF (fun i => sumF (fun j => f i j) (n - i)) n
  | 0 => rfl
  | n + 1 => by
    show sumF (fun m => sumF (fun i => f i (m - i)) (m + 1)) n + sumF (fun i => f i (n - i)) (n + 1) = sumF (fun i => sumF (fun j => f i j) (n + 1 - i)) n + sumF (fun j => f n j) (n + 1 - n)
    rw [conv_sum f n]
    rw [sumF_congr (f := fun i => sumF (fun j => f i j) (n + 1 - i)) (g := fun i => sumF (fun j => f i j) (n - i) + f i (n - i)) (fun i hi => by rw [show n + 1 - i = (n - i) + 1 by omega]; rfl), sumF_add]
    rw [show n + 1 - n = 1 by omega]
    show _ + (sumF (fun i => f i (n - i)) n + f n (n - n)) = _ + _ + (0 + f n 0)
    rw [Nat.sub_self]
    grind
theorem evF_conv {a b : Nat → F} {la lb n : Nat} (ha : ∀ i, la ≤ i → a i = 0) (hb : ∀ i, lb ≤ i → b i = 0) (hn : la + lb ≤ n + 1) (x : F) : evF (convF a b) n x = evF a n x * evF b n x := by
  have h1 : evF (convF a b) n x = sumF (fun m => sumF (fun i => (a i * x ^ i) * (b (m - i) * x ^ (m - i))) (m + 1)) n := by
    unfold evF convF
    refine sumF_congr fun m _ => ?_
    rw [F_mul_comm, ← sumF_mul]
    refine sumF_congr fun i hi => ?_
    have : x ^ m = x ^ i * x ^ (m - i) := by rw [← F_pow_add, show i + (m - i) = m by omega]
    rw [this]
    grind
  rw [h1, conv_sum (fun i j => (a i * x ^ i) * (b j * x ^ j))]
  have h2 : ∀ i, i < n → sumF (fun j => (a i * x ^ i) * (b j * x ^ j)) (n - i) = evF b n x * (a i * x ^ i) := by
    intro i hi
    rw [sumF_mul]
    by_cases hla : la ≤ i
    · rw [ha i hla]
      grind
    · have : sumF (fun j => b j * x ^ j) n = sumF (fun j => b j * x ^ j) (n - i) := sumF_tail (by omega) fun j h3 h4 => by rw [hb j (by omega)]; grind
      unfold evF
      rw [this]
      grind
  rw [sumF_congr h2, sumF_mul, F_mul_comm]
  rfl
theorem conv_far {a b : Nat → F} {la lb m : Nat} (ha : ∀ i, la ≤ i → a i = 0) (hb : ∀ i, lb ≤ i → b i = 0) (hm : la + lb ≤ m + 1) : convF a b m = 0 := by
  unfold convF
  rw [sumF_congr (g := fun _ => 0) fun i hi => ?_, sumF_zero]
  by_cases h : la ≤ i
  · rw [ha i h]; grind
  · rw [hb (m - i) (by omega)]; grind

/-! ### The transform by halves -/
/-- the low m bits in reverse order -/
def revN : Nat → Nat → Nat
  | 0, _ => 0
  | m + 1, b => revN m (b / 2) + b % 2 * 2 ^ m
theorem revN_lt : ∀ m b, revN m b < 2 ^ m
  | 0, _ => Nat.one_pos
  | m + 1, b => by
    have := revN_lt m (b / 2)
    rw [pow2_succ]
    show revN m (b / 2) + b % 2 * 2 ^ m < _
    rcases Nat.mod_two_eq_zero_or_one b with h | h <;> rw [h] <;> omega
theorem revN_top : ∀ m b c, b < 2 ^ m → c < 2 → revN (m + 1) (b + c * 2 ^ m) = 2 * revN m b + c
  | 0, b, c, hb, hc => by
    obtain rfl : b = 0 := by simp at hb; exact hb
    show revN 0 _ + (0 + c * 2 ^ 0) % 2 * 2 ^ 0 = 2 * 0 + c
    show 0 + (0 + c * 1) % 2 * 1 = 2 * 0 + c
    omega
  | m + 1, b, c, hb, hc => by
    show revN (m + 1) ((b + c * 2 ^ (m + 1)) / 2) + (b + c * 2 ^ (m + 1)) % 2 * 2 ^ (m + 1) = 2 * (revN m (b / 2) + b % 2 * 2 ^ m) + c
    have h1 : c * 2 ^ (m + 1) = 2 * (c * 2 ^ m) := by rw [Nat.pow_succ]; rw [← Nat.mul_assoc, Nat.mul_comm]
    have h2 : (b + c * 2 ^ (m + 1)) / 2 = b / 2 + c * 2 ^ m := by omega
    have h3 : (b + c * 2 ^ (m + 1)) % 2 = b % 2 := by omega
    rw [h2, h3, revN_top m (b / 2) c (by rw [pow2_succ] at hb; omega) hc, Nat.pow_succ]
    rcases Nat.mod_two_eq_zero_or_one b with h | h <;> rw [h] <;> omega
theorem revN_rev : ∀ m b, b < 2 ^ m → revN m (revN m b) = b
  | 0, b, h => by simp at h; subst h; rfl
  | m + 1, b, h => by
    show revN (m + 1) (revN m (b / 2) + b % 2 * 2 ^ m) = b
    rw [revN_top m _ _ (revN_lt _ _) (by omega), revN_rev m (b / 2) (by rw [pow2_succ] at h; omega)]
    omega
/-- every 2^m-th coefficient, from the one whose bits are those of b in reverse order -/
def subF (A : Nat → F) (m b : Nat) (j : Nat) : F := A (revN m b + 2 ^ m * j)
theorem subF_zero (A : Nat → F) (b j : Nat) : subF A 0 b j = A j := by
  show A (0 + 2 ^ 0 * j) = A j
  congr 1
  simp
theorem subF_even (A : Nat → F) (m b j : Nat) : subF A (m + 1) (2 * b) j = subF A m b (2 * j) := by
  show A (revN m (2 * b / 2) + 2 * b % 2 * 2 ^ m + 2 ^ (m + 1) * j) = A (revN m b + 2 ^ m * (2 * j))
  congr 1
  rw [show 2 * b / 2 = b by omega, show 2 * b % 2 = 0 by omega, Nat.pow_succ, Nat.mul_assoc]
  omega
theorem subF_odd (A : Nat → F) (m b j : Nat) : subF A (m + 1) (2 * b + 1) j = subF A m b (2 * j + 1) := by
  show A (revN m ((2 * b + 1) / 2) + (2 * b + 1) % 2 * 2 ^ m + 2 ^ (m + 1) * j) = A (revN m b + 2 ^ m * (2 * j + 1))
  congr 1
  rw [show (2 * b + 1) / 2 = b by omega, show (2 * b + 1) % 2 = 1 by omega, Nat.pow_succ, Nat.mul_assoc, Nat.mul_add]
  omega
/-- what lies at p when every block of length 2^k holds a transform -/
def stF (A : Nat → F) (K k p : Nat) : F := fwdF (subF A (K - k) (p / 2 ^ k)) k (p % 2 ^ k)
theorem stF_first (A : Nat → F) (K p : Nat) : stF A K 0 p = A (revN K p) := by
  unfold stF fwdF
  rw [show 2 ^ 0 = 1 from rfl, evF_one, Nat.div_one]
  show A (revN (K - 0) p + 2 ^ (K - 0) * 0) = _
  rw [Nat.mul_zero, Nat.add_zero, Nat.sub_zero]
theorem stF_last (A : Nat → F) {K p : Nat} (hp : p < 2 ^ K) : stF A K K p = fwdF A K p := by
  unfold stF
  rw [Nat.sub_self, Nat.mod_eq_of_lt hp]
  unfold fwdF
  exact evF_congr (fun j _ => subF_zero _ _ _) _
/-- one round: butterflies in blocks of twice h -/
def layF (f : Nat → F) (h : Nat) (P : Nat → F) (p : Nat) : F :=
  if p % (h + h) < h then f p + P (p % (h + h)) * f (p + h) else f (p - h) - P (p % (h + h) - h) * f p
theorem layF_stF (A : Nat → F) {K k p : Nat} (hk : k < K) (hK : K ≤ 32) : layF (stF A K k) (2 ^ k) (fun i : Nat => rootF (k + 1) ^ i) p = stF A K (k + 1) p := by
  obtain ⟨m, hm⟩ : ∃ m, K - k = m + 1 := ⟨K - k - 1, by omega⟩
  have hL := Nat.two_pow_pos k
  have hm' : K - (k + 1) = m := by omega
  have e2 : 2 ^ (k + 1) = 2 ^ k + 2 ^ k := pow2_succ k
  -- the block and the place in it
  obtain ⟨b, hb⟩ : ∃ b, b = p / (2 ^ k + 2 ^ k) := ⟨_, rfl⟩
  obtain ⟨r, hr⟩ : ∃ r, r = p % (2 ^ k + 2 ^ k) := ⟨_, rfl⟩
  have hrl : r < 2 ^ k + 2 ^ k := by rw [hr]; exact Nat.mod_lt _ (by omega)
  have hp : p = (2 ^ k + 2 ^ k) * b + r := by rw [hb, hr]; exact (Nat.div_add_mod p _).symm
  have hsq := rootF_sq (k := k) (by omega)
  have hhalf := rootF_half (k := k) (by omega)
  have hev : ∀ i : Nat, evF (subF A m b) (2 ^ k + 2 ^ k) (rootF (k + 1) ^ i) = evF (subF A (m + 1) (2 * b)) (2 ^ k) (rootF k ^ i) + rootF (k + 1) ^ i * evF (subF A (m + 1) (2 * b + 1)) (2 ^ k) (rootF k ^ i) := by
    intro i
    rw [evF_halves, ← F_mul_pow, hsq]
    congr 1
    · exact evF_congr (fun j _ => (subF_even A m b j).symm) _
    · congr 1
      exact evF_congr (fun j _ => (subF_odd A m b j).symm) _
  have hdiv : ∀ c s, c < 2 → s < 2 ^ k → ((2 ^ k + 2 ^ k) * b + c * 2 ^ k + s) / 2 ^ k = 2 * b + c ∧ ((2 ^ k + 2 ^ k) * b + c * 2 ^ k + s) % 2 ^ k = s := by
    intro c s hc hs
    have e : (2 ^ k + 2 ^ k) * b + c * 2 ^ k + s = s + 2 ^ k * (2 * b + c) := by
      rw [Nat.mul_add, Nat.add_mul, Nat.mul_comm c]
      have : 2 ^ k * (2 * b) = 2 ^ k * b + 2 ^ k * b := by rw [← Nat.mul_assoc, Nat.mul_comm (2 ^ k) 2, Nat.mul_assoc]; omega
      omega
    rw [e, Nat.add_mul_div_left _ _ hL, Nat.add_mul_mod_self_left, Nat.div_eq_of_lt hs, Nat.mod_eq_of_lt hs]
    exact ⟨by omega, rfl⟩
  have hst : stF A K (k + 1) p = evF (subF A m b) (2 ^ k + 2 ^ k) (rootF (k + 1) ^ r) := by
    unfold stF fwdF
    rw [hm', e2, ← hb, ← hr]
  rw [hst, hev]
  unfold layF
  rw [← hr]
  by_cases h : r < 2 ^ k
  · rw [if_pos h]
    obtain ⟨d0, m0⟩ := hdiv 0 r (by omega) h
    obtain ⟨d1, m1⟩ := hdiv 1 r (by omega) h
    have p0 : p = (2 ^ k + 2 ^ k) * b + 0 * 2 ^ k + r := by omega
    have p1 : p + 2 ^ k = (2 ^ k + 2 ^ k) * b + 1 * 2 ^ k + r := by omega
    have s0 : stF A K k p = evF (subF A (m + 1) (2 * b)) (2 ^ k) (rootF k ^ r) := by
      unfold stF fwdF
      rw [hm, p0, d0, m0]
      rfl
    have s1 : stF A K k (p + 2 ^ k) = evF (subF A (m + 1) (2 * b + 1)) (2 ^ k) (rootF k ^ r) := by
      unfold stF fwdF
      rw [hm, p1, d1, m1]
    rw [s0, s1]
  · rw [if_neg h]
    obtain ⟨s, hs⟩ : ∃ s, r = 2 ^ k + s := ⟨r - 2 ^ k, by omega⟩
    obtain ⟨d0, m0⟩ := hdiv 0 s (by omega) (by omega)
    obtain ⟨d1, m1⟩ := hdiv 1 s (by omega) (by omega)
    have p0 : p - 2 ^ k = (2 ^ k + 2 ^ k) * b + 0 * 2 ^ k + s := by omega
    have p1 : p = (2 ^ k + 2 ^ k) * b + 1 * 2 ^ k + s := by omega
    have s0 : stF A K k (p - 2 ^ k) = evF (subF A (m + 1) (2 * b)) (2 ^ k) (rootF k ^ s) := by
      unfold stF fwdF
      rw [hm, p0, d0, m0]
      rfl
    have s1 : stF A K k p = evF (subF A (m + 1) (2 * b + 1)) (2 ^ k) (rootF k ^ s) := by
      unfold stF fwdF
      rw [hm, p1, d1, m1]
    have hw : rootF (k + 1) ^ r = -rootF (k + 1) ^ s := by rw [hs, F_pow_add, hhalf]; grind
    have hu : rootF k ^ r = rootF k ^ s := by rw [hs, F_pow_add, rootF_full (by omega), F_one_mul]
    rw [s0, s1, hw, hu, show r - 2 ^ k = s by omega]
    grind

end Gold
