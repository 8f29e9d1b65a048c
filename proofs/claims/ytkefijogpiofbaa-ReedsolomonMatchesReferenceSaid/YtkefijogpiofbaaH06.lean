/- Several texts in one: NttM, JNsl, JNbit, JRefA, JRefB, JRefC, Rj. -/
import Derived.Test.YtkefijogpiofbaaH05
import Derived.Test.YtkefijogpiofbaaH03
import Derived.Laws.MakeOwn
import Derived.Laws.AppendOwn
import Derived.Laws.OwnMore
import Derived.Laws.AppendOwnNone
import Derived.ArgAppend
import Derived.OwnWalk
import Derived.Test.YtkefijogpiofbaaH04
import Derived.Laws.Bits64
import Derived.IntWalk
import Derived.Deep.LoopGhost
import Derived.RangeFuncNested
import Derived.RangeFuncBound
import Derived.RangeFuncCalls
import Derived.RangeFuncLeaves
import Derived.RangeFuncBox
import Derived.Shelf.Abstract
import Derived.Shelf.RegionOpen
import Derived.OwnWalkIn
import Derived.TacticsInMore
import Derived.LoopNIn
import Derived.LoopIn
import Derived.Laws.EntriesVeiled
namespace Gold
set_option linter.unusedVariables false
set_option linter.unusedSimpArgs false
set_option linter.unusedSectionVars false
set_option maxRecDepth 8000

theorem F_pow_zero (x : F) : x ^ 0 = 1 := by grind
theorem F_pow_one (x : F) : x ^ 1 = x := by grind
theorem F_pow_succ (x : F) (n : Nat) : x ^ (n + 1) = x ^ n * x := by grind
theorem F_pow_add (x : F) (m n : Nat) : x ^ (m + n) = x ^ m * x ^ n := by grind
theorem F_one_pow (n : Nat) : (1 : F) ^ n = 1 := by
  induction n with
  | zero => exact F_pow_zero _
  | succ n ih => rw [F_pow_succ, ih]; grind
theorem F_mul_comm (x y : F) : x * y = y * x := by grind
theorem F_one_mul (x : F) : 1 * x = x := by grind
theorem F_mul_zero (x : F) : x * 0 = 0 := by grind
theorem F_zero_add (x : F) : 0 + x = x := by grind

/-- f 0 + .. + f (n - 1) -/
def sumF (f : Nat → F) : Nat → F
  | 0 => 0
  | n + 1 => sumF f n + f n
theorem sumF_congr {f g : Nat → F} : ∀ {n : Nat}, (∀ i, i < n → f i = g i) → sumF f n = sumF g n
  | 0, _ => rfl
  | n + 1, h => by
    show sumF f n + f n = sumF g n + g n
    rw [sumF_congr (fun i hi => h i (by omega)), h n (by omega)]
theorem sumF_zero : ∀ n, sumF (fun _ => 0) n = 0
  | 0 => rfl
  | n + 1 => by
    show sumF (fun _ => 0) n + 0 = 0
    rw [sumF_zero n]
    grind
theorem sumF_add (f g : Nat → F) : ∀ n, sumF (fun i => f i + g i) n = sumF f n + sumF g n
  | 0 => by show (0 : F) = 0 + 0; grind
  | n + 1 => by
    show sumF (fun i => f i + g i) n + (f n + g n) = sumF f n + f n + (sumF g n + g n)
    rw [sumF_add f g n]
    grind
theorem sumF_mul (c : F) (f : Nat → F) : ∀ n, sumF (fun i => c * f i) n = c * sumF f n
  | 0 => by show (0 : F) = c * 0; grind
  | n + 1 => by
    show sumF (fun i => c * f i) n + c * f n = c * (sumF f n + f n)
    rw [sumF_mul c f n]
    grind
theorem sumF_swap (f : Nat → Nat → F) (m : Nat) : ∀ n, sumF (fun i => sumF (fun j => f i j) m) n = sumF (fun j => sumF (fun i => f i j) n) m
  | 0 => (sumF_zero m).symm
  | n + 1 => by
    show sumF (fun i => sumF (fun j => f i j) m) n + sumF (fun j => f n j) m = sumF (fun j => sumF (fun i => f i j) n + f n j) m
    rw [sumF_swap f m n, sumF_add]
theorem sumF_split (f : Nat → F) (m : Nat) : ∀ n, sumF f (m + n) = sumF f m + sumF (fun i => f (m + i)) n
  | 0 => by show sumF f m = sumF f m + 0; grind
  | n + 1 => by
    show sumF f (m + n) + f (m + n) = sumF f m + (sumF (fun i => f (m + i)) n + f (m + n))
    rw [sumF_split f m n]
    grind
theorem sumF_tail {f : Nat → F} {m n : Nat} (hmn : m ≤ n) (h : ∀ i, m ≤ i → i < n → f i = 0) : sumF f n = sumF f m := by
  obtain ⟨d, rfl⟩ : ∃ d, n = m + d := ⟨n - m, by omega⟩
  rw [sumF_split, sumF_congr (g := fun _ => 0) (fun i hi => h (m + i) (by omega) (by omega)), sumF_zero]
  grind
theorem sumF_one {f : Nat → F} {m n : Nat} (hm : m < n) (h : ∀ i, i < n → i ≠ m → f i = 0) : sumF f n = f m := by
  rw [sumF_tail (m := m + 1) (by omega) (fun i h1 h2 => h i h2 (by omega))]
  show sumF f m + f m = f m
  rw [sumF_tail (m := 0) (by omega) (fun i h1 h2 => h i (by omega) (by omega))]
  show 0 + f m = f m
  grind
/-- the value at x of the polynomial with the first n coefficients of a -/
def evF (a : Nat → F) (n : Nat) (x : F) : F := sumF (fun j => a j * x ^ j) n
/-- coefficient -/
def cfF (xs : List F) (i : Nat) : F := (xs[i]?).getD 0
theorem cfF_some {xs : List F} {i : Nat} {x : F} (h : xs[i]? = some x) : cfF xs i = x := by unfold cfF; rw [h]; rfl
theorem cfF_none {xs : List F} {i : Nat} (h : xs.length ≤ i) : cfF xs i = 0 := by unfold cfF; rw [List.getElem?_eq_none h]; rfl
theorem evF_congr {a b : Nat → F} {n : Nat} (h : ∀ i, i < n → a i = b i) (x : F) : evF a n x = evF b n x := sumF_congr fun i hi => by rw [h i hi]
theorem evF_add (a b : Nat → F) (n : Nat) (x : F) : evF (fun i => a i + b i) n x = evF a n x + evF b n x := by
  unfold evF
  rw [← sumF_add]
  exact sumF_congr fun i _ => by grind
theorem evF_mul (c : F) (a : Nat → F) (n : Nat) (x : F) : evF (fun i => c * a i) n x = c * evF a n x := by
  unfold evF
  rw [← sumF_mul]
  exact sumF_congr fun i _ => by grind
theorem evF_pad {a : Nat → F} {m n : Nat} (hmn : m ≤ n) (h : ∀ i, m ≤ i → a i = 0) (x : F) : evF a n x = evF a m x := sumF_tail hmn fun i hi _ => by rw [h i hi]; grind
theorem evF_one (a : Nat → F) (x : F) : evF a 1 x = a 0 := by
  show 0 + a 0 * x ^ 0 = a 0
  rw [F_pow_zero]
  grind
theorem evF_halves (a : Nat → F) (x : F) : ∀ n, evF a (n + n) x = evF (fun i => a (2 * i)) n (x * x) + x * evF (fun i => a (2 * i + 1)) n (x * x)
  | 0 => by show (0 : F) = 0 + x * 0; grind
  | n + 1 => by
    have ih := evF_halves a x n
    have e1 : evF a (n + 1 + (n + 1)) x = evF a (n + n) x + a (n + n) * x ^ (n + n) + a (n + n + 1) * x ^ (n + n + 1) := by
      rw [show n + 1 + (n + 1) = n + n + 1 + 1 by omega]
      rfl
    have e2 : (x * x) ^ n = x ^ (n + n) := by rw [F_pow_add, F_mul_pow]
    rw [e1, ih]
    show _ = evF (fun i => a (2 * i)) n (x * x) + a (2 * n) * (x * x) ^ n + x * (evF (fun i => a (2 * i + 1)) n (x * x) + a (2 * n + 1) * (x * x) ^ n)
    rw [e2, F_pow_succ, show n + n = 2 * n by omega]
    grind
/-- Horner's rule -/
def evL : List F → F → F
  | [], _ => 0
  | a :: l, x => evL l x * x + a
theorem sumF_front (f : Nat → F) (n : Nat) : sumF f (n + 1) = f 0 + sumF (fun i => f (i + 1)) n := by
  have h := sumF_split f 1 n
  rw [Nat.add_comm] at h
  rw [h]
  show 0 + f 0 + _ = _
  rw [sumF_congr (g := fun i => f (i + 1)) (fun i _ => by show f _ = f _; congr 1; omega)]
  grind
theorem evL_evF (x : F) : ∀ xs : List F, evL xs x = evF (cfF xs) xs.length x
  | [] => rfl
  | a :: l => by
    show evL l x * x + a = sumF _ (l.length + 1)
    rw [evL_evF x l, sumF_front]
    show evF (cfF l) l.length x * x + a = a * x ^ 0 + sumF (fun i => cfF l i * x ^ (i + 1)) l.length
    rw [sumF_congr (g := fun i => x * (cfF l i * x ^ i)) (fun i _ => by rw [F_pow_succ]; grind), sumF_mul, F_pow_zero]
    show _ = a * 1 + x * evF (cfF l) l.length x
    grind
theorem evL_evF' {xs : List F} {n : Nat} (h : xs.length ≤ n) (x : F) : evF (cfF xs) n x = evL xs x := by rw [evL_evF, evF_pad h fun i hi => cfF_none hi]

/-- the root of unity of order 2^k -/
def rootF (k : Nat) : F := toF (froot k)
theorem vF_root (k : Nat) : vF (rootF k) = froot k := vF_toF_El (El_froot _)
theorem rootF_sq {k : Nat} (h : k < 32) : rootF (k + 1) * rootF (k + 1) = rootF k := by
  apply vF_inj
  rw [← vF_mul, vF_root, vF_root]
  have := froot_sq (k : Int) ⟨by omega, by omega⟩
  rw [show ((k + 1 : Nat) : Int) = 1 + (k : Int) by omega]
  rw [this, show 1 + (k : Int) - 1 = (k : Int) by omega]
theorem rootF_zero : rootF 0 = 1 := by
  apply vF_inj
  rw [vF_root, vF_one]
  have h7 := fpow_fermat (a := 7) (by unfold El; omega) (by omega)
  unfold froot
  exact h7
theorem pow2_succ (k : Nat) : 2 ^ (k + 1) = 2 ^ k + 2 ^ k := by rw [Nat.pow_succ]; omega
theorem rootF_full : ∀ {k : Nat}, k ≤ 32 → rootF k ^ (2 ^ k) = 1
  | 0, _ => by rw [rootF_zero]; exact F_one_pow _
  | k + 1, h => by
    rw [pow2_succ, F_pow_add, ← F_mul_pow, rootF_sq (by omega)]
    exact rootF_full (by omega)
theorem rootF_one : rootF 1 = -1 := by
  apply vF_inj
  rw [vF_root]
  have := seven_half
  unfold froot
  exact this
theorem rootF_half : ∀ {k : Nat}, k < 32 → rootF (k + 1) ^ (2 ^ k) = -1
  | 0, _ => by rw [show 2 ^ 0 = 1 from rfl, F_pow_one]; exact rootF_one
  | k + 1, h => by
    rw [pow2_succ, F_pow_add, ← F_mul_pow, rootF_sq (by omega)]
    exact rootF_half (by omega)
theorem neg_one_odd : ∀ e : Nat, (-1 : F) ^ (2 * e + 1) = -1
  | 0 => F_pow_one _
  | e + 1 => by
    rw [show 2 * (e + 1) + 1 = 2 * e + 1 + 1 + 1 by omega, F_pow_succ, F_pow_succ, neg_one_odd e]
    decide
theorem rootF_ne : ∀ (k : Nat), k ≤ 32 → ∀ d, 0 < d → d < 2 ^ k → rootF k ^ d ≠ 1
  | 0, _, d, h0, h1 => by simp at h1; omega
  | k + 1, hk, d, h0, h1 => by
    rcases Nat.mod_two_eq_zero_or_one d with he | he
    · obtain ⟨e, rfl⟩ : ∃ e, d = e + e := ⟨d / 2, by omega⟩
      rw [F_pow_add, ← F_mul_pow, rootF_sq (by omega)]
      exact rootF_ne k (by omega) e (by omega) (by rw [pow2_succ] at h1; omega)
    · intro h
      obtain ⟨e, rfl⟩ : ∃ e, d = 2 * e + 1 := ⟨d / 2, by omega⟩
      have h2 : (rootF (k + 1) ^ (2 * e + 1)) ^ (2 ^ k) = -1 := by
        rw [← F_pow_mul, Nat.mul_comm, F_pow_mul, rootF_half (by omega)]
        exact neg_one_odd e
      rw [h, F_one_pow] at h2
      exact absurd h2 (by decide)

theorem geo (z : F) : ∀ n, (z - 1) * sumF (fun j => z ^ j) n = z ^ n - 1
  | 0 => by rw [F_pow_zero]; show (z - 1) * 0 = 1 - 1; grind
  | n + 1 => by
    show (z - 1) * (sumF (fun j => z ^ j) n + z ^ n) = _
    have := geo z n
    rw [F_pow_succ]
    grind
/-- n times one -/
def natF (n : Nat) : F := toF n
theorem natF_zero : natF 0 = 0 := by decide
theorem natF_succ (n : Nat) : natF (n + 1) = natF n + 1 := by
  apply vF_inj
  rw [← vF_add]
  unfold natF
  rw [vF_toF, vF_toF, vF_one]
  unfold fred fadd
  omega
theorem sumF_ones : ∀ n, sumF (fun _ => 1) n = natF n
  | 0 => natF_zero.symm
  | n + 1 => by
    show sumF (fun _ => 1) n + 1 = _
    rw [sumF_ones n, natF_succ]
theorem natF_ne {n : Nat} (h0 : 0 < n) (h : n ≤ 65536) : natF n ≠ 0 := by
  intro e
  have h1 : vF (natF n) = vF 0 := by rw [e]
  unfold natF at h1
  rw [vF_toF, vF_zero] at h1
  unfold fred at h1
  omega
/-- the inverse of the root -/
def vrootF (k : Nat) : F := rootF k ^ (2 ^ k - 1)
theorem vroot_mul {k : Nat} (h : k ≤ 32) : rootF k * vrootF k = 1 := by
  unfold vrootF
  have h1 := rootF_full h
  rw [show 2 ^ k = (2 ^ k - 1) + 1 by have := Nat.two_pow_pos k; omega, F_pow_succ, F_mul_comm] at h1
  exact h1
theorem vroot_pow {k : Nat} (h : k ≤ 32) (i : Nat) : rootF k ^ i * vrootF k ^ i = 1 := by rw [← F_mul_pow, vroot_mul h, F_one_pow]
theorem orth {k : Nat} (hk : k ≤ 32) {i l : Nat} (hi : i < 2 ^ k) (hl : l < 2 ^ k) : sumF (fun j => (rootF k ^ i * vrootF k ^ l) ^ j) (2 ^ k) = if i = l then natF (2 ^ k) else 0 := by
  by_cases h : i = l
  · subst h
    rw [if_pos rfl, vroot_pow hk, sumF_congr (g := fun _ => 1) (fun j _ => F_one_pow j), sumF_ones]
  · rw [if_neg h]
    have hz : (rootF k ^ i * vrootF k ^ l) ^ (2 ^ k) = 1 := by
      unfold vrootF
      rw [← F_pow_mul, ← F_pow_add, ← F_pow_mul, Nat.mul_comm, F_pow_mul, rootF_full hk, F_one_pow]
    have hg := geo (rootF k ^ i * vrootF k ^ l) (2 ^ k)
    rw [hz] at hg
    have hne : rootF k ^ i * vrootF k ^ l - 1 ≠ 0 := by
      intro e
      have e1 : rootF k ^ i * vrootF k ^ l = 1 := by grind
      have e2 := vroot_pow hk l
      have e3 : rootF k ^ i = rootF k ^ l := by grind
      have key : ∀ a b : Nat, a < b → b < 2 ^ k → rootF k ^ a = rootF k ^ b → False := by
        intro a b hab hb e4
        refine rootF_ne k hk (b - a) (by omega) (by omega) ?_
        have e5 := vroot_pow hk a
        rw [show b = a + (b - a) by omega, F_pow_add] at e4
        grind
      rcases Nat.lt_or_gt_of_ne h with h1 | h1
      · exact key i l h1 hl e3
      · exact key l i h1 hi e3.symm
    have h1 : (rootF k ^ i * vrootF k ^ l - 1) * sumF (fun j => (rootF k ^ i * vrootF k ^ l) ^ j) (2 ^ k) = 0 := by rw [hg]; grind
    exact (F_zero_divisor h1).elim (fun h => absurd h hne) id
/-- the transform -/
def fwdF (a : Nat → F) (k i : Nat) : F := evF a (2 ^ k) (rootF k ^ i)
/-- the values at the inverse powers, over the length -/
def invT (a : Nat → F) (k i : Nat) : F := invF (natF (2 ^ k)) * evF a (2 ^ k) (vrootF k ^ i)
theorem pow2_le {k : Nat} (h : k ≤ 16) : 2 ^ k ≤ 65536 := by
  have : 2 ^ k ≤ 2 ^ 16 := Nat.pow_le_pow_right (by omega) h
  simpa using this
theorem natF_inv {k : Nat} (h : k ≤ 16) : invF (natF (2 ^ k)) * natF (2 ^ k) = 1 := by
  rw [F_mul_comm]
  exact mul_invF (natF_ne (Nat.two_pow_pos k) (pow2_le h))
theorem fwd_inv {k : Nat} (hk : k ≤ 16) (a : Nat → F) {i : Nat} (hi : i < 2 ^ k) : fwdF (invT a k) k i = a i := by
  unfold fwdF invT
  rw [evF_mul]
  unfold evF
  have h1 : sumF (fun j => sumF (fun l => a l * (vrootF k ^ j) ^ l) (2 ^ k) * (rootF k ^ i) ^ j) (2 ^ k) = sumF (fun l => a l * sumF (fun j => (rootF k ^ i * vrootF k ^ l) ^ j) (2 ^ k)) (2 ^ k) := by
    rw [sumF_congr (g := fun j => sumF (fun l => a l * (rootF k ^ i * vrootF k ^ l) ^ j) (2 ^ k)) ?_, sumF_swap]
    · exact sumF_congr fun l _ => sumF_mul _ _ _
    · intro j _
      rw [F_mul_comm, ← sumF_mul]
      refine sumF_congr fun l _ => ?_
      have e : (vrootF k ^ j) ^ l = (vrootF k ^ l) ^ j := by rw [← F_pow_mul, ← F_pow_mul, Nat.mul_comm]
      rw [F_mul_pow, e]
      grind
  rw [h1, sumF_one hi ?_, orth (by omega) hi hi, if_pos rfl]
  · have := natF_inv hk
    grind
  · intro l hl hne
    rw [orth (by omega) hi hl, if_neg (Ne.symm hne)]
    exact F_mul_zero _
theorem vroot_index {k : Nat} (hk : k ≤ 32) {i : Nat} (hi : i < 2 ^ k) : rootF k ^ ((2 ^ k - i) % 2 ^ k) = vrootF k ^ i := by
  have h1 := vroot_pow hk i
  have h2 : rootF k ^ i * rootF k ^ ((2 ^ k - i) % 2 ^ k) = 1 := by
    rw [← F_pow_add]
    by_cases h0 : i = 0
    · subst h0
      rw [Nat.sub_zero, Nat.mod_self, Nat.add_zero, F_pow_zero]
    · rw [Nat.mod_eq_of_lt (by omega), show i + (2 ^ k - i) = 2 ^ k by omega]
      exact rootF_full hk
  grind

/-- the coefficients of a product -/
def convF (a b : Nat → F) (m : Nat) : F := sumF (fun i => a i * b (m - i)) (m + 1)
theorem conv_sum (f : Nat → Nat → F) : ∀ n, sumF (fun m => sumF (fun i => f i (m - i)) (m + 1)) n = sumF (fun i => sumF (fun j => f i j) (n - i)) n
  | 0 => rfl
  | n + 1 => by
    show sumF (fun m => sumF (fun i => f i (m - i)) (m + 1)) n + sumF (fun i => f i (n - i)) (n + 1) = sumF (fun i => sumF (fun j => f i j) (n + 1 - i)) n + sumF (fun j => f n j) (n + 1 - n)
    rw [conv_sum f n]
    rw [sumF_congr (f := fun i => sumF (fun j => f i j) (n + 1 - i)) (g := fun i => sumF (fun j => f i j) (n - i) + f i (n - i)) (fun i hi => by rw [show n + 1 - i = (n - i) + 1 by omega]; rfl), sumF_add]
    rw [show n + 1 - n = 1 by omega]
    show _ + (sumF (fun i => f i (n - i)) n + f n (n - n)) = _ + _ + (0 + f n 0)
    rw [Nat.sub_self]
    grind
theorem evF_conv {a b : Nat → F} {la lb n : Nat} (ha : ∀ i, la ≤ i → a i = 0) (hb : ∀ i, lb ≤ i → b i = 0) (hn : la + lb ≤ n + 1) (x : F) : evF (convF a b) n x = evF a n x * evF b n x := by
  have h1 : evF (convF a b) n x = sumF (fun m => sumF (fun i => (a i * x ^ i) * (b (m - i) * x ^ (m - i))) (m + 1)) n := by
    unfold evF convF
    refine sumF_congr fun m _ => ?_
    rw [F_mul_comm, ← sumF_mul]
    refine sumF_congr fun i hi => ?_
    have : x ^ m = x ^ i * x ^ (m - i) := by rw [← F_pow_add, show i + (m - i) = m by omega]
    rw [this]
    grind
  rw [h1, conv_sum (fun i j => (a i * x ^ i) * (b j * x ^ j))]
  have h2 : ∀ i, i < n → sumF (fun j => (a i * x ^ i) * (b j * x ^ j)) (n - i) = evF b n x * (a i * x ^ i) := by
    intro i hi
    rw [sumF_mul]
    by_cases hla : la ≤ i
    · rw [ha i hla]
      grind
    · have : sumF (fun j => b j * x ^ j) n = sumF (fun j => b j * x ^ j) (n - i) := sumF_tail (by omega) fun j h3 h4 => by rw [hb j (by omega)]; grind
      unfold evF
      rw [this]
      grind
  rw [sumF_congr h2, sumF_mul, F_mul_comm]
  rfl
/-- the low m bits in reverse order -/
def revN : Nat → Nat → Nat
  | 0, _ => 0
  | m + 1, b => revN m (b / 2) + b % 2 * 2 ^ m
theorem revN_lt : ∀ m b, revN m b < 2 ^ m
  | 0, _ => Nat.one_pos
  | m + 1, b => by
    have := revN_lt m (b / 2)
    rw [pow2_succ]
    show revN m (b / 2) + b % 2 * 2 ^ m < _
    rcases Nat.mod_two_eq_zero_or_one b with h | h <;> rw [h] <;> omega
theorem revN_top : ∀ m b c, b < 2 ^ m → c < 2 → revN (m + 1) (b + c * 2 ^ m) = 2 * revN m b + c
  | 0, b, c, hb, hc => by
    obtain rfl : b = 0 := by simp at hb; exact hb
    show revN 0 _ + (0 + c * 2 ^ 0) % 2 * 2 ^ 0 = 2 * 0 + c
    show 0 + (0 + c * 1) % 2 * 1 = 2 * 0 + c
    omega
  | m + 1, b, c, hb, hc => by
    show revN (m + 1) ((b + c * 2 ^ (m + 1)) / 2) + (b + c * 2 ^ (m + 1)) % 2 * 2 ^ (m + 1) = 2 * (revN m (b / 2) + b % 2 * 2 ^ m) + c
    have h1 : c * 2 ^ (m + 1) = 2 * (c * 2 ^ m) := by rw [Nat.pow_succ]; rw [← Nat.mul_assoc, Nat.mul_comm]
    have h2 : (b + c * 2 ^ (m + 1)) / 2 = b / 2 + c * 2 ^ m := by omega
    have h3 : (b + c * 2 ^ (m + 1)) % 2 = b % 2 := by omega
    rw [h2, h3, revN_top m (b / 2) c (by rw [pow2_succ] at hb; omega) hc, Nat.pow_succ]
    rcases Nat.mod_two_eq_zero_or_one b with h | h <;> rw [h] <;> omega
theorem revN_rev : ∀ m b, b < 2 ^ m → revN m (revN m b) = b
  | 0, b, h => by simp at h; subst h; rfl
  | m + 1, b, h => by
    show revN (m + 1) (revN m (b / 2) + b % 2 * 2 ^ m) = b
    rw [revN_top m _ _ (revN_lt _ _) (by omega), revN_rev m (b / 2) (by rw [pow2_succ] at h; omega)]
    omega
/-- every 2^m-th coefficient, from the one whose bits are those of b in reverse order -/
def subF (A : Nat → F) (m b : Nat) (j : Nat) : F := A (revN m b + 2 ^ m * j)
theorem subF_zero (A : Nat → F) (b j : Nat) : subF A 0 b j = A j := by
  show A (0 + 2 ^ 0 * j) = A j
  congr 1
  simp
theorem subF_even (A : Nat → F) (m b j : Nat) : subF A (m + 1) (2 * b) j = subF A m b (2 * j) := by
  show A (revN m (2 * b / 2) + 2 * b % 2 * 2 ^ m + 2 ^ (m + 1) * j) = A (revN m b + 2 ^ m * (2 * j))
  congr 1
  rw [show 2 * b / 2 = b by omega, show 2 * b % 2 = 0 by omega, Nat.pow_succ, Nat.mul_assoc]
  omega
theorem subF_odd (A : Nat → F) (m b j : Nat) : subF A (m + 1) (2 * b + 1) j = subF A m b (2 * j + 1) := by
  show A (revN m ((2 * b + 1) / 2) + (2 * b + 1) % 2 * 2 ^ m + 2 ^ (m + 1) * j) = A (revN m b + 2 ^ m * (2 * j + 1))
  congr 1
  rw [show (2 * b + 1) / 2 = b by omega, show (2 * b + 1) % 2 = 1 by omega, Nat.pow_succ, Nat.mul_assoc, Nat.mul_add]
  omega
/-- what lies at p when every block of length 2^k holds a transform -/
def stF (A : Nat → F) (K k p : Nat) : F := fwdF (subF A (K - k) (p / 2 ^ k)) k (p % 2 ^ k)
theorem stF_first (A : Nat → F) (K p : Nat) : stF A K 0 p = A (revN K p) := by
  unfold stF fwdF
  rw [show 2 ^ 0 = 1 from rfl, evF_one, Nat.div_one]
  show A (revN (K - 0) p + 2 ^ (K - 0) * 0) = _
  rw [Nat.mul_zero, Nat.add_zero, Nat.sub_zero]
theorem stF_last (A : Nat → F) {K p : Nat} (hp : p < 2 ^ K) : stF A K K p = fwdF A K p := by
  unfold stF
  rw [Nat.sub_self, Nat.mod_eq_of_lt hp]
  unfold fwdF
  exact evF_congr (fun j _ => subF_zero _ _ _) _
/-- one round: butterflies in blocks of twice h -/
def layF (f : Nat → F) (h : Nat) (P : Nat → F) (p : Nat) : F :=
  if p % (h + h) < h then f p + P (p % (h + h)) * f (p + h) else f (p - h) - P (p % (h + h) - h) * f p
theorem layF_stF (A : Nat → F) {K k p : Nat} (hk : k < K) (hK : K ≤ 32) : layF (stF A K k) (2 ^ k) (fun i : Nat => rootF (k + 1) ^ i) p = stF A K (k + 1) p := by
  obtain ⟨m, hm⟩ : ∃ m, K - k = m + 1 := ⟨K - k - 1, by omega⟩
  have hL := Nat.two_pow_pos k
  have hm' : K - (k + 1) = m := by omega
  have e2 : 2 ^ (k + 1) = 2 ^ k + 2 ^ k := pow2_succ k
  -- the block and the place in it
  obtain ⟨b, hb⟩ : ∃ b, b = p / (2 ^ k + 2 ^ k) := ⟨_, rfl⟩
  obtain ⟨r, hr⟩ : ∃ r, r = p % (2 ^ k + 2 ^ k) := ⟨_, rfl⟩
  have hrl : r < 2 ^ k + 2 ^ k := by rw [hr]; exact Nat.mod_lt _ (by omega)
  have hp : p = (2 ^ k + 2 ^ k) * b + r := by rw [hb, hr]; exact (Nat.div_add_mod p _).symm
  have hsq := rootF_sq (k := k) (by omega)
  have hhalf := rootF_half (k := k) (by omega)
  have hev : ∀ i : Nat, evF (subF A m b) (2 ^ k + 2 ^ k) (rootF (k + 1) ^ i) = evF (subF A (m + 1) (2 * b)) (2 ^ k) (rootF k ^ i) + rootF (k + 1) ^ i * evF (subF A (m + 1) (2 * b + 1)) (2 ^ k) (rootF k ^ i) := by
    intro i
    rw [evF_halves, ← F_mul_pow, hsq]
    congr 1
    · exact evF_congr (fun j _ => (subF_even A m b j).symm) _
    · congr 1
      exact evF_congr (fun j _ => (subF_odd A m b j).symm) _
  have hdiv : ∀ c s, c < 2 → s < 2 ^ k → ((2 ^ k + 2 ^ k) * b + c * 2 ^ k + s) / 2 ^ k = 2 * b + c ∧ ((2 ^ k + 2 ^ k) * b + c * 2 ^ k + s) % 2 ^ k = s := by
    intro c s hc hs
    have e : (2 ^ k + 2 ^ k) * b + c * 2 ^ k + s = s + 2 ^ k * (2 * b + c) := by
      rw [Nat.mul_add, Nat.add_mul, Nat.mul_comm c]
      have : 2 ^ k * (2 * b) = 2 ^ k * b + 2 ^ k * b := by rw [← Nat.mul_assoc, Nat.mul_comm (2 ^ k) 2, Nat.mul_assoc]; omega
      omega
    rw [e, Nat.add_mul_div_left _ _ hL, Nat.add_mul_mod_self_left, Nat.div_eq_of_lt hs, Nat.mod_eq_of_lt hs]
    exact ⟨by omega, rfl⟩
  have hst : stF A K (k + 1) p = evF (subF A m b) (2 ^ k + 2 ^ k) (rootF (k + 1) ^ r) := by
    unfold stF fwdF
    rw [hm', e2, ← hb, ← hr]
  rw [hst, hev]
  unfold layF
  rw [← hr]
  by_cases h : r < 2 ^ k
  · rw [if_pos h]
    obtain ⟨d0, m0⟩ := hdiv 0 r (by omega) h
    obtain ⟨d1, m1⟩ := hdiv 1 r (by omega) h
    have p0 : p = (2 ^ k + 2 ^ k) * b + 0 * 2 ^ k + r := by omega
    have p1 : p + 2 ^ k = (2 ^ k + 2 ^ k) * b + 1 * 2 ^ k + r := by omega
    have s0 : stF A K k p = evF (subF A (m + 1) (2 * b)) (2 ^ k) (rootF k ^ r) := by
      unfold stF fwdF
      rw [hm, p0, d0, m0]
      rfl
    have s1 : stF A K k (p + 2 ^ k) = evF (subF A (m + 1) (2 * b + 1)) (2 ^ k) (rootF k ^ r) := by
      unfold stF fwdF
      rw [hm, p1, d1, m1]
    rw [s0, s1]
  · rw [if_neg h]
    obtain ⟨s, hs⟩ : ∃ s, r = 2 ^ k + s := ⟨r - 2 ^ k, by omega⟩
    obtain ⟨d0, m0⟩ := hdiv 0 s (by omega) (by omega)
    obtain ⟨d1, m1⟩ := hdiv 1 s (by omega) (by omega)
    have p0 : p - 2 ^ k = (2 ^ k + 2 ^ k) * b + 0 * 2 ^ k + s := by omega
    have p1 : p = (2 ^ k + 2 ^ k) * b + 1 * 2 ^ k + s := by omega
    have s0 : stF A K k (p - 2 ^ k) = evF (subF A (m + 1) (2 * b)) (2 ^ k) (rootF k ^ s) := by
      unfold stF fwdF
      rw [hm, p0, d0, m0]
      rfl
    have s1 : stF A K k p = evF (subF A (m + 1) (2 * b + 1)) (2 ^ k) (rootF k ^ s) := by
      unfold stF fwdF
      rw [hm, p1, d1, m1]
    have hw : rootF (k + 1) ^ r = -rootF (k + 1) ^ s := by rw [hs, F_pow_add, hhalf]; grind
    have hu : rootF k ^ r = rootF k ^ s := by rw [hs, F_pow_add, rootF_full (by omega), F_one_mul]
    rw [s0, s1, hw, hu, show r - 2 ^ k = s by omega]
    grind

end Gold

namespace Go.Proofs.Ytkefijogpiofbaa.J
set_option linter.unusedVariables false
set_option linter.unusedSimpArgs false
set_option linter.unusedSectionVars false
set_option maxRecDepth 8000
open Go.RowKit Gold

theorem bel_step {w W W1 : World} (h : Below w.heap.size w W) (h1 : Below W.heap.size W W1) : Below w.heap.size w W1 := h.trans (h1.mono h.size)
theorem ad_base (g k : Nat) : (⟨g, 0, none⟩ : Addr).add k = ⟨g, k, none⟩ := by rw [Addr.add_lit, Nat.zero_add]
theorem ad_add (a : Addr) (i j : Nat) : (a.add i).add j = a.add (i + j) := by
  unfold Addr.add
  by_cases hi : i = 0 <;> by_cases hj : j = 0 <;> simp [hi, hj, Nat.add_assoc]
/-- a slice value that reads as the words zs -/
structure Su (w : World) (A : Option Addr) (n c : Nat) (zs : List Int) : Prop where
  len : n = zs.length
  cap : n ≤ c
  top : c ≤ 9223372036854775807
  nil : A = none → c = 0
  cells : ∀ i z, zs[i]? = some z → ∃ ad, A = some ad ∧ w.cell? (ad.add i) = some (.int .u64 z)
/-- a slice value that reads as the field elements xs -/
def Sf (w : World) (A : Option Addr) (n c : Nat) (xs : List F) : Prop := Su w A n c (xs.map vF)
section
variable {w w' : World} {A : Option Addr} {n c : Nat} {zs : List Int} {xs : List F}
theorem Su.keep (h : Su w A n c zs) (hb : Below w.heap.size w w') : Su w' A n c zs :=
  ⟨h.len, h.cap, h.top, h.nil, fun i z hz => by obtain ⟨ad, e, hc⟩ := h.cells i z hz; exact ⟨ad, e, cell_keep hc hb⟩⟩
theorem Sf.keep (h : Sf w A n c xs) (hb : Below w.heap.size w w') : Sf w' A n c xs := Su.keep h hb
theorem Sf.len (h : Sf w A n c xs) : n = xs.length := by simpa using Su.len h
theorem Sf.cap (h : Sf w A n c xs) : n ≤ c := Su.cap h
theorem Sf.top (h : Sf w A n c xs) : c ≤ 9223372036854775807 := Su.top h
theorem Su.at_ {i : Nat} {z : Int} (h : Su w A n c zs) (hz : zs[i]? = some z) : ∃ ad, A = some ad ∧ w.cell? (ad.add i) = some (.int .u64 z) := h.cells i z hz
theorem Sf.at_ {i : Nat} {x : F} (h : Sf w A n c xs) (hx : xs[i]? = some x) : ∃ ad, A = some ad ∧ w.cell? (ad.add i) = some (.int .u64 (vF x)) := Su.cells h i (vF x) (by simp [hx])
theorem Su.get {i : Nat} (h : Su w A n c zs) (hi : i < n) : ∃ z, zs[i]? = some z := ⟨zs[i]'(by have := h.len; omega), List.getElem?_eq_getElem _⟩
theorem Sf.get {i : Nat} (h : Sf w A n c xs) (hi : i < n) : ∃ x, xs[i]? = some x := ⟨xs[i]'(by have := h.len; omega), List.getElem?_eq_getElem _⟩
theorem Su.take (h : Su w A n c zs) {k : Nat} (hk : k ≤ n) : Su w A k c (zs.take k) := by
  refine ⟨by have := h.len; simp; omega, by have := h.cap; omega, h.top, h.nil, fun i z hz => h.cells i z ?_⟩
  have hl := (List.getElem?_eq_some_iff.1 hz).1
  rw [List.getElem?_take_of_lt (by simp at hl; omega)] at hz
  exact hz
theorem Su.cut {k d : Nat} (h : Su w A n c zs) (hk : k ≤ n) (hd : k ≤ d) (hc : d ≤ c) (h0 : A = none → d = 0) : Su w A k d (zs.take k) := by
  have h1 := h.take hk
  exact ⟨h1.len, hd, by have := h.top; omega, h0, h1.cells⟩
theorem Sf.cut {k d : Nat} (h : Sf w A n c xs) (hk : k ≤ n) (hd : k ≤ d) (hc : d ≤ c) (h0 : A = none → d = 0) : Sf w A k d (xs.take k) := by
  have h1 := Su.cut h hk hd hc h0
  rw [← List.map_take] at h1
  exact h1
theorem Sf.nil (w : World) : Sf w none 0 0 [] := ⟨rfl, Nat.le_refl _, Nat.zero_le _, fun _ => rfl, fun i p hp => by simp at hp⟩
theorem Sf.cast {ys : List F} (h : Sf w A n c xs) (e : xs = ys) : Sf w A n c ys := e ▸ h
end

def cellsF (xs : List F) : List Value := xs.map fun x => .int .u64 (vF x)
theorem cellsF_length (xs : List F) : (cellsF xs).length = xs.length := by unfold cellsF; simp
theorem cellsF_get {xs : List F} {i : Nat} {x : F} (h : xs[i]? = some x) : (cellsF xs)[i]? = some (.int .u64 (vF x)) := by unfold cellsF; simp [h]
/-- the list of f 0 .. f (N - 1) -/
def tabF (N : Nat) (f : Nat → F) : List F := (List.range N).map f
theorem tabF_length (N : Nat) (f : Nat → F) : (tabF N f).length = N := by unfold tabF; simp
theorem tabF_get {N i : Nat} (f : Nat → F) (h : i < N) : (tabF N f)[i]? = some (f i) := by unfold tabF; simp [h]
theorem tabF_congr {N : Nat} {f g : Nat → F} (h : ∀ i, i < N → f i = g i) : tabF N f = tabF N g := by
  unfold tabF
  exact List.map_congr_left fun i hi => h i (by simpa using hi)
theorem tabF_set (N i : Nat) (f : Nat → F) (y : F) : (tabF N f).set i y = tabF N fun p => if p = i then y else f p := by
  apply List.ext_getElem?
  intro p
  rw [List.getElem?_set]
  by_cases hp : p < N
  · rw [tabF_get _ hp, tabF_get _ hp, tabF_length]
    by_cases e : i = p
    · subst e; simp [hp]
    · simp [e, Ne.symm e]
  · rw [List.getElem?_eq_none (l := tabF N fun p => if p = i then y else f p) (by rw [tabF_length]; omega)]
    by_cases e : i = p
    · subst e; simp [tabF_length, hp]
    · simp [e]; rw [tabF_length]; omega
/-- block g holds just the elements xs -/
def RowF (w : World) (g : Nat) (xs : List F) : Prop := w.heap[g]? = some (.cells (cellsF xs).toArray 29 (0, 0))
section
variable {w w' : World} {g : Nat} {xs : List F}
theorem RowF.lt (h : RowF w g xs) : g < w.heap.size := (Array.getElem?_eq_some_iff.1 h).1
theorem RowF.keep (h : RowF w g xs) (hb : Below w.heap.size w w') : RowF w' g xs := heap_keep h hb
theorem RowF.same (h : RowF w g xs) (e : w'.heap[g]? = w.heap[g]?) : RowF w' g xs := e.trans h
theorem RowF.at_ {i : Nat} {x : F} (h : RowF w g xs) (hx : xs[i]? = some x) : w.cell? ⟨g, i, none⟩ = some (.int .u64 (vF x)) := by
  unfold RowF at h
  simpa [World.cell?, h] using cellsF_get hx
theorem RowF.free (h : RowF w g xs) (k : Nat) : w.frozen? ⟨g, k, none⟩ = false := by
  unfold RowF at h
  simp [World.frozen?, h]
theorem RowF.set (h : RowF w g xs) (i : Nat) (x : F) : RowF (w.setCell ⟨g, i, none⟩ (.int .u64 (vF x))) g (xs.set i x) := by
  have h1 := heap_setCell_at (i := i) h (.int .u64 (vF x))
  unfold RowF
  rw [h1]
  unfold cellsF
  rw [List.map_set]
  simp
theorem RowF.far (h : RowF w g xs) {a : Addr} (x : Value) (e : g ≠ a.block) : RowF (w.setCell a x) g xs := (Below.heap_setCell w a x g e).trans h
theorem RowF.sub (h : RowF w g xs) {o n c : Nat} (hn : o + n ≤ xs.length) (hc : n ≤ c) (ht : c ≤ 9223372036854775807) : Sf w (some ⟨g, o, none⟩) n c ((xs.drop o).take n) := by
  refine ⟨by simp; omega, hc, ht, (fun e => by cases e), fun i z hz => ⟨_, rfl, ?_⟩⟩
  rw [List.getElem?_map] at hz
  cases hx : ((xs.drop o).take n)[i]? with
  | none => rw [hx] at hz; cases hz
  | some x =>
    rw [hx] at hz
    injection hz with hz
    subst hz
    have hi := (List.getElem?_eq_some_iff.1 hx).1
    rw [List.getElem?_take_of_lt (by simp at hi; omega), List.getElem?_drop] at hx
    rw [Addr.add_lit]
    exact h.at_ hx
theorem RowF.sl {n c : Nat} (h : RowF w g xs) (hn : n = xs.length) (hc : n ≤ c) (ht : c ≤ 9223372036854775807) : Sf w (some ⟨g, 0, none⟩) n c xs := by
  have := h.sub (o := 0) (n := n) (by omega) hc ht
  rw [List.drop_zero, hn, List.take_length, ← hn] at this
  exact this
end
theorem u64_info : (Try.prog.info? 29).map (fun i => (i.zero, i.size, i.bytes)) = some (some (.int .u64 0), 1, 8) := by kernel_rfl
theorem cellsF_zero (n : Nat) : (madeCells #[Value.int .u64 0] (n * 1)) = (cellsF (tabF n fun _ => 0)).toArray := by
  apply Array.ext
  · rw [size_madeCells, List.size_toArray, cellsF_length, tabF_length, Nat.mul_one]
  · intro i h1 h2
    rw [size_madeCells, Nat.mul_one] at h1
    have hx := cellsF_get (tabF_get (fun _ => (0 : F)) h1)
    simp only [madeCells, Array.getElem_map, Array.getElem_range, List.getElem_toArray]
    rw [List.getElem?_eq_getElem (by rw [List.size_toArray] at h2; exact h2)] at hx
    injection hx with hx
    rw [hx]
    simp [Nat.mod_one, vF_zero]
theorem run_makeF (n : Nat) (hn : n ≤ 70000) (w : World) : (Instr.makeSlice 22 (.int .i64 (n : Int)) (.int .i64 (n : Int))).run Try.prog w = .ok (.slice (some ⟨w.heap.size, 0, none⟩) n n) (w.alloc (.cells (cellsF (tabF n fun _ => 0)).toArray 29)) := by
  obtain ⟨i, hi, hz, hs, hb⟩ := info_parts u64_info
  have h1 : (i.bytes : Int) * (n : Int) ≤ 281474976710656 := by
    rw [hb]
    omega
  have hr := run_make (P := Try.prog) w 22 29 i (.int .u64 0) Try.underlying22 hi hz .i64 .i64 (n : Int) (n : Int) (by omega) (by omega) h1 (by omega)
  simp only [Int.toNat_natCast] at hr
  rw [hr, hs, ← cellsF_zero]
  rfl
theorem rowF_made (w : World) (xs : List F) : RowF (w.alloc (.cells (cellsF xs).toArray 29)) w.heap.size xs := heap_new w _

section
variable {w w' : World} {base : Nat} {v : Value} {n : Nat} {xs : List F}
end
end Go.Proofs.Ytkefijogpiofbaa.J

namespace Go.Proofs.Ytkefijogpiofbaa.J
set_option linter.unusedVariables false
set_option linter.unusedSimpArgs false
set_option linter.unusedSectionVars false
set_option maxRecDepth 8000
open Go.RowKit Gold

theorem bits_and_i64_nat (a b : Nat) (ha : a < 9223372036854775808) (hb : b < 9223372036854775808) :
    bits .and .i64 (a : Int) (b : Int) = ((a &&& b : Nat) : Int) := by
  have hx : a &&& b < 2 ^ 63 := Nat.and_lt_two_pow _ (by omega)
  have h1 : (BitVec.ofInt 64 (a : Int)).toNat = a := by
    rw [BitVec.ofInt_natCast, BitVec.toNat_ofNat]; exact Nat.mod_eq_of_lt (by omega)
  have h2 : (BitVec.ofInt 64 (b : Int)).toNat = b := by
    rw [BitVec.ofInt_natCast, BitVec.toNat_ofNat]; exact Nat.mod_eq_of_lt (by omega)
  show IntKind.i64.wrap ((BitVec.ofInt 64 (a : Int) &&& BitVec.ofInt 64 (b : Int)).toNat : Int) = _
  rw [BitVec.toNat_and, h1, h2, IntKind.wrap_i64]
  omega
theorem and_pred (k : Nat) : 2 ^ k &&& (2 ^ k - 1) = 0 := by rw [Nat.and_two_pow_sub_one_eq_mod, Nat.mod_self]
theorem pow_of_and {n : Nat} (h0 : 1 ≤ n) (h : n &&& (n - 1) = 0) : ∃ k, n = 2 ^ k := by
  refine ⟨n.log2, Classical.byContradiction fun hne => ?_⟩
  have h1 : 2 ^ n.log2 ≤ n := Nat.log2_self_le (by omega)
  have h2 : n < 2 ^ (n.log2 + 1) := Nat.lt_log2_self
  rw [pow2_succ] at h2
  have hp := Nat.two_pow_pos n.log2
  have key : ∀ x, 2 ^ n.log2 ≤ x → x < 2 ^ n.log2 + 2 ^ n.log2 → x.testBit n.log2 = true := by
    intro x a b
    rw [Nat.testBit_eq_decide_div_mod_eq]
    have : x / 2 ^ n.log2 = 1 := Nat.div_eq_of_lt_le (by omega) (by omega)
    rw [this]
    rfl
  have h3 : (n &&& (n - 1)).testBit n.log2 = true := by
    rw [Nat.testBit_and, key n h1 h2, key (n - 1) (by omega) (by omega)]
    rfl
  rw [h, Nat.zero_testBit] at h3
  cases h3
theorem rev_and (m i : Nat) : revN (m + 1) i &&& 2 ^ m = i % 2 * 2 ^ m := by
  have hl := revN_lt m (i / 2)
  have hp := Nat.two_pow_pos m
  have : (revN (m + 1) i).testBit m = decide (i % 2 = 1) := by
    rw [Nat.testBit_eq_decide_div_mod_eq]
    have e : revN (m + 1) i = revN m (i / 2) + i % 2 * 2 ^ m := rfl
    rw [e, Nat.add_mul_div_right _ _ hp, Nat.div_eq_of_lt hl, Nat.zero_add, Nat.mod_mod]
  apply Nat.eq_of_testBit_eq
  intro j
  rw [Nat.testBit_and, Nat.testBit_two_pow]
  by_cases e : m = j
  · subst e
    rw [this, decide_eq_true rfl, Bool.and_true]
    rcases Nat.mod_two_eq_zero_or_one i with h | h <;> rw [h]
    · rw [Nat.zero_mul, Nat.zero_testBit]; rfl
    · rw [Nat.one_mul, Nat.testBit_two_pow_self]; rfl
  · rw [decide_eq_false e, Bool.and_false]
    rcases Nat.mod_two_eq_zero_or_one i with h | h <;> rw [h]
    · rw [Nat.zero_mul, Nat.zero_testBit]
    · rw [Nat.one_mul, Nat.testBit_two_pow, decide_eq_false e]
theorem rev_even {m i : Nat} (h : i % 2 = 0) : revN (m + 1) i = revN m (i / 2) ∧ revN (m + 1) (i + 1) = revN (m + 1) i + 2 ^ m := by
  have e1 : revN (m + 1) i = revN m (i / 2) + i % 2 * 2 ^ m := rfl
  have e2 : revN (m + 1) (i + 1) = revN m ((i + 1) / 2) + (i + 1) % 2 * 2 ^ m := rfl
  rw [e1, e2, show (i + 1) / 2 = i / 2 by omega, show (i + 1) % 2 = 1 by omega, h]
  omega
theorem rev_odd {m i : Nat} (h : i % 2 = 1) : revN (m + 1) i = revN m (i / 2) + 2 ^ m ∧ revN (m + 1) (i + 1) = revN m (i / 2 + 1) := by
  have e1 : revN (m + 1) i = revN m (i / 2) + i % 2 * 2 ^ m := rfl
  have e2 : revN (m + 1) (i + 1) = revN m ((i + 1) / 2) + (i + 1) % 2 * 2 ^ m := rfl
  rw [e1, e2, show (i + 1) / 2 = i / 2 + 1 by omega, show (i + 1) % 2 = 0 by omega, h]
  omega
theorem wrap_pow2 {k : Nat} (h : k ≤ 62) : wrap64 (2 ^ k) = ((2 ^ k : Nat) : Int) := by
  have h1 : 2 ^ k ≤ 2 ^ 62 := Nat.pow_le_pow_right (by omega) h
  have h2 : ((2 ^ k : Nat) : Int) = (2 : Int) ^ k := by rw [Int.natCast_pow]; rfl
  rw [← h2]
  generalize 2 ^ k = N at *
  unfold wrap64
  omega
theorem field_rootF (k : Nat) (w : World) (hk : k ≤ 32) : Calls Try.prog 67 #[.int .i64 (k : Int)] w fun e w' => e = .returned (.tuple #[.int .u64 (vF (rootF k)), .int .i64 0]) ∧ w' = w := by
  rw [vF_root]
  exact root_nat k w hk
theorem ref_rootF (k : Nat) (w : World) (hk : k ≤ 32) : Calls Try.prog 35 #[.int .i64 (k : Int)] w fun e w' => e = .returned (.tuple #[.int .u64 (vF (rootF k)), .int .i64 0]) ∧ w' = w := by
  rw [vF_root]
  exact rroot_nat k w hk

set_option maxHeartbeats 400000 in
theorem isl_yes (N k : Nat) (w : World) (hN : N = 2 ^ k) (hk : k ≤ 16) : Calls Try.prog 61 #[.int .i64 (N : Int)] w fun e w' => e = .returned (.bool true) ∧ w' = w := by
  have h1 : 1 ≤ N := by rw [hN]; exact Nat.two_pow_pos k
  have h2 : N ≤ 65536 := by rw [hN]; exact pow2_le hk
  have hb : bits .and .i64 (N : Int) ((N : Int) - 1) = 0 := by
    rw [show (N : Int) - 1 = ((N - 1 : Nat) : Int) by omega, bits_and_i64_nat _ _ (by omega) (by omega), hN, and_pred]
    rfl
  clear hN
  have i1 : (1 : Int) ≤ (N : Int) := by omega
  have i2 : (N : Int) ≤ 65536 := by omega
  go_enter Try.func61, Try.ntmps61
  go_wp2
  go_ret
  exact ⟨rfl, rfl⟩
end Go.Proofs.Ytkefijogpiofbaa.J

namespace Go.Proofs.Ytkefijogpiofbaa.J
set_option linter.unusedVariables false
set_option linter.unusedSimpArgs false
set_option linter.unusedSectionVars false
set_option maxRecDepth 8000
open Go.RowKit Gold

set_option maxHeartbeats 1000000 in
theorem same_yes (A : Option Addr) (n c : Nat) (B : Option Addr) (m d : Nat) (xs : List E2) (w : World) (h : Sl w A n c xs) (h' : Sl w B m d xs) :
    Calls Try.prog 18 #[.slice A n c, .slice B m d] w fun e w' => e = .returned (.bool true) ∧ Below w.heap.size w w' := by
  have hm : m = n := h'.len.trans h.len.symm
  subst hm
  have hnc := h.cap
  have hct := h.top
  have hnd := h'.cap
  have hdt := h'.top
  have HS := Lib.hid h
  have HS' := Lib.hid h'
  clear h h'
  go_enter Try.func18, Try.ntmps18
  go_wp2_with fail
  go_loopw [5] (fun s wr => ∃ k : Nat, k ≤ m ∧ s = .int .i64 k ∧ Below w.heap.size w wr) (fun s _ => m - (intOf s).toNat)
  case atStart => exact ⟨0, Nat.zero_le _, rfl, Below.refl _ _⟩
  case round =>
    obtain ⟨k, hk, rfl, hb⟩ := hrel
    have HB := Lib.hid hb
    clear hb
    by_cases hlt : k < m
    · obtain ⟨x, hx⟩ := HS.out.get hlt
      obtain ⟨ad, rfl, h0, h1⟩ := HS.out.at_ hx
      obtain ⟨ad2, rfl, h2, h3⟩ := HS'.out.at_ hx
      have l0 := Later.cell (cell_keep h0 HB.out)
      have l1 := Later.cell (cell_keep h1 HB.out)
      have l2 := Later.cell (cell_keep h2 HB.out)
      have l3 := Later.cell (cell_keep h3 HB.out)
      clear hx h0 h1 h2 h3
      go_wp2_with fail
      refine wp_later_lex (by kernel_rfl) (lexOK_of (by kernel_rfl) (by kernel_rfl)) ?_
      repeat (go_big_quiet_step (fail))
      refine wpQuiet_nil ?_
      intro X
      clear l0 l1 l2 l3
      have HB1 := Lib.hid (below_step HB.out X.below)
      go_wp2_with fail
      go_roundw
      case rel => exact ⟨k + 1, by omega, by go_num, HB1.out⟩
      case measure => simp [intOf]; omega
    · go_wp2_with fail
      go_ret
      exact ⟨rfl, HB.out⟩

theorem trimE_nil (xs : List E2) : trimE (xs.take 0) = [] ++ xs.take 0 := rfl
set_option maxHeartbeats 1000000 in
theorem rTrim_own (A : Option Addr) (n c : Nat) (xs : List E2) (w : World) (h : Sl w A n c xs) (hn : n ≤ 65536) :
    Calls Try.prog 56 #[.slice A n c] w fun e w' => ∃ A' m c', e = .returned (.slice A' m c') ∧ m ≤ n ∧ OwE w' w.heap.size (.slice A' m c') m (trimE xs) ∧ Below w.heap.size w w' := by
  have hcap := h.cap
  have htop := h.top
  have HS := Lib.hid h
  have HT := Lib.hid (show trimE (xs.take n) = trimE xs by rw [h.len, List.take_length])
  clear h
  go_enter Try.func56, Try.ntmps56
  go_wp2_with fail
  go_loopw [3] (fun s3 wr => ∃ k : Nat, k ≤ n ∧ s3 = .int .i64 k ∧ trimE (xs.take k) = trimE xs ∧ Below w.heap.size w wr) (fun s3 _ => (intOf s3).toNat)
  case atStart => exact ⟨n, Nat.le_refl _, rfl, HT.out, Below.refl _ _⟩
  case round =>
    clear HT
    obtain ⟨k, hk, rfl, ht, hb⟩ := hrel
    have HT := Lib.hid ht
    have HB := Lib.hid hb
    clear ht hb
    cases k with
    | zero =>
      have HSZ := Lib.hid ((HS.out.keep HB.out).take (Nat.zero_le n))
      go_wp2_with (first
        | (at_builtin; refine wpList_appendAny rfl (.tmp 18) (.tmp 21) rfl w.heap.size _ 0 [] rfl (OwE.made wr w.heap.size HB.out.size) A 0 c (xs.take 0) rfl (HSZ.out.keep ((Below.refl _ _).alloc (Nat.le_refl _) _)) (by omega) (by have := HB.out.size; simp; omega) ?_; intro v1 w1 hown1 hg1; have HO := Lib.hid hown1; have HB1 := Lib.hid (below_grown (w0 := w) (HB.out.alloc HB.out.size _) hg1 (OwE.made wr w.heap.size HB.out.size) (Nat.le_refl _)); clear hown1 hg1))
      go_ret
      obtain ⟨A', c', rfl, hs⟩ := HO.out.sl
      clear hs
      exact ⟨A', _, c', rfl, by omega, by rw [← HT.out, trimE_nil]; exact HO.out, HB1.out⟩
    | succ j =>
      obtain ⟨x, hx⟩ := HS.out.get (show j < n by omega)
      obtain ⟨ad, rfl, h0, h1⟩ := HS.out.at_ hx
      replace h0 := cell_keep h0 HB.out
      replace h1 := cell_keep h1 HB.out
      have HX := Lib.hid hx
      clear hx
      cases he : ezero x with
      | true =>
        have HE := Lib.hid he
        go_wp2_with (first
          | (go_at_call 76; ((with_reducible refine (rIsZero_any x _).mono ?_)); rw [he]; rintro e W1 ⟨rfl, hb⟩))
        go_roundw
        case rel => exact ⟨j, by omega, by go_num, by rw [← HT.out]; exact (trimE_take_zero HX.out ((ezero_iff x).1 HE.out)).symm, below_step HB.out hb⟩
        case measure => simp [intOf]
      | false =>
        have HE := Lib.hid he
        go_wp2_with (first
          | (go_at_call 76; ((with_reducible refine (rIsZero_any x _).mono ?_)); rw [he]; rintro e W1 ⟨rfl, hb⟩; have HB0 := Lib.hid (below_step HB.out hb); have HSZ := Lib.hid ((HS.out.keep HB0.out).take (show j + 1 ≤ n by omega)); clear hb)
          | (at_builtin; refine wpList_appendAny rfl (.tmp 18) (.tmp 21) rfl w.heap.size _ 0 [] rfl (OwE.made W1 w.heap.size HB0.out.size) (some ad) (j + 1) c (xs.take (j + 1)) rfl (HSZ.out.keep ((Below.refl _ _).alloc (Nat.le_refl _) _)) (by omega) (by have := HB0.out.size; simp; omega) ?_; intro v1 w1 hown1 hg1; have HO := Lib.hid hown1; have HB1 := Lib.hid (below_grown (w0 := w) (HB0.out.alloc HB0.out.size _) hg1 (OwE.made W1 w.heap.size HB0.out.size) (Nat.le_refl _)); clear hown1 hg1))
        go_ret
        obtain ⟨A', c', rfl, hs⟩ := HO.out.sl
        clear hs
        exact ⟨A', _, c', rfl, by omega, by rw [← HT.out, trimE_take_stop HX.out (fun k => by rw [(ezero_iff x).2 k] at he; cases he)]; exact HO.out, HB1.out⟩
theorem rTrim_any (A : Option Addr) (n c : Nat) (xs : List E2) (w : World) (h : Sl w A n c xs) (hn : n ≤ 65536) :
    Calls Try.prog 56 #[.slice A n c] w fun e w' => ∃ A' m c', e = .returned (.slice A' m c') ∧ m ≤ n ∧ Sl w' A' m c' (trimE xs) ∧ Below w.heap.size w w' :=
  (rTrim_own A n c xs w h hn).mono fun _ _ ⟨A', m, c', he, hm, ho, hb⟩ => ⟨A', m, c', he, hm, ho.sl', hb⟩

end Go.Proofs.Ytkefijogpiofbaa.J

namespace Go.Proofs.Ytkefijogpiofbaa.J
set_option linter.unusedVariables false
set_option linter.unusedSimpArgs false
set_option linter.unusedSectionVars false
set_option maxRecDepth 8000
open Go.RowKit Gold


set_option maxHeartbeats 2000000 in
theorem rPAdd_any (A : Option Addr) (n c : Nat) (xs : List E2) (B : Option Addr) (m d : Nat) (ys : List E2) (w : World) (h : Sl w A n c xs) (h' : Sl w B m d ys) (hn : n ≤ 65536) (hm : m ≤ 65536) :
    Calls Try.prog 73 #[.slice A n c, .slice B m d] w fun e w' => ∃ A' m' c', e = .returned (.slice A' m' c') ∧ m' ≤ max n m ∧ Sl w' A' m' c' (addE xs ys) ∧ Below w.heap.size w w' := by
  have hnc := h.cap
  have hct := h.top
  have hmd := h'.cap
  have hdt := h'.top
  have HL := Lib.hid h.len
  have HL' := Lib.hid h'.len
  have HS := Lib.hid h
  have HS' := Lib.hid h'
  clear h h'
  by_cases hlt : n < m
  · have hmk := run_makeE m (by omega)
    generalize hr0 : List.replicate m E2.zero = r0 at hmk
    have HR0 := Lib.hid hr0
    clear hr0
    go_enter Try.func73, Try.ntmps73
    go_wp2_with fail
    clear hmk
    go_loopw [6] (fun s wr => ∃ k : Nat, k ≤ m ∧ s = .int .i64 k ∧ Row wr w.heap.size (tabE k (fun i => cfE xs i + cfE ys i) ++ List.replicate (m - k) E2.zero) ∧ Below w.heap.size w wr) (fun s _ => m - (intOf s).toNat)
    case atStart => exact ⟨0, Nat.zero_le _, rfl, by rw [tab_start, HR0.out]; exact heap_new _ _, (Below.refl _ _).alloc (Nat.le_refl _) _⟩
    case round =>
      obtain ⟨k, hk, rfl, hr, hb⟩ := hrel
      have HR := Lib.hid hr
      have HB := Lib.hid hb
      clear hr hb
      by_cases hkn : k < n
      · by_cases hkm' : k < m
        · have hkm : k < m := by omega
          have HZ := Lib.hid (tab_at (n := m) (fun i => cfE xs i + cfE ys i) hkm)
          obtain ⟨x, hx⟩ := HS.out.get (by assumption)
          obtain ⟨ad, rfl, h0, h1⟩ := HS.out.at_ hx
          have Hx0 := Lib.hid h0
          have Hx1 := Lib.hid h1
          have HX := Lib.hid hx
          clear hx h0 h1
          obtain ⟨y, hx⟩ := HS'.out.get (by assumption)
          obtain ⟨ad2, rfl, h0, h1⟩ := HS'.out.at_ hx
          have Hy0 := Lib.hid h0
          have Hy1 := Lib.hid h1
          have HY := Lib.hid hx
          clear hx h0 h1
          have hk0 : (0 : Int) ≤ (k : Int) := by omega
          have hk1 : (k : Int) < (n : Int) := by omega
          have hk2 : (k : Int) < (m : Int) := by omega
          have hk3 : (k : Int) < (m : Int) := by omega
          go_wp2_with fail
          have l0 := Later.cell (HR.out.at_ HZ.out).1
          have l1 := Later.cell (HR.out.at_ HZ.out).2
          have l2 := Later.cell (cell_keep Hx0.out HB.out)
          have l3 := Later.cell (cell_keep Hx1.out HB.out)
          refine wp_later_tail 12 (by kernel_rfl) (by kernel_rfl) ?_
          simp only [List.take_succ_cons, List.take_zero, List.drop_succ_cons, List.drop_zero]
          repeat (go_big_quiet_step (first
            | (go_at_call 54; with_reducible exact Calls.later (rAdd_any (E2.zero) (x) _))))
          refine wpQuiet_nil ?_
          intro X
          clear l0 l1 l2 l3
          have HRX := Lib.hid (HR.out.keep X.below)
          have HBX := Lib.hid (below_step HB.out X.below)
          obtain ⟨c0, c1⟩ := HRX.out.at_ HZ.out
          have f0 := HRX.out.free ((k) * 2)
          have f1 := HRX.out.free ((k) * 2 + 1)
          go_wp2_with fail
          refine wp_named (fun W5 => Row W5 w.heap.size ((tabE k (fun i => cfE xs i + cfE ys i) ++ List.replicate (m - k) E2.zero).set k (E2.zero + x)) ∧ Below w.heap.size w W5)
            ⟨HRX.out.set k (E2.zero + x), (HBX.out.setCell (Nat.le_refl _) _).setCell (Nat.le_refl _) _⟩ ?_
          rintro W5 ⟨hr5, hb5⟩
          replace HR := Lib.hid hr5
          replace HB := Lib.hid hb5
          have HZ5 := Lib.hid (set_at (E2.zero + x) HZ.out)
          clear hr5 hb5 c0 c1 f0 f1 HRX HBX
          have l0 := Later.cell (HR.out.at_ HZ5.out).1
          have l1 := Later.cell (HR.out.at_ HZ5.out).2
          have l2 := Later.cell (cell_keep Hy0.out HB.out)
          have l3 := Later.cell (cell_keep Hy1.out HB.out)
          refine wp_later_tail 12 (by kernel_rfl) (by kernel_rfl) ?_
          simp only [List.take_succ_cons, List.take_zero, List.drop_succ_cons, List.drop_zero]
          repeat (go_big_quiet_step (first
            | (go_at_call 54; with_reducible exact Calls.later (rAdd_any (E2.zero + x) (y) _))))
          refine wpQuiet_nil ?_
          intro X
          clear l0 l1 l2 l3
          have HRX := Lib.hid (HR.out.keep X.below)
          have HBX := Lib.hid (below_step HB.out X.below)
          obtain ⟨c0, c1⟩ := HRX.out.at_ HZ5.out
          have f0 := HRX.out.free ((k) * 2)
          have f1 := HRX.out.free ((k) * 2 + 1)
          go_wp2_with fail
          have heq : E2.zero + x + y = cfE xs k + cfE ys k := by rw [cfE_some HX.out, cfE_some HY.out, E2.zero_add]
          go_roundw
          case rel => exact ⟨k + 1, by omega, by go_num, by rw [← tab_step (n := m) (fun i => cfE xs i + cfE ys i) hkm, ← heq]; have := HRX.out.set k (E2.zero + x + y); rw [List.set_set] at this; exact this, (HBX.out.setCell (Nat.le_refl _) _).setCell (Nat.le_refl _) _⟩
          case measure => simp [intOf]; omega
        · exact absurd hkn (by omega)
      · by_cases hkm' : k < m
        · have hkm : k < m := by omega
          have HZ := Lib.hid (tab_at (n := m) (fun i => cfE xs i + cfE ys i) hkm)
          obtain ⟨y, hx⟩ := HS'.out.get (by assumption)
          obtain ⟨ad2, rfl, h0, h1⟩ := HS'.out.at_ hx
          have Hy0 := Lib.hid h0
          have Hy1 := Lib.hid h1
          have HY := Lib.hid hx
          clear hx h0 h1
          have hk0 : (0 : Int) ≤ (k : Int) := by omega
          have hk2 : (k : Int) < (m : Int) := by omega
          have hk3 : (k : Int) < (m : Int) := by omega
          go_wp2_with fail
          have l0 := Later.cell (HR.out.at_ HZ.out).1
          have l1 := Later.cell (HR.out.at_ HZ.out).2
          have l2 := Later.cell (cell_keep Hy0.out HB.out)
          have l3 := Later.cell (cell_keep Hy1.out HB.out)
          refine wp_later_tail 12 (by kernel_rfl) (by kernel_rfl) ?_
          simp only [List.take_succ_cons, List.take_zero, List.drop_succ_cons, List.drop_zero]
          repeat (go_big_quiet_step (first
            | (go_at_call 54; with_reducible exact Calls.later (rAdd_any (E2.zero) (y) _))))
          refine wpQuiet_nil ?_
          intro X
          clear l0 l1 l2 l3
          have HRX := Lib.hid (HR.out.keep X.below)
          have HBX := Lib.hid (below_step HB.out X.below)
          obtain ⟨c0, c1⟩ := HRX.out.at_ HZ.out
          have f0 := HRX.out.free ((k) * 2)
          have f1 := HRX.out.free ((k) * 2 + 1)
          go_wp2_with fail
          have heq : E2.zero + y = cfE xs k + cfE ys k := by rw [cfE_some HY.out, cfE_ge (by have := HL.out; omega)]
          go_roundw
          case rel => exact ⟨k + 1, by omega, by go_num, by rw [← tab_step (n := m) (fun i => cfE xs i + cfE ys i) hkm, ← heq]; exact HRX.out.set k (E2.zero + y), (HBX.out.setCell (Nat.le_refl _) _).setCell (Nat.le_refl _) _⟩
          case measure => simp [intOf]; omega
        · have hkM : k = m := by omega
          subst hkM
          have HSQ := Lib.hid (Row.slc HR.out (tab_len (fun i => cfE xs i + cfE ys i) (Nat.le_refl _)).symm (Nat.le_refl _) (by omega))
          go_wp2_with fail
          refine (rTrim_any _ _ _ _ _ HSQ.out (by omega)).mono ?_
          rintro e W1 ⟨A', m', c', rfl, hm', hs, hb⟩
          have HS1 := Lib.hid hs
          clear hs
          go_wp2_with fail
          go_ret
          refine ⟨A', m', c', rfl, by omega, ?_, below_step HB.out hb⟩
          have h9 := HS1.out
          rw [tab_end] at h9
          unfold addE
          rw [← HL.out, ← HL'.out, show max n k = k by omega]
          exact h9
  · have hmk := run_makeE n (by omega)
    generalize hr0 : List.replicate n E2.zero = r0 at hmk
    have HR0 := Lib.hid hr0
    clear hr0
    go_enter Try.func73, Try.ntmps73
    go_wp2_with fail
    clear hmk
    go_loopw [6] (fun s wr => ∃ k : Nat, k ≤ n ∧ s = .int .i64 k ∧ Row wr w.heap.size (tabE k (fun i => cfE xs i + cfE ys i) ++ List.replicate (n - k) E2.zero) ∧ Below w.heap.size w wr) (fun s _ => n - (intOf s).toNat)
    case atStart => exact ⟨0, Nat.zero_le _, rfl, by rw [tab_start, HR0.out]; exact heap_new _ _, (Below.refl _ _).alloc (Nat.le_refl _) _⟩
    case round =>
      obtain ⟨k, hk, rfl, hr, hb⟩ := hrel
      have HR := Lib.hid hr
      have HB := Lib.hid hb
      clear hr hb
      by_cases hkn : k < n
      · by_cases hkm' : k < m
        · have hkm : k < n := by omega
          have HZ := Lib.hid (tab_at (n := n) (fun i => cfE xs i + cfE ys i) hkm)
          obtain ⟨x, hx⟩ := HS.out.get (by assumption)
          obtain ⟨ad, rfl, h0, h1⟩ := HS.out.at_ hx
          have Hx0 := Lib.hid h0
          have Hx1 := Lib.hid h1
          have HX := Lib.hid hx
          clear hx h0 h1
          obtain ⟨y, hx⟩ := HS'.out.get (by assumption)
          obtain ⟨ad2, rfl, h0, h1⟩ := HS'.out.at_ hx
          have Hy0 := Lib.hid h0
          have Hy1 := Lib.hid h1
          have HY := Lib.hid hx
          clear hx h0 h1
          have hk0 : (0 : Int) ≤ (k : Int) := by omega
          have hk1 : (k : Int) < (n : Int) := by omega
          have hk2 : (k : Int) < (m : Int) := by omega
          have hk3 : (k : Int) < (n : Int) := by omega
          go_wp2_with fail
          have l0 := Later.cell (HR.out.at_ HZ.out).1
          have l1 := Later.cell (HR.out.at_ HZ.out).2
          have l2 := Later.cell (cell_keep Hx0.out HB.out)
          have l3 := Later.cell (cell_keep Hx1.out HB.out)
          refine wp_later_tail 12 (by kernel_rfl) (by kernel_rfl) ?_
          simp only [List.take_succ_cons, List.take_zero, List.drop_succ_cons, List.drop_zero]
          repeat (go_big_quiet_step (first
            | (go_at_call 54; with_reducible exact Calls.later (rAdd_any (E2.zero) (x) _))))
          refine wpQuiet_nil ?_
          intro X
          clear l0 l1 l2 l3
          have HRX := Lib.hid (HR.out.keep X.below)
          have HBX := Lib.hid (below_step HB.out X.below)
          obtain ⟨c0, c1⟩ := HRX.out.at_ HZ.out
          have f0 := HRX.out.free ((k) * 2)
          have f1 := HRX.out.free ((k) * 2 + 1)
          go_wp2_with fail
          refine wp_named (fun W5 => Row W5 w.heap.size ((tabE k (fun i => cfE xs i + cfE ys i) ++ List.replicate (n - k) E2.zero).set k (E2.zero + x)) ∧ Below w.heap.size w W5)
            ⟨HRX.out.set k (E2.zero + x), (HBX.out.setCell (Nat.le_refl _) _).setCell (Nat.le_refl _) _⟩ ?_
          rintro W5 ⟨hr5, hb5⟩
          replace HR := Lib.hid hr5
          replace HB := Lib.hid hb5
          have HZ5 := Lib.hid (set_at (E2.zero + x) HZ.out)
          clear hr5 hb5 c0 c1 f0 f1 HRX HBX
          have l0 := Later.cell (HR.out.at_ HZ5.out).1
          have l1 := Later.cell (HR.out.at_ HZ5.out).2
          have l2 := Later.cell (cell_keep Hy0.out HB.out)
          have l3 := Later.cell (cell_keep Hy1.out HB.out)
          refine wp_later_tail 12 (by kernel_rfl) (by kernel_rfl) ?_
          simp only [List.take_succ_cons, List.take_zero, List.drop_succ_cons, List.drop_zero]
          repeat (go_big_quiet_step (first
            | (go_at_call 54; with_reducible exact Calls.later (rAdd_any (E2.zero + x) (y) _))))
          refine wpQuiet_nil ?_
          intro X
          clear l0 l1 l2 l3
          have HRX := Lib.hid (HR.out.keep X.below)
          have HBX := Lib.hid (below_step HB.out X.below)
          obtain ⟨c0, c1⟩ := HRX.out.at_ HZ5.out
          have f0 := HRX.out.free ((k) * 2)
          have f1 := HRX.out.free ((k) * 2 + 1)
          go_wp2_with fail
          have heq : E2.zero + x + y = cfE xs k + cfE ys k := by rw [cfE_some HX.out, cfE_some HY.out, E2.zero_add]
          go_roundw
          case rel => exact ⟨k + 1, by omega, by go_num, by rw [← tab_step (n := n) (fun i => cfE xs i + cfE ys i) hkm, ← heq]; have := HRX.out.set k (E2.zero + x + y); rw [List.set_set] at this; exact this, (HBX.out.setCell (Nat.le_refl _) _).setCell (Nat.le_refl _) _⟩
          case measure => simp [intOf]; omega
        · have hkm : k < n := by omega
          have HZ := Lib.hid (tab_at (n := n) (fun i => cfE xs i + cfE ys i) hkm)
          obtain ⟨x, hx⟩ := HS.out.get (by assumption)
          obtain ⟨ad, rfl, h0, h1⟩ := HS.out.at_ hx
          have Hx0 := Lib.hid h0
          have Hx1 := Lib.hid h1
          have HX := Lib.hid hx
          clear hx h0 h1
          have hk0 : (0 : Int) ≤ (k : Int) := by omega
          have hk1 : (k : Int) < (n : Int) := by omega
          have hk3 : (k : Int) < (n : Int) := by omega
          go_wp2_with fail
          have l0 := Later.cell (HR.out.at_ HZ.out).1
          have l1 := Later.cell (HR.out.at_ HZ.out).2
          have l2 := Later.cell (cell_keep Hx0.out HB.out)
          have l3 := Later.cell (cell_keep Hx1.out HB.out)
          refine wp_later_tail 12 (by kernel_rfl) (by kernel_rfl) ?_
          simp only [List.take_succ_cons, List.take_zero, List.drop_succ_cons, List.drop_zero]
          repeat (go_big_quiet_step (first
            | (go_at_call 54; with_reducible exact Calls.later (rAdd_any (E2.zero) (x) _))))
          refine wpQuiet_nil ?_
          intro X
          clear l0 l1 l2 l3
          have HRX := Lib.hid (HR.out.keep X.below)
          have HBX := Lib.hid (below_step HB.out X.below)
          obtain ⟨c0, c1⟩ := HRX.out.at_ HZ.out
          have f0 := HRX.out.free ((k) * 2)
          have f1 := HRX.out.free ((k) * 2 + 1)
          go_wp2_with fail
          have heq : E2.zero + x = cfE xs k + cfE ys k := by rw [cfE_some HX.out, cfE_ge (by have := HL'.out; omega), E2.zero_add, E2.add_zero]
          go_roundw
          case rel => exact ⟨k + 1, by omega, by go_num, by rw [← tab_step (n := n) (fun i => cfE xs i + cfE ys i) hkm, ← heq]; exact HRX.out.set k (E2.zero + x), (HBX.out.setCell (Nat.le_refl _) _).setCell (Nat.le_refl _) _⟩
          case measure => simp [intOf]; omega
      · by_cases hkm' : k < m
        · exact absurd hkm' (by omega)
        · have hkM : k = n := by omega
          subst hkM
          have HSQ := Lib.hid (Row.slc HR.out (tab_len (fun i => cfE xs i + cfE ys i) (Nat.le_refl _)).symm (Nat.le_refl _) (by omega))
          go_wp2_with fail
          refine (rTrim_any _ _ _ _ _ HSQ.out (by omega)).mono ?_
          rintro e W1 ⟨A', m', c', rfl, hm', hs, hb⟩
          have HS1 := Lib.hid hs
          clear hs
          go_wp2_with fail
          go_ret
          refine ⟨A', m', c', rfl, by omega, ?_, below_step HB.out hb⟩
          have h9 := HS1.out
          rw [tab_end] at h9
          unfold addE
          rw [← HL.out, ← HL'.out, show max k m = k by omega]
          exact h9

set_option maxHeartbeats 4000000 in
theorem rPMul_any (A : Option Addr) (n c : Nat) (xs : List E2) (B : Option Addr) (m d : Nat) (ys : List E2) (w : World) (h : Sl w A n c xs) (h' : Sl w B m d ys) (hn : n ≤ 32768) (hm : m ≤ 32768) :
    Calls Try.prog 28 #[.slice A n c, .slice B m d] w fun e w' => ∃ A' m' c', e = .returned (.slice A' m' c') ∧ m' ≤ n + m ∧ Sl w' A' m' c' (mulE xs ys) ∧ Below w.heap.size w w' := by
  have hnc := h.cap
  have hct := h.top
  have hmd := h'.cap
  have hdt := h'.top
  have HL := Lib.hid h.len
  have HL' := Lib.hid h'.len
  have HS := Lib.hid h
  have HS' := Lib.hid h'
  clear h h'
  have hmk := run_makeE (n + m) (by omega)
  simp only [Int.natCast_add] at hmk
  generalize hr0 : List.replicate (n + m) E2.zero = r0 at hmk
  have HR0 := Lib.hid hr0
  clear hr0
  go_enter Try.func28, Try.ntmps28
  go_wp2_with fail
  clear hmk
  go_loopw [6] (fun s wr => ∃ k : Nat, k ≤ n ∧ s = .int .i64 k ∧ Row wr w.heap.size (allMul xs ys k r0) ∧ Below w.heap.size w wr) (fun s _ => n - (intOf s).toNat)
  case atStart => exact ⟨0, Nat.zero_le _, rfl, heap_new _ _, (Below.refl _ _).alloc (Nat.le_refl _) _⟩
  case round =>
    obtain ⟨k, hk, rfl, hr, hb⟩ := hrel
    have HRO := Lib.hid hr
    have HBO := Lib.hid hb
    clear hr hb
    by_cases hlt : k < n
    · obtain ⟨x, hx⟩ := HS.out.get hlt
      obtain ⟨ad, rfl, h0, h1⟩ := HS.out.at_ hx
      have Hx0 := Lib.hid h0
      have Hx1 := Lib.hid h1
      have HX := Lib.hid hx
      clear hx h0 h1
      go_wp2_with fail
      go_loopw [7] (fun s w2 => ∃ j : Nat, j ≤ m ∧ s = .int .i64 j ∧ Row w2 w.heap.size (rowMul x ys k j (allMul xs ys k r0)) ∧ Below w.heap.size w w2) (fun s _ => m - (intOf s).toNat)
      case atStart => exact ⟨0, Nat.zero_le _, rfl, HRO.out, HBO.out⟩
      case round =>
        clear HRO HBO
        obtain ⟨j, hj, rfl, hr2, hb2⟩ := hrel
        have HR := Lib.hid hr2
        have HB := Lib.hid hb2
        clear hr2 hb2
        by_cases hltj : j < m
        · obtain ⟨y, hy⟩ := HS'.out.get hltj
          obtain ⟨ad2, rfl, h2, h3⟩ := HS'.out.at_ hy
          have Hy0 := Lib.hid h2
          have Hy1 := Lib.hid h3
          have HY := Lib.hid hy
          clear hy h2 h3
          have hlen : k + j < (rowMul x ys k j (allMul xs ys k r0)).length := by rw [rowMul_length, allMul_length, ← HR0.out, List.length_replicate]; omega
          obtain ⟨z, hz⟩ : ∃ z, (rowMul x ys k j (allMul xs ys k r0))[k + j]? = some z := ⟨_, List.getElem?_eq_getElem hlen⟩
          have HZ := Lib.hid hz
          clear hz hlen
          go_wp2_with fail
          have hk0 : (0 : Int) ≤ (k : Int) + (j : Int) := by omega
          have hk1 : (k : Int) + (j : Int) < (n : Int) + (m : Int) := by omega
          have hk2 : (0 : Int) ≤ (k : Int) := by omega
          have hk3 : (0 : Int) ≤ (j : Int) := by omega
          have hk4 : (k : Int) < (n : Int) := by omega
          have hk5 : (j : Int) < (m : Int) := by omega
          have hkw : IntKind.i64.wrap ((k : Int) + (j : Int)) = (k : Int) + (j : Int) := IntWalk.i64_in _ (by omega)
          have hkn : ((k : Int) + (j : Int)).toNat = k + j := by omega
          have l0 := Later.cell (HR.out.at_ HZ.out).1
          have l1 := Later.cell (HR.out.at_ HZ.out).2
          have l2 := Later.cell (cell_keep Hx0.out HB.out)
          have l3 := Later.cell (cell_keep Hx1.out HB.out)
          have l4 := Later.cell (cell_keep Hy0.out HB.out)
          have l5 := Later.cell (cell_keep Hy1.out HB.out)
          refine wp_later_tail 21 (by kernel_rfl) (by kernel_rfl) ?_
          simp only [List.take_succ_cons, List.take_zero, List.drop_succ_cons, List.drop_zero]
          repeat (go_big_quiet_step (first
            | (go_at_call 55; with_reducible exact Calls.later (rMul_any x y _))
            | (go_at_call 54; with_reducible exact Calls.later (rAdd_any z (x * y) _))))
          refine wpQuiet_nil ?_
          intro X
          clear l0 l1 l2 l3 l4 l5
          have HRX := Lib.hid (HR.out.keep X.below)
          have HBX := Lib.hid (below_step HB.out X.below)
          clear hkw hkn hk0 hk1
          obtain ⟨c0, c1⟩ := HRX.out.at_ HZ.out
          have f0 := HRX.out.free ((k + j) * 2)
          have f1 := HRX.out.free ((k + j) * 2 + 1)
          go_wp2_with fail
          go_roundw
          case rel => exact ⟨j + 1, by omega, by go_num, by rw [rowMul, addAt, cfE_some HZ.out, cfE_some HY.out]; exact HRX.out.set (k + j) (z + x * y), (HBX.out.setCell (Nat.le_refl _) _).setCell (Nat.le_refl _) _⟩
          case measure => simp [intOf]; omega
        · have hjm : j = m := by omega
          go_wp2_with fail
          go_roundw
          case rel => exact ⟨k + 1, by omega, by go_num, by rw [allMul, cfE_some HX.out, ← HL'.out, ← hjm]; exact HR.out, HB.out⟩
          case measure => simp [intOf]; omega
    · have hkn : k = n := by omega
      subst hkn
      have HSQ := Lib.hid (Row.slc HRO.out (show k + m = _ by rw [allMul_length, ← HR0.out, List.length_replicate]) (Nat.le_refl _) (by omega))
      go_wp2_with fail
      refine (rTrim_any _ _ _ _ _ HSQ.out (by omega)).mono ?_
      rintro e W1 ⟨A', q, c', rfl, hq, hs, hb⟩
      have HS1 := Lib.hid hs
      clear hs
      go_wp2_with fail
      go_ret
      exact ⟨A', q, c', rfl, hq, by unfold mulE; rw [← HL.out, ← HL'.out, HR0.out]; exact HS1.out, below_step HBO.out hb⟩

end Go.Proofs.Ytkefijogpiofbaa.J

namespace Go.Proofs.Ytkefijogpiofbaa.J
set_option linter.unusedVariables false
set_option linter.unusedSimpArgs false
set_option linter.unusedSectionVars false
set_option maxRecDepth 8000
open Go.RowKit Gold

set_option maxHeartbeats 2000000 in
theorem rPEval_any (A : Option Addr) (n c : Nat) (xs : List E2) (y : E2) (w : World) (h : Sl w A n c xs) :
    Calls Try.prog 46 #[.slice A n c, .agg #[.int .u64 (vF y.A), .int .u64 (vF y.B)]] w fun e w' => e = .returned (.agg #[.int .u64 (vF (evE xs y).A), .int .u64 (vF (evE xs y).B)]) ∧ Below w.heap.size w w' := by
  have hnc := h.cap
  have hct := h.top
  have HL := Lib.hid h.len
  have HS := Lib.hid h
  clear h
  go_enter Try.func46, Try.ntmps46
  go_wp2_with fail
  refine wp_named3 (fun W hB g0 g1 g2 hz => ?_)
  have HB := Lib.hid hB
  have HY := Lib.hid (show Two W w.heap.size 31 (.int .u64 (vF y.A)) (.int .u64 (vF y.B)) from g0)
  have HR := Lib.hid (show Two W (w.heap.size + 1) 31 (.int .u64 0) (.int .u64 0) from g1)
  have HV := Lib.hid (show Two W (w.heap.size + 1 + 1) 31 (.int .u64 0) (.int .u64 0) from g2)
  clear hB g0 g1 g2
  go_loopw [6] (fun s wr => ∃ k : Nat, k ≤ n ∧ s = .int .i64 ((k : Int) - 1) ∧ Two wr w.heap.size 31 (.int .u64 (vF y.A)) (.int .u64 (vF y.B)) ∧ Two wr (w.heap.size + 1) 31 (.int .u64 0) (.int .u64 0) ∧ Two wr (w.heap.size + 1 + 1) 31 (.int .u64 (vF (evFrom xs y k).A)) (.int .u64 (vF (evFrom xs y k).B)) ∧ Below w.heap.size w wr) (fun s _ => (intOf s + 1).toNat)
  case atStart =>
    refine ⟨n, Nat.le_refl _, rfl, HY.out, HR.out, ?_, HB.out⟩
    rw [evFrom_end y (Nat.le_of_eq HL.out.symm)]
    exact HV.out
  case round =>
    clear HB HY HR HV
    obtain ⟨k, hk, rfl, hy, hr, hv, hb⟩ := hrel
    have HY := Lib.hid hy
    have HR := Lib.hid hr
    have HV := Lib.hid hv
    have HB := Lib.hid hb
    clear hy hr hv hb
    cases k with
    | zero =>
      have v0 := HV.out.c0
      have v1 := HV.out.c1
      have r0 := HR.out.c0
      have r1 := HR.out.c1
      have f0 := HR.out.f0
      have f1 := HR.out.f1
      go_wp2_with fail
      refine bodyPost_ret (v := .agg #[.int .u64 (vF (evFrom xs y 0).A), .int .u64 (vF (evFrom xs y 0).B)]) (by simp [results, Try.results46, go_sem, r0, r1]) rfl ⟨rfl, ?_⟩
      exact (HB.out.setCell (Nat.le_succ _) _).setCell (Nat.le_succ _) _
    | succ j =>
      obtain ⟨x, hx⟩ := HS.out.get (show j < n by omega)
      obtain ⟨ad, rfl, h0, h1⟩ := HS.out.at_ hx
      replace h0 := cell_keep h0 HB.out
      replace h1 := cell_keep h1 HB.out
      have HX := Lib.hid hx
      clear hx
      generalize hacc : evFrom xs y (j + 1) = v at HV
      have HA := Lib.hid hacc
      clear hacc
      have v0 := HV.out.c0
      have v1 := HV.out.c1
      have f0 := HV.out.f0
      have f1 := HV.out.f1
      have l0 := Later.cell v0
      have l1 := Later.cell v1
      have l2 := Later.cell HY.out.c0
      have l3 := Later.cell HY.out.c1
      have l4 := Later.cell h0
      have l5 := Later.cell h1
      clear h0 h1
      have hj0 : (0 : Int) ≤ (j : Int) := by omega
      have hj1 : (j : Int) < (n : Int) := by omega
      go_wp2_with fail
      refine wp_later_tail 8 (by kernel_rfl) (by kernel_rfl) ?_
      simp only [List.take_succ_cons, List.take_zero, List.drop_succ_cons, List.drop_zero]
      repeat (go_big_quiet_step (first
        | (go_at_call 55; with_reducible exact Calls.later (rMul_any v y _))
        | (go_at_call 54; with_reducible exact Calls.later (rAdd_any (v * y) x _))))
      refine wpQuiet_nil ?_
      intro X
      clear l0 l1 l2 l3 l4 l5
      have hb := X.below
      replace f0 := free_after hb v0 f0
      replace f1 := free_after hb v1 f1
      replace v0 := cell_after hb v0
      replace v1 := cell_after hb v1
      have HY1 := Lib.hid (HY.out.keep hb)
      have HR1 := Lib.hid (HR.out.keep hb)
      have HV1 := Lib.hid (HV.out.keep hb)
      have HB1 := Lib.hid (below_step HB.out hb)
      clear hb
      go_wp2_with fail
      go_roundw
      case rel =>
        refine ⟨j, by omega, by go_num, (HY1.out.far _ (by simp; omega)).far _ (by simp; omega), (HR1.out.far _ (by simp)).far _ (by simp), ?_, (HB1.out.setCell (by simp; omega) _).setCell (by simp; omega) _⟩
        rw [evFrom_step HX.out, HA.out]
        exact (HV1.out.set0 _).set1 _
      case measure => simp [intOf]

/-- the element that is made of two numbers -/
def madeE (p : Int × Int) : E2 := toE p.1 p.2
/-- pairs of numbers that a program may hold -/
def Nums (ps : List (Int × Int)) : Prop := ∀ p, p ∈ ps → U64 p.1 ∧ U64 p.2
/-- a slice that came in -/
def Sr (w : World) (A : Option Addr) (n c : Nat) (ps : List (Int × Int)) : Prop := SlR w A n c (ps.map fun p => (.int .u64 p.1, .int .u64 p.2))
theorem Sr.len {w : World} {A : Option Addr} {n c : Nat} {ps : List (Int × Int)} (h : Sr w A n c ps) : n = ps.length := by simpa using SlR.len h
theorem Sr.keep {w w' : World} {A : Option Addr} {n c : Nat} {ps : List (Int × Int)} (h : Sr w A n c ps) (hb : Below w.heap.size w w') : Sr w' A n c ps := SlR.keep h hb
theorem Sr.at_ {w : World} {A : Option Addr} {n c : Nat} {ps : List (Int × Int)} {i : Nat} {p : Int × Int} (h : Sr w A n c ps) (hx : ps[i]? = some p) : ∃ ad, A = some ad ∧ w.cell? (ad.add (i * 2)) = some (.int .u64 p.1) ∧ w.cell? ⟨(ad.add (i * 2)).block, (ad.add (i * 2)).off + 1, none⟩ = some (.int .u64 p.2) := by
  obtain ⟨ad, e, h1, h2⟩ := SlR.cells h i (.int .u64 p.1, .int .u64 p.2) (by simp [hx])
  exact ⟨ad, e, h1, h2⟩
theorem Sr.get {w : World} {A : Option Addr} {n c : Nat} {ps : List (Int × Int)} {i : Nat} (h : Sr w A n c ps) (hi : i < n) : ∃ p, ps[i]? = some p := ⟨ps[i]'(by have := h.len; omega), List.getElem?_eq_getElem _⟩
theorem take_map_snoc {ps : List (Int × Int)} {k : Nat} {p : Int × Int} (h : ps[k]? = some p) : (ps.take (k + 1)).map madeE = (ps.take k).map madeE ++ [madeE p] := by
  obtain ⟨hl, he⟩ := List.getElem?_eq_some_iff.1 h
  rw [List.take_succ_eq_append_getElem hl, List.map_append, he]
  rfl

set_option maxHeartbeats 2000000 in
theorem rPMade_any (A : Option Addr) (n c : Nat) (ps : List (Int × Int)) (q : Nat) (w : World) (h : Sr w A n c ps) (hw : Nums ps) (hq : q ≤ 65536) :
    Calls Try.prog 59 #[.slice A n c, .int .i64 q] w fun e w' => ∃ A' m c', e = .returned (.slice A' m c') ∧ m ≤ q ∧ Sl w' A' m c' ((ps.take q).map madeE) ∧ OwE w' w.heap.size (.slice A' m c') m ((ps.take q).map madeE) ∧ Below w.heap.size w w' := by
  have hnc := SlR.cap h
  have hct := SlR.top h
  have HL := Lib.hid h.len
  have HW := Lib.hid hw
  have HS := Lib.hid h
  clear h hw
  go_enter Try.func59, Try.ntmps59
  go_wp2_with fail
  go_loopw [5, 6] (fun v i wr => ∃ k : Nat, k ≤ n ∧ k ≤ q ∧ i = .int .i64 k ∧ OwE wr w.heap.size v k ((ps.take k).map madeE) ∧ Below w.heap.size w wr) (fun _ i _ => n - (intOf i).toNat)
  case atStart => exact ⟨0, Nat.zero_le _, Nat.zero_le _, rfl, OwE.made w w.heap.size (Nat.le_refl _), (Below.refl _ _).alloc (Nat.le_refl _) _⟩
  case round =>
    obtain ⟨k, hk, hkq, rfl, ho, hb⟩ := hrel
    have HO := Lib.hid ho
    have HB := Lib.hid hb
    clear ho hb
    by_cases hlt : k < n
    · by_cases hltq : k < q
      · obtain ⟨p, hp⟩ := HS.out.get hlt
        obtain ⟨ad, rfl, h0, h1⟩ := HS.out.at_ hp
        replace h0 := cell_keep h0 HB.out
        replace h1 := cell_keep h1 HB.out
        have hw := HW.out p (List.mem_of_getElem? hp)
        have HX := Lib.hid hp
        clear hp
        go_wp2_with fail
        refine (rMade_any p.1 p.2 _ hw.1 hw.2).mono ?_
        rintro e W1 ⟨rfl, hb⟩
        have HO1 := Lib.hid (HO.out.keep hb)
        have HB1 := Lib.hid (below_step HB.out hb)
        clear hb h0 h1 hw
        go_wp2_with (at_builtin; refine wpList_appendE rfl (.tmp 19) (.tmp 25) rfl (w.heap.size) _ k _ rfl (HO1.out.keep ((Below.refl _ _).alloc (Nat.le_refl _) _)) W1.heap.size 1 (madeE p) rfl (Two.new W1 _ _ _) (by omega) (by have := HB1.out.size; simp; omega) ?_; intro v1 w1 hown1 hg1; have HO2 := Lib.hid hown1; have HB2 := Lib.hid (below_grown (w0 := w) (HB1.out.alloc HB1.out.size _) hg1 (HO1.out.keep ((Below.refl _ _).alloc (Nat.le_refl _) _)) (Nat.le_refl _)); clear hown1 hg1)
        go_roundw
        case rel => exact ⟨k + 1, by omega, by omega, by go_num, by rw [take_map_snoc HX.out]; exact HO2.out, HB2.out⟩
        case measure => simp [intOf]; omega
      · have hkq' : k = q := by omega
        subst hkq'
        obtain ⟨A1, c1, rfl, hs1⟩ := HO.out.sl
        have HSQ := Lib.hid hs1
        clear hs1
        go_wp2_with fail
        go_ret
        exact ⟨A1, k, c1, rfl, hkq, HSQ.out, HO.out, HB.out⟩
    · have hkn : k = n := by omega
      obtain ⟨A1, c1, rfl, hs1⟩ := HO.out.sl
      have HSQ := Lib.hid hs1
      clear hs1
      go_wp2_with fail
      go_ret
      have e : ps.take q = ps.take k := by rw [hkn, HL.out, List.take_length, List.take_of_length_le (by have := HL.out; omega)]
      exact ⟨A1, k, c1, rfl, hkq, by rw [e]; exact HSQ.out, by rw [e]; exact HO.out, HB.out⟩

/-- exactly q elements -/
def exactE (ps : List (Int × Int)) (q : Nat) : List E2 := (ps.take q).map madeE ++ List.replicate (q - ps.length) E2.zero
theorem exactE_length (ps : List (Int × Int)) (q : Nat) : (exactE ps q).length = q := by
  unfold exactE
  rw [List.length_append, List.length_map, List.length_take, List.length_replicate]
  omega

set_option maxHeartbeats 2000000 in
theorem rPExactly_any (A : Option Addr) (n c : Nat) (ps : List (Int × Int)) (q : Nat) (w : World) (h : Sr w A n c ps) (hw : Nums ps) (hq : q ≤ 65536) :
    Calls Try.prog 34 #[.slice A n c, .int .i64 q] w fun e w' => ∃ A' c', e = .returned (.slice A' q c') ∧ Sl w' A' q c' (exactE ps q) ∧ Below w.heap.size w w' := by
  have HL := Lib.hid h.len
  have HW := Lib.hid hw
  have HS := Lib.hid h
  clear h hw
  go_enter Try.func34, Try.ntmps34
  go_wp2_with fail
  refine (rPMade_any A n c ps q _ HS.out HW.out hq).mono ?_
  rintro e W1 ⟨A1, m1, c1, rfl, hm1, hs, ho, hb⟩
  have HO := Lib.hid ho
  have HB := Lib.hid hb
  have HM := Lib.hid (show m1 = min q ps.length by have := hs.len; simpa using this)
  clear hs ho hb
  go_wp2_with fail
  go_loopw [5] (fun v wr => ∃ (k : Nat) (A2 : Option Addr) (c2 : Nat), v = .slice A2 k c2 ∧ k ≤ q ∧ m1 ≤ k ∧ OwE wr w.heap.size (.slice A2 k c2) k ((ps.take q).map madeE ++ List.replicate (k - m1) E2.zero) ∧ Below w.heap.size w wr) (fun v _ => match v with | .slice _ k _ => q - k | _ => 0)
  case atStart => exact ⟨m1, A1, c1, rfl, hm1, Nat.le_refl _, by rw [Nat.sub_self]; simpa using HO.out, HB.out⟩
  case round =>
    clear HO HB
    obtain ⟨k, A2, c2, rfl, hk, hmk, ho, hb⟩ := hrel
    obtain ⟨A3, c3, e3, hs3⟩ := ho.sl
    injection e3 with eA eN eC
    subst eA
    subst eC
    have hkc := hs3.cap
    have hct := hs3.top
    have HO1 := Lib.hid ho
    have HB1 := Lib.hid hb
    have HS3 := Lib.hid hs3
    clear ho hb hs3 eN
    by_cases hlt : k < q
    · go_wp2_with (at_builtin; refine wpList_appendE rfl (.tmp 13) (.tmp 15) rfl (w.heap.size) _ k _ rfl (HO1.out.keep ((Below.refl _ _).alloc (Nat.le_refl _) _)) wr.heap.size 1 (E2.zero) rfl (Two.new wr _ _ _) (by omega) (by have := HB1.out.size; simp; omega) ?_; intro v1 w1 hown1 hg1; have HO2 := Lib.hid hown1; have HB2 := Lib.hid (below_grown (w0 := w) (HB1.out.alloc HB1.out.size _) hg1 (HO1.out.keep ((Below.refl _ _).alloc (Nat.le_refl _) _)) (Nat.le_refl _)); clear hown1 hg1)
      obtain ⟨A4, c4, rfl, hs4⟩ := HO2.out.sl
      clear hs4
      go_roundw
      case rel => exact ⟨k + 1, A4, c4, rfl, by omega, by omega, by rw [show k + 1 - m1 = (k - m1) + 1 by omega, List.replicate_succ', ← List.append_assoc]; exact HO2.out, HB2.out⟩
      case measure => show q - (k + 1) < q - k; omega
    · have hkq : k = q := by omega
      subst hkq
      go_wp2_with fail
      go_ret
      exact ⟨A2, c2, rfl, by unfold exactE; have := HS3.out; have hm := HM.out; rw [show k - ps.length = k - m1 by omega]; exact this, HB1.out⟩


end Go.Proofs.Ytkefijogpiofbaa.J

namespace Gold
set_option linter.unusedVariables false
set_option linter.unusedSimpArgs false
set_option linter.unusedSectionVars false
set_option maxRecDepth 8000
open E2
end Gold
namespace Go.Proofs.Ytkefijogpiofbaa.K
set_option linter.unusedVariables false
set_option linter.unusedSimpArgs false
set_option linter.unusedSectionVars false
open Go.RowKit
section
variable {P : Program} {ops : Array Oper} {S : World → Prop} {Q : Exit → Act → World → Prop} {m : Nat}
/-- as okT, the operation m being the last -/
def okM (ops : Array Oper) (m : Nat) : OT → Array Bool → Bool
  | .nil, l => Region.ready .any ops l == [m]
  | .q i t, l => decide (i < m) && (ops[i]?.all stillOp) && Region.free .any ops l i && (Region.ready .any ops l).contains i && okM ops m t (l.setIfInBounds i true)
  | .one i t, l => decide (i < m) && (ops[i]?.all fun o => !stillOp o) && (Region.ready .any ops l == [i]) && okM ops m t (l.setIfInBounds i true)
  | .fork i t j u, l => decide (i < m) && decide (j < m) && (ops[i]?.all fun o => !stillOp o) && (ops[j]?.all fun o => !stillOp o) && (Region.ready .any ops l == [i, j]) && (t.len == u.len) && okM ops m t (l.setIfInBounds i true) && okM ops m u (l.setIfInBounds j true)
theorem wpT_of_OT (hz : ops.size = m + 1) (hs : Region.sinkB .any ops m = true) (hcb : Region.chainB .any ops m = true) (hsel : Region.noSelect ops = true) : ∀ (t : OT) (l : Array Bool) (a : Act) (w : World), HeadInv .any ops m l → S w → okM ops m t l = true →
    wpOT P ops S (fun _ a w => mOp P ops m (fun a w => Q .normal a w) a w) t a w → wpT P ops S m Q (t.len + 1) l a w
  | .nil, l, a, w, inv, hS, ho, h => by
    unfold okM at ho
    have hr : Region.ready .any ops l = [m] := by simpa using ho
    refine ⟨fun e => (by rw [hr] at e; cases e), fun i hi => ?_⟩
    have hi' := hi
    rw [hr] at hi
    obtain rfl : i = m := by simpa using hi
    rw [tOp_eq]
    obtain ⟨om, hom, hw, hh⟩ := h
    exact ⟨om, hom, hw, hOp_mono (fun v w' hq => ⟨none_left hz hs hcb inv hi', hq⟩) hh⟩
  | .q i t, l, a, w, inv, hS, ho, h => by
    unfold okM at ho
    simp only [Bool.and_eq_true, decide_eq_true_eq] at ho
    obtain ⟨⟨⟨⟨him, hst⟩, hf⟩, hrd⟩, ho⟩ := ho
    obtain ⟨o, hi, v, hy, hk⟩ := h
    have hr : i ∈ Region.ready .any ops l := by simpa using hrd
    rw [hi] at hst
    have hst : stillOp o = true := by simpa using hst
    refine wpT_first hz hs hcb him hi (Region.noSelect_spec hsel) (t.len + 1) l a w inv hS (Region.free_spec hi hf) (fun e => by rw [hst] at e; cases e) hr ?_
    unfold sOp
    rw [hi]
    exact .inl ⟨.inl hst, v, hy, wpT_of_OT hz hs hcb hsel t _ _ w (inv.set hr him) hS ho hk⟩
  | .one i t, l, a, w, inv, hS, ho, h => by
    unfold okM at ho
    simp only [Bool.and_eq_true, decide_eq_true_eq] at ho
    obtain ⟨⟨⟨him, hst⟩, hrd⟩, ho⟩ := ho
    obtain ⟨o, hi, hw, hk⟩ := h
    have hr : Region.ready .any ops l = [i] := by simpa using hrd
    rw [hi] at hst
    have hst : stillOp o = false := by simpa using hst
    refine ⟨fun e => (by rw [hr] at e; cases e), fun j hj => ?_⟩
    have hj' := hj
    rw [hr] at hj
    obtain rfl : j = i := by simpa using hj
    rw [tOp_ne (by omega)]
    unfold sOp
    rw [hi]
    exact .inr ⟨not_quiet hst hw, hOp_mono (fun v w' hq => ⟨hq.1, wpT_of_OT hz hs hcb hsel t _ _ w' (inv.set hj' him) hq.1 ho hq.2⟩) hk⟩
  | .fork i t j u, l, a, w, inv, hS, ho, h => by
    unfold okM at ho
    simp only [Bool.and_eq_true, decide_eq_true_eq] at ho
    obtain ⟨⟨⟨⟨⟨⟨⟨him, hjm⟩, hsi⟩, hsj⟩, hrd⟩, hlen⟩, h1⟩, h2⟩ := ho
    obtain ⟨⟨o, hi, hw, hk⟩, ⟨o2, hi2, hw2, hk2⟩⟩ := h
    have hr : Region.ready .any ops l = [i, j] := by simpa using hrd
    have hlen : t.len = u.len := by simpa using hlen
    rw [hi] at hsi
    rw [hi2] at hsj
    have hsi : stillOp o = false := by simpa using hsi
    have hsj : stillOp o2 = false := by simpa using hsj
    refine ⟨fun e => (by rw [hr] at e; cases e), fun q hq => ?_⟩
    have hq' := hq
    rw [hr] at hq
    rcases List.mem_cons.1 hq with rfl | hq
    · rw [tOp_ne (by omega)]
      unfold sOp
      rw [hi]
      exact .inr ⟨not_quiet hsi hw, hOp_mono (fun v w' hq => ⟨hq.1, wpT_of_OT hz hs hcb hsel t _ _ w' (inv.set hq' him) hq.1 h1 hq.2⟩) hk⟩
    · obtain rfl : q = j := by simpa using hq
      rw [tOp_ne (by omega)]
      unfold sOp
      rw [hi2]
      exact .inr ⟨not_quiet hsj hw2, hOp_mono (fun v w' hq => ⟨hq.1, by have := wpT_of_OT hz hs hcb hsel u _ _ w' (inv.set hq' hjm) hq.1 h2 hq.2; rw [← hlen] at this; exact this⟩) hk2⟩
theorem wp_ordM (m : Nat) (t : OT) {id : Nat} {a : Act} {w : World} {l : List Oper} (hm : P.follows .mixedOrders = true) (hsel : Region.noSelect l.toArray = true) (hz : l.length = m + 1) (hl : t.len = m) (hs : Region.sinkB .any l.toArray m = true) (hcb : Region.chainB .any l.toArray m = true) (ho : okM l.toArray m t (Array.replicate l.length false) = true)
    (h : ∀ V, Below w.heap.size w V → wpOT P l.toArray (fun X => Below V.heap.size V X) (fun _ a w => mOp P l.toArray m (fun a w => Q .normal a w) a w) t a V) : (Code.region id l.toArray true).wp P Q a w := by
  have inv0 : HeadInv .any l.toArray m (Array.replicate l.toArray.size false) :=
    ⟨by simp, fun j oj _ hl => (by rw [getD_replicate_false] at hl; cases hl), fun t _ ht => getD_in (by simpa using ht) (getD_replicate_false _ _)⟩
  refine wp_region_any hm (wpAny_of_wpT (S := fun X => Below w.drew.heap.size w.drew X) (m := m) (by simpa using hz) hs hcb _ _ _ _ inv0 (Below.refl _ _) ?_)
  have := wpT_of_OT (P := P) (Q := Q) (m := m) (ops := l.toArray) (by simpa using hz) hs hcb hsel t (Array.replicate l.length false) a w.drew (by simpa using inv0) (Below.refl _ _) ho (h _ (Below.refl _ _).drew)
  rw [hl] at this
  simpa [hz] using this
end
end Go.Proofs.Ytkefijogpiofbaa.K
namespace Go.Proofs.Ytkefijogpiofbaa
set_option linter.unusedVariables false
set_option linter.unusedSimpArgs false
set_option linter.unusedSectionVars false
open Go.RowKit Go.Proofs.Ytkefijogpiofbaa.K
/-- a pair of words in cells -/
def exP (p : Int × Int) : List Value := [.int .u64 p.1, .int .u64 p.2]
instance : Enc exP 2 := ⟨fun _ => rfl, fun x u hu => by
  simp only [exP, List.mem_cons, List.not_mem_nil, or_false] at hu
  rcases hu with rfl | rfl <;> rfl, by decide⟩
theorem srOf {w : World} {A : Option Addr} {n c : Nat} {ps : List (Int × Int)} (h : Sg exP 2 w A n c ps) : J.Sr w A n c ps :=
  ⟨by rw [List.length_map]; exact h.len.symm, h.cap, h.top, h.nil, fun i p hp => by
    rw [List.getElem?_map] at hp
    obtain ⟨q, hq, rfl⟩ := Option.map_eq_some_iff.1 hp
    obtain ⟨g, off, rfl, hr⟩ := h.at_ i q hq
    refine ⟨⟨g, off, none⟩, rfl, ?_, ?_⟩
    · rw [Addr.add_mid]; exact hr 0 _ rfl
    · rw [Addr.add_mid]; exact hr 1 _ rfl⟩
theorem exec_eqXt {ev : Operand → Value} {o : Oper} {w : World} {x y : Operand} {t : TypeId} (a b : Int) (ho : o.op = .binOp .eql 31 x y t) (hx : ev x = .agg #[.int .u64 a, .int .u64 b]) (hy : ev y = .agg #[.int .u64 a, .int .u64 b]) : (execOp ev o).run Try.prog w = .ok (.value (.bool true)) w := by
  unfold execOp
  rw [ho]
  simp only [hx, hy]
  go_simp
end Go.Proofs.Ytkefijogpiofbaa

