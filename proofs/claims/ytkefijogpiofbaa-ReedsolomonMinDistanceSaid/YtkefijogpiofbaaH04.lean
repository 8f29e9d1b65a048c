/- Several texts in one: Ex, PolM, PolN, PolI, MleM, JFieldA, JFieldB, JFieldC, JMem, JFieldF. -/
import Derived.Test.YtkefijogpiofbaaH03
import Derived.Test.YtkefijogpiofbaaProg
import Derived.WalkKit
import Derived.WalkSpells
import Derived.WalkSmall
import Derived.Laws.MathBits
import Derived.Lib.Hide
import Derived.WalkMore
import Derived.Deep.LoopGhost
import Derived.OneCell
import Derived.Deep.RegionWith
import Derived.RegionTactic
import Derived.BigRegion
import Derived.StillTailTactics
import Derived.Below
import Derived.RowKit
import Derived.RangeFuncRecord
import Derived.Deep.RegionHeld3
import Derived.Deep.QuietTactic
import Derived.BigQuiet
namespace Gold
set_option linter.unusedVariables false
set_option linter.unusedSimpArgs false
set_option linter.unusedSectionVars false
set_option maxRecDepth 8000

/-- an element A + B X -/
structure E2 where
  A : F
  B : F

namespace E2
set_option linter.unusedVariables false
set_option linter.unusedSimpArgs false
set_option linter.unusedSectionVars false
theorem ext' {x y : E2} (h : x.A = y.A) (k : x.B = y.B) : x = y := by
  cases x; cases y; cases h; cases k; rfl
theorem ext_iff' {x y : E2} : x = y ↔ x.A = y.A ∧ x.B = y.B := ⟨fun h => h ▸ ⟨rfl, rfl⟩, fun h => ext' h.1 h.2⟩

def add (x y : E2) : E2 := ⟨x.A + y.A, x.B + y.B⟩
def sub (x y : E2) : E2 := ⟨x.A - y.A, x.B - y.B⟩
def neg (x : E2) : E2 := ⟨-x.A, -x.B⟩
def mul (x y : E2) : E2 := ⟨x.A * y.A + 7 * (x.B * y.B), x.A * y.B + x.B * y.A⟩
instance : Add E2 := ⟨add⟩
instance : Sub E2 := ⟨sub⟩
instance : Neg E2 := ⟨neg⟩
instance : Mul E2 := ⟨mul⟩
def ofF (a : F) : E2 := ⟨a, 0⟩
def zero : E2 := ⟨0, 0⟩
def one : E2 := ⟨1, 0⟩
def conj (x : E2) : E2 := ⟨x.A, -x.B⟩
def norm (x : E2) : F := x.A * x.A - 7 * (x.B * x.B)
def inv (x : E2) : E2 := ⟨x.A * invF (norm x), -x.B * invF (norm x)⟩
def pow (x : E2) : Nat → E2
  | 0 => one
  | n + 1 => pow x n * x

theorem add_A (x y : E2) : (x + y).A = x.A + y.A := rfl
theorem add_B (x y : E2) : (x + y).B = x.B + y.B := rfl
theorem sub_A (x y : E2) : (x - y).A = x.A - y.A := rfl
theorem sub_B (x y : E2) : (x - y).B = x.B - y.B := rfl
theorem neg_A (x : E2) : (-x).A = -x.A := rfl
theorem neg_B (x : E2) : (-x).B = -x.B := rfl
theorem mul_A (x y : E2) : (x * y).A = x.A * y.A + 7 * (x.B * y.B) := rfl
theorem mul_B (x y : E2) : (x * y).B = x.A * y.B + x.B * y.A := rfl
theorem zero_A : zero.A = 0 := rfl
theorem zero_B : zero.B = 0 := rfl
theorem one_A : one.A = 1 := rfl
theorem one_B : one.B = 0 := rfl
theorem conj_A (x : E2) : (conj x).A = x.A := rfl
theorem conj_B (x : E2) : (conj x).B = -x.B := rfl
theorem ofF_A (a : F) : (ofF a).A = a := rfl
theorem ofF_B (a : F) : (ofF a).B = 0 := rfl
attribute [local simp] add_A add_B sub_A sub_B neg_A neg_B mul_A mul_B zero_A zero_B one_A one_B conj_A conj_B ofF_A ofF_B

theorem add_comm (x y : E2) : x + y = y + x := ext' (by simp; grind) (by simp; grind)
theorem add_assoc (x y z : E2) : x + y + z = x + (y + z) := ext' (by simp; grind) (by simp; grind)
theorem mul_comm (x y : E2) : x * y = y * x := ext' (by simp; grind) (by simp; grind)
theorem mul_assoc (x y z : E2) : x * y * z = x * (y * z) := ext' (by simp; grind) (by simp; grind)
theorem mul_add (x y z : E2) : x * (y + z) = x * y + x * z := ext' (by simp; grind) (by simp; grind)
theorem add_mul (x y z : E2) : (x + y) * z = x * z + y * z := ext' (by simp; grind) (by simp; grind)
theorem add_zero (x : E2) : x + zero = x := ext' (by simp; try grind) (by simp; try grind)
theorem zero_add (x : E2) : zero + x = x := ext' (by simp; try grind) (by simp; try grind)
theorem mul_one (x : E2) : x * one = x := ext' (by simp; try grind) (by simp; try grind)
theorem one_mul (x : E2) : one * x = x := ext' (by simp; try grind) (by simp; try grind)
theorem mul_zero (x : E2) : x * zero = zero := ext' (by simp; try grind) (by simp; try grind)
theorem zero_mul (x : E2) : zero * x = zero := ext' (by simp; try grind) (by simp; try grind)
theorem sub_eq (x y : E2) : x - y = x + -y := ext' (by simp; grind) (by simp; grind)
theorem neg_neg (x : E2) : -(-x) = x := ext' (by simp; try grind) (by simp; try grind)
theorem neg_mul (x y : E2) : -x * y = -(x * y) := ext' (by simp; grind) (by simp; grind)
theorem mul_left_comm (x y z : E2) : x * (y * z) = y * (x * z) := ext' (by simp; grind) (by simp; grind)
theorem sub_self (x : E2) : x - x = zero := ext' (by simp; try grind) (by simp; try grind)
theorem sub_eq_zero {x y : E2} (h : x - y = zero) : x = y := by
  have h1 := congrArg A h
  have h2 := congrArg B h
  simp at h1 h2
  exact ext' (by grind) (by grind)

theorem norm_ne_zero {x : E2} (h : x ≠ zero) : norm x ≠ 0 := by
  intro e
  unfold norm at e
  by_cases hB : x.B = 0
  · rw [hB] at e
    have hA : x.A * x.A = 0 := by grind
    rcases F_zero_divisor hA with hA | hA <;> exact h (ext' hA hB)
  · have hi := mul_invF hB
    refine seven_no_square (x.A * invF x.B) ?_
    grind
theorem mul_inv {x : E2} (h : x ≠ zero) : x * inv x = one := by
  have hn := mul_invF (norm_ne_zero h)
  apply ext'
  · simp [inv]
    unfold norm at *
    grind
  · simp [inv]
    grind
theorem mul_cancel {x y z : E2} (h : x ≠ zero) (e : x * y = x * z) : y = z := by
  have h1 := mul_inv h
  have h2 : inv x * (x * y) = inv x * (x * z) := by rw [e]
  rw [← mul_assoc, ← mul_assoc, mul_comm (inv x), h1, one_mul, one_mul] at h2
  exact h2
theorem zero_divisor {x y : E2} (e : x * y = zero) : x = zero ∨ y = zero := by
  by_cases h : x = zero
  · exact Or.inl h
  · right
    exact mul_cancel h (e.trans (mul_zero x).symm)
theorem one_ne_zero : one ≠ zero := by
  intro h
  exact absurd (congrArg A h) (by decide)
theorem pow_zero (x : E2) : pow x 0 = one := rfl
theorem pow_succ (x : E2) (n : Nat) : pow x (n + 1) = pow x n * x := rfl
theorem pow_add (x : E2) (m n : Nat) : pow x (m + n) = pow x m * pow x n := by
  induction n with
  | zero => rw [pow_zero, mul_one]; rfl
  | succ n ih => rw [← Nat.add_assoc, pow_succ, ih, pow_succ, mul_assoc]
theorem pow_mul (x : E2) (m n : Nat) : pow x (m * n) = pow (pow x m) n := by
  induction n with
  | zero => rfl
  | succ n ih => rw [Nat.mul_succ, pow_add, ih, pow_succ]
theorem one_pow (n : Nat) : pow one n = one := by
  induction n with
  | zero => rfl
  | succ n ih => rw [pow_succ, ih, mul_one]
theorem zero_pow {n : Nat} (h : 0 < n) : pow zero n = zero := by
  obtain ⟨m, rfl⟩ : ∃ m, n = m + 1 := ⟨n - 1, by omega⟩
  rw [pow_succ, mul_zero]
theorem ofF_mul (a b : F) : ofF a * ofF b = ofF (a * b) := ext' (by simp; try grind) (by simp; grind)
theorem ofF_add (a b : F) : ofF a + ofF b = ofF (a + b) := ext' (by simp) (by simp)
theorem sq_pow (x : E2) (n : Nat) : pow (x * x) n = pow x (2 * n) := by
  rw [pow_mul]
  congr 1
  exact (congrArg (· * x) (one_mul x)).symm

/-- the square root of 7 -/
def X : E2 := ⟨0, 1⟩
theorem X_A : X.A = 0 := rfl
theorem X_B : X.B = 1 := rfl
attribute [local simp] X_A X_B
end E2
end Gold

namespace Gold
set_option linter.unusedVariables false
set_option linter.unusedSimpArgs false
set_option linter.unusedSectionVars false
set_option maxRecDepth 8000
namespace E2
set_option linter.unusedVariables false
set_option linter.unusedSimpArgs false
set_option linter.unusedSectionVars false
instance : DecidableEq E2 := fun x y => if h : x.A = y.A ∧ x.B = y.B then isTrue (ext' h.1 h.2) else isFalse (fun e => h ⟨congrArg A e, congrArg B e⟩)
end E2

/-- the coefficient of an exponent -/
def cfE (xs : List E2) (i : Nat) : E2 := (xs[i]?).getD E2.zero
/-- without zeros at the end -/
def trimE (xs : List E2) : List E2 := match xs with
  | [] => []
  | x :: l => match trimE l with
    | [] => if x = E2.zero then [] else [x]
    | y :: t => x :: y :: t
def tabE (n : Nat) (f : Nat → E2) : List E2 := (List.range n).map f

theorem cfE_succ (x : E2) (l : List E2) (i : Nat) : cfE (x :: l) (i + 1) = cfE l i := rfl
theorem cfE_lt {xs : List E2} {i : Nat} (h : i < xs.length) : cfE xs i = xs[i] := by unfold cfE; rw [List.getElem?_eq_getElem h]; rfl
theorem cfE_ge {xs : List E2} {i : Nat} (h : xs.length ≤ i) : cfE xs i = E2.zero := by unfold cfE; rw [List.getElem?_eq_none h]; rfl
theorem cfE_some {xs : List E2} {i : Nat} {x : E2} (h : xs[i]? = some x) : cfE xs i = x := by unfold cfE; rw [h]; rfl
theorem tabE_length (n : Nat) (f : Nat → E2) : (tabE n f).length = n := by simp [tabE]
theorem tabE_get {n i : Nat} (f : Nat → E2) (h : i < n) : (tabE n f)[i]? = some (f i) := by simp [tabE, h]
theorem cfE_tabE (n : Nat) (f : Nat → E2) (i : Nat) : cfE (tabE n f) i = if i < n then f i else E2.zero := by
  by_cases h : i < n
  · rw [if_pos h, cfE_some (tabE_get f h)]
  · rw [if_neg h, cfE_ge (by rw [tabE_length]; omega)]
theorem tabE_succ (n : Nat) (f : Nat → E2) : tabE (n + 1) f = tabE n f ++ [f n] := by simp [tabE, List.range_succ]

theorem cfE_trimE (xs : List E2) (i : Nat) : cfE (trimE xs) i = cfE xs i := by
  induction xs generalizing i with
  | nil => rfl
  | cons x l ih =>
    unfold trimE
    cases h : trimE l with
    | nil =>
      rw [h] at ih
      by_cases hx : x = E2.zero
      · simp only [hx, if_true]
        cases i with
        | zero => rfl
        | succ i => rw [cfE_succ, ← ih]; rfl
      · simp only [hx, if_false]
        cases i with
        | zero => rfl
        | succ i => rw [cfE_succ, cfE_succ, ← ih]
    | cons y t =>
      rw [h] at ih
      cases i with
      | zero => rfl
      | succ i => simp only [cfE_succ]; exact ih i
/-- lists that end in no zero are told by their coefficients -/
theorem trimE_eq {xs ys : List E2} (h : ∀ i, cfE xs i = cfE ys i) : trimE xs = trimE ys := by
  induction xs generalizing ys with
  | nil =>
    induction ys with
    | nil => rfl
    | cons y l ih =>
      have h0 : y = E2.zero := (h 0).symm
      have hl : trimE [] = trimE l := ih fun i => h (i + 1)
      show [] = trimE (y :: l)
      unfold trimE
      rw [← hl]
      simp [trimE, h0]
  | cons x l ih =>
    cases ys with
    | nil =>
      have h0 : x = E2.zero := h 0
      have hl : trimE l = trimE [] := ih fun i => h (i + 1)
      show trimE (x :: l) = []
      unfold trimE
      rw [hl]
      simp [trimE, h0]
    | cons y m =>
      have h0 : x = y := h 0
      have hl : trimE l = trimE m := ih fun i => h (i + 1)
      subst h0
      show trimE (x :: l) = trimE (x :: m)
      unfold trimE
      rw [hl]
theorem trimE_trimE (xs : List E2) : trimE (trimE xs) = trimE xs := trimE_eq (cfE_trimE xs)
theorem trimE_length (xs : List E2) : (trimE xs).length ≤ xs.length := by
  induction xs with
  | nil => exact Nat.le_refl _
  | cons x l ih =>
    unfold trimE
    cases h : trimE l with
    | nil => by_cases hx : x = E2.zero <;> simp [hx]
    | cons y t => rw [h] at ih; simp at ih ⊢; omega
theorem trimE_snoc_zero (xs : List E2) : trimE (xs ++ [E2.zero]) = trimE xs := trimE_eq fun i => by
  unfold cfE
  rcases Nat.lt_trichotomy i xs.length with h | h | h
  · rw [List.getElem?_append_left h]
  · subst h; simp
  · rw [List.getElem?_eq_none (by simp; omega), List.getElem?_eq_none (by omega)]
theorem trimE_snoc {x : E2} (xs : List E2) (h : x ≠ E2.zero) : trimE (xs ++ [x]) = xs ++ [x] := by
  induction xs with
  | nil => simp [trimE, h]
  | cons y l ih =>
    rw [List.cons_append]
    unfold trimE
    rw [ih]
    cases l <;> rfl
/-- cut at the last nonzero coefficient -/
theorem trimE_take_zero {xs : List E2} {k : Nat} {x : E2} (hx : xs[k]? = some x) (h : x = E2.zero) : trimE (xs.take (k + 1)) = trimE (xs.take k) := by
  have hk := (List.getElem?_eq_some_iff.1 hx)
  obtain ⟨hl, he⟩ := hk
  rw [List.take_succ_eq_append_getElem hl, he, h, trimE_snoc_zero]
theorem trimE_take_stop {xs : List E2} {k : Nat} {x : E2} (hx : xs[k]? = some x) (h : x ≠ E2.zero) : trimE (xs.take (k + 1)) = xs.take (k + 1) := by
  obtain ⟨hl, he⟩ := List.getElem?_eq_some_iff.1 hx
  rw [List.take_succ_eq_append_getElem hl, he, trimE_snoc _ h]

theorem tab_start (n : Nat) (f : Nat → E2) : tabE 0 f ++ List.replicate (n - 0) E2.zero = List.replicate n E2.zero := by simp [tabE]
theorem tab_step {n k : Nat} (f : Nat → E2) (h : k < n) : (tabE k f ++ List.replicate (n - k) E2.zero).set k (f k) = tabE (k + 1) f ++ List.replicate (n - (k + 1)) E2.zero := by
  rw [List.set_append_right _ _ (by rw [tabE_length]; exact Nat.le_refl _), tabE_length, Nat.sub_self, show n - k = (n - (k + 1)) + 1 by omega, List.replicate_succ, List.set_cons_zero, tabE_succ, List.append_assoc]
  rfl
theorem tab_end (n : Nat) (f : Nat → E2) : tabE n f ++ List.replicate (n - n) E2.zero = tabE n f := by simp
theorem tab_len {n k : Nat} (f : Nat → E2) (h : k ≤ n) : (tabE k f ++ List.replicate (n - k) E2.zero).length = n := by rw [List.length_append, tabE_length, List.length_replicate]; omega

theorem tab_at {n k : Nat} (f : Nat → E2) (h : k < n) : (tabE k f ++ List.replicate (n - k) E2.zero)[k]? = some E2.zero := by
  rw [List.getElem?_append_right (by rw [tabE_length]; exact Nat.le_refl _), tabE_length, Nat.sub_self, List.getElem?_replicate, if_pos (by omega)]
theorem set_at {L : List E2} {k : Nat} {z : E2} (y : E2) (h : L[k]? = some z) : (L.set k y)[k]? = some y := by
  obtain ⟨hl, _⟩ := List.getElem?_eq_some_iff.1 h
  rw [List.getElem?_set_self hl]

def addE (xs ys : List E2) : List E2 := trimE (tabE (max xs.length ys.length) fun i => cfE xs i + cfE ys i)
def subE (xs ys : List E2) : List E2 := trimE (tabE (max xs.length ys.length) fun i => cfE xs i - cfE ys i)
def scaleE (xs : List E2) (c : E2) : List E2 := trimE (xs.map fun x => c * x)
/-- the value at x -/
def evE : List E2 → E2 → E2
  | [], _ => E2.zero
  | a :: l, x => a + x * evE l x
/-- the coefficients of the product, so far -/
def addAt (r : List E2) (k : Nat) (z : E2) : List E2 := r.set k (cfE r k + z)
def rowMul (a : E2) (ys : List E2) (i : Nat) : Nat → List E2 → List E2
  | 0, r => r
  | j + 1, r => addAt (rowMul a ys i j r) (i + j) (a * cfE ys j)
def allMul (xs ys : List E2) : Nat → List E2 → List E2
  | 0, r => r
  | i + 1, r => rowMul (cfE xs i) ys i ys.length (allMul xs ys i r)
def mulE (xs ys : List E2) : List E2 := trimE (allMul xs ys xs.length (List.replicate (xs.length + ys.length) E2.zero))

theorem addAt_length (r : List E2) (k : Nat) (z : E2) : (addAt r k z).length = r.length := by simp [addAt]
theorem rowMul_length (a : E2) (ys : List E2) (i j : Nat) (r : List E2) : (rowMul a ys i j r).length = r.length := by
  induction j with
  | zero => rfl
  | succ j ih => rw [rowMul, addAt_length, ih]
theorem allMul_length (xs ys : List E2) (i : Nat) (r : List E2) : (allMul xs ys i r).length = r.length := by
  induction i with
  | zero => rfl
  | succ i ih => rw [allMul, rowMul_length, ih]

theorem cfE_subE (xs ys : List E2) (i : Nat) : cfE (subE xs ys) i = cfE xs i - cfE ys i := by
  unfold subE
  rw [cfE_trimE, cfE_tabE]
  by_cases h : i < max xs.length ys.length
  · rw [if_pos h]
  · rw [if_neg h, cfE_ge (show xs.length ≤ i by omega), cfE_ge (show ys.length ≤ i by omega), E2.sub_self]
theorem addE_trim (xs ys : List E2) : trimE (addE xs ys) = addE xs ys := trimE_trimE _
/-- trimmed lists are told by their coefficients -/
theorem trim_ext {xs ys : List E2} (hx : trimE xs = xs) (hy : trimE ys = ys) (h : ∀ i, cfE xs i = cfE ys i) : xs = ys := by rw [← hx, ← hy]; exact trimE_eq h
/-- the value, by the coefficients from k on -/
def evFrom (xs : List E2) (y : E2) (k : Nat) : E2 := evE (xs.drop k) y
theorem evFrom_end {xs : List E2} (y : E2) {k : Nat} (h : xs.length ≤ k) : evFrom xs y k = E2.zero := by unfold evFrom; rw [List.drop_eq_nil_of_le h]; rfl
theorem evFrom_step {xs : List E2} {y x : E2} {j : Nat} (h : xs[j]? = some x) : evFrom xs y j = evFrom xs y (j + 1) * y + x := by
  obtain ⟨hl, he⟩ := List.getElem?_eq_some_iff.1 h
  unfold evFrom
  rw [List.drop_eq_getElem_cons hl, he]
  show x + y * evE (xs.drop (j + 1)) y = _
  rw [E2.add_comm, E2.mul_comm]
def quoE (xs : List E2) (y : E2) : List E2 := trimE (tabE xs.length fun i => evFrom xs y (i + 1))
theorem quoE_short {xs : List E2} (y : E2) {n : Nat} (h : xs.length = n + 1) : trimE (tabE n fun i => evFrom xs y (i + 1)) = quoE xs y := by
  unfold quoE
  rw [h, tabE_succ, evFrom_end y (by omega), trimE_snoc_zero]
end Gold

namespace Gold
set_option linter.unusedVariables false
set_option linter.unusedSimpArgs false
set_option linter.unusedSectionVars false
set_option maxRecDepth 8000
namespace E2
set_option linter.unusedVariables false
set_option linter.unusedSimpArgs false
set_option linter.unusedSectionVars false
attribute [local simp] add_A add_B sub_A sub_B neg_A neg_B mul_A mul_B zero_A zero_B one_A one_B
theorem r1 (a x z e : E2) : a + z + x * e = a + x * e + z := ext' (by simp; grind) (by simp; grind)
theorem r2 (a x e f : E2) : a + x * (e + f) = a + x * e + x * f := ext' (by simp; grind) (by simp; grind)
theorem r3 (x z p : E2) : x * (z * p) = z * (x * p) := ext' (by simp; grind) (by simp; grind)
theorem r4 (a b x e f : E2) : a + b + x * (e + f) = a + x * e + (b + x * f) := ext' (by simp; grind) (by simp; grind)
theorem r5 (a b x e f : E2) : a - b + x * (e - f) = a + x * e - (b + x * f) := ext' (by simp; grind) (by simp; grind)
theorem r6 (c a x e : E2) : c * a + x * (c * e) = c * (a + x * e) := ext' (by simp; grind) (by simp; grind)
theorem sub_zero (x : E2) : x - zero = x := ext' (by simp; try grind) (by simp; try grind)
theorem zero_sub (x : E2) : zero - x = -x := ext' (by simp; try grind) (by simp; try grind)
theorem sub_add_cancel (x y : E2) : x - y + y = x := ext' (by simp; try grind) (by simp; try grind)
theorem add_right_cancel {x y z : E2} (h : x + z = y + z) : x = y := by
  have h1 := congrArg A h
  have h2 := congrArg B h
  simp at h1 h2
  exact ext' (by grind) (by grind)
end E2

theorem evE_cons (a : E2) (l : List E2) (x : E2) : evE (a :: l) x = a + x * evE l x := rfl
theorem evE_nil (x : E2) : evE [] x = E2.zero := rfl
theorem evE_zeros {xs : List E2} (h : ∀ i, cfE xs i = E2.zero) (x : E2) : evE xs x = E2.zero := by
  induction xs with
  | nil => rfl
  | cons a l ih => rw [evE_cons, ih (fun i => h (i + 1)), show a = E2.zero from h 0, E2.mul_zero, E2.add_zero]
theorem evE_congr : ∀ {xs ys : List E2}, (∀ i, cfE xs i = cfE ys i) → ∀ x, evE xs x = evE ys x
  | [], ys, h, x => (evE_zeros (fun i => (h i).symm) x).symm
  | a :: l, [], h, x => evE_zeros h x
  | a :: l, b :: m, h, x => by rw [evE_cons, evE_cons, evE_congr (xs := l) (ys := m) (fun i => h (i + 1)) x, show a = b from h 0]
theorem evE_trimE (xs : List E2) (x : E2) : evE (trimE xs) x = evE xs x := evE_congr (cfE_trimE xs) x
/-- a polynomial given by its coefficients -/
theorem evE_tab_add {f g : Nat → E2} (n : Nat) (x : E2) : evE (tabE n fun i => f i + g i) x = evE (tabE n f) x + evE (tabE n g) x := by
  induction n generalizing f g with
  | zero => exact (E2.add_zero _).symm
  | succ n ih =>
    have e : ∀ h : Nat → E2, tabE (n + 1) h = h 0 :: tabE n (fun i => h (i + 1)) := fun h => by simp [tabE, List.range_succ_eq_map, Function.comp_def]
    rw [e, e f, e g, evE_cons, evE_cons, evE_cons, ih (f := fun i => f (i + 1)) (g := fun i => g (i + 1)), E2.r4]
theorem evE_tab_sub {f g : Nat → E2} (n : Nat) (x : E2) : evE (tabE n fun i => f i - g i) x = evE (tabE n f) x - evE (tabE n g) x := by
  induction n generalizing f g with
  | zero => exact (E2.sub_self _).symm
  | succ n ih =>
    have e : ∀ h : Nat → E2, tabE (n + 1) h = h 0 :: tabE n (fun i => h (i + 1)) := fun h => by simp [tabE, List.range_succ_eq_map, Function.comp_def]
    rw [e, e f, e g, evE_cons, evE_cons, evE_cons, ih (f := fun i => f (i + 1)) (g := fun i => g (i + 1)), E2.r5]
theorem evE_tab_cf {n : Nat} {xs : List E2} (h : xs.length ≤ n) (x : E2) : evE (tabE n (cfE xs)) x = evE xs x := evE_congr (fun i => by
  rw [cfE_tabE]
  by_cases hi : i < n
  · rw [if_pos hi]
  · rw [if_neg hi, cfE_ge (by omega)]) x
theorem evE_addE (xs ys : List E2) (x : E2) : evE (addE xs ys) x = evE xs x + evE ys x := by
  unfold addE
  rw [evE_trimE, evE_tab_add, evE_tab_cf (by omega), evE_tab_cf (by omega)]
theorem evE_subE (xs ys : List E2) (x : E2) : evE (subE xs ys) x = evE xs x - evE ys x := by
  unfold subE
  rw [evE_trimE, evE_tab_sub, evE_tab_cf (by omega), evE_tab_cf (by omega)]
theorem evE_map (xs : List E2) (c x : E2) : evE (xs.map fun z => c * z) x = c * evE xs x := by
  induction xs with
  | nil => exact (E2.mul_zero c).symm
  | cons a l ih => rw [List.map_cons, evE_cons, evE_cons, ih, E2.r6]
theorem evE_scaleE (xs : List E2) (c x : E2) : evE (scaleE xs c) x = c * evE xs x := by
  unfold scaleE
  rw [evE_trimE, evE_map]
theorem addAt_cons_zero (a : E2) (l : List E2) (z : E2) : addAt (a :: l) 0 z = (a + z) :: l := rfl
theorem addAt_cons_succ (a : E2) (l : List E2) (k : Nat) (z : E2) : addAt (a :: l) (k + 1) z = a :: addAt l k z := rfl
theorem evE_addAt {r : List E2} {k : Nat} (z : E2) (h : k < r.length) (x : E2) : evE (addAt r k z) x = evE r x + z * E2.pow x k := by
  induction r generalizing k with
  | nil => simp at h
  | cons a l ih =>
    cases k with
    | zero => rw [addAt_cons_zero, evE_cons, evE_cons, E2.pow_zero, E2.mul_one, E2.r1]
    | succ k => rw [addAt_cons_succ, evE_cons, evE_cons, ih (by simpa using h), E2.pow_succ, E2.r2, E2.mul_comm (E2.pow x k) x, E2.r3]
theorem evE_snoc (xs : List E2) (a x : E2) : evE (xs ++ [a]) x = evE xs x + a * E2.pow x xs.length := by
  induction xs with
  | nil => rw [List.nil_append, evE_cons, evE_nil, E2.mul_zero, E2.add_zero, List.length_nil, E2.pow_zero, E2.mul_one, E2.zero_add]
  | cons b l ih => rw [List.cons_append, evE_cons, evE_cons, ih, List.length_cons, E2.pow_succ, E2.r2, E2.mul_comm (E2.pow x l.length) x, E2.r3]
theorem evE_take_succ {ys : List E2} {j : Nat} (h : j < ys.length) (x : E2) : evE (ys.take (j + 1)) x = evE (ys.take j) x + cfE ys j * E2.pow x j := by
  rw [List.take_succ_eq_append_getElem h, evE_snoc, cfE_lt h, List.length_take, Nat.min_eq_left (Nat.le_of_lt h)]
theorem evE_rowMul (a : E2) (ys : List E2) (i : Nat) (x : E2) : ∀ (j : Nat) {r : List E2}, j ≤ ys.length → i + j ≤ r.length → evE (rowMul a ys i j r) x = evE r x + a * E2.pow x i * evE (ys.take j) x
  | 0, r, _, _ => by rw [rowMul, List.take_zero, evE_nil, E2.mul_zero, E2.add_zero]
  | j + 1, r, hj, hr => by
    rw [rowMul, evE_addAt _ (by rw [rowMul_length]; omega), evE_rowMul a ys i x j (by omega) (by omega), evE_take_succ (by omega), E2.pow_add, E2.mul_add, ← E2.add_assoc]
    congr 1
    rw [E2.mul_assoc, E2.mul_assoc, E2.r3 (cfE ys j)]
theorem evE_allMul (xs ys : List E2) (x : E2) : ∀ (i : Nat) {r : List E2}, i ≤ xs.length → xs.length + ys.length ≤ r.length → evE (allMul xs ys i r) x = evE r x + evE (xs.take i) x * evE ys x
  | 0, r, _, _ => by rw [allMul, List.take_zero, evE_nil, E2.zero_mul, E2.add_zero]
  | i + 1, r, hi, hr => by
    rw [allMul, evE_rowMul _ _ _ _ _ (Nat.le_refl _) (by rw [allMul_length]; omega), evE_allMul xs ys x i (by omega) hr, List.take_length, evE_take_succ (by omega), E2.add_mul, ← E2.add_assoc]
theorem evE_replicate (n : Nat) (x : E2) : evE (List.replicate n E2.zero) x = E2.zero := evE_zeros (fun i => by
  unfold cfE
  rw [List.getElem?_replicate]
  by_cases h : i < n
  · rw [if_pos h]; rfl
  · rw [if_neg h]; rfl) x
theorem evE_mulE (xs ys : List E2) (x : E2) : evE (mulE xs ys) x = evE xs x * evE ys x := by
  unfold mulE
  rw [evE_trimE, evE_allMul _ _ _ _ (Nat.le_refl _) (by simp), List.take_length, evE_replicate, E2.zero_add]
theorem addE_length (xs ys : List E2) : (addE xs ys).length ≤ max xs.length ys.length := by
  unfold addE
  have := trimE_length (tabE (max xs.length ys.length) fun i => cfE xs i + cfE ys i)
  rw [tabE_length] at this
  exact this
theorem subE_length (xs ys : List E2) : (subE xs ys).length ≤ max xs.length ys.length := by
  unfold subE
  have := trimE_length (tabE (max xs.length ys.length) fun i => cfE xs i - cfE ys i)
  rw [tabE_length] at this
  exact this
theorem scaleE_length (xs : List E2) (c : E2) : (scaleE xs c).length ≤ xs.length := by
  unfold scaleE
  have := trimE_length (xs.map fun x => c * x)
  simpa using this

theorem quo_value : ∀ (xs : List E2) (y z : E2), evE xs z = evE (tabE xs.length fun i => evFrom xs y (i + 1)) z * (z - y) + evE xs y
  | [], y, z => by rw [evE_nil, evE_nil, show tabE ([] : List E2).length (fun i => evFrom [] y (i + 1)) = [] from rfl, evE_nil, E2.zero_mul, E2.zero_add]
  | a :: l, y, z => by
    have ih := quo_value l y z
    have e : tabE (a :: l).length (fun i => evFrom (a :: l) y (i + 1)) = evE l y :: tabE l.length (fun i => evFrom l y (i + 1)) := by
      simp [tabE, List.range_succ_eq_map, Function.comp_def, evFrom]
    rw [e, evE_cons, evE_cons, evE_cons]
    generalize evE (tabE l.length fun i => evFrom l y (i + 1)) z = q at ih
    generalize evE l z = u at ih
    generalize evE l y = v at ih
    subst ih
    exact E2.ext' (by simp only [E2.add_A, E2.mul_A, E2.sub_A, E2.add_B, E2.mul_B, E2.sub_B]; grind) (by simp only [E2.add_A, E2.mul_A, E2.sub_A, E2.add_B, E2.mul_B, E2.sub_B]; grind)
theorem evE_quoE (xs : List E2) (y z : E2) : evE xs z = evE (quoE xs y) z * (z - y) + evE xs y := by
  unfold quoE
  rw [evE_trimE]
  exact quo_value xs y z
theorem quoE_length (xs : List E2) (y : E2) : (quoE xs y).length ≤ xs.length - 1 := by
  cases h : xs.length with
  | zero =>
    obtain rfl : xs = [] := List.eq_nil_of_length_eq_zero h
    exact Nat.le_refl _
  | succ n =>
    rw [← quoE_short y h]
    have := trimE_length (tabE n fun i => evFrom xs y (i + 1))
    rw [tabE_length] at this
    omega
theorem E2_sub_ne {x y : E2} (h : x ≠ y) : x - y ≠ E2.zero := fun e => h (E2.sub_eq_zero e)
/-- as many different roots as coefficients: all values are zero -/
theorem roots_all : ∀ (n : Nat) (xs : List E2) (rs : List E2), xs.length ≤ n → n ≤ rs.length → rs.Nodup → (∀ r, r ∈ rs → evE xs r = E2.zero) → ∀ z, evE xs z = E2.zero
  | 0, xs, _, hl, _, _, _, z => by rw [List.eq_nil_of_length_eq_zero (Nat.le_zero.1 hl)]; rfl
  | n + 1, xs, [], _, hr, _, _, _ => by simp at hr
  | n + 1, xs, r :: rs, hl, hr, hd, h0, z => by
    rw [List.nodup_cons] at hd
    have hq : ∀ z, evE xs z = evE (quoE xs r) z * (z - r) := fun z => by rw [evE_quoE xs r z, h0 r (by simp), E2.add_zero]
    have ih := roots_all n (quoE xs r) rs (by have := quoE_length xs r; omega) (by simpa using hr) hd.2 fun s hs => by
      have h1 := h0 s (List.mem_cons_of_mem _ hs)
      rw [hq] at h1
      rcases E2.zero_divisor h1 with h2 | h2
      · exact h2
      · exact absurd h2 (E2_sub_ne (fun e => hd.1 (e ▸ hs)))
    rw [hq, ih z, E2.zero_mul]

/-- the element of an integer -/
def ndZ (i : Int) : E2 := E2.ofF (toF i)
def nd (i : Nat) : E2 := ndZ (i : Int)
theorem ndZ_add (a b : Int) : ndZ a + ndZ b = ndZ (a + b) := by
  refine E2.ext' ?_ ?_
  · show toF a + toF b = toF (a + b)
    apply vF_inj
    rw [← vF_add, vF_toF, vF_toF, vF_toF]
    unfold fadd fred
    omega
  · show (0 : F) + 0 = 0
    rfl
theorem ndZ_sub (a b : Int) : ndZ a - ndZ b = ndZ (a - b) := by
  have h : ndZ (a - b) + ndZ b = ndZ a := by rw [ndZ_add]; congr 1; omega
  exact E2.add_right_cancel (z := ndZ b) (by rw [E2.sub_add_cancel, h])
theorem ndZ_zero : ndZ 0 = E2.zero := rfl
theorem ndZ_neg (a : Int) : ndZ (-a) = -ndZ a := by
  have h := ndZ_sub 0 a
  rw [ndZ_zero, E2.zero_sub] at h
  rw [h]
  congr 1
  omega
theorem nd_zero : nd 0 = E2.zero := rfl
theorem nd_inj {i j : Nat} (hi : i ≤ 65536) (hj : j ≤ 65536) (h : nd i = nd j) : i = j := by
  have h1 : toF (i : Int) = toF (j : Int) := congrArg E2.A h
  have h2 := congrArg vF h1
  rw [vF_toF, vF_toF] at h2
  unfold fred at h2
  omega
theorem nd_ne {i : Nat} (hi : i ≤ 65536) (h : 0 < i) : nd i ≠ E2.zero := fun e => by
  have := nd_inj hi (Nat.zero_le _) (e.trans nd_zero.symm)
  omega
theorem nd_nodup {n : Nat} (h : n ≤ 65536) : ((List.range n).map nd).Nodup := by
  unfold List.Nodup
  rw [List.pairwise_map]
  refine List.Pairwise.imp_of_mem ?_ (List.nodup_range (n := n))
  intro a b ha hb hne e
  rw [List.mem_range] at ha hb
  exact hne (nd_inj (by omega) (by omega) e)
/-- trimmed polynomials of bounded length are told by their values at the nodes -/
theorem zero_of_values {xs : List E2} {n : Nat} (hn : n ≤ 65536) (hl : xs.length ≤ n) (h : ∀ i, i < n → evE xs (nd i) = E2.zero) : ∀ z, evE xs z = E2.zero :=
  roots_all n xs ((List.range n).map nd) hl (by simp) (nd_nodup hn) fun r hr => by
    rw [List.mem_map] at hr
    obtain ⟨i, hi, rfl⟩ := hr
    exact h i (by simpa using hi)
theorem cf_zero_of_values {xs : List E2} (hn : xs.length ≤ 65536) (h : ∀ z, evE xs z = E2.zero) : ∀ i, cfE xs i = E2.zero := by
  induction xs with
  | nil => intro i; rfl
  | cons a l ih =>
    have ha : a = E2.zero := by
      have := h E2.zero
      rw [evE_cons, E2.zero_mul, E2.add_zero] at this
      exact this
    have hl : ∀ z, evE l z = E2.zero := by
      have hq : ∀ i, i < l.length → evE l (nd (i + 1)) = E2.zero := fun i hi => by
        have h1 := h (nd (i + 1))
        rw [evE_cons, ha, E2.zero_add] at h1
        rcases E2.zero_divisor h1 with h2 | h2
        · exact absurd h2 (nd_ne (by simp at hn; omega) (by omega))
        · exact h2
      refine roots_all l.length l ((List.range l.length).map fun i => nd (i + 1)) (Nat.le_refl _) (by simp) ?_ fun r hr => ?_
      · unfold List.Nodup
        rw [List.pairwise_map]
        refine List.Pairwise.imp_of_mem ?_ (List.nodup_range (n := l.length))
        intro a b ha hb hne e
        rw [List.mem_range] at ha hb
        simp at hn
        have := nd_inj (by omega) (by omega) e
        omega
      · rw [List.mem_map] at hr
        obtain ⟨i, hi, rfl⟩ := hr
        exact hq i (by simpa using hi)
    intro i
    cases i with
    | zero => exact ha
    | succ i => exact ih (by simp at hn; omega) hl i
theorem subE_zero_eq {xs ys : List E2} (hx : trimE xs = xs) (hy : trimE ys = ys) (h : ∀ i, cfE (subE xs ys) i = E2.zero) : xs = ys := trim_ext hx hy fun i => E2.sub_eq_zero (by rw [← cfE_subE]; exact h i)
/-- equal at so many nodes: equal -/
theorem poly_eq_nodes {xs ys : List E2} {n : Nat} (hn : n ≤ 65536) (hx : trimE xs = xs) (hy : trimE ys = ys) (hlx : xs.length ≤ n) (hly : ys.length ≤ n) (h : ∀ i, i < n → evE xs (nd i) = evE ys (nd i)) : xs = ys := by
  have hl : (subE xs ys).length ≤ n := Nat.le_trans (subE_length _ _) (by omega)
  refine subE_zero_eq hx hy (cf_zero_of_values (by omega) (zero_of_values hn hl fun i hi => ?_))
  rw [evE_subE, h i hi, E2.sub_self]
theorem cfE_addAt {r : List E2} {k : Nat} (z : E2) (h : k < r.length) (i : Nat) : cfE (addAt r k z) i = if i = k then cfE r i + z else cfE r i := by
  unfold addAt
  by_cases e : i = k
  · subst e
    rw [if_pos rfl]
    exact cfE_some (List.getElem?_set_self h)
  · rw [if_neg e]
    unfold cfE
    rw [List.getElem?_set_ne (fun k' => e k'.symm)]
theorem cfE_rowMul_far {a : E2} {ys : List E2} {i N : Nat} : ∀ (j : Nat) {r : List E2}, i + j ≤ r.length → i + j ≤ N → cfE (rowMul a ys i j r) N = cfE r N
  | 0, r, _, _ => rfl
  | j + 1, r, hr, hN => by rw [rowMul, cfE_addAt _ (by rw [rowMul_length]; omega), if_neg (by omega), cfE_rowMul_far j (by omega) (by omega)]
theorem cfE_allMul_far {xs ys : List E2} {N : Nat} : ∀ (i : Nat) {r : List E2}, i + ys.length ≤ r.length + 1 → i + ys.length ≤ N + 1 → cfE (allMul xs ys i r) N = cfE r N
  | 0, r, _, _ => rfl
  | i + 1, r, hr, hN => by rw [allMul, cfE_rowMul_far _ (by rw [allMul_length]; omega) (by omega), cfE_allMul_far i (by omega) (by omega)]
theorem cfE_replicate (n i : Nat) : cfE (List.replicate n E2.zero) i = E2.zero := by
  unfold cfE
  rw [List.getElem?_replicate]
  by_cases h : i < n
  · rw [if_pos h]; rfl
  · rw [if_neg h]; rfl
end Gold

namespace Gold
set_option linter.unusedVariables false
set_option linter.unusedSimpArgs false
set_option linter.unusedSectionVars false
set_option maxRecDepth 8000

theorem trimE_length_le {xs : List E2} {n : Nat} (h : ∀ i, n ≤ i → cfE xs i = E2.zero) : (trimE xs).length ≤ n := by
  have e : trimE xs = trimE (tabE n (cfE xs)) := trimE_eq fun i => by
    rw [cfE_tabE]
    by_cases hi : i < n
    · rw [if_pos hi]
    · rw [if_neg hi, h i (by omega)]
  have := trimE_length (tabE n (cfE xs))
  rw [← e, tabE_length] at this
  exact this
theorem mulE_length' {xs ys : List E2} : (mulE xs ys).length ≤ xs.length + ys.length - 1 := by
  unfold mulE
  refine trimE_length_le fun i hi => ?_
  rw [cfE_allMul_far _ (by rw [List.length_replicate]; omega) (by omega), cfE_replicate]

def facE : Nat → E2
  | 0 => E2.one
  | k + 1 => facE k * nd (k + 1)
theorem E2_mul_ne {x y : E2} (hx : x ≠ E2.zero) (hy : y ≠ E2.zero) : x * y ≠ E2.zero := fun e => (E2.zero_divisor e).elim hx hy
theorem facE_ne : ∀ {k : Nat}, k ≤ 65536 → facE k ≠ E2.zero
  | 0, _ => E2.one_ne_zero
  | k + 1, h => E2_mul_ne (facE_ne (by omega)) (nd_ne h (by omega))
def sgE (d : Nat) (z : E2) : E2 := if d % 2 = 1 then -z else z
theorem sgE_even {d : Nat} {z : E2} (h : ¬ d % 2 = 1) : sgE d z = z := if_neg h
theorem mul_neg' (x y : E2) : x * -y = -(x * y) := by rw [E2.mul_comm, E2.neg_mul, E2.mul_comm]
theorem sgE_succ (d : Nat) (z : E2) : sgE (d + 1) z = -sgE d z := by
  unfold sgE
  by_cases h : d % 2 = 1
  · rw [if_neg (by omega), if_pos h, E2.neg_neg]
  · rw [if_pos (by omega), if_neg h]
theorem sgE_mul (d : Nat) (x y : E2) : sgE d x * sgE d y = x * y := by
  unfold sgE
  by_cases h : d % 2 = 1
  · rw [if_pos h, if_pos h, E2.neg_mul, mul_neg', E2.neg_neg]
  · rw [if_neg h, if_neg h]
def wtE (v : List E2) (n i : Nat) : E2 := sgE (n - 1 - i) (cfE v i * (E2.inv (facE i) * E2.inv (facE (n - 1 - i))))
def wtsE (v : List E2) : List E2 := tabE v.length (wtE v v.length)

def prodAt (f : Nat) : Nat → E2 → E2
  | 0, _ => E2.one
  | n + 1, x => prodAt f n x * (x - nd (f + n))
def lagAt (c : List E2) (f : Nat) : Nat → E2 → E2
  | 0, _ => E2.zero
  | n + 1, x => lagAt c f n x * (x - nd (f + n)) + prodAt f n x * cfE c n
theorem nd_sub {k m : Nat} (h : m ≤ k) : nd k - nd m = nd (k - m) := by
  unfold nd
  rw [ndZ_sub]
  congr 1
  omega
theorem prod_node {k : Nat} : ∀ {m : Nat}, m ≤ k → prodAt 0 m (nd k) * facE (k - m) = facE k
  | 0, _ => by rw [prodAt, E2.one_mul, Nat.sub_zero]
  | m + 1, h => by
    have ih := prod_node (k := k) (m := m) (by omega)
    rw [prodAt, Nat.zero_add, nd_sub (by omega), E2.mul_assoc, E2.mul_comm (nd (k - m))]
    obtain ⟨d, hd⟩ : ∃ d, k - m = d + 1 := ⟨k - m - 1, by omega⟩
    rw [show k - (m + 1) = d by omega, hd]
    rw [hd] at ih
    exact ih
theorem prod_self (k : Nat) : prodAt 0 k (nd k) = facE k := by
  have h := prod_node (Nat.le_refl k)
  rw [Nat.sub_self, show facE 0 = E2.one from rfl, E2.mul_one] at h
  exact h
theorem prod_past {k : Nat} : ∀ (d : Nat), prodAt 0 (k + 1 + d) (nd k) = E2.zero
  | 0 => by rw [Nat.add_zero, prodAt, Nat.zero_add, E2.sub_self, E2.mul_zero]
  | d + 1 => by rw [← Nat.add_assoc, prodAt, prod_past d, E2.zero_mul]
theorem lag_past (c : List E2) (k : Nat) : ∀ (d : Nat), lagAt c 0 (k + 1 + d) (nd k) = facE k * cfE c k * sgE d (facE d)
  | 0 => by rw [Nat.add_zero, lagAt, Nat.zero_add, E2.sub_self, E2.mul_zero, E2.zero_add, prod_self, sgE_even (by omega), show facE 0 = E2.one from rfl, E2.mul_one]
  | d + 1 => by
    rw [← Nat.add_assoc, lagAt, prod_past d, E2.zero_mul, E2.add_zero, lag_past c k d, Nat.zero_add]
    have e : nd k - nd (k + 1 + d) = -nd (d + 1) := by
      unfold nd
      rw [ndZ_sub, ← ndZ_neg]
      congr 1
      omega
    rw [e, sgE_succ, show facE (d + 1) = facE d * nd (d + 1) from rfl, E2.mul_assoc]
    congr 1
    unfold sgE
    by_cases h : d % 2 = 1
    · rw [if_pos h, if_pos h, mul_neg', E2.neg_mul]
    · rw [if_neg h, if_neg h, mul_neg']
theorem wts_node {v : List E2} {k : Nat} (hk : k < v.length) (hn : v.length ≤ 65536) : lagAt (wtsE v) 0 v.length (nd k) = cfE v k := by
  obtain ⟨d, hd⟩ : ∃ d, v.length = k + 1 + d := ⟨v.length - k - 1, by omega⟩
  have hc : cfE (wtsE v) k = wtE v v.length k := by
    unfold wtsE
    rw [cfE_tabE, if_pos hk]
  rw [hd, lag_past, hc]
  unfold wtE
  rw [show v.length - 1 - k = d by omega, E2.mul_assoc, sgE_mul]
  have h1 := E2.mul_inv (facE_ne (k := k) (by omega))
  have h2 := E2.mul_inv (facE_ne (k := d) (by omega))
  generalize cfE v k = u
  generalize E2.inv (facE k) = p at h1 ⊢
  generalize E2.inv (facE d) = q at h2 ⊢
  generalize facE k = a at h1 ⊢
  generalize facE d = b at h2 ⊢
  have e : a * (u * (p * q) * b) = u * ((a * p) * (b * q)) := by simp only [E2.mul_comm, E2.mul_left_comm]
  rw [e, h1, h2, E2.mul_one, E2.mul_one]

def prodP (f : Nat) : Nat → List E2
  | 0 => [E2.one]
  | n + 1 => mulE (prodP f n) [-nd (f + n), E2.one]
def lagP (c : List E2) (f : Nat) : Nat → List E2
  | 0 => []
  | n + 1 => addE (mulE (lagP c f n) [-nd (f + n), E2.one]) (scaleE (prodP f n) (cfE c n))
theorem evE_one (x : E2) : evE [E2.one] x = E2.one := by rw [evE_cons, evE_nil, E2.mul_zero, E2.add_zero]
theorem evE_linear (a x : E2) : evE [-a, E2.one] x = x - a := by rw [evE_cons, evE_one, E2.mul_one, E2.add_comm, ← E2.sub_eq]
theorem evE_prodP (f : Nat) (x : E2) : ∀ n, evE (prodP f n) x = prodAt f n x
  | 0 => evE_one x
  | n + 1 => by rw [prodP, evE_mulE, evE_prodP f x n, evE_linear, prodAt]
theorem evE_lagP (c : List E2) (f : Nat) (x : E2) : ∀ n, evE (lagP c f n) x = lagAt c f n x
  | 0 => rfl
  | n + 1 => by rw [lagP, evE_addE, evE_mulE, evE_scaleE, evE_lagP c f x n, evE_prodP, evE_linear, lagAt, E2.mul_comm (cfE c n)]
theorem prodP_length (f : Nat) : ∀ n, (prodP f n).length ≤ n + 1
  | 0 => Nat.le_refl _
  | n + 1 => by
    have h1 := prodP_length f n
    have h2 := mulE_length' (xs := prodP f n) (ys := [-nd (f + n), E2.one])
    rw [prodP]
    simp at h2
    omega
theorem lagP_length (c : List E2) (f : Nat) : ∀ n, (lagP c f n).length ≤ n
  | 0 => Nat.le_refl _
  | n + 1 => by
    have h1 := lagP_length c f n
    have h2 := mulE_length' (xs := lagP c f n) (ys := [-nd (f + n), E2.one])
    have h3 := prodP_length f n
    have h4 := scaleE_length (prodP f n) (cfE c n)
    have h5 := addE_length (mulE (lagP c f n) [-nd (f + n), E2.one]) (scaleE (prodP f n) (cfE c n))
    rw [lagP]
    simp at h2
    omega
theorem lagP_trim (c : List E2) (f : Nat) : ∀ n, trimE (lagP c f n) = lagP c f n
  | 0 => rfl
  | _ + 1 => addE_trim _ _

structure IsInterp (v S : List E2) : Prop where
  trim : trimE S = S
  short : S.length ≤ v.length
  value : ∀ k, k < v.length → evE S (nd k) = cfE v k
theorem IsInterp.unique {v S T : List E2} (hn : v.length ≤ 65536) (hS : IsInterp v S) (hT : IsInterp v T) : S = T :=
  poly_eq_nodes hn hS.trim hT.trim hS.short hT.short fun i hi => (hS.value i hi).trans (hT.value i hi).symm
def interpE (v : List E2) : List E2 := lagP (wtsE v) 0 v.length
theorem interp_is {v : List E2} (hn : v.length ≤ 65536) : IsInterp v (interpE v) :=
  ⟨lagP_trim _ _ _, lagP_length _ _ _, fun _ hk => (evE_lagP _ _ _ _).trans (wts_node hk hn)⟩
theorem IsInterp.eq {v S : List E2} (hn : v.length ≤ 65536) (h : IsInterp v S) : S = interpE v := h.unique hn (interp_is hn)
end Gold

namespace Gold
set_option linter.unusedVariables false
set_option linter.unusedSimpArgs false
set_option linter.unusedSectionVars false
set_option maxRecDepth 8000
open E2
attribute [local simp] add_A add_B sub_A sub_B neg_A neg_B mul_A mul_B zero_A zero_B one_A one_B

namespace E2
set_option linter.unusedVariables false
set_option linter.unusedSimpArgs false
set_option linter.unusedSectionVars false
theorem m1 (r x : E2) : x + r * (x - x) = x := ext' (by simp; grind) (by simp; grind)
theorem m2 (x y : E2) : x + zero * (y - x) = x := ext' (by simp; try grind) (by simp; try grind)
theorem m3 (x y : E2) : x + one * (y - x) = y := ext' (by simp; try grind) (by simp; try grind)
end E2

end Gold

namespace Go.Proofs.Ytkefijogpiofbaa.J
set_option linter.unusedVariables false
set_option linter.unusedSimpArgs false
set_option linter.unusedSectionVars false
set_option maxRecDepth 8000
open Go.RowKit Gold

theorem ret_int {k : IntKind} {a b : Int} (h : a = b) : Ending.returned (.int k a) = .returned (.int k b) := by rw [h]
theorem wrap_range (a : Int) : U64 (IntKind.u64.wrap a) := by unfold U64; rw [IntKind.wrap_u64]; omega

set_option maxHeartbeats 400000 in
theorem reduce_any (a : Int) (w : World) (ha : U64 a)  :
    Calls Try.prog 98 #[.int .u64 a] w fun e w' => e = .returned (.int .u64 (fred a)) ∧ w' = w := by
  unfold U64 at ha
  go_enter Try.func98, Try.ntmps98
  go_wp2
  all_goals 
    go_ret
    refine ⟨ret_int ?_, rfl⟩
    unfold fred
    omega

set_option maxHeartbeats 400000 in
theorem rreduce_any (a : Int) (w : World) (ha : U64 a)  :
    Calls Try.prog 37 #[.int .u64 a] w fun e w' => e = .returned (.int .u64 (fred a)) ∧ w' = w := by
  unfold U64 at ha
  go_enter Try.func37, Try.ntmps37
  go_wp2
  all_goals 
    go_ret
    refine ⟨ret_int ?_, rfl⟩
    unfold fred
    omega

set_option maxHeartbeats 400000 in
theorem rfromInt_any (a : Int) (w : World) (ha0 : -9223372036854775808 ≤ a) (ha : a < 9223372036854775808)  :
    Calls Try.prog 53 #[.int .i64 a] w fun e w' => e = .returned (.int .u64 (fred a)) ∧ w' = w := by
  go_enter Try.func53, Try.ntmps53
  go_wp2
  all_goals 
    go_ret
    refine ⟨ret_int ?_, rfl⟩
    unfold fred
    try simp only [IntKind.wrap_u64] at *
    omega

set_option maxHeartbeats 400000 in
theorem add_any (a b : Int) (w : World) (ha : Gold.El a) (hb : Gold.El b) :
    Calls Try.prog 83 #[.int .u64 a, .int .u64 b] w fun e w' => e = .returned (.int .u64 (fadd a b)) ∧ w' = w := by
  unfold Gold.El at ha hb
  go_enter Try.func83, Try.ntmps83
  go_wp2
  all_goals 
    go_ret
    refine ⟨ret_int ?_, rfl⟩
    unfold fadd
    simp only [IntKind.wrap_u64] at *
    omega

set_option maxHeartbeats 400000 in
theorem radd_any (a b : Int) (w : World) (ha : Gold.El a) (hb : Gold.El b) :
    Calls Try.prog 32 #[.int .u64 a, .int .u64 b] w fun e w' => e = .returned (.int .u64 (fadd a b)) ∧ w' = w := by
  unfold Gold.El at ha hb
  go_enter Try.func32, Try.ntmps32
  go_wp2
  all_goals 
    go_ret
    refine ⟨ret_int ?_, rfl⟩
    unfold fadd
    try simp only [IntKind.wrap_u64] at *
    omega

set_option maxHeartbeats 400000 in
theorem sub_any (a b : Int) (w : World) (ha : Gold.El a) (hb : Gold.El b) :
    Calls Try.prog 92 #[.int .u64 a, .int .u64 b] w fun e w' => e = .returned (.int .u64 (fsub a b)) ∧ w' = w := by
  unfold Gold.El at ha hb
  go_enter Try.func92, Try.ntmps92
  go_wp2
  all_goals 
    go_ret
    refine ⟨ret_int ?_, rfl⟩
    unfold fsub
    try simp only [IntKind.wrap_u64] at *
    omega

set_option maxHeartbeats 400000 in
theorem neg_any (a : Int) (w : World) (ha : Gold.El a) :
    Calls Try.prog 90 #[.int .u64 a] w fun e w' => e = .returned (.int .u64 (fneg a)) ∧ w' = w := by
  go_enter Try.func90, Try.ntmps90
  go_wp2_with (go_at_call 92; refine (sub_any _ _ _ (by unfold Gold.El; omega) ha).mono ?_; rintro e w' ⟨rfl, rfl⟩)
  go_ret
  refine ⟨ret_int ?_, rfl⟩
  unfold fsub fneg
  omega

set_option maxHeartbeats 400000 in
theorem rneg_any (a : Int) (w : World) (ha : Gold.El a) :
    Calls Try.prog 30 #[.int .u64 a] w fun e w' => e = .returned (.int .u64 (fneg a)) ∧ w' = w := by
  unfold Gold.El at ha
  by_cases h : a = 0
  all_goals
    go_enter Try.func30, Try.ntmps30
    go_wp2
    go_ret
    refine ⟨ret_int ?_, rfl⟩
    unfold fneg
    omega

set_option maxHeartbeats 400000 in
theorem rsub_any (a b : Int) (w : World) (ha : Gold.El a) (hb : Gold.El b) :
    Calls Try.prog 72 #[.int .u64 a, .int .u64 b] w fun e w' => e = .returned (.int .u64 (fsub a b)) ∧ w' = w := by
  go_enter Try.func72, Try.ntmps72
  go_wp2_with (first
    | (go_at_call 30; refine (rneg_any _ _ hb).mono ?_; rintro e w' ⟨rfl, rfl⟩)
    | (go_at_call 32; refine (radd_any _ _ _ ha (El_fneg _)).mono ?_; rintro e w' ⟨rfl, rfl⟩))
  go_ret
  refine ⟨ret_int ?_, rfl⟩
  unfold fadd fneg fsub
  omega

theorem high_eq (a b : Int) (ha : U64 a) (hb : U64 b) :
    IntKind.u64.wrap (IntKind.u64.wrap (IntKind.u64.wrap (a / 4294967296 * (b / 4294967296)) + IntKind.u64.wrap (IntKind.u64.wrap (a / 4294967296 * (b % 4294967296)) + IntKind.u64.wrap (a % 4294967296 * (b % 4294967296)) / 4294967296) / 4294967296)
      + IntKind.u64.wrap (IntKind.u64.wrap (a % 4294967296 * (b / 4294967296)) + IntKind.u64.wrap (IntKind.u64.wrap (a / 4294967296 * (b % 4294967296)) + IntKind.u64.wrap (a % 4294967296 * (b % 4294967296)) / 4294967296) % 4294967296) / 4294967296)
    = a * b / 18446744073709551616 := by
  have h := high_parts a b ha hb _ _ _ _ rfl rfl rfl rfl
  generalize a / 4294967296 * (b / 4294967296) = x at *
  generalize a / 4294967296 * (b % 4294967296) = y at *
  generalize a % 4294967296 * (b / 4294967296) = z at *
  generalize a % 4294967296 * (b % 4294967296) = v at *
  generalize a * b = c at *
  simp only [IntKind.wrap_u64]
  omega

theorem wrap_low (x : Int) : bits .and .u64 (IntKind.u64.wrap x) 4294967295 = IntKind.u64.wrap x % 4294967296 := and_low32 _ (wrap_range x).1 (wrap_range x).2

set_option maxHeartbeats 400000 in
theorem high_any (a b : Int) (w : World) (ha : U64 a) (hb : U64 b) :
    Calls Try.prog 95 #[.int .u64 a, .int .u64 b] w fun e w' => e = .returned (.int .u64 (a * b / 18446744073709551616)) ∧ w' = w := by
  unfold U64 at ha hb
  go_enter Try.func95, Try.ntmps95
  go_wp2
  go_ret
  refine ⟨ret_int ?_, rfl⟩
  rw [← high_eq a b ha hb, and_low32 a ha.1 ha.2, and_low32 b hb.1 hb.2, wrap_low]

theorem wide_eq (a b d x : Int) (ha : U64 a) (hb : U64 b) (hd : (b < a / 4294967296 ∧ d = IntKind.u64.wrap (IntKind.u64.wrap (b - a / 4294967296) - 4294967295)) ∨ (a / 4294967296 ≤ b ∧ d = b - a / 4294967296))
    (hx : (IntKind.u64.wrap (d + IntKind.u64.wrap (bits .and .u64 a 4294967295 * 4294967295)) < d ∧ x = IntKind.u64.wrap (IntKind.u64.wrap (d + IntKind.u64.wrap (bits .and .u64 a 4294967295 * 4294967295)) + 4294967295)) ∨
      (d ≤ IntKind.u64.wrap (d + IntKind.u64.wrap (bits .and .u64 a 4294967295 * 4294967295)) ∧ x = IntKind.u64.wrap (d + IntKind.u64.wrap (bits .and .u64 a 4294967295 * 4294967295)))) :
    fred x = (a * 18446744073709551616 + b) % 18446744069414584321 := by
  rw [and_low32 a ha.1 ha.2] at hx
  unfold U64 at ha hb
  rw [wide_mod]
  have h0 : 0 ≤ a / 4294967296 ∧ a / 4294967296 ≤ 4294967295 := by omega
  have h1 : 0 ≤ a % 4294967296 * 4294967295 ∧ a % 4294967296 * 4294967295 ≤ 18446744065119617025 := by omega
  generalize a / 4294967296 = a1 at *
  generalize a % 4294967296 * 4294967295 = m at *
  have em : IntKind.u64.wrap m = m := by rw [IntKind.wrap_u64]; omega
  rw [em] at hx
  simp only [IntKind.wrap_u64] at hd hx
  have hd' : (d = b - a1 ∧ a1 ≤ b) ∨ (d = b - a1 + 18446744069414584321 ∧ b < a1) := by omega
  have hd0 : 0 ≤ d ∧ d < 18446744073709551616 := by omega
  clear hd
  have hx' : x = d + m ∨ x = d + m - 18446744069414584321 := by omega
  clear hx
  unfold fred
  omega

set_option maxHeartbeats 400000 in
theorem wide_any (a b : Int) (w : World) (ha : U64 a) (hb : U64 b) :
    Calls Try.prog 94 #[.int .u64 a, .int .u64 b] w fun e w' => e = .returned (.int .u64 ((a * 18446744073709551616 + b) % 18446744069414584321)) ∧ w' = w := by
  have ha' := ha
  have hb' := hb
  unfold U64 at ha hb
  go_enter Try.func94, Try.ntmps94
  go_wp2_with (go_at_call 98; refine (reduce_any _ _ (wrap_range _)).mono ?_; rintro e w' ⟨rfl, rfl⟩)
  · go_ret
    exact ⟨ret_int (wide_eq a b _ _ ha' hb' (Or.inl ⟨by assumption, rfl⟩) (Or.inl ⟨by assumption, rfl⟩)), rfl⟩
  · go_ret
    exact ⟨ret_int (wide_eq a b _ _ ha' hb' (Or.inl ⟨by assumption, rfl⟩) (Or.inr ⟨by assumption, rfl⟩)), rfl⟩
  · go_ret
    exact ⟨ret_int (wide_eq a b _ _ ha' hb' (Or.inr ⟨by assumption, rfl⟩) (Or.inl ⟨by assumption, rfl⟩)), rfl⟩
  · go_ret
    exact ⟨ret_int (wide_eq a b _ _ ha' hb' (Or.inr ⟨by assumption, rfl⟩) (Or.inr ⟨by assumption, rfl⟩)), rfl⟩

theorem mul_range (a b : Int) (ha : U64 a) (hb : U64 b) : U64 (a * b / 18446744073709551616) := by
  have h := high_parts a b ha hb _ _ _ _ rfl rfl rfl rfl
  generalize a / 4294967296 * (b / 4294967296) = x at *
  generalize a / 4294967296 * (b % 4294967296) = y at *
  generalize a % 4294967296 * (b / 4294967296) = z at *
  generalize a % 4294967296 * (b % 4294967296) = v at *
  generalize a * b = c at *
  unfold U64
  omega

set_option maxHeartbeats 400000 in
theorem mul_any (a b : Int) (w : World) (ha : U64 a) (hb : U64 b) :
    Calls Try.prog 86 #[.int .u64 a, .int .u64 b] w fun e w' => e = .returned (.int .u64 (fmul a b)) ∧ w' = w := by
  go_enter Try.func86, Try.ntmps86
  go_wp2_with (first
    | (go_at_call 95; refine (high_any _ _ _ ha hb).mono ?_; rintro e w' ⟨rfl, rfl⟩)
    | (go_at_call 94; refine (wide_any _ _ _ (mul_range a b ha hb) (wrap_range _)).mono ?_; rintro e w' ⟨rfl, rfl⟩))
  go_ret
  refine ⟨ret_int ?_, rfl⟩
  rw [IntKind.wrap_u64]
  unfold fmul
  congr 1
  omega

theorem mod_mod_add (a b : Int) : (a % 18446744069414584321 + b % 18446744069414584321) % 18446744069414584321 = (a + b) % 18446744069414584321 := by
  omega

theorem shift_eq (a : Int) : fadd (fred (a % 4294967296 * 4294967296)) (fred (a / 4294967296 * 4294967295)) = fmul a 4294967296 := by
  unfold fadd fmul fred
  rw [mod_mod_add]
  have e : a * 4294967296 = (a % 4294967296 * 4294967296 + a / 4294967296 * 4294967295) + a / 4294967296 * 18446744069414584321 := by omega
  rw [e, Int.add_mul_emod_self_right]

set_option maxHeartbeats 400000 in
theorem shift_any (a : Int) (w : World) (ha : Gold.El a) :
    Calls Try.prog 64 #[.int .u64 a] w fun e w' => e = .returned (.int .u64 (fmul a 4294967296)) ∧ w' = w := by
  unfold Gold.El at ha
  go_enter Try.func64, Try.ntmps64
  go_wp2_with (first
    | (go_at_call 37; refine (rreduce_any _ _ (by unfold U64; omega)).mono ?_; rintro e w' ⟨rfl, rfl⟩)
    | (go_at_call 32; refine (radd_any _ _ _ (El_fred _) (El_fred _)).mono ?_; rintro e w' ⟨rfl, rfl⟩))
  go_ret
  exact ⟨ret_int (shift_eq a), rfl⟩

theorem half_eq (a b : Int) (ha : Gold.El a) (hb : 0 ≤ b ∧ b < 4294967296) :
    fadd (fred (IntKind.u64.wrap (a % 4294967296 * b))) (fmul (fred (IntKind.u64.wrap (a / 4294967296 * b))) 4294967296) = fmul a b := by
  unfold Gold.El at ha
  have bound : ∀ p : Int, 0 ≤ p → p ≤ 4294967295 → 0 ≤ p * b ∧ p * b ≤ 18446744065119617025 := by
    intro p hp0 hp
    refine ⟨Int.mul_nonneg hp0 hb.1, ?_⟩
    have := Int.mul_le_mul hp (show b ≤ 4294967295 by omega) hb.1 (by decide : (0 : Int) ≤ 4294967295)
    exact Int.le_trans this (by decide)
  have h0 := bound (a / 4294967296) (by omega) (by omega)
  have h1 := bound (a % 4294967296) (by omega) (by omega)
  have e : a * b = a % 4294967296 * b + a / 4294967296 * b * 4294967296 := by
    have : a = a % 4294967296 + 4294967296 * (a / 4294967296) := by omega
    conv => lhs; rw [this, Int.add_mul, Int.mul_assoc, Int.mul_comm 4294967296]
  unfold fmul
  rw [e]
  generalize a / 4294967296 * b = x at *
  generalize a % 4294967296 * b = y at *
  have ex : IntKind.u64.wrap x = x := by rw [IntKind.wrap_u64]; omega
  have ey : IntKind.u64.wrap y = y := by rw [IntKind.wrap_u64]; omega
  rw [ex, ey]
  unfold fadd fred
  omega

set_option maxHeartbeats 400000 in
theorem half_any (a b : Int) (w : World) (ha : Gold.El a) (hb : 0 ≤ b ∧ b < 4294967296) :
    Calls Try.prog 63 #[.int .u64 a, .int .u64 b] w fun e w' => e = .returned (.int .u64 (fmul a b)) ∧ w' = w := by
  have ha' := ha
  have hb' := hb
  unfold Gold.El at ha
  go_enter Try.func63, Try.ntmps63
  go_wp2_with (first
    | (go_at_call 37; refine (rreduce_any _ _ (wrap_range _)).mono ?_; rintro e w' ⟨rfl, rfl⟩)
    | (go_at_call 64; refine (shift_any _ _ (El_fred _)).mono ?_; rintro e w' ⟨rfl, rfl⟩)
    | (go_at_call 32; refine (radd_any _ _ _ (El_fred _) (El_fmul _ _)).mono ?_; rintro e w' ⟨rfl, rfl⟩))
  go_ret
  exact ⟨ret_int (half_eq a b ha' hb'), rfl⟩

theorem rmul_eq (a b : Int) : fadd (fmul a (b % 4294967296)) (fmul (fmul a (b / 4294967296)) 4294967296) = fmul a b := by
  have e : a * b = a * (b % 4294967296) + a * (b / 4294967296) * 4294967296 := by
    rw [Int.mul_assoc, ← Int.mul_add]
    congr 1
    omega
  unfold fadd fmul
  rw [e]
  generalize a * (b / 4294967296) = x
  generalize a * (b % 4294967296) = y
  omega

set_option maxHeartbeats 400000 in
theorem rmul_any (a b : Int) (w : World) (ha : Gold.El a) (hb : Gold.El b) :
    Calls Try.prog 42 #[.int .u64 a, .int .u64 b] w fun e w' => e = .returned (.int .u64 (fmul a b)) ∧ w' = w := by
  have ha' := ha
  unfold Gold.El at ha hb
  go_enter Try.func42, Try.ntmps42
  go_wp2_with (first
    | (go_at_call 63; refine (half_any _ _ _ ha' (by omega)).mono ?_; rintro e w' ⟨rfl, rfl⟩)
    | (go_at_call 64; refine (shift_any _ _ (El_fmul _ _)).mono ?_; rintro e w' ⟨rfl, rfl⟩)
    | (go_at_call 32; refine (radd_any _ _ _ (El_fmul _ _) (El_fmul _ _)).mono ?_; rintro e w' ⟨rfl, rfl⟩))
  go_ret
  exact ⟨ret_int (rmul_eq a b), rfl⟩

end Go.Proofs.Ytkefijogpiofbaa.J

namespace Go.Proofs.Ytkefijogpiofbaa.J
set_option linter.unusedVariables false
set_option linter.unusedSimpArgs false
set_option linter.unusedSectionVars false
set_option maxRecDepth 8000
open Go.RowKit Gold

set_option maxHeartbeats 400000 in
theorem rpow_nat (a : Int) (N : Nat) (w : World) (ha : El a) (hn : N < 18446744073709551616) :
    Calls Try.prog 58 #[.int .u64 a, .int .u64 N] w fun e w' => e = .returned (.int .u64 (fpow a N)) ∧ w' = w := by
  go_enter Try.func58, Try.ntmps58
  go_wp2
  go_loop [0, 1, 5] (fun s0 s1 s5 => ∃ (b r : Int) (k : Nat), El b ∧ El r ∧ k < 18446744073709551616 ∧ Hid (Pw b k r = fpow a N) ∧ s0 = .int .u64 b ∧ s1 = .int .u64 k ∧ s5 = .int .u64 r) (fun _ s1 _ => (intOf s1).toNat)
  case atStart => exact ⟨a, 1, N, ha, El_one, hn, Lib.hid (Pw_one a N), rfl, rfl, rfl⟩
  case round =>
    obtain ⟨b, r, k, hb, hr, hk, hp, rfl, rfl, rfl⟩ := hrel
    by_cases h0 : k = 0
    · subst h0
      go_wp2
      go_ret
      exact ⟨ret_int (by rw [← hp.out, Pw_zero _ _ hr]), rfl⟩
    · have hpos : 0 < (k : Int) := by omega
      by_cases h1 : k % 2 = 1
      · have e1 : ((k : Int) % 2 == 1) = true := by simp; omega
        have H0 := Lib.hid h0
        have H1 := Lib.hid h1
        clear h0 h1
        go_wp2_with (go_at_call 42; refine (rmul_any _ _ _ (by assumption) (by assumption)).mono ?_; rintro e w' ⟨rfl, rfl⟩)
        go_round
        case rel => exact ⟨fmul b b, fmul r b, k / 2, El_fmul _ _, El_fmul _ _, by omega, Lib.hid ((Pw_odd b r k H1.out).trans hp.out), rfl, by go_num, rfl⟩
        case measure => have := H0.out; simp [intOf]; omega
      · have e1 : ((k : Int) % 2 == 1) = false := by simp; omega
        have H0 := Lib.hid h0
        have H1 := Lib.hid h1
        clear h0 h1
        go_wp2_with (go_at_call 42; refine (rmul_any _ _ _ hb hb).mono ?_; rintro e w' ⟨rfl, rfl⟩)
        go_round
        case rel => exact ⟨fmul b b, r, k / 2, El_fmul _ _, hr, by omega, Lib.hid ((Pw_even b r k (by have := H1.out; omega)).trans hp.out), rfl, by go_num, rfl⟩
        case measure => have := H0.out; simp [intOf]; omega

set_option maxHeartbeats 400000 in
theorem power_nat (a : Int) (N : Nat) (w : World) (ha : El a) (hn : N < 18446744073709551616) :
    Calls Try.prog 85 #[.int .u64 a, .int .u64 N, .int .u64 1, .func (Fn.func 86) #[] #[]] w fun e w' => e = .returned (.int .u64 (fpow a N)) ∧ w' = w := by
  go_enter Try.func85, Try.ntmps85
  go_wp2
  go_loop [0, 1, 9] (fun s0 s1 s5 => ∃ (b r : Int) (k : Nat), El b ∧ El r ∧ k < 18446744073709551616 ∧ Hid (Pw b k r = fpow a N) ∧ s0 = .int .u64 b ∧ s1 = .int .u64 k ∧ s5 = .int .u64 r) (fun _ s1 _ => (intOf s1).toNat)
  case atStart => exact ⟨a, 1, N, ha, El_one, hn, Lib.hid (Pw_one a N), rfl, rfl, rfl⟩
  case round =>
    obtain ⟨b, r, k, hb, hr, hk, hp, rfl, rfl, rfl⟩ := hrel
    have eb := and_one_u64 (k : Int) (by omega) (by omega)
    by_cases h0 : k = 0
    · subst h0
      go_wp2
      go_ret
      exact ⟨ret_int (by rw [← hp.out, Pw_zero _ _ hr]), rfl⟩
    · have hpos : 0 < (k : Int) := by omega
      by_cases h1 : k % 2 = 1
      · have e1 : ((k : Int) % 2 == 1) = true := by simp; omega
        have H0 := Lib.hid h0
        have H1 := Lib.hid h1
        clear h0 h1
        go_wp2_with (go_at_call 86; refine (mul_any _ _ _ (El.u64 (by assumption)) (El.u64 (by assumption))).mono ?_; rintro e w' ⟨rfl, rfl⟩)
        go_round
        case rel => exact ⟨fmul b b, fmul r b, k / 2, El_fmul _ _, El_fmul _ _, by omega, Lib.hid ((Pw_odd b r k H1.out).trans hp.out), rfl, by go_num, rfl⟩
        case measure => have := H0.out; simp [intOf]; omega
      · have e1 : ((k : Int) % 2 == 1) = false := by simp; omega
        have H0 := Lib.hid h0
        have H1 := Lib.hid h1
        clear h0 h1
        go_wp2_with (go_at_call 86; refine (mul_any _ _ _ hb.u64 hb.u64).mono ?_; rintro e w' ⟨rfl, rfl⟩)
        go_round
        case rel => exact ⟨fmul b b, r, k / 2, El_fmul _ _, hr, by omega, Lib.hid ((Pw_even b r k (by have := H1.out; omega)).trans hp.out), rfl, by go_num, rfl⟩
        case measure => have := H0.out; simp [intOf]; omega

set_option maxHeartbeats 400000 in
theorem pow_nat (a : Int) (N : Nat) (w : World) (ha : El a) (hn : N < 18446744073709551616) :
    Calls Try.prog 68 #[.int .u64 a, .int .u64 N] w fun e w' => e = .returned (.int .u64 (fpow a N)) ∧ w' = w := by
  go_enter Try.func68, Try.ntmps68
  go_wp2_with (go_at_call 85; refine (power_nat _ _ _ ha hn).mono ?_; rintro e w' ⟨rfl, rfl⟩)
  go_ret
  exact ⟨rfl, rfl⟩

theorem pow_any (a n : Int) (w : World) (ha : El a) (hn : U64 n) :
    Calls Try.prog 68 #[.int .u64 a, .int .u64 n] w fun e w' => e = .returned (.int .u64 (fpow a n)) ∧ w' = w := by
  obtain ⟨N, rfl⟩ : ∃ N : Nat, n = N := ⟨n.toNat, by unfold U64 at hn; omega⟩
  exact pow_nat a N w ha (by unfold U64 at hn; omega)

theorem rpow_any (a n : Int) (w : World) (ha : El a) (hn : U64 n) :
    Calls Try.prog 58 #[.int .u64 a, .int .u64 n] w fun e w' => e = .returned (.int .u64 (fpow a n)) ∧ w' = w := by
  obtain ⟨N, rfl⟩ : ∃ N : Nat, n = N := ⟨n.toNat, by unfold U64 at hn; omega⟩
  exact rpow_nat a N w ha (by unfold U64 at hn; omega)

end Go.Proofs.Ytkefijogpiofbaa.J

namespace Go.Proofs.Ytkefijogpiofbaa.J
set_option linter.unusedVariables false
set_option linter.unusedSimpArgs false
set_option linter.unusedSectionVars false
set_option maxRecDepth 8000
open Go.RowKit Gold

/-- the four captured variables of Inv, a block each: last, rest, lastFactor, factor -/
structure Four (B : Nat) (l r g f : Int) (w : World) : Prop where
  l : w.heap[B]? = some (.cells #[.int .u64 l] 29 (0, 0))
  r : w.heap[B + 1]? = some (.cells #[.int .u64 r] 29 (0, 0))
  g : w.heap[B + 1 + 1]? = some (.cells #[.int .u64 g] 29 (0, 0))
  f : w.heap[B + 1 + 1 + 1]? = some (.cells #[.int .u64 f] 29 (0, 0))

theorem Four.setL {B : Nat} {l r g f : Int} {w : World} (h : Four B l r g f w) (v : Int) : Four B v r g f (w.setCell ⟨B, 0, none⟩ (.int .u64 v)) :=
  ⟨one_setCell h.l, (Below.heap_setCell _ _ _ _ (by simp <;> omega)).trans h.r, (Below.heap_setCell _ _ _ _ (by simp <;> omega)).trans h.g, (Below.heap_setCell _ _ _ _ (by simp <;> omega)).trans h.f⟩
theorem Four.setR {B : Nat} {l r g f : Int} {w : World} (h : Four B l r g f w) (v : Int) : Four B l v g f (w.setCell ⟨B + 1, 0, none⟩ (.int .u64 v)) :=
  ⟨(Below.heap_setCell _ _ _ _ (by simp <;> omega)).trans h.l, one_setCell h.r, (Below.heap_setCell _ _ _ _ (by simp <;> omega)).trans h.g, (Below.heap_setCell _ _ _ _ (by simp <;> omega)).trans h.f⟩
theorem Four.setG {B : Nat} {l r g f : Int} {w : World} (h : Four B l r g f w) (v : Int) : Four B l r v f (w.setCell ⟨B + 1 + 1, 0, none⟩ (.int .u64 v)) :=
  ⟨(Below.heap_setCell _ _ _ _ (by simp <;> omega)).trans h.l, (Below.heap_setCell _ _ _ _ (by simp <;> omega)).trans h.r, one_setCell h.g, (Below.heap_setCell _ _ _ _ (by simp <;> omega)).trans h.f⟩
theorem Four.setF {B : Nat} {l r g f : Int} {w : World} (h : Four B l r g f w) (v : Int) : Four B l r g v (w.setCell ⟨B + 1 + 1 + 1, 0, none⟩ (.int .u64 v)) :=
  ⟨(Below.heap_setCell _ _ _ _ (by simp <;> omega)).trans h.l, (Below.heap_setCell _ _ _ _ (by simp <;> omega)).trans h.r, (Below.heap_setCell _ _ _ _ (by simp <;> omega)).trans h.g, one_setCell h.f⟩
theorem Four.drew {B : Nat} {l r g f : Int} {w : World} (h : Four B l r g f w) : Four B l r g f w.drew := ⟨h.l, h.r, h.g, h.f⟩
theorem Four.cl {B : Nat} {l r g f : Int} {w : World} (h : Four B l r g f w) : w.cell? ⟨B, 0, none⟩ = some (.int .u64 l) := cell_of_one h.l
theorem Four.cr {B : Nat} {l r g f : Int} {w : World} (h : Four B l r g f w) : w.cell? ⟨B + 1, 0, none⟩ = some (.int .u64 r) := cell_of_one h.r
theorem Four.cg {B : Nat} {l r g f : Int} {w : World} (h : Four B l r g f w) : w.cell? ⟨B + 1 + 1, 0, none⟩ = some (.int .u64 g) := cell_of_one h.g
theorem Four.cf {B : Nat} {l r g f : Int} {w : World} (h : Four B l r g f w) : w.cell? ⟨B + 1 + 1 + 1, 0, none⟩ = some (.int .u64 f) := cell_of_one h.f
theorem Four.fl {B : Nat} {l r g f : Int} {w : World} (h : Four B l r g f w) : w.frozen? ⟨B, 0, none⟩ = false := free_of_one h.l
theorem Four.fr {B : Nat} {l r g f : Int} {w : World} (h : Four B l r g f w) : w.frozen? ⟨B + 1, 0, none⟩ = false := free_of_one h.r
theorem Four.fg {B : Nat} {l r g f : Int} {w : World} (h : Four B l r g f w) : w.frozen? ⟨B + 1 + 1, 0, none⟩ = false := free_of_one h.g
theorem Four.ff {B : Nat} {l r g f : Int} {w : World} (h : Four B l r g f w) : w.frozen? ⟨B + 1 + 1 + 1, 0, none⟩ = false := free_of_one h.f

theorem below_set1 {B : Nat} {a w : World} (h : Below B a w) (u : Value) : Below B a (w.setCell ⟨B + 1, 0, none⟩ u) := h.setCell (p := ⟨B + 1, 0, none⟩) (Nat.le_add_right B 1) u
theorem below_set2 {B : Nat} {a w : World} (h : Below B a w) (u : Value) : Below B a (w.setCell ⟨B + 1 + 1, 0, none⟩ u) := h.setCell (p := ⟨B + 1 + 1, 0, none⟩) (Nat.le_add_right B 2) u
theorem below_set3 {B : Nat} {a w : World} (h : Below B a w) (u : Value) : Below B a (w.setCell ⟨B + 1 + 1 + 1, 0, none⟩ u) := h.setCell (p := ⟨B + 1 + 1 + 1, 0, none⟩) (Nat.le_add_right B 3) u
theorem below_set0 {B : Nat} {a w : World} (h : Below B a w) (u : Value) : Below B a (w.setCell ⟨B, 0, none⟩ u) := h.setCell (p := ⟨B, 0, none⟩) (Nat.le_refl B) u

set_option maxHeartbeats 400000 in
theorem divide_any (B : Nat) (l r g f : Int) (w : World) (h : Four B l r g f w) (hl : U64 l) (hr : U64 r) (hr2 : 2 ≤ r) (hg : El g) (hf : El f) :
    Calls Try.prog 99 #[.pointer (some ⟨B, 0, none⟩), .pointer (some ⟨B + 1, 0, none⟩), .pointer (some ⟨B + 1 + 1 + 1, 0, none⟩), .pointer (some ⟨B + 1 + 1, 0, none⟩)] w fun e w' =>
      e = .returned (.tuple #[]) ∧ Four B r (l - l / r * r) f (fsub g (fmul (l / r) f)) w' ∧ Below B w w' := by
  have H := Lib.hid h
  have cl := h.cl
  have cr := h.cr
  have cg := h.cg
  have cf := h.cf
  have fl := h.fl
  have fr := h.fr
  have fg := h.fg
  have ff := h.ff
  clear h
  have hU := hf.u64
  unfold U64 at hl hr
  have hq : U64 (l / r) := ⟨Int.ediv_nonneg hl.1 hr.1, Int.lt_of_le_of_lt (Int.ediv_le_self _ hl.1) hl.2⟩
  have hm0 : 0 ≤ l / r * r := Int.mul_nonneg hq.1 hr.1
  have hm1 : l / r * r ≤ l := Int.ediv_mul_le _ (by omega)
  go_enter Try.func99, Try.ntmps99
  go_wp2_with fail
  go_region
  go_wp2_with fail
  have hF : Four B r (l - l / r * r) g f (((w.setCell ⟨B, 0, none⟩ (.int .u64 r)).setCell ⟨B + 1, 0, none⟩ (.int .u64 (l - l / r * r))).drew) := ((H.out.setL _).setR _).drew
  have hB : Below B w (((w.setCell ⟨B, 0, none⟩ (.int .u64 r)).setCell ⟨B + 1, 0, none⟩ (.int .u64 (l - l / r * r))).drew) := (below_set1 (below_set0 (Below.refl _ _) _) _).drew
  generalize (((w.setCell ⟨B, 0, none⟩ (.int .u64 r)).setCell ⟨B + 1, 0, none⟩ (.int .u64 (l - l / r * r))).drew) = W at *
  clear cl cr cg cf fl fr fg ff H
  refine wp_region_still_tail 6 (by kernel_rfl) (by kernel_rfl) ?_
  simp only [List.take_succ_cons, List.take_zero, List.drop_succ_cons, List.drop_zero]
  have H := Lib.hid hF
  have HB := Lib.hid hB
  have cg := hF.cg
  have cf := hF.cf
  have fg := hF.fg
  have ff := hF.ff
  clear hF hB
  still_step
  still_step
  still_step
  still_step
  still_call (mul_any _ _ _ hq hU)
  still_call (sub_any _ _ _ hg (El_fmul _ _))
  refine wpStill_nil ?_
  go_wp2
  go_end0
  exact ⟨rfl, ((H.out.setG _).setF _).drew, (below_set3 (below_set2 HB.out _) _).drew⟩


theorem shifted (k : Nat) : U64 (18446744069414584320 / 2 ^ k) := by
  have hp : (0 : Int) < 2 ^ k := Int.pow_pos (by decide)
  refine ⟨Int.ediv_nonneg (by decide) (by omega), Int.lt_of_le_of_lt (Int.ediv_le_self _ (by decide)) (by decide)⟩

/-- the order less one, halved j times -/
def halved (j : Nat) : Int := 18446744069414584320 / 2 ^ j
theorem halved_u64 (j : Nat) : U64 (halved j) := shifted j
theorem halved_range (j : Nat) : 0 ≤ halved j ∧ halved j < 18446744073709551616 := shifted j
theorem halved_succ (j : Nat) : halved (j + 1) = halved j / 2 := by
  unfold halved
  rw [Int.pow_succ, Int.ediv_ediv_of_nonneg (Int.le_of_lt (Int.pow_pos (by decide)))]

/-- the world in which the four variables have been made -/
theorem four_made (w : World) (l r g f : Int) :
    Four w.heap.size l r g f ((((w.alloc (Obj.cells #[.int .u64 l] 29)).alloc (Obj.cells #[.int .u64 r] 29)).alloc (Obj.cells #[.int .u64 g] 29)).alloc (Obj.cells #[.int .u64 f] 29)) := by
  refine ⟨?_, ?_, ?_, ?_⟩
  · exact (Below.heap_alloc _ _ _ (by simp <;> omega)).trans ((Below.heap_alloc _ _ _ (by simp <;> omega)).trans ((Below.heap_alloc _ _ _ (by simp)).trans (heap_alloc_new _ _)))
  · exact (Below.heap_alloc _ _ _ (by simp <;> omega)).trans ((Below.heap_alloc _ _ _ (by simp)).trans (by simpa using heap_alloc_new (w.alloc (Obj.cells #[.int .u64 l] 29)) (Obj.cells #[.int .u64 r] 29)))
  · exact (Below.heap_alloc _ _ _ (by simp)).trans (by simpa using heap_alloc_new ((w.alloc (Obj.cells #[.int .u64 l] 29)).alloc (Obj.cells #[.int .u64 r] 29)) (Obj.cells #[.int .u64 g] 29))
  · simpa using heap_alloc_new (((w.alloc (Obj.cells #[.int .u64 l] 29)).alloc (Obj.cells #[.int .u64 r] 29)).alloc (Obj.cells #[.int .u64 g] 29)) (Obj.cells #[.int .u64 f] 29)
theorem below_made (w : World) (a b c d : Obj) : Below w.heap.size w ((((w.alloc a).alloc b).alloc c).alloc d) :=
  ((((Below.refl _ _).alloc (Nat.le_refl _) _).alloc (by simp) _).alloc (by simp; omega) _).alloc (by simp; omega) _

set_option maxHeartbeats 400000 in
theorem inv_any (a : Int) (w : World) (ha : El a) (h0 : a ≠ 0) :
    Calls Try.prog 96 #[.int .u64 a] w fun e w' => e = .returned (.tuple #[.int .u64 (finv a), .int .i64 0]) ∧ Below w.heap.size w w' := by
  have hE := Lib.hid (Euc.start ha h0)
  have H0 := Lib.hid h0
  have HA := Lib.hid ha
  clear h0 ha
  go_enter Try.func96, Try.ntmps96
  go_wp2_with fail
  go_step3
  go_wp2_with fail
  go_step3
  go_wp2_with fail
  go_loopg [2, 3] a.toNat (fun k s2 s3 wr => ∃ l r g f : Int, Hid (Euc a l r g f) ∧ Hid (r.toNat = k) ∧ Hid (Four w.heap.size l r g f wr) ∧ Below w.heap.size w wr)
  case atStart => exact ⟨_, a, 0, 1, hE, Lib.hid rfl, Lib.hid (four_made w _ _ _ _), below_made w _ _ _ _⟩
  case round =>
    obtain ⟨l, r, g, f, he, hk, hF, hB⟩ := hrel
    have cr := hF.out.cr
    have hr0 : 0 ≤ r := he.out.2.1
    by_cases h0 : r = 0
    · exact absurd he.out (fun h => (h0 ▸ h).not_zero)
    · have e0 : (r == 0) = false := by simpa using h0
      have HR0 := Lib.hid h0
      clear h0
      by_cases h1 : r = 1
      · subst h1
        have cf := hF.out.cf
        have ef := Lib.hid (Euc.finv HA.out H0.out he.out)
        go_wp2_with fail
        rw [Exit.noGoto_ret]
        go_ret2
        refine ⟨?_, hB⟩
        rw [ef.out]
        rfl
      · have e1 : (r == 1) = false := by simpa using h1
        have hr2 : 2 ≤ r := by have := HR0.out; omega
        have hl : U64 l := by have := he.out; unfold Euc at this; unfold U64; omega
        have hru : U64 r := by have := he.out; unfold Euc at this; unfold U64; omega
        have hg : El g := he.out.2.2.2.2.1
        have hf : El f := he.out.2.2.2.2.2.1
        clear h1
        go_wp2_with (go_at_call 99; refine (divide_any _ _ _ _ _ _ hF.out hl hru hr2 hg hf).mono ?_; rintro e w' ⟨rfl, hF', hB'⟩)
        go_roundg ((l - l / r * r).toNat)
        case measure =>
          have h1 := hk.out
          have h2 := (Euc.step he.out hr2).2.2.1
          have h3 := (Euc.step he.out hr2).2.1
          clear hE H0 HA he hk hF hB cr e0 HR0 e1 hl hru hg hf hF' hB'
          omega
        case rel => exact ⟨r, l - l / r * r, f, _, Lib.hid (Euc.step he.out hr2), Lib.hid rfl, Lib.hid hF', hB.trans hB'⟩

set_option maxHeartbeats 400000 in
theorem root_nat (k : Nat) (w : World) (hk : k ≤ 32) :
    Calls Try.prog 67 #[.int .i64 k] w fun e w' => e = .returned (.tuple #[.int .u64 (fpow 7 (18446744069414584320 / 2 ^ k)), .int .i64 0]) ∧ w' = w := by
  go_enter Try.func67, Try.ntmps67
  go_wp2_with (go_at_call 68; refine (pow_any _ _ _ (by unfold El; omega) (shifted k)).mono ?_; rintro e w' ⟨rfl, rfl⟩)
  go_ret2
  exact ⟨rfl, rfl⟩

set_option maxHeartbeats 400000 in
theorem rroot_nat (k : Nat) (w : World) (hk : k ≤ 32) :
    Calls Try.prog 35 #[.int .i64 k] w fun e w' => e = .returned (.tuple #[.int .u64 (fpow 7 (18446744069414584320 / 2 ^ k)), .int .i64 0]) ∧ w' = w := by
  go_enter Try.func35, Try.ntmps35
  go_wp2_with fail
  go_loop [4, 5] (fun n i => ∃ j : Nat, j ≤ k ∧ i = .int .i64 j ∧ n = .int .u64 (halved j)) (fun _ i => k - (intOf i).toNat)
  case atStart => exact ⟨0, Nat.zero_le _, rfl, rfl⟩
  case round =>
    obtain ⟨j, hj, rfl, rfl⟩ := hrel
    have hr := halved_range j
    by_cases hlt : j < k
    · have hs := Lib.hid (halved_succ j)
      go_wp2
      go_round
      case rel => exact ⟨j + 1, by omega, by go_num, by rw [hs.out]⟩
      case measure => simp [intOf]; omega
    · obtain rfl : j = k := by omega
      go_wp2_with (go_at_call 58; refine (rpow_any _ _ _ (by unfold El; omega) (halved_u64 j)).mono ?_; rintro e w' ⟨rfl, rfl⟩)
      go_ret2
      exact ⟨rfl, rfl⟩

set_option maxHeartbeats 400000 in
theorem rinv_any (a : Int) (w : World) (ha : El a) (h : ¬ a = 0) :
    Calls Try.prog 71 #[.int .u64 a] w fun e w' => e = .returned (.tuple #[.int .u64 (finv a), .int .i64 0]) ∧ w' = w := by
  go_enter Try.func71, Try.ntmps71
  go_wp2_with (go_at_call 58; refine (rpow_any _ _ _ ha (by unfold U64; omega)).mono ?_; rintro e w' ⟨rfl, rfl⟩)
  go_ret2
  exact ⟨rfl, rfl⟩

end Go.Proofs.Ytkefijogpiofbaa.J


namespace Go.Proofs.Ytkefijogpiofbaa.J
set_option linter.unusedVariables false
set_option linter.unusedSimpArgs false
set_option linter.unusedSectionVars false
set_option maxRecDepth 8000
open Go.RowKit

theorem cell_keep {W W1 : World} {a : Addr} {v : Value} (h : W.cell? a = some v) (hb : Below W.heap.size W W1) : W1.cell? a = some v := (hb.cell (World.block_lt_of_cell? W a h)).trans h
theorem free_keep {W W1 : World} {a : Addr} {v : Value} (h : W.cell? a = some v) (hf : W.frozen? a = false) (hb : Below W.heap.size W W1) : W1.frozen? a = false := (hb.frozen (World.block_lt_of_cell? W a h)).trans hf
theorem cell_after {W W1 : World} {a : Addr} {v : Value} (hb : Below W.heap.size W W1) (h : W.cell? a = some v) : W1.cell? a = some v := cell_keep h hb
theorem free_after {W W1 : World} {a : Addr} {v : Value} (hb : Below W.heap.size W W1) (h : W.cell? a = some v) (hf : W.frozen? a = false) : W1.frozen? a = false := free_keep h hf hb
theorem heap_keep {W W1 : World} {b : Nat} {o : Obj} (h : W.heap[b]? = some o) (hb : Below W.heap.size W W1) : W1.heap[b]? = some o := (hb.block b (Array.getElem?_eq_some_iff.1 h).1).trans h
theorem heap_new (W : World) (o : Obj) : (W.alloc o).heap[W.heap.size]? = some o := World.alloc_heap_new W o
theorem heap_old {W : World} {b : Nat} {o : Obj} (o' : Obj) (h : W.heap[b]? = some o) : (W.alloc o').heap[b]? = some o := (Below.heap_alloc W o' b (Array.getElem?_eq_some_iff.1 h).1).trans h

theorem cell_alloc {W : World} {a : Addr} {v : Value} (h : W.cell? a = some v) (o : Obj) : (W.alloc o).cell? a = some v := (World.cell?_alloc_lt _ _ _ (World.block_lt_of_cell? W a h)).trans h
theorem free_alloc {W : World} {a : Addr} {v : Value} (h : W.cell? a = some v) (hf : W.frozen? a = false) (o : Obj) : (W.alloc o).frozen? a = false :=
  (World.frozen?_of_block (Below.heap_alloc W o a.block (World.block_lt_of_cell? W a h))).trans hf
theorem cell_far {W : World} {a p : Addr} {v : Value} (h : W.cell? a = some v) (e : p.block ≠ a.block) (x : Value) : (W.setCell p x).cell? a = some v := (World.cell?_setCell_other W p a x (fun k => e (by rw [k]))).trans h
/-- block b holds two cells -/
def Two (W : World) (b : Nat) (t : TypeId) (u v : Value) : Prop := W.heap[b]? = some (.cells #[u, v] t (0, 0))
/-- block b holds one cell -/
def One (W : World) (b : Nat) (t : TypeId) (u : Value) : Prop := W.heap[b]? = some (.cells #[u] t (0, 0))
section
variable {W W1 : World} {b : Nat} {t : TypeId} {u v : Value}
theorem Two.c0 (h : Two W b t u v) : W.cell? ⟨b, 0, none⟩ = some u := by simp [World.cell?, show W.heap[b]? = _ from h]
theorem Two.c1 (h : Two W b t u v) : W.cell? ⟨b, 1, none⟩ = some v := by simp [World.cell?, show W.heap[b]? = _ from h]
theorem Two.f0 (h : Two W b t u v) : W.frozen? ⟨b, 0, none⟩ = false := by simp [World.frozen?, show W.heap[b]? = _ from h]
theorem Two.f1 (h : Two W b t u v) : W.frozen? ⟨b, 1, none⟩ = false := by simp [World.frozen?, show W.heap[b]? = _ from h]
theorem Two.lt (h : Two W b t u v) : b < W.heap.size := (Array.getElem?_eq_some_iff.1 h).1
theorem Two.keep (h : Two W b t u v) (hb : Below W.heap.size W W1) : Two W1 b t u v := heap_keep h hb
theorem Two.alloc (h : Two W b t u v) (o : Obj) : Two (W.alloc o) b t u v := heap_old o h
theorem Two.new (W : World) (t : TypeId) (u v : Value) : Two (W.alloc (.cells #[u, v] t)) W.heap.size t u v := heap_new W _
theorem Two.drew (h : Two W b t u v) : Two W.drew b t u v := h
theorem Two.far (h : Two W b t u v) {a : Addr} (x : Value) (e : b ≠ a.block) : Two (W.setCell a x) b t u v := (Below.heap_setCell W a x b e).trans h
theorem heap_setCell_at {W : World} {b i : Nat} {cs : Array Value} {t : TypeId} {f : Nat × Nat} (h : W.heap[b]? = some (.cells cs t f)) (x : Value) :
    (W.setCell ⟨b, i, none⟩ x).heap[b]? = some (.cells (cs.setIfInBounds i x) t f) := by
  obtain ⟨hlt, hk⟩ := Array.getElem?_eq_some_iff.1 h
  show (W.heap.modify b _)[b]? = _
  rw [Array.getElem?_eq_getElem (by rw [Array.size_modify]; exact hlt), Array.getElem_modify_self, hk]
  rfl
theorem Two.set0 (h : Two W b t u v) (x : Value) : Two (W.setCell ⟨b, 0, none⟩ x) b t x v := heap_setCell_at h x
theorem Two.set1 (h : Two W b t u v) (x : Value) : Two (W.setCell ⟨b, 1, none⟩ x) b t u x := heap_setCell_at h x
theorem One.c (h : One W b t u) : W.cell? ⟨b, 0, none⟩ = some u := cell_of_one h
theorem One.f (h : One W b t u) : W.frozen? ⟨b, 0, none⟩ = false := free_of_one h
theorem One.lt (h : One W b t u) : b < W.heap.size := (Array.getElem?_eq_some_iff.1 h).1
theorem One.keep (h : One W b t u) (hb : Below W.heap.size W W1) : One W1 b t u := heap_keep h hb
theorem One.alloc (h : One W b t u) (o : Obj) : One (W.alloc o) b t u := heap_old o h
theorem One.new (W : World) (t : TypeId) (u : Value) : One (W.alloc (.cells #[u] t)) W.heap.size t u := heap_new W _
theorem One.drew (h : One W b t u) : One W.drew b t u := h
theorem One.far (h : One W b t u) {a : Addr} (x : Value) (e : b ≠ a.block) : One (W.setCell a x) b t u := (Below.heap_setCell W a x b e).trans h
theorem One.set (h : One W b t u) (x : Value) : One (W.setCell ⟨b, 0, none⟩ x) b t x := heap_setCell_at h x
end

section
variable {P : Program} {c : Code} {Q : Exit → Act → World → Prop} {a : Act} {w : World} {o0 o1 o2 o3 : Obj}
theorem wp_named1 (h : ∀ W, Below w.heap.size w W → W.heap[w.heap.size]? = some o0 → w.heap.size < W.heap.size → c.wp P Q a W) : c.wp P Q a (w.alloc o0) :=
  h _ ((Below.refl _ _).alloc (Nat.le_refl _) _) (heap_new _ _) (by simp)
theorem wp_named2 (h : ∀ W, Below w.heap.size w W → W.heap[w.heap.size]? = some o0 → W.heap[w.heap.size + 1]? = some o1 → w.heap.size + 1 < W.heap.size → c.wp P Q a W) : c.wp P Q a ((w.alloc o0).alloc o1) :=
  h _ (((Below.refl _ _).alloc (Nat.le_refl _) _).alloc (by simp) _) (heap_old _ (heap_new _ _)) (by simpa using heap_new (w.alloc o0) o1) (by simp)
theorem wp_named3 (h : ∀ W, Below w.heap.size w W → W.heap[w.heap.size]? = some o0 → W.heap[w.heap.size + 1]? = some o1 → W.heap[w.heap.size + 1 + 1]? = some o2 → w.heap.size + 1 + 1 < W.heap.size → c.wp P Q a W) : c.wp P Q a (((w.alloc o0).alloc o1).alloc o2) :=
  h _ ((((Below.refl _ _).alloc (Nat.le_refl _) _).alloc (by simp) _).alloc (by simp; omega) _) (heap_old _ (heap_old _ (heap_new _ _))) (heap_old _ (by simpa using heap_new (w.alloc o0) o1)) (by simpa using heap_new ((w.alloc o0).alloc o1) o2) (by simp)
section
variable {f : FuncId} {args : Array Value} {R : Ending → World → Prop}
theorem calls_named3 (h : ∀ W, Below w.heap.size w W → W.heap[w.heap.size]? = some o0 → W.heap[w.heap.size + 1]? = some o1 → W.heap[w.heap.size + 1 + 1]? = some o2 → w.heap.size + 1 + 1 < W.heap.size → Calls P f args W R) : Calls P f args (((w.alloc o0).alloc o1).alloc o2) R :=
  h _ ((((Below.refl _ _).alloc (Nat.le_refl _) _).alloc (by simp) _).alloc (by simp; omega) _) (heap_old _ (heap_old _ (heap_new _ _))) (heap_old _ (by simpa using heap_new (w.alloc o0) o1)) (by simpa using heap_new ((w.alloc o0).alloc o1) o2) (by simp)
end
/-- any world under a name, with what is known of it -/
theorem wp_named (K : World → Prop) {w : World} (hK : K w) (h : ∀ W, K W → c.wp P Q a W) : c.wp P Q a w := h w hK
end

end Go.Proofs.Ytkefijogpiofbaa.J

namespace Go.Proofs.Ytkefijogpiofbaa.J
set_option linter.unusedVariables false
set_option linter.unusedSimpArgs false
set_option linter.unusedSectionVars false
set_option maxRecDepth 8000
open Go.RowKit Gold

theorem addF (a b : F) (w : World) : Calls Try.prog 83 #[.int .u64 (vF a), .int .u64 (vF b)] w fun e w' => e = .returned (.int .u64 (vF (a + b))) ∧ w' = w :=
  vF_add a b ▸ add_any (vF a) (vF b) w (El_vF a) (El_vF b)
theorem subF (a b : F) (w : World) : Calls Try.prog 92 #[.int .u64 (vF a), .int .u64 (vF b)] w fun e w' => e = .returned (.int .u64 (vF (a - b))) ∧ w' = w :=
  vF_sub a b ▸ sub_any (vF a) (vF b) w (El_vF a) (El_vF b)
theorem negF (a : F) (w : World) : Calls Try.prog 90 #[.int .u64 (vF a)] w fun e w' => e = .returned (.int .u64 (vF (-a))) ∧ w' = w :=
  vF_neg a ▸ neg_any (vF a) w (El_vF a)
theorem mulF (a b : F) (w : World) : Calls Try.prog 86 #[.int .u64 (vF a), .int .u64 (vF b)] w fun e w' => e = .returned (.int .u64 (vF (a * b))) ∧ w' = w :=
  vF_mul a b ▸ mul_any (vF a) (vF b) w (El_vF a).u64 (El_vF b).u64
theorem mul7F (b : F) (w : World) : Calls Try.prog 86 #[.int .u64 7, .int .u64 (vF b)] w fun e w' => e = .returned (.int .u64 (vF (7 * b))) ∧ w' = w :=
  mulF 7 b w
theorem powF (a : F) (n : Nat) (w : World) (hn : n < 18446744073709551616) : Calls Try.prog 68 #[.int .u64 (vF a), .int .u64 n] w fun e w' => e = .returned (.int .u64 (vF (a ^ n))) ∧ w' = w :=
  vF_pow a n ▸ pow_nat (vF a) n w (El_vF a) hn
theorem invF_any (a : F) (w : World) (h : a ≠ 0) : Calls Try.prog 96 #[.int .u64 (vF a)] w fun e w' => e = .returned (.tuple #[.int .u64 (vF (invF a)), .int .i64 0]) ∧ Below w.heap.size w w' := by
  have k := inv_any (vF a) w (El_vF a) (vF_ne_zero h)
  rw [vF_inv] at k
  exact k
theorem raddF (a b : F) (w : World) : Calls Try.prog 32 #[.int .u64 (vF a), .int .u64 (vF b)] w fun e w' => e = .returned (.int .u64 (vF (a + b))) ∧ w' = w :=
  vF_add a b ▸ radd_any (vF a) (vF b) w (El_vF a) (El_vF b)
theorem rsubF (a b : F) (w : World) : Calls Try.prog 72 #[.int .u64 (vF a), .int .u64 (vF b)] w fun e w' => e = .returned (.int .u64 (vF (a - b))) ∧ w' = w :=
  vF_sub a b ▸ rsub_any (vF a) (vF b) w (El_vF a) (El_vF b)
theorem rnegF (a : F) (w : World) : Calls Try.prog 30 #[.int .u64 (vF a)] w fun e w' => e = .returned (.int .u64 (vF (-a))) ∧ w' = w :=
  vF_neg a ▸ rneg_any (vF a) w (El_vF a)
theorem rmulF (a b : F) (w : World) : Calls Try.prog 42 #[.int .u64 (vF a), .int .u64 (vF b)] w fun e w' => e = .returned (.int .u64 (vF (a * b))) ∧ w' = w :=
  vF_mul a b ▸ rmul_any (vF a) (vF b) w (El_vF a) (El_vF b)
theorem rmul7F (b : F) (w : World) : Calls Try.prog 42 #[.int .u64 7, .int .u64 (vF b)] w fun e w' => e = .returned (.int .u64 (vF (7 * b))) ∧ w' = w :=
  rmulF 7 b w
theorem rreduceF (a : Int) (w : World) (h : U64 a) : Calls Try.prog 37 #[.int .u64 a] w fun e w' => e = .returned (.int .u64 (vF (toF a))) ∧ w' = w :=
  vF_toF a ▸ rreduce_any a w h
theorem rfromIntF (a : Int) (w : World) (h0 : -9223372036854775808 ≤ a) (h1 : a < 9223372036854775808) : Calls Try.prog 53 #[.int .i64 a] w fun e w' => e = .returned (.int .u64 (vF (toF a))) ∧ w' = w :=
  vF_toF a ▸ rfromInt_any a w h0 h1
theorem rinvF_any (a : F) (w : World) (h : a ≠ 0) : Calls Try.prog 71 #[.int .u64 (vF a)] w fun e w' => e = .returned (.tuple #[.int .u64 (vF (invF a)), .int .i64 0]) ∧ w' = w := by
  have k := rinv_any (vF a) w (El_vF a) (vF_ne_zero h)
  rw [vF_inv] at k
  exact k
end Go.Proofs.Ytkefijogpiofbaa.J

