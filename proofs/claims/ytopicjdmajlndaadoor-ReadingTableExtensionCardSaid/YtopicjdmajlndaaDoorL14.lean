/- Several texts in one: Gold, Fe, Fp, Ex, PolM, PolN, PolI, MleM, JFieldA, JFieldC, JMem, JFieldF, JOrd, JExtV, JLex, JExtR, JDecl, JHeld, JSli. -/
import Derived.Test.YtopicjdmajlndaaDoorProg
import Derived.WalkKit
import Derived.WalkSpells
import Derived.WalkSmall
import Derived.Laws.MathBits
import Derived.WalkMore
import Derived.Deep.LoopGhost
import Derived.OneCell
import Derived.Deep.RegionWith
import Derived.RegionTactic
import Derived.BigRegion
import Derived.StillTailTactics
import Derived.Lib.Hide
import Derived.Below
import Derived.RowKit
import Derived.RangeFuncRecord
import Derived.Deep.RegionHeld3
import Derived.Deep.QuietTactic
import Derived.BigQuiet
import Derived.StillTail
import Derived.OrdersHeld
import Derived.Laws.MakeOwn
import Derived.Laws.AppendOwn
import Derived.Laws.OwnMore
import Derived.Deep.AppendLies
import Derived.IntWalk
import Derived.RangeFuncNested
import Derived.RangeFuncBound
import Derived.RangeFuncCalls
import Derived.RangeFuncLeaves
import Derived.RangeFuncBox
import Derived.Shelf.Abstract
import Derived.Shelf.RegionOpen
import Derived.OwnWalkIn
import Derived.TacticsInMore
import Derived.LoopNIn
import Derived.LoopIn
import Derived.Laws.EntriesVeiled
namespace Gold
set_option linter.unusedVariables false
set_option linter.unusedSimpArgs false
set_option linter.unusedSectionVars false
set_option maxRecDepth 8000

def ch : Nat → Nat → Nat
  | _, 0 => 1
  | 0, _ + 1 => 0
  | n + 1, k + 1 => ch n k + ch n (k + 1)

/-- the order of the field -/
def P : Nat := 18446744069414584321

end Gold

namespace Gold
set_option linter.unusedVariables false
set_option linter.unusedSimpArgs false
set_option linter.unusedSectionVars false
set_option maxRecDepth 8000

/-- the order, as an integer -/
def Q : Int := 18446744069414584321
def El (a : Int) : Prop := 0 ≤ a ∧ a < 18446744069414584321
def U64 (a : Int) : Prop := 0 ≤ a ∧ a < 18446744073709551616

def fred (a : Int) : Int := a % 18446744069414584321
def fadd (a b : Int) : Int := (a + b) % 18446744069414584321
def fneg (a : Int) : Int := (-a) % 18446744069414584321
def fmul (a b : Int) : Int := (a * b) % 18446744069414584321
theorem El_fred (a : Int) : El (fred a) := by unfold El fred; omega
theorem El_fmul (a b : Int) : El (fmul a b) := by unfold El fmul; omega
theorem El.u64 {a : Int} (h : El a) : U64 a := by unfold El U64 at *; omega
theorem El.mod {a : Int} (h : El a) : a % 18446744069414584321 = a := by unfold El at h; exact Int.emod_eq_of_lt h.1 h.2

end Gold

namespace Gold
set_option linter.unusedVariables false
set_option linter.unusedSimpArgs false
set_option linter.unusedSectionVars false
set_option maxRecDepth 8000

/-- the field -/
abbrev F := Fin 18446744069414584321

/-- the number that stands for a field element in a program -/
def vF (x : F) : Int := (x.val : Int)
/-- the field element of an integer -/
def toF (a : Int) : F := ⟨(a % 18446744069414584321).toNat, by omega⟩

theorem El_vF (x : F) : El (vF x) := by unfold El vF; have := x.isLt; omega
theorem vF_toF (a : Int) : vF (toF a) = fred a := by unfold vF toF fred; simp only; omega
theorem vF_toF_El {a : Int} (h : El a) : vF (toF a) = a := by rw [vF_toF]; unfold fred; exact h.mod
theorem vF_zero : vF 0 = 0 := rfl
theorem vF_one : vF 1 = 1 := rfl
theorem vF_add (x y : F) : fadd (vF x) (vF y) = vF (x + y) := by
  unfold fadd vF
  rw [Fin.val_add]
  omega
theorem vF_neg (x : F) : fneg (vF x) = vF (-x) := by
  unfold fneg vF
  have : (-x).val = (18446744069414584321 - x.val) % 18446744069414584321 := rfl
  rw [this]
  have := x.isLt
  omega
theorem vF_mul (x y : F) : fmul (vF x) (vF y) = vF (x * y) := by
  unfold fmul vF
  rw [Fin.val_mul]
  rw [Int.natCast_emod, Int.natCast_mul]
  rfl
/-- the inverse -/
def invF (x : F) : F := x ^ 18446744069414584319
end Gold

namespace Gold
set_option linter.unusedVariables false
set_option linter.unusedSimpArgs false
set_option linter.unusedSectionVars false
set_option maxRecDepth 8000

/-- an element A + B X -/
structure E2 where
  A : F
  B : F

namespace E2
set_option linter.unusedVariables false
set_option linter.unusedSimpArgs false
set_option linter.unusedSectionVars false
theorem ext' {x y : E2} (h : x.A = y.A) (k : x.B = y.B) : x = y := by
  cases x; cases y; cases h; cases k; rfl
theorem ext_iff' {x y : E2} : x = y ↔ x.A = y.A ∧ x.B = y.B := ⟨fun h => h ▸ ⟨rfl, rfl⟩, fun h => ext' h.1 h.2⟩

def add (x y : E2) : E2 := ⟨x.A + y.A, x.B + y.B⟩
def sub (x y : E2) : E2 := ⟨x.A - y.A, x.B - y.B⟩
def neg (x : E2) : E2 := ⟨-x.A, -x.B⟩
def mul (x y : E2) : E2 := ⟨x.A * y.A + 7 * (x.B * y.B), x.A * y.B + x.B * y.A⟩
instance : Add E2 := ⟨add⟩
instance : Sub E2 := ⟨sub⟩
instance : Neg E2 := ⟨neg⟩
instance : Mul E2 := ⟨mul⟩
def ofF (a : F) : E2 := ⟨a, 0⟩
def zero : E2 := ⟨0, 0⟩
def one : E2 := ⟨1, 0⟩
def conj (x : E2) : E2 := ⟨x.A, -x.B⟩
def norm (x : E2) : F := x.A * x.A - 7 * (x.B * x.B)
def inv (x : E2) : E2 := ⟨x.A * invF (norm x), -x.B * invF (norm x)⟩
def pow (x : E2) : Nat → E2
  | 0 => one
  | n + 1 => pow x n * x

theorem add_A (x y : E2) : (x + y).A = x.A + y.A := rfl
theorem add_B (x y : E2) : (x + y).B = x.B + y.B := rfl
theorem sub_A (x y : E2) : (x - y).A = x.A - y.A := rfl
theorem sub_B (x y : E2) : (x - y).B = x.B - y.B := rfl
theorem neg_A (x : E2) : (-x).A = -x.A := rfl
theorem neg_B (x : E2) : (-x).B = -x.B := rfl
theorem mul_A (x y : E2) : (x * y).A = x.A * y.A + 7 * (x.B * y.B) := rfl
theorem mul_B (x y : E2) : (x * y).B = x.A * y.B + x.B * y.A := rfl
theorem zero_A : zero.A = 0 := rfl
theorem zero_B : zero.B = 0 := rfl
theorem one_A : one.A = 1 := rfl
theorem one_B : one.B = 0 := rfl
theorem conj_A (x : E2) : (conj x).A = x.A := rfl
theorem conj_B (x : E2) : (conj x).B = -x.B := rfl
theorem ofF_A (a : F) : (ofF a).A = a := rfl
theorem ofF_B (a : F) : (ofF a).B = 0 := rfl
attribute [local simp] add_A add_B sub_A sub_B neg_A neg_B mul_A mul_B zero_A zero_B one_A one_B conj_A conj_B ofF_A ofF_B

theorem add_comm (x y : E2) : x + y = y + x := ext' (by simp; grind) (by simp; grind)
theorem add_assoc (x y z : E2) : x + y + z = x + (y + z) := ext' (by simp; grind) (by simp; grind)
theorem mul_comm (x y : E2) : x * y = y * x := ext' (by simp; grind) (by simp; grind)
theorem mul_assoc (x y z : E2) : x * y * z = x * (y * z) := ext' (by simp; grind) (by simp; grind)
theorem mul_add (x y z : E2) : x * (y + z) = x * y + x * z := ext' (by simp; grind) (by simp; grind)
theorem add_mul (x y z : E2) : (x + y) * z = x * z + y * z := ext' (by simp; grind) (by simp; grind)
theorem add_zero (x : E2) : x + zero = x := ext' (by simp; try grind) (by simp; try grind)
theorem zero_add (x : E2) : zero + x = x := ext' (by simp; try grind) (by simp; try grind)
theorem mul_one (x : E2) : x * one = x := ext' (by simp; try grind) (by simp; try grind)
theorem one_mul (x : E2) : one * x = x := ext' (by simp; try grind) (by simp; try grind)
theorem mul_zero (x : E2) : x * zero = zero := ext' (by simp; try grind) (by simp; try grind)
theorem zero_mul (x : E2) : zero * x = zero := ext' (by simp; try grind) (by simp; try grind)
theorem sub_eq (x y : E2) : x - y = x + -y := ext' (by simp; grind) (by simp; grind)
theorem sub_self (x : E2) : x - x = zero := ext' (by simp; try grind) (by simp; try grind)
theorem pow_zero (x : E2) : pow x 0 = one := rfl
theorem pow_succ (x : E2) (n : Nat) : pow x (n + 1) = pow x n * x := rfl
/-- the square root of 7 -/
def X : E2 := ⟨0, 1⟩
theorem X_A : X.A = 0 := rfl
theorem X_B : X.B = 1 := rfl
attribute [local simp] X_A X_B
end E2
end Gold

namespace Gold
set_option linter.unusedVariables false
set_option linter.unusedSimpArgs false
set_option linter.unusedSectionVars false
set_option maxRecDepth 8000
namespace E2
set_option linter.unusedVariables false
set_option linter.unusedSimpArgs false
set_option linter.unusedSectionVars false
instance : DecidableEq E2 := fun x y => if h : x.A = y.A ∧ x.B = y.B then isTrue (ext' h.1 h.2) else isFalse (fun e => h ⟨congrArg A e, congrArg B e⟩)
end E2

/-- the coefficient of an exponent -/
def cfE (xs : List E2) (i : Nat) : E2 := (xs[i]?).getD E2.zero
/-- without zeros at the end -/
def trimE (xs : List E2) : List E2 := match xs with
  | [] => []
  | x :: l => match trimE l with
    | [] => if x = E2.zero then [] else [x]
    | y :: t => x :: y :: t
def tabE (n : Nat) (f : Nat → E2) : List E2 := (List.range n).map f

theorem cfE_some {xs : List E2} {i : Nat} {x : E2} (h : xs[i]? = some x) : cfE xs i = x := by unfold cfE; rw [h]; rfl
theorem tabE_congr {n : Nat} {f g : Nat → E2} (h : ∀ i, i < n → f i = g i) : tabE n f = tabE n g := by
  unfold tabE
  apply List.map_congr_left
  intro i hi
  exact h i (by simpa using hi)
theorem tabE_succ (n : Nat) (f : Nat → E2) : tabE (n + 1) f = tabE n f ++ [f n] := by simp [tabE, List.range_succ]

/-- the value at x -/
def evE : List E2 → E2 → E2
  | [], _ => E2.zero
  | a :: l, x => a + x * evE l x
end Gold

namespace Gold
set_option linter.unusedVariables false
set_option linter.unusedSimpArgs false
set_option linter.unusedSectionVars false
set_option maxRecDepth 8000
namespace E2
set_option linter.unusedVariables false
set_option linter.unusedSimpArgs false
set_option linter.unusedSectionVars false
attribute [local simp] add_A add_B sub_A sub_B neg_A neg_B mul_A mul_B zero_A zero_B one_A one_B
end E2

/-- the element of an integer -/
def ndZ (i : Int) : E2 := E2.ofF (toF i)
def nd (i : Nat) : E2 := ndZ (i : Int)
end Gold

namespace Gold
set_option linter.unusedVariables false
set_option linter.unusedSimpArgs false
set_option linter.unusedSectionVars false
set_option maxRecDepth 8000

structure IsInterp (v S : List E2) : Prop where
  trim : trimE S = S
  short : S.length ≤ v.length
  value : ∀ k, k < v.length → evE S (nd k) = cfE v k
end Gold

namespace Gold
set_option linter.unusedVariables false
set_option linter.unusedSimpArgs false
set_option linter.unusedSectionVars false
set_option maxRecDepth 8000
open E2
attribute [local simp] add_A add_B sub_A sub_B neg_A neg_B mul_A mul_B zero_A zero_B one_A one_B

/-- x + r (y - x) -/
def btw (r x y : E2) : E2 := x + r * (y - x)
/-- x y + (1 - x) (1 - y) -/
def agr (x y : E2) : E2 := x * y + (one - x) * (one - y)

namespace E2
set_option linter.unusedVariables false
set_option linter.unusedSimpArgs false
set_option linter.unusedSectionVars false
theorem m1 (r x : E2) : x + r * (x - x) = x := ext' (by simp; grind) (by simp; grind)
theorem m2 (x y : E2) : x + zero * (y - x) = x := ext' (by simp; try grind) (by simp; try grind)
theorem m3 (x y : E2) : x + one * (y - x) = y := ext' (by simp; try grind) (by simp; try grind)
theorem m4 (r x y k u v : E2) : (x + k * u) + r * ((y + k * v) - (x + k * u)) = (x + r * (y - x)) + k * (u + r * (v - u)) := ext' (by simp; grind) (by simp; grind)
theorem m6 (y : E2) : zero * y + (one - zero) * (one - y) = one - y := ext' (by simp; try grind) (by simp; try grind)
theorem m7 (y : E2) : one * y + (one - one) * (one - y) = y := ext' (by simp; try grind) (by simp; try grind)
theorem m8 (b a e : E2) : (one - a) * e + b * (a * e - (one - a) * e) = (a * b + (one - a) * (one - b)) * e := ext' (by simp; grind) (by simp; grind)
theorem m12 (x y r : E2) : x + r * (y - x) = x * (one - r) + y * r := ext' (by simp; grind) (by simp; grind)
end E2

/-- the first n, added up -/
def sumE : Nat → (Nat → E2) → E2
  | 0, _ => zero
  | n + 1, f => sumE n f + f n
theorem sumE_congr {n : Nat} {f g : Nat → E2} (h : ∀ i, i < n → f i = g i) : sumE n f = sumE n g := by
  induction n with
  | zero => rfl
  | succ n ih => rw [sumE, sumE, ih fun i hi => h i (by omega), h n (by omega)]
theorem sumE_pairs (n : Nat) (f : Nat → E2) : sumE (2 * n) f = sumE n fun i => f (2 * i) + f (2 * i + 1) := by
  induction n with
  | zero => rfl
  | succ n ih => rw [show 2 * (n + 1) = 2 * n + 1 + 1 by omega, sumE, sumE, sumE, ih, E2.add_assoc]
/-- the table with its first variable fixed -/
def bndF (f : Nat → E2) (r : E2) (i : Nat) : E2 := btw r (f (2 * i)) (f (2 * i + 1))
/-- the value of the extension -/
def mleF (f : Nat → E2) : List E2 → E2
  | [] => f 0
  | r :: p => mleF (bndF f r) p
/-- a bit as an element -/
def bitE (i : Nat) : E2 := nd (i % 2)
/-- the weight of an index -/
def eqW (i : Nat) : List E2 → E2
  | [] => one
  | r :: p => agr (bitE i) r * eqW (i / 2) p
theorem bitE_even (i : Nat) : bitE (2 * i) = zero := by unfold bitE; rw [show 2 * i % 2 = 0 by omega]; rfl
theorem bitE_odd (i : Nat) : bitE (2 * i + 1) = one := by unfold bitE; rw [show (2 * i + 1) % 2 = 1 by omega]; rfl
theorem agr_zero (y : E2) : agr zero y = one - y := m6 y
theorem agr_one (y : E2) : agr one y = y := m7 y
theorem mleF_congr {f g : Nat → E2} : ∀ {p : List E2}, (∀ i, i < 2 ^ p.length → f i = g i) → mleF f p = mleF g p
  | [], h => h 0 (by simp)
  | r :: p, h => mleF_congr (p := p) fun i hi => by
    have e : 2 ^ (r :: p).length = 2 * 2 ^ p.length := by rw [List.length_cons, Nat.pow_succ]; omega
    unfold bndF
    rw [h (2 * i) (by omega), h (2 * i + 1) (by omega)]
theorem bndF_lin (f g : Nat → E2) (k r : E2) (i : Nat) : bndF (fun i => f i + k * g i) r i = bndF f r i + k * bndF g r i := m4 _ _ _ _ _ _
theorem mleF_lin (k : E2) : ∀ (p : List E2) (f g : Nat → E2), (mleF (fun i => f i + k * g i) p) = mleF f p + k * mleF g p
  | [], _, _ => rfl
  | r :: p, f, g => by
    show mleF (bndF (fun i => f i + k * g i) r) p = _
    rw [mleF_congr (g := fun i => bndF f r i + k * bndF g r i) fun i _ => bndF_lin f g k r i]
    exact mleF_lin k p _ _
theorem mleF_zero : ∀ (p : List E2), mleF (fun _ => zero) p = zero
  | [] => rfl
  | r :: p => by
    show mleF (bndF (fun _ => zero) r) p = _
    rw [mleF_congr (f := bndF (fun _ => zero) r) (g := fun _ => zero) fun i _ => m1 r zero]
    exact mleF_zero p
theorem btw_lin (r x y : E2) : btw r x y = (x + r * y) + (-r) * x := by
  unfold btw
  exact ext' (by simp; grind) (by simp; grind)
theorem mleF_btw (r : E2) (p : List E2) (f g : Nat → E2) : (mleF (fun i => btw r (f i) (g i)) p) = btw r (mleF f p) (mleF g p) := by
  rw [mleF_congr (g := fun i => (f i + r * g i) + (-r) * f i) fun i _ => btw_lin r _ _, mleF_lin, mleF_lin, ← btw_lin]
/-- the value at a point, by the weights -/
theorem mleF_sum : ∀ (p : List E2) (f : Nat → E2), mleF f p = sumE (2 ^ p.length) fun i => f i * eqW i p
  | [], f => by
    show f 0 = zero + f 0 * one
    rw [E2.mul_one, E2.zero_add]
  | r :: p, f => by
    show mleF (bndF f r) p = _
    rw [mleF_sum p, show 2 ^ (r :: p).length = 2 * 2 ^ p.length by rw [List.length_cons, Nat.pow_succ]; omega, sumE_pairs]
    refine sumE_congr fun i _ => ?_
    show bndF f r i * eqW i p = f (2 * i) * (agr (bitE (2 * i)) r * eqW (2 * i / 2) p) + f (2 * i + 1) * (agr (bitE (2 * i + 1)) r * eqW ((2 * i + 1) / 2) p)
    rw [bitE_even, bitE_odd, agr_zero, agr_one, show 2 * i / 2 = i by omega, show (2 * i + 1) / 2 = i by omega]
    show (f (2 * i) + r * (f (2 * i + 1) - f (2 * i))) * _ = _
    rw [m12, ← E2.mul_assoc, ← E2.mul_assoc, ← E2.add_mul]
/-- the vertex of an index -/
def vtx (i n : Nat) : List E2 := tabE n fun k => bitE (i / 2 ^ k)
theorem tabE_cons (n : Nat) (f : Nat → E2) : tabE (n + 1) f = f 0 :: tabE n fun k => f (k + 1) := by
  unfold tabE
  rw [List.range_succ_eq_map, List.map_cons, List.map_map]
  rfl
theorem vtx_succ (i n : Nat) : vtx i (n + 1) = bitE i :: vtx (i / 2) n := by
  unfold vtx
  rw [tabE_cons, Nat.pow_zero, Nat.div_one]
  congr 1
  refine tabE_congr fun k _ => ?_
  rw [Nat.pow_succ, Nat.mul_comm, Nat.div_div_eq_div_mul]
/-- the equality polynomial, in the order of the loop -/
def eqE (p q : List E2) : E2 := (List.zipWith agr p q).foldl (· * ·) one
theorem foldl_mul (l : List E2) : ∀ c : E2, l.foldl (· * ·) c = c * l.foldl (· * ·) one := by
  induction l with
  | nil => intro c; exact (E2.mul_one c).symm
  | cons a l ih =>
    intro c
    rw [List.foldl_cons, List.foldl_cons, ih (c * a), ih (one * a), E2.one_mul, E2.mul_assoc]
theorem eqE_cons (a b : E2) (p q : List E2) : eqE (a :: p) (b :: q) = agr a b * eqE p q := by
  unfold eqE
  rw [List.zipWith_cons_cons, List.foldl_cons, E2.one_mul, foldl_mul]
theorem eqE_vtx : ∀ (p : List E2) (i : Nat), eqE (vtx i p.length) p = eqW i p
  | [], _ => rfl
  | r :: p, i => by rw [List.length_cons, vtx_succ, eqE_cons, eqE_vtx p]; rfl
theorem eqE_vtx' (p : List E2) (i n : Nat) (h : p.length = n) : eqE (vtx i n) p = eqW i p := by subst h; exact eqE_vtx p i
/-- the value of the extension of a table -/
def mleE (xs p : List E2) : E2 := mleF (cfE xs) p
end Gold

namespace Go.Proofs.YtopicjdmajlndaaDoor.J
set_option linter.unusedVariables false
set_option linter.unusedSimpArgs false
set_option linter.unusedSectionVars false
set_option maxRecDepth 8000
open Go.RowKit Gold

theorem ret_int {k : IntKind} {a b : Int} (h : a = b) : Ending.returned (.int k a) = .returned (.int k b) := by rw [h]
theorem wrap_range (a : Int) : U64 (IntKind.u64.wrap a) := by unfold U64; rw [IntKind.wrap_u64]; omega

set_option maxHeartbeats 400000 in
theorem rreduce_any (a : Int) (w : World) (ha : U64 a)  :
    Calls Tryd.prog 72 #[.int .u64 a] w fun e w' => e = .returned (.int .u64 (fred a)) ∧ w' = w := by
  unfold U64 at ha
  go_enter Tryd.func72, Tryd.ntmps72
  go_wp2
  all_goals 
    go_ret
    refine ⟨ret_int ?_, rfl⟩
    unfold fred
    omega

set_option maxHeartbeats 400000 in
theorem fromInt_any (a : Int) (w : World) (ha0 : -9223372036854775808 ≤ a) (ha : a < 9223372036854775808)  :
    Calls Tryd.prog 47 #[.int .i64 a] w fun e w' => e = .returned (.int .u64 (fred a)) ∧ w' = w := by
  go_enter Tryd.func47, Tryd.ntmps47
  go_wp2
  all_goals 
    go_ret
    refine ⟨ret_int ?_, rfl⟩
    unfold fred
    try simp only [IntKind.wrap_u64] at *
    omega

set_option maxHeartbeats 400000 in
theorem rfromInt_any (a : Int) (w : World) (ha0 : -9223372036854775808 ≤ a) (ha : a < 9223372036854775808)  :
    Calls Tryd.prog 74 #[.int .i64 a] w fun e w' => e = .returned (.int .u64 (fred a)) ∧ w' = w := by
  go_enter Tryd.func74, Tryd.ntmps74
  go_wp2
  all_goals 
    go_ret
    refine ⟨ret_int ?_, rfl⟩
    unfold fred
    try simp only [IntKind.wrap_u64] at *
    omega

set_option maxHeartbeats 400000 in
theorem radd_any (a b : Int) (w : World) (ha : Gold.El a) (hb : Gold.El b) :
    Calls Tryd.prog 53 #[.int .u64 a, .int .u64 b] w fun e w' => e = .returned (.int .u64 (fadd a b)) ∧ w' = w := by
  unfold Gold.El at ha hb
  go_enter Tryd.func53, Tryd.ntmps53
  go_wp2
  all_goals 
    go_ret
    refine ⟨ret_int ?_, rfl⟩
    unfold fadd
    try simp only [IntKind.wrap_u64] at *
    omega

set_option maxHeartbeats 400000 in
theorem rneg_any (a : Int) (w : World) (ha : Gold.El a) :
    Calls Tryd.prog 76 #[.int .u64 a] w fun e w' => e = .returned (.int .u64 (fneg a)) ∧ w' = w := by
  unfold Gold.El at ha
  by_cases h : a = 0
  all_goals
    go_enter Tryd.func76, Tryd.ntmps76
    go_wp2
    go_ret
    refine ⟨ret_int ?_, rfl⟩
    unfold fneg
    omega

theorem mod_mod_add (a b : Int) : (a % 18446744069414584321 + b % 18446744069414584321) % 18446744069414584321 = (a + b) % 18446744069414584321 := by
  omega

theorem shift_eq (a : Int) : fadd (fred (a % 4294967296 * 4294967296)) (fred (a / 4294967296 * 4294967295)) = fmul a 4294967296 := by
  unfold fadd fmul fred
  rw [mod_mod_add]
  have e : a * 4294967296 = (a % 4294967296 * 4294967296 + a / 4294967296 * 4294967295) + a / 4294967296 * 18446744069414584321 := by omega
  rw [e, Int.add_mul_emod_self_right]

set_option maxHeartbeats 400000 in
theorem shift_any (a : Int) (w : World) (ha : Gold.El a) :
    Calls Tryd.prog 67 #[.int .u64 a] w fun e w' => e = .returned (.int .u64 (fmul a 4294967296)) ∧ w' = w := by
  unfold Gold.El at ha
  go_enter Tryd.func67, Tryd.ntmps67
  go_wp2_with (first
    | (go_at_call 72; refine (rreduce_any _ _ (by unfold U64; omega)).mono ?_; rintro e w' ⟨rfl, rfl⟩)
    | (go_at_call 53; refine (radd_any _ _ _ (El_fred _) (El_fred _)).mono ?_; rintro e w' ⟨rfl, rfl⟩))
  go_ret
  exact ⟨ret_int (shift_eq a), rfl⟩

theorem half_eq (a b : Int) (ha : Gold.El a) (hb : 0 ≤ b ∧ b < 4294967296) :
    fadd (fred (IntKind.u64.wrap (a % 4294967296 * b))) (fmul (fred (IntKind.u64.wrap (a / 4294967296 * b))) 4294967296) = fmul a b := by
  unfold Gold.El at ha
  have bound : ∀ p : Int, 0 ≤ p → p ≤ 4294967295 → 0 ≤ p * b ∧ p * b ≤ 18446744065119617025 := by
    intro p hp0 hp
    refine ⟨Int.mul_nonneg hp0 hb.1, ?_⟩
    have := Int.mul_le_mul hp (show b ≤ 4294967295 by omega) hb.1 (by decide : (0 : Int) ≤ 4294967295)
    exact Int.le_trans this (by decide)
  have h0 := bound (a / 4294967296) (by omega) (by omega)
  have h1 := bound (a % 4294967296) (by omega) (by omega)
  have e : a * b = a % 4294967296 * b + a / 4294967296 * b * 4294967296 := by
    have : a = a % 4294967296 + 4294967296 * (a / 4294967296) := by omega
    conv => lhs; rw [this, Int.add_mul, Int.mul_assoc, Int.mul_comm 4294967296]
  unfold fmul
  rw [e]
  generalize a / 4294967296 * b = x at *
  generalize a % 4294967296 * b = y at *
  have ex : IntKind.u64.wrap x = x := by rw [IntKind.wrap_u64]; omega
  have ey : IntKind.u64.wrap y = y := by rw [IntKind.wrap_u64]; omega
  rw [ex, ey]
  unfold fadd fred
  omega

set_option maxHeartbeats 400000 in
theorem half_any (a b : Int) (w : World) (ha : Gold.El a) (hb : 0 ≤ b ∧ b < 4294967296) :
    Calls Tryd.prog 66 #[.int .u64 a, .int .u64 b] w fun e w' => e = .returned (.int .u64 (fmul a b)) ∧ w' = w := by
  have ha' := ha
  have hb' := hb
  unfold Gold.El at ha
  go_enter Tryd.func66, Tryd.ntmps66
  go_wp2_with (first
    | (go_at_call 72; refine (rreduce_any _ _ (wrap_range _)).mono ?_; rintro e w' ⟨rfl, rfl⟩)
    | (go_at_call 67; refine (shift_any _ _ (El_fred _)).mono ?_; rintro e w' ⟨rfl, rfl⟩)
    | (go_at_call 53; refine (radd_any _ _ _ (El_fred _) (El_fmul _ _)).mono ?_; rintro e w' ⟨rfl, rfl⟩))
  go_ret
  exact ⟨ret_int (half_eq a b ha' hb'), rfl⟩

theorem rmul_eq (a b : Int) : fadd (fmul a (b % 4294967296)) (fmul (fmul a (b / 4294967296)) 4294967296) = fmul a b := by
  have e : a * b = a * (b % 4294967296) + a * (b / 4294967296) * 4294967296 := by
    rw [Int.mul_assoc, ← Int.mul_add]
    congr 1
    omega
  unfold fadd fmul
  rw [e]
  generalize a * (b / 4294967296) = x
  generalize a * (b % 4294967296) = y
  omega

set_option maxHeartbeats 400000 in
theorem rmul_any (a b : Int) (w : World) (ha : Gold.El a) (hb : Gold.El b) :
    Calls Tryd.prog 54 #[.int .u64 a, .int .u64 b] w fun e w' => e = .returned (.int .u64 (fmul a b)) ∧ w' = w := by
  have ha' := ha
  unfold Gold.El at ha hb
  go_enter Tryd.func54, Tryd.ntmps54
  go_wp2_with (first
    | (go_at_call 66; refine (half_any _ _ _ ha' (by omega)).mono ?_; rintro e w' ⟨rfl, rfl⟩)
    | (go_at_call 67; refine (shift_any _ _ (El_fmul _ _)).mono ?_; rintro e w' ⟨rfl, rfl⟩)
    | (go_at_call 53; refine (radd_any _ _ _ (El_fmul _ _) (El_fmul _ _)).mono ?_; rintro e w' ⟨rfl, rfl⟩))
  go_ret
  exact ⟨ret_int (rmul_eq a b), rfl⟩

end Go.Proofs.YtopicjdmajlndaaDoor.J

namespace Go.Proofs.YtopicjdmajlndaaDoor.J
set_option linter.unusedVariables false
set_option linter.unusedSimpArgs false
set_option linter.unusedSectionVars false
set_option maxRecDepth 8000
open Go.RowKit Gold

/-- the four captured variables of Inv, a block each: last, rest, lastFactor, factor -/
structure Four (B : Nat) (l r g f : Int) (w : World) : Prop where
  l : w.heap[B]? = some (.cells #[.int .u64 l] 50 (0, 0))
  r : w.heap[B + 1]? = some (.cells #[.int .u64 r] 50 (0, 0))
  g : w.heap[B + 1 + 1]? = some (.cells #[.int .u64 g] 50 (0, 0))
  f : w.heap[B + 1 + 1 + 1]? = some (.cells #[.int .u64 f] 50 (0, 0))

theorem Four.drew {B : Nat} {l r g f : Int} {w : World} (h : Four B l r g f w) : Four B l r g f w.drew := ⟨h.l, h.r, h.g, h.f⟩
theorem Four.fl {B : Nat} {l r g f : Int} {w : World} (h : Four B l r g f w) : w.frozen? ⟨B, 0, none⟩ = false := free_of_one h.l
theorem Four.fr {B : Nat} {l r g f : Int} {w : World} (h : Four B l r g f w) : w.frozen? ⟨B + 1, 0, none⟩ = false := free_of_one h.r
end Go.Proofs.YtopicjdmajlndaaDoor.J


namespace Go.Proofs.YtopicjdmajlndaaDoor.J
set_option linter.unusedVariables false
set_option linter.unusedSimpArgs false
set_option linter.unusedSectionVars false
set_option maxRecDepth 8000
open Go.RowKit

theorem cell_keep {W W1 : World} {a : Addr} {v : Value} (h : W.cell? a = some v) (hb : Below W.heap.size W W1) : W1.cell? a = some v := (hb.cell (World.block_lt_of_cell? W a h)).trans h
theorem free_keep {W W1 : World} {a : Addr} {v : Value} (h : W.cell? a = some v) (hf : W.frozen? a = false) (hb : Below W.heap.size W W1) : W1.frozen? a = false := (hb.frozen (World.block_lt_of_cell? W a h)).trans hf
theorem cell_after {W W1 : World} {a : Addr} {v : Value} (hb : Below W.heap.size W W1) (h : W.cell? a = some v) : W1.cell? a = some v := cell_keep h hb
theorem free_after {W W1 : World} {a : Addr} {v : Value} (hb : Below W.heap.size W W1) (h : W.cell? a = some v) (hf : W.frozen? a = false) : W1.frozen? a = false := free_keep h hf hb
theorem heap_keep {W W1 : World} {b : Nat} {o : Obj} (h : W.heap[b]? = some o) (hb : Below W.heap.size W W1) : W1.heap[b]? = some o := (hb.block b (Array.getElem?_eq_some_iff.1 h).1).trans h
theorem heap_new (W : World) (o : Obj) : (W.alloc o).heap[W.heap.size]? = some o := World.alloc_heap_new W o
theorem heap_old {W : World} {b : Nat} {o : Obj} (o' : Obj) (h : W.heap[b]? = some o) : (W.alloc o').heap[b]? = some o := (Below.heap_alloc W o' b (Array.getElem?_eq_some_iff.1 h).1).trans h

/-- block b holds two cells -/
def Two (W : World) (b : Nat) (t : TypeId) (u v : Value) : Prop := W.heap[b]? = some (.cells #[u, v] t (0, 0))
/-- block b holds one cell -/
def One (W : World) (b : Nat) (t : TypeId) (u : Value) : Prop := W.heap[b]? = some (.cells #[u] t (0, 0))
section
variable {W W1 : World} {b : Nat} {t : TypeId} {u v : Value}
theorem Two.c0 (h : Two W b t u v) : W.cell? ⟨b, 0, none⟩ = some u := by simp [World.cell?, show W.heap[b]? = _ from h]
theorem Two.c1 (h : Two W b t u v) : W.cell? ⟨b, 1, none⟩ = some v := by simp [World.cell?, show W.heap[b]? = _ from h]
theorem Two.f0 (h : Two W b t u v) : W.frozen? ⟨b, 0, none⟩ = false := by simp [World.frozen?, show W.heap[b]? = _ from h]
theorem Two.f1 (h : Two W b t u v) : W.frozen? ⟨b, 1, none⟩ = false := by simp [World.frozen?, show W.heap[b]? = _ from h]
theorem Two.lt (h : Two W b t u v) : b < W.heap.size := (Array.getElem?_eq_some_iff.1 h).1
theorem Two.keep (h : Two W b t u v) (hb : Below W.heap.size W W1) : Two W1 b t u v := heap_keep h hb
theorem Two.alloc (h : Two W b t u v) (o : Obj) : Two (W.alloc o) b t u v := heap_old o h
theorem Two.new (W : World) (t : TypeId) (u v : Value) : Two (W.alloc (.cells #[u, v] t)) W.heap.size t u v := heap_new W _
theorem Two.drew (h : Two W b t u v) : Two W.drew b t u v := h
theorem Two.far (h : Two W b t u v) {a : Addr} (x : Value) (e : b ≠ a.block) : Two (W.setCell a x) b t u v := (Below.heap_setCell W a x b e).trans h
theorem heap_setCell_at {W : World} {b i : Nat} {cs : Array Value} {t : TypeId} {f : Nat × Nat} (h : W.heap[b]? = some (.cells cs t f)) (x : Value) :
    (W.setCell ⟨b, i, none⟩ x).heap[b]? = some (.cells (cs.setIfInBounds i x) t f) := by
  obtain ⟨hlt, hk⟩ := Array.getElem?_eq_some_iff.1 h
  show (W.heap.modify b _)[b]? = _
  rw [Array.getElem?_eq_getElem (by rw [Array.size_modify]; exact hlt), Array.getElem_modify_self, hk]
  rfl
theorem Two.set0 (h : Two W b t u v) (x : Value) : Two (W.setCell ⟨b, 0, none⟩ x) b t x v := heap_setCell_at h x
theorem Two.set1 (h : Two W b t u v) (x : Value) : Two (W.setCell ⟨b, 1, none⟩ x) b t u x := heap_setCell_at h x
theorem One.c (h : One W b t u) : W.cell? ⟨b, 0, none⟩ = some u := cell_of_one h
theorem One.f (h : One W b t u) : W.frozen? ⟨b, 0, none⟩ = false := free_of_one h
theorem One.lt (h : One W b t u) : b < W.heap.size := (Array.getElem?_eq_some_iff.1 h).1
theorem One.keep (h : One W b t u) (hb : Below W.heap.size W W1) : One W1 b t u := heap_keep h hb
theorem One.alloc (h : One W b t u) (o : Obj) : One (W.alloc o) b t u := heap_old o h
theorem One.new (W : World) (t : TypeId) (u : Value) : One (W.alloc (.cells #[u] t)) W.heap.size t u := heap_new W _
theorem One.drew (h : One W b t u) : One W.drew b t u := h
theorem One.far (h : One W b t u) {a : Addr} (x : Value) (e : b ≠ a.block) : One (W.setCell a x) b t u := (Below.heap_setCell W a x b e).trans h
theorem One.set (h : One W b t u) (x : Value) : One (W.setCell ⟨b, 0, none⟩ x) b t x := heap_setCell_at h x
end

section
variable {P : Program} {c : Code} {Q : Exit → Act → World → Prop} {a : Act} {w : World} {o0 o1 o2 o3 : Obj}
theorem wp_named1 (h : ∀ W, Below w.heap.size w W → W.heap[w.heap.size]? = some o0 → w.heap.size < W.heap.size → c.wp P Q a W) : c.wp P Q a (w.alloc o0) :=
  h _ ((Below.refl _ _).alloc (Nat.le_refl _) _) (heap_new _ _) (by simp)
theorem wp_named2 (h : ∀ W, Below w.heap.size w W → W.heap[w.heap.size]? = some o0 → W.heap[w.heap.size + 1]? = some o1 → w.heap.size + 1 < W.heap.size → c.wp P Q a W) : c.wp P Q a ((w.alloc o0).alloc o1) :=
  h _ (((Below.refl _ _).alloc (Nat.le_refl _) _).alloc (by simp) _) (heap_old _ (heap_new _ _)) (by simpa using heap_new (w.alloc o0) o1) (by simp)
theorem wp_named3 (h : ∀ W, Below w.heap.size w W → W.heap[w.heap.size]? = some o0 → W.heap[w.heap.size + 1]? = some o1 → W.heap[w.heap.size + 1 + 1]? = some o2 → w.heap.size + 1 + 1 < W.heap.size → c.wp P Q a W) : c.wp P Q a (((w.alloc o0).alloc o1).alloc o2) :=
  h _ ((((Below.refl _ _).alloc (Nat.le_refl _) _).alloc (by simp) _).alloc (by simp; omega) _) (heap_old _ (heap_old _ (heap_new _ _))) (heap_old _ (by simpa using heap_new (w.alloc o0) o1)) (by simpa using heap_new ((w.alloc o0).alloc o1) o2) (by simp)
section
variable {f : FuncId} {args : Array Value} {R : Ending → World → Prop}
theorem calls_named1 (h : ∀ W, Below w.heap.size w W → W.heap[w.heap.size]? = some o0 → w.heap.size < W.heap.size → Calls P f args W R) : Calls P f args (w.alloc o0) R :=
  h _ ((Below.refl _ _).alloc (Nat.le_refl _) _) (heap_new _ _) (by simp)
theorem calls_named3 (h : ∀ W, Below w.heap.size w W → W.heap[w.heap.size]? = some o0 → W.heap[w.heap.size + 1]? = some o1 → W.heap[w.heap.size + 1 + 1]? = some o2 → w.heap.size + 1 + 1 < W.heap.size → Calls P f args W R) : Calls P f args (((w.alloc o0).alloc o1).alloc o2) R :=
  h _ ((((Below.refl _ _).alloc (Nat.le_refl _) _).alloc (by simp) _).alloc (by simp; omega) _) (heap_old _ (heap_old _ (heap_new _ _))) (heap_old _ (by simpa using heap_new (w.alloc o0) o1)) (by simpa using heap_new ((w.alloc o0).alloc o1) o2) (by simp)
end
end

end Go.Proofs.YtopicjdmajlndaaDoor.J

namespace Go.Proofs.YtopicjdmajlndaaDoor.J
set_option linter.unusedVariables false
set_option linter.unusedSimpArgs false
set_option linter.unusedSectionVars false
set_option maxRecDepth 8000
open Go.RowKit Gold

theorem raddF (a b : F) (w : World) : Calls Tryd.prog 53 #[.int .u64 (vF a), .int .u64 (vF b)] w fun e w' => e = .returned (.int .u64 (vF (a + b))) ∧ w' = w :=
  vF_add a b ▸ radd_any (vF a) (vF b) w (El_vF a) (El_vF b)
theorem rnegF (a : F) (w : World) : Calls Tryd.prog 76 #[.int .u64 (vF a)] w fun e w' => e = .returned (.int .u64 (vF (-a))) ∧ w' = w :=
  vF_neg a ▸ rneg_any (vF a) w (El_vF a)
theorem rmulF (a b : F) (w : World) : Calls Tryd.prog 54 #[.int .u64 (vF a), .int .u64 (vF b)] w fun e w' => e = .returned (.int .u64 (vF (a * b))) ∧ w' = w :=
  vF_mul a b ▸ rmul_any (vF a) (vF b) w (El_vF a) (El_vF b)
theorem rmul7F (b : F) (w : World) : Calls Tryd.prog 54 #[.int .u64 7, .int .u64 (vF b)] w fun e w' => e = .returned (.int .u64 (vF (7 * b))) ∧ w' = w :=
  rmulF 7 b w
theorem rreduceF (a : Int) (w : World) (h : U64 a) : Calls Tryd.prog 72 #[.int .u64 a] w fun e w' => e = .returned (.int .u64 (vF (toF a))) ∧ w' = w :=
  vF_toF a ▸ rreduce_any a w h
theorem rfromIntF (a : Int) (w : World) (h0 : -9223372036854775808 ≤ a) (h1 : a < 9223372036854775808) : Calls Tryd.prog 74 #[.int .i64 a] w fun e w' => e = .returned (.int .u64 (vF (toF a))) ∧ w' = w :=
  vF_toF a ▸ rfromInt_any a w h0 h1
end Go.Proofs.YtopicjdmajlndaaDoor.J

namespace Go.Proofs.YtopicjdmajlndaaDoor.J
set_option linter.unusedVariables false
set_option linter.unusedSimpArgs false
set_option linter.unusedSectionVars false
set_option maxRecDepth 8000
open Go.RowKit

section
variable {P : Program} {ops : Array Oper} {md : Region.Mode} {C : World → Prop}

/-- the first f operations that come up lie before n, are quiet in the class, and then L holds -/
def headQ (P : Program) (md : Region.Mode) (ops : Array Oper) (C : World → Prop) (n : Nat) (L : Array Bool → Act → Prop) : Nat → Array Bool → Act → Prop
  | 0, listed, a => L listed a
  | f + 1, listed, a => Region.ready md ops listed ≠ [] ∧ ∀ i, i ∈ Region.ready md ops listed → i < n ∧ qOp P ops C i (headQ P md ops C n L f (listed.setIfInBounds i true)) a

theorem headQ_any {n g : Nat} {L : Array Bool → Act → Prop} {Q : Exit → Act → World → Prop} (hL : ∀ listed a w, C w → L listed a → wpAny P md ops Q g listed a w) (f : Nat) :
    ∀ (listed : Array Bool) (a : Act) (w : World), C w → headQ P md ops C n L f listed a → wpAny P md ops Q (f + g) listed a w := by
  induction f with
  | zero => intro listed a w hw h; rw [Nat.zero_add]; exact hL _ _ _ hw h
  | succ f ih =>
    intro listed a w hw h
    rw [Nat.succ_add]
    exact ⟨fun e => absurd e h.1, fun i hi => wpOp_of_qOp hw (fun a' w' hw' => ih _ a' w' hw') (h.2 i hi).2⟩

/-- what is ready in the head lies in the head -/
theorem ready_head {n i : Nat} {listed : Array Bool} (hs : Region.sinkB md ops n = true) (hc : Region.chainB md ops n = true) (hn : n < ops.size) (inv : HeadInv md ops n listed) (hin : i < n) (hun : listed.getD i true = false)
    {j : Nat} (hj : j ∈ Region.ready md ops listed) : j < n :=
  Nat.lt_of_not_le fun h => tail_waits hs hc hn inv _ i rfl hin hun j h hj

theorem headQ_take {n i : Nat} {oi : Oper} {v : Value} {L : Array Bool → Act → Prop} (hi : ops[i]? = some oi) (hsel : ∀ (j : Nat) (o : Oper) cs b, ops[j]? = some o → o.op ≠ .select cs b)
    (hs : Region.sinkB md ops n = true) (hc : Region.chainB md ops n = true) (hn : n < ops.size) (hin : i < n) (hdone : ∀ listed a, L listed a → ∀ j, j ∈ Region.ready md ops listed → n ≤ j) (f : Nat) :
    ∀ (listed : Array Bool) (a : Act), HeadInv md ops n listed →
      (∀ j oj, ops[j]? = some oj → j ≠ i → listed.getD j true = false → (∀ e ∈ oj.after, Region.binds md e = true → e.on ≠ i) → oi.apart ops oj = true) →
      i ∈ Region.ready md ops listed → YieldsIn P ops C oi v a → headQ P md ops C n L f (listed.setIfInBounds i true) (a.put oi.dst v) → headQ P md ops C n L (f + 1) listed a := by
  induction f with
  | zero =>
    intro listed a inv _ hr hy H
    refine ⟨List.ne_nil_of_mem hr, fun j hj => ?_⟩
    have hjn := ready_head hs hc hn inv hin (mem_ready.1 hr).1 hj
    by_cases hji : j = i
    · subst hji
      exact ⟨hjn, hy.qOp hi H⟩
    · exact absurd (hdone _ _ H j (ready_mono hj hji)) (Nat.not_le.2 hjn)
  | succ f ih =>
    intro listed a inv hfree hr hy H
    have hun := (mem_ready.1 hr).1
    refine ⟨List.ne_nil_of_mem hr, fun j hj => ?_⟩
    have hjn := ready_head hs hc hn inv hin hun hj
    by_cases hji : j = i
    · subst hji
      exact ⟨hjn, hy.qOp hi H⟩
    refine ⟨hjn, ?_⟩
    obtain ⟨hjun, oj, hoj, hall⟩ := mem_ready.1 hj
    have hnot : ∀ e ∈ oj.after, Region.binds md e = true → e.on ≠ i := by
      intro e he hb heq
      have := hall e he hb
      rw [heq, getD_both hun] at this
      cases this
    refine qOp_mono (fun a' hK => ?_) (qOp_put hoj (hfree j oj hoj hji hjun hnot) (fun cs b => hsel i oi cs b hi) (fun cs b => hsel j oj cs b hoj) hy (H.2 j (ready_mono hj hji)).2)
    refine ih (listed.setIfInBounds j true) a' (inv.set hj hjn) (fun k ok hk hki hku hkn => ?_) (ready_mono hr (Ne.symm hji)) hK.1 ?_
    · refine hfree k ok hk hki ?_ hkn
      by_cases hjk : j = k
      · rw [← hjk]; exact hjun
      · rw [getD_set_ne true hjk] at hku; exact hku
    · rw [Array.setIfInBounds_comm _ _ hji]
      exact hK.2

theorem headQ_lex {n g : Nat} {Lq : Act → Prop} (hsel : Region.noSelect ops = true) (hs : Region.sinkB md ops n = true) (hc : Region.chainB md ops n = true) (hn : n < ops.size) :
    ∀ (l : List Oper) (k : Nat) (listed : Array Bool) (a : Act), (∀ j, j < l.length → l[j]? = ops[k + j]?) → k + l.length = n → HeadInv md ops n listed → Region.lexHead md ops g l.length k listed = true →
      wpQuiet P ops C Lq l a → headQ P md ops C n (fun listed' a' => Region.seqB md ops g n listed' = true ∧ Lq a') l.length listed a
  | [], k, listed, a, _, hk, _, hB, h => by
    obtain rfl : k = n := by simpa using hk
    exact ⟨by simpa [Region.lexHead] using hB, h⟩
  | o :: l, k, listed, a, hl, hk, inv, hB, h => by
    have h0 : ops[k]? = some o := by simpa using (hl 0 (by simp)).symm
    simp only [List.length_cons, Region.lexHead, Bool.and_eq_true] at hB hk
    have hkn : k < n := by omega
    have hr : k ∈ Region.ready md ops listed := by simpa using hB.1.1
    have hq : qOp P ops C k (wpQuiet P ops C Lq l) a := by unfold qOp; simp only [h0]; exact h
    obtain ⟨v, hy, hK⟩ := yieldsIn_of_qOp h0 hq
    refine headQ_take h0 (Region.noSelect_spec hsel) hs hc hn hkn (fun listed' a' hL => seqB_ready hL.1) l.length listed a inv (Region.free_spec h0 hB.1.2) hr hy ?_
    exact headQ_lex hsel hs hc hn l (k + 1) _ _ (fun j hj => by have := hl (j + 1) (by simp; omega); simpa [Nat.add_assoc, Nat.add_comm 1 j] using this) (by omega) (inv.set hr hkn) hB.2 hK

/-- the head in the order of the text, the tail behind it -/
theorem wp_class_tail {id : Nat} {Q : Exit → Act → World → Prop} {a : Act} {w : World} {l : List Oper} (C : World → Prop) (n : Nat) (hm : P.follows .mixedOrders = true) (hB : Region.lexTailB .any l.toArray n = true) (hC : C w.drew)
    (h : wpQuiet P l.toArray C (fun a' => ∀ w', C w' → wpList P l.toArray Q (l.drop n) a' w') (l.take n) a) : (Code.region id l.toArray true).wp P Q a w := by
  simp only [Region.lexTailB, Bool.and_eq_true, decide_eq_true_eq] at hB
  obtain ⟨⟨⟨⟨hsel, hn⟩, hs⟩, hc⟩, hlex⟩ := hB
  have hn' : n < l.length := by simpa using hn
  have htl : (l.take n).length = n := by simp; omega
  have hdl : (l.drop n).length = l.toArray.size - n := by simp
  have inv0 : HeadInv .any l.toArray n (Array.replicate l.toArray.size false) :=
    ⟨by simp, fun j oj _ hl => (by rw [getD_replicate_false] at hl; cases hl), fun t _ ht => getD_in (by simpa using ht) (getD_replicate_false _ _)⟩
  have H := headQ_lex (md := .any) (g := l.toArray.size - n) hsel hs hc hn (l.take n) 0 _ a (fun j hj => by
    rw [htl] at hj
    simp [hj]) (by simpa using htl) inv0 (by rw [htl]; exact hlex) h
  refine wp_region_any hm ?_
  have K := headQ_any (Q := Q) (g := l.toArray.size - n) (fun listed a' w' hw' hL => by
    have := wpAny_of_seq (md := .any) (Q' := Q) (l.drop n) n listed a' w' (fun j => by simp [List.getElem?_drop]) (by rw [hdl]; exact hL.1) (hL.2 w' hw')
    rwa [hdl] at this) _ _ _ _ hC H
  rwa [htl, show n + (l.toArray.size - n) = l.toArray.size by omega] at K
end

/-- the worlds in which nothing of w has changed -/
def Later (w : World) : Type := { w' : World // Below w.heap.size w w' }
instance {w : World} : Nonempty (Later w) := ⟨⟨w, Below.refl _ _⟩⟩
/-- the world itself -/
def Later.at {w : World} (x : Later w) : World := x.1
theorem Later.below {w : World} (x : Later w) : Below w.heap.size w x.at := x.2
theorem Later.size {w : World} (x : Later w) : w.heap.size ≤ x.at.heap.size := x.2.size
theorem Later.cell {w : World} {a : Addr} {v : Value} (h : w.cell? a = some v) (x : Later w) : x.at.cell? a = some v := cell_keep h x.2
theorem Later.free {w : World} {a : Addr} {v : Value} (h : w.cell? a = some v) (hf : w.frozen? a = false) (x : Later w) : x.at.frozen? a = false := free_keep h hf x.2
theorem Later.one {w : World} {b : Nat} {t : TypeId} {u : Value} (h : One w b t u) (x : Later w) : One x.at b t u := h.keep x.2

section
variable {P : Program} {w : World} {f : FuncId} {args : Array Value} {v : Value}
/-- a callee that only adds to memory -/
theorem Calls.later {x : Later w} (h : Calls P f args x.at fun e w' => e = .returned v ∧ Below x.at.heap.size x.at w') : Calls P f args x.at fun e w'' => e = .returned v ∧ ∃ y : Later w, w'' = y.at :=
  h.mono fun _ _ ⟨he, hb⟩ => ⟨he, ⟨⟨_, x.2.trans (hb.mono x.2.size)⟩, rfl⟩⟩
/-- a callee that leaves memory alone -/
theorem Calls.later_same {x : Later w} (h : Calls P f args x.at fun e w' => e = .returned v ∧ w' = x.at) : Calls P f args x.at fun e w'' => e = .returned v ∧ ∃ y : Later w, w'' = y.at :=
  h.mono fun _ _ ⟨he, hw⟩ => ⟨he, ⟨x, hw⟩⟩

theorem wp_later_tail {id : Nat} {Q : Exit → Act → World → Prop} {a : Act} {l : List Oper} (n : Nat) (hm : P.follows .mixedOrders = true) (hB : Region.lexTailB .any l.toArray n = true)
    (h : wpQuiet P l.toArray (fun w' => ∃ x : Later w, w' = x.at) (fun a' => ∀ x : Later w, wpList P l.toArray Q (l.drop n) a' x.at) (l.take n) a) : (Code.region id l.toArray true).wp P Q a w := by
  refine wp_class_tail (fun w' => ∃ x : Later w, w' = x.at) n hm hB ⟨⟨w.drew, (Below.refl _ _).drew⟩, rfl⟩ ?_
  have e : (fun a' => ∀ x : Later w, wpList P l.toArray Q (l.drop n) a' x.at) = (fun a' => ∀ w', (∃ x : Later w, w' = x.at) → wpList P l.toArray Q (l.drop n) a' w') := by
    funext a'
    exact propext ⟨fun h w' ⟨x, hx⟩ => hx ▸ h x, fun h x => h _ ⟨x, rfl⟩⟩
  rw [e] at h
  exact h
end

end Go.Proofs.YtopicjdmajlndaaDoor.J

namespace Go.Proofs.YtopicjdmajlndaaDoor.J
set_option linter.unusedVariables false
set_option linter.unusedSimpArgs false
set_option linter.unusedSectionVars false
set_option maxRecDepth 8000
open Go.RowKit Gold

instance : DecidableEq E2 := fun x y => decidable_of_iff (x.A = y.A ∧ x.B = y.B) E2.ext_iff'.symm
/-- the element of two integers -/
def toE (a b : Int) : E2 := ⟨toF a, toF b⟩
theorem ret_E2 {a b : F} {x : E2} (hA : a = x.A) (hB : b = x.B) : Ending.returned (.agg #[.int .u64 (vF a), .int .u64 (vF b)]) = .returned (.agg #[.int .u64 (vF x.A), .int .u64 (vF x.B)]) := by rw [hA, hB]

end Go.Proofs.YtopicjdmajlndaaDoor.J

namespace Go.Proofs.YtopicjdmajlndaaDoor.J
set_option linter.unusedVariables false
set_option linter.unusedSimpArgs false
set_option linter.unusedSectionVars false
set_option maxRecDepth 8000
open Go.RowKit

/-- what the one walk leans on -/
structure LexOK (ops : Array Oper) : Prop where
  sel : Region.noSelect ops = true
  edge : ∀ (j : Nat) (o : Oper), ops[j]? = some o → ∀ e, e ∈ o.after → Region.binds .any e = true → e.on < j
  free : ∀ (k j : Nat) (ok oj : Oper), k < j → ops[k]? = some ok → ops[j]? = some oj → (∀ e, e ∈ oj.after → Region.binds .any e = true → e.on ≠ k) → ok.apart ops oj = true

theorem wpAnyQ_of_lex {P : Program} {ops : Array Oper} {C : World → Prop} {Q : Act → Prop} (hx : LexOK ops) : ∀ (l : List Oper) (k : Nat) (listed : Array Bool) (a : Act),
    (∀ j, l[j]? = ops[k + j]?) → k + l.length = ops.size → listed.size = ops.size → (∀ i, i < k → listed.getD i false = true) → (∀ i, k ≤ i → i < ops.size → listed.getD i true = false) →
    wpQuiet P ops C Q l a → wpAnyQ P .any ops C Q l.length listed a
  | [], k, listed, a, _, hk, hz, h1, _, h => by
    refine ⟨?_, h⟩
    refine List.eq_nil_iff_forall_not_mem.2 fun i hi => ?_
    obtain ⟨h0, o, ho, _⟩ := mem_ready.1 hi
    have hlt := (Array.getElem?_eq_some_iff.1 ho).1
    have h3 := h1 i (by simp at hk; omega)
    rw [getD_both h0] at h3
    cases h3
  | o :: l, k, listed, a, hl, hk, hz, h1, h2, h => by
    have h0 : ops[k]? = some o := by simpa using (hl 0).symm
    have hlt : k < ops.size := (Array.getElem?_eq_some_iff.1 h0).1
    have hst : qOp P ops C k (wpQuiet P ops C Q l) a := by unfold qOp; simp only [h0]; exact h
    obtain ⟨v, hy, hK⟩ := yieldsIn_of_qOp h0 hst
    refine wpAnyQ_first h0 (Region.noSelect_spec hx.sel) l.length listed a ?_ (mem_ready.2 ⟨h2 k (Nat.le_refl _) hlt, o, h0, fun e he hb => h1 _ (hx.edge k o h0 e he hb)⟩) hy ?_
    · intro j oj hj hne hun hno
      refine hx.free k j o oj ?_ h0 hj hno
      rcases Nat.lt_trichotomy k j with h' | h' | h'
      · exact h'
      · exact absurd h'.symm hne
      · have h3 := h1 j h'
        rw [getD_both hun] at h3
        cases h3
    · refine wpAnyQ_of_lex hx l (k + 1) _ _ (fun j => by have := hl (j + 1); simpa [Nat.add_assoc, Nat.add_comm 1 j] using this) (by simp at hk; omega) (by simpa using hz) ?_ ?_ hK
      · intro i hi
        by_cases e : i = k
        · subst e
          simp [hz, hlt]
        · exact getD_set_true (h1 i (by omega))
      · intro i hi hi'
        rw [getD_set_ne true (by omega)]
        exact h2 i (by omega) hi'

theorem wp_later_lex {P : Program} {id : Nat} {Q : Exit → Act → World → Prop} {a : Act} {w : World} {l : List Oper} (hm : P.follows .mixedOrders = true) (hx : LexOK l.toArray)
    (h : wpQuiet P l.toArray (fun w' => ∃ x : Later w, w' = x.at) (fun a' => ∀ x : Later w, Q .normal a' x.at) l a) : (Code.region id l.toArray true).wp P Q a w := by
  refine wp_region_any hm (wpAny_of_quiet (C := fun w' => ∃ x : Later w, w' = x.at) (Q := fun a' => ∀ x : Later w, Q .normal a' x.at) (fun a' w' hw' h => by obtain ⟨x, rfl⟩ := hw'; exact h x) _ _ _ _ ⟨⟨w.drew, (Below.refl _ _).drew⟩, rfl⟩ ?_)
  have := wpAnyQ_of_lex (P := P) hx l 0 (Array.replicate l.toArray.size false) a (by simp) (by simp) (by simp) (by intro i hi; omega) (fun i _ hi => getD_in (by simpa using hi) (getD_replicate_false _ _)) h
  simpa using this

def dstMask (o : Oper) : Nat := match o.dst with | some d => Nat.shiftLeft 1 d | none => 0
def lookMask (ops : Array Oper) (o : Oper) : Nat := (o.looksAt ops).foldr (fun t m => Nat.lor (Nat.shiftLeft 1 t) m) 0
def afterMask (o : Oper) : Nat := o.after.toList.foldr (fun e m => match Region.binds .any e with | true => Nat.lor (Nat.shiftLeft 1 e.on) m | false => m) 0
/-- op number k (masks D, R) before op number j (masks A, R', D') -/
def pairOK (A R' D' : Nat) (k D R : Nat) : Bool :=
  Nat.beq (Nat.mod (Nat.shiftRight A k) 2) 1 || (Nat.beq (Nat.land D R') 0 && (Nat.beq (Nat.land D D') 0 && Nat.beq (Nat.land D' R) 0))
/-- all earlier ones, the last first -/
def prevOK (A R' D' : Nat) : List (Nat × Nat) → Bool
  | [] => true
  | (D, R) :: l => pairOK A R' D' l.length D R && prevOK A R' D' l
def lexN (ops : Array Oper) : List Oper → List (Nat × Nat) → Bool
  | [], _ => true
  | o :: l, prev => Nat.beq (Nat.shiftRight (afterMask o) prev.length) 0 && (prevOK (afterMask o) (lookMask ops o) (dstMask o) prev && lexN ops l ((dstMask o, lookMask ops o) :: prev))

theorem testBit_one (d i : Nat) : (Nat.shiftLeft 1 d).testBit i = decide (d = i) := by
  show (1 <<< d).testBit i = _
  rw [Nat.one_shiftLeft, Nat.testBit_two_pow]
theorem mem_lookMask {ops : Array Oper} {o : Oper} {t : Nat} (h : t ∈ o.looksAt ops) : (lookMask ops o).testBit t = true := by
  unfold lookMask
  generalize o.looksAt ops = l at h
  induction l with
  | nil => cases h
  | cons x l ih =>
    show (Nat.lor (Nat.shiftLeft 1 x) _).testBit t = true
    rw [show ∀ a b : Nat, Nat.lor a b = a ||| b from fun _ _ => rfl, Nat.testBit_or, testBit_one]
    rcases List.mem_cons.1 h with rfl | h
    · simp
    · rw [ih h, Bool.or_true]
theorem dstMask_bit {o : Oper} {d : Nat} (h : o.dst = some d) : (dstMask o).testBit d = true := by
  unfold dstMask
  simp only [h]
  rw [testBit_one]
  simp
theorem mem_afterMask {o : Oper} {e : Edge} (h : e ∈ o.after) (hb : Region.binds .any e = true) : (afterMask o).testBit e.on = true := by
  unfold afterMask
  have h' : e ∈ o.after.toList := by simpa using h
  generalize o.after.toList = l at h'
  induction l with
  | nil => cases h'
  | cons x l ih =>
    rw [List.foldr_cons]
    rcases List.mem_cons.1 h' with rfl | h'
    · rw [hb]
      show (Nat.lor (Nat.shiftLeft 1 e.on) _).testBit e.on = true
      rw [show ∀ a b : Nat, Nat.lor a b = a ||| b from fun _ _ => rfl, Nat.testBit_or, testBit_one]
      simp
    · cases Region.binds .any x with
      | true =>
        show (Nat.lor (Nat.shiftLeft 1 x.on) _).testBit e.on = true
        rw [show ∀ a b : Nat, Nat.lor a b = a ||| b from fun _ _ => rfl, Nat.testBit_or, ih h']
        simp
      | false => exact ih h'
theorem afterMask_mem {o : Oper} {k : Nat} (h : (afterMask o).testBit k = true) : ∃ e, e ∈ o.after ∧ Region.binds .any e = true ∧ e.on = k := by
  unfold afterMask at h
  suffices H : ∀ l : List Edge, (l.foldr (fun e m => match Region.binds .any e with | true => Nat.lor (Nat.shiftLeft 1 e.on) m | false => m) 0).testBit k = true → ∃ e, e ∈ l ∧ Region.binds .any e = true ∧ e.on = k by
    obtain ⟨e, he, h1, h2⟩ := H _ h
    exact ⟨e, by simpa using he, h1, h2⟩
  intro l
  induction l with
  | nil => intro h; simp at h
  | cons x l ih =>
    intro h
    rw [List.foldr_cons] at h
    cases hx : Region.binds .any x with
    | true =>
      rw [hx] at h
      have h : (Nat.lor (Nat.shiftLeft 1 x.on) (l.foldr (fun e m => match Region.binds .any e with | true => Nat.lor (Nat.shiftLeft 1 e.on) m | false => m) 0)).testBit k = true := h
      rw [show ∀ a b : Nat, Nat.lor a b = a ||| b from fun _ _ => rfl, Nat.testBit_or, testBit_one, Bool.or_eq_true] at h
      rcases h with h | h
      · exact ⟨x, by simp, hx, by simpa using h⟩
      · obtain ⟨e, he, h1⟩ := ih h
        exact ⟨e, List.mem_cons_of_mem _ he, h1⟩
    | false =>
      rw [hx] at h
      obtain ⟨e, he, h1⟩ := ih h
      exact ⟨e, List.mem_cons_of_mem _ he, h1⟩
theorem land_zero {a b t : Nat} (h : Nat.beq (Nat.land a b) 0 = true) (ha : a.testBit t = true) : b.testBit t = false := by
  have h1 : a &&& b = 0 := Nat.eq_of_beq_eq_true h
  have h2 : (a &&& b).testBit t = false := by rw [h1]; simp
  rw [Nat.testBit_and, ha] at h2
  simpa using h2
theorem pairOK_spec {ops : Array Oper} {ok oj : Oper} {k : Nat} (h : pairOK (afterMask oj) (lookMask ops oj) (dstMask oj) k (dstMask ok) (lookMask ops ok) = true)
    (hno : ∀ e, e ∈ oj.after → Region.binds .any e = true → e.on ≠ k) : ok.apart ops oj = true := by
  unfold pairOK at h
  rw [Bool.or_eq_true] at h
  rcases h with h | h
  · have h1 : Nat.mod (Nat.shiftRight (afterMask oj) k) 2 = 1 := Nat.eq_of_beq_eq_true h
    have h2 : (afterMask oj).testBit k = true := by
      rw [Nat.testBit_eq_decide_div_mod_eq, decide_eq_true_iff, ← Nat.shiftRight_eq_div_pow]
      exact h1
    obtain ⟨e, he, hb, hk⟩ := afterMask_mem h2
    exact absurd hk (hno e he hb)
  · rw [Bool.and_eq_true, Bool.and_eq_true] at h
    obtain ⟨h1, h2, h3⟩ := h
    unfold Oper.apart
    rw [Bool.and_eq_true]
    constructor
    · cases hd : ok.dst with
      | none => rfl
      | some d =>
        have b1 := land_zero h1 (dstMask_bit hd)
        have b2 := land_zero h2 (dstMask_bit hd)
        simp only [Bool.and_eq_true, Bool.not_eq_true', bne_iff_ne, ne_eq]
        constructor
        · cases hc : (oj.looksAt ops).contains d with
          | false => rfl
          | true =>
            rw [mem_lookMask (by simpa using hc)] at b1
            cases b1
        · intro e
          rw [dstMask_bit e] at b2
          cases b2
    · cases hd : oj.dst with
      | none => rfl
      | some d =>
        have b1 := land_zero h3 (dstMask_bit hd)
        simp only [Bool.not_eq_true']
        cases hc : (ok.looksAt ops).contains d with
        | false => rfl
        | true =>
          rw [mem_lookMask (by simpa using hc)] at b1
          cases b1
theorem prevOK_spec {A R' D' : Nat} : ∀ {prev : List (Nat × Nat)}, prevOK A R' D' prev = true → ∀ (k : Nat) (x : Nat × Nat), prev.reverse[k]? = some x → pairOK A R' D' k x.1 x.2 = true
  | [], _, k, x, hx => by simp at hx
  | (D, R) :: l, h, k, x, hx => by
    simp only [prevOK, Bool.and_eq_true] at h
    rw [List.reverse_cons] at hx
    by_cases hk : k < l.length
    · rw [List.getElem?_append_left (by simpa using hk)] at hx
      exact prevOK_spec h.2 k x hx
    · rw [List.getElem?_append_right (by simp; omega)] at hx
      have e : k = l.length := by
        have := (List.getElem?_eq_some_iff.1 hx).1
        simp at this
        omega
      subst e
      simp at hx
      subst hx
      exact h.1
theorem lexN_spec {ops : Array Oper} : ∀ (l : List Oper) (prev : List (Nat × Nat)) (done : List Oper), ops.toList = done ++ l → prev.reverse = done.map (fun o => (dstMask o, lookMask ops o)) → lexN ops l prev = true →
    ∀ (j : Nat) (o : Oper), done.length ≤ j → ops[j]? = some o → Nat.beq (Nat.shiftRight (afterMask o) j) 0 = true ∧ ∀ (k : Nat) (ok : Oper), k < j → ops[k]? = some ok → pairOK (afterMask o) (lookMask ops o) (dstMask o) k (dstMask ok) (lookMask ops ok) = true
  | [], prev, done, hd, _, _, j, o, hj, ho => by
    have := (Array.getElem?_eq_some_iff.1 ho).1
    have hz : ops.size = done.length := by rw [← Array.length_toList, hd]; simp
    omega
  | x :: l, prev, done, hd, hp, h, j, o, hj, ho => by
    simp only [lexN, Bool.and_eq_true] at h
    have hlen : prev.length = done.length := by rw [← List.length_reverse, hp]; simp
    by_cases e : j = done.length
    · subst e
      have hx : x = o := by
        rw [← Array.getElem?_toList, hd] at ho
        simpa using ho
      subst hx
      refine ⟨by rw [← hlen]; exact h.1, fun k ok hk hok => ?_⟩
      refine prevOK_spec h.2.1 k (dstMask ok, lookMask ops ok) ?_
      rw [← Array.getElem?_toList, hd, List.getElem?_append_left hk] at hok
      rw [hp, List.getElem?_map, hok]
      rfl
    · refine lexN_spec l _ (done ++ [x]) (by rw [hd]; simp) ?_ h.2.2 j o (by simp; omega) ho
      rw [List.reverse_cons, hp]
      simp
theorem lexOK_of {l : List Oper} (hs : Region.noSelect l.toArray = true) (h : lexN l.toArray l [] = true) : LexOK l.toArray := by
  have H := lexN_spec (ops := l.toArray) l [] [] (by simp) (by simp) h
  refine ⟨hs, fun j o ho e he hb => ?_, fun k j ok oj hk hok hoj hno => pairOK_spec ((H j oj (by simp) hoj).2 k ok hk hok) hno⟩
  have h1 : (afterMask o) >>> j = 0 := Nat.eq_of_beq_eq_true (H j o (by simp) ho).1
  have h2 := mem_afterMask he hb
  rcases Nat.lt_or_ge e.on j with h' | h'
  · exact h'
  · obtain ⟨d, hd⟩ : ∃ d, e.on = j + d := ⟨e.on - j, by omega⟩
    have h3 : ((afterMask o) >>> j).testBit d = true := by rw [Nat.testBit_shiftRight, ← hd]; exact h2
    rw [h1] at h3
    simp at h3

end Go.Proofs.YtopicjdmajlndaaDoor.J

namespace Go.Proofs.YtopicjdmajlndaaDoor.J
set_option linter.unusedVariables false
set_option linter.unusedSimpArgs false
set_option linter.unusedSectionVars false
set_option maxRecDepth 8000
open Go.RowKit Gold
set_option maxHeartbeats 400000 in
theorem rMade_any (a b : Int) (w : World) (ha : U64 a) (hb0 : U64 b) :
    Calls Tryd.prog 65 #[.agg #[.int .u64 a, .int .u64 b]] w fun e w' => e = .returned (.agg #[.int .u64 (vF (toE a b).A), .int .u64 (vF (toE a b).B)]) ∧ Below w.heap.size w w' := by
  go_enter Tryd.func65, Tryd.ntmps65
  go_wp2_with fail
  refine wp_named2 (fun W hB g0 g1 hz => ?_)
  have HB := Lib.hid hB
  have c00 := Two.c0 g0; have c01 := Two.c1 g0; have c10 := Two.c0 g1; have c11 := Two.c1 g1; have f10 := Two.f0 g1; have f11 := Two.f1 g1
  clear hB g0 g1
  have l00 := Later.cell c00; have l01 := Later.cell c01
  refine wp_later_tail 7 (by kernel_rfl) (by kernel_rfl) ?_
  simp only [List.take_succ_cons, List.take_zero, List.drop_succ_cons, List.drop_zero]
  repeat (go_big_quiet_step (((go_at_call 72; with_reducible exact Calls.later_same (rreduceF _ _ (by assumption))))))
  refine wpQuiet_nil ?_
  intro X
  clear l00 l01
  have hb := X.below; replace f10 := free_after hb c10 f10; replace f11 := free_after hb c11 f11; replace c00 := cell_after hb c00; replace c01 := cell_after hb c01; replace c10 := cell_after hb c10; replace c11 := cell_after hb c11; replace HB := Lib.hid (HB.out.trans (hb.mono HB.out.size)); replace hz := Nat.lt_of_lt_of_le hz hb.size; clear hb
  go_wp2
  refine bodyPost_ret (v := .agg #[.int .u64 (vF (toF a)), .int .u64 (vF (toF b))]) (by simp [results, Tryd.results65, go_sem, c10, c11]) rfl ⟨ret_E2 (x := toE a b) rfl rfl, ?_⟩
  exact (HB.out.setCell (by simp; try omega) _).setCell (by simp; try omega) _

set_option maxHeartbeats 400000 in
theorem rAdd_any (x y : E2) (w : World) :
    Calls Tryd.prog 36 #[.agg #[.int .u64 (vF x.A), .int .u64 (vF x.B)], .agg #[.int .u64 (vF y.A), .int .u64 (vF y.B)]] w fun e w' => e = .returned (.agg #[.int .u64 (vF (x + y).A), .int .u64 (vF (x + y).B)]) ∧ Below w.heap.size w w' := by
  go_enter Tryd.func36, Tryd.ntmps36
  go_wp2_with fail
  refine wp_named3 (fun W hB g0 g1 g2 hz => ?_)
  have HB := Lib.hid hB
  have c00 := Two.c0 g0; have c01 := Two.c1 g0; have c10 := Two.c0 g1; have c11 := Two.c1 g1; have c20 := Two.c0 g2; have c21 := Two.c1 g2; have f20 := Two.f0 g2; have f21 := Two.f1 g2
  clear hB g0 g1 g2
  have l00 := Later.cell c00; have l01 := Later.cell c01; have l10 := Later.cell c10; have l11 := Later.cell c11
  refine wp_later_tail 11 (by kernel_rfl) (by kernel_rfl) ?_
  simp only [List.take_succ_cons, List.take_zero, List.drop_succ_cons, List.drop_zero]
  repeat (go_big_quiet_step (((go_at_call 53; with_reducible exact Calls.later_same (raddF _ _ _)))))
  refine wpQuiet_nil ?_
  intro X
  clear l00 l01 l10 l11
  have hb := X.below; replace f20 := free_after hb c20 f20; replace f21 := free_after hb c21 f21; replace c00 := cell_after hb c00; replace c01 := cell_after hb c01; replace c10 := cell_after hb c10; replace c11 := cell_after hb c11; replace c20 := cell_after hb c20; replace c21 := cell_after hb c21; replace HB := Lib.hid (HB.out.trans (hb.mono HB.out.size)); replace hz := Nat.lt_of_lt_of_le hz hb.size; clear hb
  go_wp2
  refine bodyPost_ret (v := .agg #[.int .u64 (vF (x.A + y.A)), .int .u64 (vF (x.B + y.B))]) (by simp [results, Tryd.results36, go_sem, c20, c21]) rfl ⟨ret_E2 (x := x + y) rfl rfl, ?_⟩
  exact (HB.out.setCell (by simp; try omega) _).setCell (by simp; try omega) _

set_option maxHeartbeats 400000 in
theorem rNeg_any (x : E2) (w : World) :
    Calls Tryd.prog 75 #[.agg #[.int .u64 (vF x.A), .int .u64 (vF x.B)]] w fun e w' => e = .returned (.agg #[.int .u64 (vF (-x).A), .int .u64 (vF (-x).B)]) ∧ Below w.heap.size w w' := by
  go_enter Tryd.func75, Tryd.ntmps75
  go_wp2_with fail
  refine wp_named2 (fun W hB g0 g1 hz => ?_)
  have HB := Lib.hid hB
  have c00 := Two.c0 g0; have c01 := Two.c1 g0; have c10 := Two.c0 g1; have c11 := Two.c1 g1; have f10 := Two.f0 g1; have f11 := Two.f1 g1
  clear hB g0 g1
  have l00 := Later.cell c00; have l01 := Later.cell c01
  refine wp_later_tail 7 (by kernel_rfl) (by kernel_rfl) ?_
  simp only [List.take_succ_cons, List.take_zero, List.drop_succ_cons, List.drop_zero]
  repeat (go_big_quiet_step (((go_at_call 76; with_reducible exact Calls.later_same (rnegF _ _)))))
  refine wpQuiet_nil ?_
  intro X
  clear l00 l01
  have hb := X.below; replace f10 := free_after hb c10 f10; replace f11 := free_after hb c11 f11; replace c00 := cell_after hb c00; replace c01 := cell_after hb c01; replace c10 := cell_after hb c10; replace c11 := cell_after hb c11; replace HB := Lib.hid (HB.out.trans (hb.mono HB.out.size)); replace hz := Nat.lt_of_lt_of_le hz hb.size; clear hb
  go_wp2
  refine bodyPost_ret (v := .agg #[.int .u64 (vF (-x.A)), .int .u64 (vF (-x.B))]) (by simp [results, Tryd.results75, go_sem, c10, c11]) rfl ⟨ret_E2 (x := -x) rfl rfl, ?_⟩
  exact (HB.out.setCell (by simp; try omega) _).setCell (by simp; try omega) _

set_option maxHeartbeats 400000 in
theorem rSub_any (x y : E2) (w : World) :
    Calls Tryd.prog 73 #[.agg #[.int .u64 (vF x.A), .int .u64 (vF x.B)], .agg #[.int .u64 (vF y.A), .int .u64 (vF y.B)]] w fun e w' => e = .returned (.agg #[.int .u64 (vF (x - y).A), .int .u64 (vF (x - y).B)]) ∧ Below w.heap.size w w' := by
  go_enter Tryd.func73, Tryd.ntmps73
  go_wp2_with fail
  refine wp_named3 (fun W hB g0 g1 g2 hz => ?_)
  have HB := Lib.hid hB
  have c00 := Two.c0 g0; have c01 := Two.c1 g0; have c10 := Two.c0 g1; have c11 := Two.c1 g1; have c20 := Two.c0 g2; have c21 := Two.c1 g2; have f20 := Two.f0 g2; have f21 := Two.f1 g2
  clear hB g0 g1 g2
  have l00 := Later.cell c00; have l01 := Later.cell c01; have l10 := Later.cell c10; have l11 := Later.cell c11
  refine wp_later_tail 4 (by kernel_rfl) (by kernel_rfl) ?_
  simp only [List.take_succ_cons, List.take_zero, List.drop_succ_cons, List.drop_zero]
  repeat (go_big_quiet_step (first
    | (go_at_call 75; with_reducible exact Calls.later (rNeg_any y _))
    | (go_at_call 36; with_reducible exact Calls.later (rAdd_any x (-y) _))))
  refine wpQuiet_nil ?_
  intro X
  clear l00 l01 l10 l11
  have hb := X.below; replace f20 := free_after hb c20 f20; replace f21 := free_after hb c21 f21; replace c00 := cell_after hb c00; replace c01 := cell_after hb c01; replace c10 := cell_after hb c10; replace c11 := cell_after hb c11; replace c20 := cell_after hb c20; replace c21 := cell_after hb c21; replace HB := Lib.hid (HB.out.trans (hb.mono HB.out.size)); replace hz := Nat.lt_of_lt_of_le hz hb.size; clear hb
  go_wp2
  refine bodyPost_ret (v := .agg #[.int .u64 (vF ((x + -y).A)), .int .u64 (vF ((x + -y).B))]) (by simp [results, Tryd.results73, go_sem, c20, c21]) rfl ⟨ret_E2 (x := x - y) (congrArg E2.A (E2.sub_eq x y).symm) (congrArg E2.B (E2.sub_eq x y).symm), ?_⟩
  exact (HB.out.setCell (by simp; try omega) _).setCell (by simp; try omega) _

set_option maxHeartbeats 1000000 in
theorem rMul_any (x y : E2) (w : World) :
    Calls Tryd.prog 37 #[.agg #[.int .u64 (vF x.A), .int .u64 (vF x.B)], .agg #[.int .u64 (vF y.A), .int .u64 (vF y.B)]] w fun e w' => e = .returned (.agg #[.int .u64 (vF (x * y).A), .int .u64 (vF (x * y).B)]) ∧ Below w.heap.size w w' := by
  go_enter Tryd.func37, Tryd.ntmps37
  go_wp2_with fail
  refine wp_named3 (fun W hB g0 g1 g2 hz => ?_)
  have HB := Lib.hid hB
  have c00 := Two.c0 g0; have c01 := Two.c1 g0; have c10 := Two.c0 g1; have c11 := Two.c1 g1; have c20 := Two.c0 g2; have c21 := Two.c1 g2; have f20 := Two.f0 g2; have f21 := Two.f1 g2
  clear hB g0 g1 g2
  have l00 := Later.cell c00; have l01 := Later.cell c01; have l10 := Later.cell c10; have l11 := Later.cell c11
  refine wp_later_tail 24 (by kernel_rfl) (by kernel_rfl) ?_
  simp only [List.take_succ_cons, List.take_zero, List.drop_succ_cons, List.drop_zero]
  repeat (go_big_quiet_step (first
    | (go_at_call 54; with_reducible exact Calls.later_same (rmul7F _ _))
    | (go_at_call 54; with_reducible exact Calls.later_same (rmulF _ _ _))
    | (go_at_call 53; with_reducible exact Calls.later_same (raddF _ _ _))))
  refine wpQuiet_nil ?_
  intro X
  clear l00 l01 l10 l11
  have hb := X.below; replace f20 := free_after hb c20 f20; replace f21 := free_after hb c21 f21; replace c00 := cell_after hb c00; replace c01 := cell_after hb c01; replace c10 := cell_after hb c10; replace c11 := cell_after hb c11; replace c20 := cell_after hb c20; replace c21 := cell_after hb c21; replace HB := Lib.hid (HB.out.trans (hb.mono HB.out.size)); replace hz := Nat.lt_of_lt_of_le hz hb.size; clear hb
  go_wp2
  refine bodyPost_ret (v := .agg #[.int .u64 (vF (x.A * y.A + 7 * (x.B * y.B))), .int .u64 (vF (x.A * y.B + x.B * y.A))]) (by simp [results, Tryd.results37, go_sem, c20, c21]) rfl ⟨ret_E2 (x := x * y) rfl rfl, ?_⟩
  exact (HB.out.setCell (by simp; try omega) _).setCell (by simp; try omega) _

set_option maxHeartbeats 400000 in
theorem rFromBase_any (a : F) (w : World) :
    Calls Tryd.prog 57 #[.int .u64 (vF a)] w fun e w' => e = .returned (.agg #[.int .u64 (vF (E2.ofF a).A), .int .u64 (vF (E2.ofF a).B)]) ∧ Below w.heap.size w w' := by
  go_enter Tryd.func57, Tryd.ntmps57
  go_wp2_with fail
  refine bodyPost_ret (v := .agg #[.int .u64 (vF (a)), .int .u64 (vF (0))]) (by simp [results, Tryd.results57, go_sem, vF_zero]) rfl ⟨ret_E2 (x := E2.ofF a) rfl rfl, ?_⟩
  exact (Below.refl _ _).alloc (Nat.le_refl _) _

set_option maxHeartbeats 400000 in
theorem rFromInt_any (n : Int) (w : World) (h0 : -9223372036854775808 ≤ n) (h1 : n < 9223372036854775808) :
    Calls Tryd.prog 70 #[.int .i64 n] w fun e w' => e = .returned (.agg #[.int .u64 (vF (E2.ofF (toF n)).A), .int .u64 (vF (E2.ofF (toF n)).B)]) ∧ Below w.heap.size w w' := by
  go_enter Tryd.func70, Tryd.ntmps70
  go_wp2_with fail
  go_wp2_with (first
    | (go_at_call 74; ((with_reducible refine (rfromIntF n _ h0 h1).mono ?_)); rintro e w' ⟨rfl, rfl⟩))
  refine bodyPost_ret (v := .agg #[.int .u64 (vF (toF n)), .int .u64 (vF (0))]) (by simp [results, Tryd.results70, go_sem, vF_zero]) rfl ⟨ret_E2 (x := E2.ofF (toF n)) rfl rfl, ?_⟩
  exact (Below.refl _ _).alloc (Nat.le_refl _) _

set_option maxHeartbeats 400000 in
theorem rOne_any (w : World) :
    Calls Tryd.prog 68 #[] w fun e w' => e = .returned (.agg #[.int .u64 (vF E2.one.A), .int .u64 (vF E2.one.B)]) ∧ Below w.heap.size w w' := by
  go_enter Tryd.func68, Tryd.ntmps68
  go_wp2_with fail
  refine bodyPost_ret (v := .agg #[.int .u64 (vF (1)), .int .u64 (vF (0))]) (by simp [results, Tryd.results68, go_sem, vF_zero, vF_one]) rfl ⟨ret_E2 (x := E2.one) rfl rfl, ?_⟩
  exact (Below.refl _ _).alloc (Nat.le_refl _) _

end Go.Proofs.YtopicjdmajlndaaDoor.J

namespace Go.Proofs.YtopicjdmajlndaaDoor.J
set_option linter.unusedVariables false
set_option linter.unusedSimpArgs false
set_option linter.unusedSectionVars false
set_option maxRecDepth 8000
open Go.RowKit

/-- what is asked once an operation, carried out in w, has yielded this: the value v in the very world; or a call that hands back v and only adds to memory -/
def Oper.calmUpon (P : Program) (w : World) (v : Value) : Result Next → Prop
  | .ok (.value u) w' => w' = w ∧ u = v
  | .ok .skip w' => w' = w ∧ v = undef
  | .ok (.enter f args) w' => w' = w ∧ Calls P f args w (fun e w'' => e = .returned v ∧ Below w.heap.size w w'')
  | _ => False
/-- one value, in every later world -/
def Oper.calm (P : Program) (w0 : World) (o : Oper) (a : Act) (next : Act → Prop) : Prop := ∃ v, (∀ x : Later w0, Oper.calmUpon P x.at v ((execOp a.eval o).run P x.at)) ∧ next (a.put o.dst v)
attribute [go_sem] Oper.calm Oper.calmUpon

section
variable {P : Program} {ops : Array Oper} {w0 : World} {mk : Nat → Option Obj}
/-- which variable lies where -/
def upd (bs : Nat → Option Nat) (i b : Nat) : Nat → Option Nat := fun k => if k = i then some b else bs k
def ptr (b : Nat) : Value := .pointer (some ⟨b, 0, none⟩)

/-- what is free of all that is not listed -/
def FreeOf (ops : Array Oper) (listed : Array Bool) (i : Nat) (oi : Oper) : Prop :=
  ∀ j oj, ops[j]? = some oj → j ≠ i → listed.getD j true = false → (∀ e ∈ oj.after, Region.binds .any e = true → e.on ≠ i) → oi.apart ops oj = true
theorem FreeOf.set {listed : Array Bool} {i j : Nat} {oi : Oper} (h : FreeOf ops listed i oi) (hjun : listed.getD j true = false) : FreeOf ops (listed.setIfInBounds j true) i oi := fun k ok hk hki hku hkn => by
  refine h k ok hk hki ?_ hkn
  by_cases hjk : j = k
  · rw [← hjk]; exact hjun
  · rw [getD_set_ne true hjk] at hku; exact hku
variable {n : Nat} {L : Array Bool → Act → (Nat → Option Nat) → Prop}
/-- just the operations before k are listed -/
structure Pref (ops : Array Oper) (k : Nat) (listed : Array Bool) : Prop where
  size : listed.size = ops.size
  yes : ∀ i, i < k → listed.getD i false = true
  no : ∀ i, k ≤ i → i < ops.size → listed.getD i true = false
theorem Pref.next {k : Nat} {listed : Array Bool} (h : Pref ops k listed) (hk : k < ops.size) : Pref ops (k + 1) (listed.setIfInBounds k true) := by
  refine ⟨by simpa using h.size, fun i hi => ?_, fun i hi hi' => ?_⟩
  · by_cases e : i = k
    · subst e
      simp [h.size, hk]
    · exact getD_set_true (h.yes i (by omega))
  · rw [getD_set_ne true (by omega)]
    exact h.no i (by omega) hi'
theorem Pref.at {k i : Nat} {listed : Array Bool} (h : Pref ops k listed) (hi : listed.getD i true = false) : k ≤ i := by
  rcases Nat.lt_or_ge i k with h' | h'
  · have h1 := h.yes i h'
    rw [getD_both hi] at h1
    cases h1
  · exact h'
theorem Pref.ready {k : Nat} {listed : Array Bool} {o : Oper} (h : Pref ops k listed) (hx : LexOK ops) (ho : ops[k]? = some o) : k ∈ Region.ready .any ops listed :=
  mem_ready.2 ⟨h.no k (Nat.le_refl _) (Array.getElem?_eq_some_iff.1 ho).1, o, ho, fun e he hb => h.yes _ (hx.edge k o ho e he hb)⟩
theorem Pref.inv {k n : Nat} {listed : Array Bool} (h : Pref ops k listed) (hx : LexOK ops) (hkn : k ≤ n) : HeadInv .any ops n listed := by
  refine ⟨h.size, fun j oj hj hl e he hb => ?_, fun t ht ht' => h.no t (by omega) ht'⟩
  have hlt := (Array.getElem?_eq_some_iff.1 hj).1
  have hjk : j < k := by
    rcases Nat.lt_or_ge j k with h' | h'
    · exact h'
    · have h1 := h.no j h' hlt
      rw [getD_both h1] at hl
      cases hl
  exact h.yes _ (Nat.lt_trans (hx.edge j oj hj e he hb) hjk)
theorem Pref.free {k : Nat} {listed : Array Bool} {o : Oper} (h : Pref ops k listed) (hx : LexOK ops) (ho : ops[k]? = some o) : FreeOf ops listed k o := fun j oj hj hne hun hno => by
  have := h.at hun
  exact hx.free k j o oj (by omega) ho hj hno

/-- the variables lie where they are said to lie -/
structure Fx (w0 : World) (mk : Nat → Option Obj) (bs : Nat → Option Nat) (w : World) : Prop where
  below : Below w0.heap.size w0 w
  here : ∀ i b, bs i = some b → ∃ z, mk i = some z ∧ w.heap[b]? = some z ∧ w0.heap.size ≤ b
  apart : ∀ i j b, bs i = some b → bs j = some b → i = j
theorem Fx.later {bs : Nat → Option Nat} {w w' : World} (h : Fx w0 mk bs w) (hb : Below w.heap.size w w') : Fx w0 mk bs w' :=
  ⟨h.below.trans (hb.mono h.below.size), fun i b e => by obtain ⟨z, h1, h2, h3⟩ := h.here i b e; exact ⟨z, h1, heap_keep h2 hb, h3⟩, h.apart⟩
theorem Fx.alloc {bs : Nat → Option Nat} {w : World} {i : Nat} {z : Obj} (h : Fx w0 mk bs w) (hm : mk i = some z) : Fx w0 mk (upd bs i w.heap.size) (w.alloc z) := by
  have new : ∀ j b, bs j = some b → b < w.heap.size := fun j b e => by
    obtain ⟨z', _, h2, _⟩ := h.here j b e
    exact (Array.getElem?_eq_some_iff.1 h2).1
  refine ⟨h.below.alloc h.below.size _, fun j b e => ?_, fun j k b e e' => ?_⟩
  · unfold upd at e
    by_cases hj : j = i
    · subst hj
      simp only [if_true, Option.some.injEq] at e
      subst e
      exact ⟨z, hm, heap_new w z, h.below.size⟩
    · simp only [hj, if_false] at e
      obtain ⟨z', h1, h2, h3⟩ := h.here j b e
      exact ⟨z', h1, heap_old _ h2, h3⟩
  · unfold upd at e e'
    by_cases hj : j = i
    · by_cases hk : k = i
      · rw [hj, hk]
      · simp only [hj, hk, if_true, if_false, Option.some.injEq] at e e'
        have := new k b e'
        omega
    · by_cases hk : k = i
      · simp only [hj, hk, if_true, if_false, Option.some.injEq] at e e'
        have := new j b e
        omega
      · simp only [hj, hk, if_false] at e e'
        exact h.apart j k b e e'

/-- the variables of a statement, by their list -/
def mkOf (m : Nat) (zs : List Obj) (i : Nat) : Option Obj := if i < m then none else zs[i - m]?
theorem Fx.get {m : Nat} {zs : List Obj} {bs : Nat → Option Nat} {X : World} (h : Fx w0 (mkOf m zs) bs X) (i b : Nat) (z : Obj) (e : bs i = some b) (e' : mkOf m zs i = some z) : X.heap[b]? = some z ∧ w0.heap.size ≤ b := by
  obtain ⟨z', h1, h2, h3⟩ := h.here i b e
  rw [h1] at e'
  cases e'
  exact ⟨h2, h3⟩
theorem all_cons {α : Type} {p : α → Prop} {x : α} {l : List α} (h : p x) (k : ∀ y, y ∈ l → p y) : ∀ y, y ∈ x :: l → p y := fun y hy => (List.mem_cons.1 hy).elim (fun e => e ▸ h) (k y)
theorem cells_at {W : World} {b : Nat} {cs : Array Value} {t : TypeId} (h : W.heap[b]? = some (.cells cs t (0, 0))) (i : Nat) {v : Value} (e : cs[i]? = some v) : W.cell? ⟨b, i, none⟩ = some v := by
  simp [World.cell?, h, e]
end


theorem Calls.calm {P : Program} {f : FuncId} {args : Array Value} {W : World} {v : Value} (h : Calls P f args W fun e w' => e = .returned v ∧ Below W.heap.size W w') : Calls P f args W fun e w'' => e = .returned v ∧ Below W.heap.size W w'' := h
end Go.Proofs.YtopicjdmajlndaaDoor.J

namespace Go.Proofs.YtopicjdmajlndaaDoor.J
set_option linter.unusedVariables false
set_option linter.unusedSimpArgs false
set_option linter.unusedSectionVars false
set_option maxRecDepth 8000
open Go.RowKit

/-- operations that only look -/
def stillOp (o : Oper) : Bool := match o.op with
  | .move _ => true
  | .assign _ => true
  | .pick _ _ _ => true
  | .load _ _ => true
  | .binOp _ _ _ _ _ => true
  | .unOp _ _ _ => true
  | .convert _ _ _ => true
  | .extract _ _ => true
  | .field _ _ _ => true
  | .indexAddr _ _ _ => true
  | .fieldAddr _ _ _ => true
  | .build _ _ => true
  | .slice _ _ _ _ _ => true
  | _ => false

theorem andThen_value {P : Program} {α : Type} {s : Sem α} {g : α → Value} {w w' : World} {n : Next} (h : (do let x ← s; pure (Next.value (g x)) : Sem Next).run P w = .ok n w') : ∃ x, n = .value x := by
  rw [Sem.run_bind] at h
  cases hs : s.run P w with
  | ok x w1 =>
    rw [hs, Result.andThen_ok, Sem.run_pure] at h
    injection h with h _
    exact ⟨_, h.symm⟩
  | halt x w1 => rw [hs] at h; cases h
theorem still_value {P : Program} {o : Oper} (h : stillOp o = true) {ev : Operand → Value} {w w' : World} {n : Next} (hr : (execOp ev o).run P w = .ok n w') : ∃ x, n = .value x := by
  unfold stillOp at h
  unfold execOp at hr
  cases ho : o.op <;> simp only [ho] at h hr <;> first | (exact absurd h (by decide)) | exact andThen_value (g := fun x => x) hr | exact andThen_value hr | (rw [Sem.run_pure] at hr; injection hr with hr _; exact ⟨_, hr.symm⟩)

section
variable {P : Program} {ops : Array Oper} {S : World → Prop} {Q : Exit → Act → World → Prop}

/-- what an operation that is carried out may leave: its value and the world -/
def heldUpon (P : Program) (K : Value → World → Prop) : Result Next → Prop
  | .ok (.value u) w' => K u w'
  | .ok .skip w' => K undef w'
  | .ok (.enter f args) w' => Calls P f args w' (fun e w'' => ∃ v, e = .returned v ∧ K v w'')
  | _ => False
def hOp (P : Program) (o : Oper) (K : Value → World → Prop) (a : Act) (w : World) : Prop := heldUpon P K ((execOp a.eval o).run P w)
theorem hOp_mono {o : Oper} {K K' : Value → World → Prop} {a : Act} {w : World} (h : ∀ v w', K v w' → K' v w') (hh : hOp P o K a w) : hOp P o K' a w := by
  unfold hOp at *
  generalize (execOp a.eval o).run P w = r at *
  cases r with
  | ok n w' =>
    cases n <;> simp only [heldUpon] at hh ⊢ <;> first | exact h _ _ hh | exact hh.mono fun _ _ ⟨v, he, hk⟩ => ⟨v, he, h _ _ hk⟩
  | halt x w' => exact hh
theorem hOp_out {o : Oper} {K : Value → World → Prop} {a : Act} {w : World} (hh : hOp P o K a w) : ∃ v w', K v w' := by
  unfold hOp at hh
  generalize (execOp a.eval o).run P w = r at hh
  cases r with
  | ok n w' =>
    cases n <;> simp only [heldUpon] at hh
    case value u => exact ⟨_, _, hh⟩
    case skip => exact ⟨_, _, hh⟩
    case enter f args =>
      obtain ⟨e, w1, fr, ⟨v, _, hk⟩, _⟩ := hh []
      exact ⟨v, w1, hk⟩
  | halt x w' => exact hh.elim
theorem hOp_put {o : Oper} (hs : ∀ cs b, o.op ≠ .select cs b) {K : Value → World → Prop} {a : Act} {w : World} {d : Option Tmp} {u : Value} (h : ∀ t, d = some t → t ∉ o.looksAt ops) (hh : hOp P o K a w) : hOp P o K (a.put d u) w := by
  unfold hOp at *
  rw [execOp_put o hs a d u h]
  exact hh

def quietNow (ops : Array Oper) (o : Oper) (a : Act) : Prop := stillOp o = true ∨ Region.wanted o (yielded ops a.tmps) = false
def sOp (P : Program) (ops : Array Oper) (S : World → Prop) (i : Nat) (K : Act → World → Prop) (a : Act) (w : World) : Prop :=
  match ops[i]? with
  | none => K a w
  | some o => (quietNow ops o a ∧ ∃ v, YieldsIf P ops S o v a ∧ K (a.put o.dst v) w) ∨ (¬ quietNow ops o a ∧ hOp P o (fun v w' => S w' ∧ K (a.put o.dst v) w') a w)
theorem sOp_mono {i : Nat} {K K' : Act → World → Prop} {a : Act} {w : World} (hS : S w) (h : ∀ a w, S w → K a w → K' a w) (hh : sOp P ops S i K a w) : sOp P ops S i K' a w := by
  unfold sOp at *
  cases hi : ops[i]? with
  | none => rw [hi] at hh; exact h _ _ hS hh
  | some o =>
    rw [hi] at hh
    rcases hh with ⟨hq, v, hy, hk⟩ | ⟨hq, hh⟩
    · exact .inl ⟨hq, v, hy, h _ _ hS hk⟩
    · exact .inr ⟨hq, hOp_mono (fun _ _ ⟨h1, h2⟩ => ⟨h1, h _ _ h1 h2⟩) hh⟩
theorem sOp_out {i : Nat} {K : Act → World → Prop} {a : Act} {w : World} (hS : S w) (hh : sOp P ops S i K a w) : ∃ a' w', S w' ∧ K a' w' := by
  unfold sOp at hh
  cases hi : ops[i]? with
  | none => rw [hi] at hh; exact ⟨_, _, hS, hh⟩
  | some o =>
    rw [hi] at hh
    rcases hh with ⟨_, v, _, hk⟩ | ⟨_, hh⟩
    · exact ⟨_, _, hS, hk⟩
    · obtain ⟨v, w', h1, h2⟩ := hOp_out hh
      exact ⟨_, _, h1, h2⟩
theorem quietNow_put {o : Oper} {a : Act} {d : Option Tmp} {u : Value} (h : ∀ t, d = some t → t ∉ o.looksAt ops) : quietNow ops o (a.put d u) ↔ quietNow ops o a := by
  unfold quietNow
  rw [wanted_put o a d u h]
theorem wpOp_of_sOp {i : Nat} {K K' : Act → World → Prop} {a : Act} {w : World} (hS : S w) (h : ∀ a w, S w → K a w → K' a w) (hh : sOp P ops S i K a w) : wpOp P ops Q i K' a w := by
  unfold sOp at hh
  cases hi : ops[i]? with
  | none =>
    rw [hi] at hh
    unfold wpOp
    simp only [hi]
    exact h _ _ hS hh
  | some o =>
    rw [hi] at hh
    rcases hh with ⟨_, v, hy, hk⟩ | ⟨hq, hh⟩
    · exact hy.wpOp hi hS (h _ _ hS hk)
    · have hw : Region.wanted o (yielded ops a.tmps) = true := by
        cases e : Region.wanted o (yielded ops a.tmps) with
        | true => rfl
        | false => exact absurd (.inr e) hq
      unfold wpOp
      simp only [hi, hw, if_true]
      refine .inl ?_
      unfold hOp at hh
      unfold Oper.wp
      generalize (execOp a.eval o).run P w = r at *
      cases r with
      | ok n w' =>
        cases n <;> simp only [heldUpon] at hh <;> simp only [Oper.upon]
        case value u => exact h _ _ hh.1 hh.2
        case skip => exact h _ _ hh.1 hh.2
        case enter f args => exact hh.mono fun e w'' ⟨v, he, h1, h2⟩ => by subst he; exact h _ _ h1 h2
      | halt x w' => exact hh.elim

theorem YieldsIf.one {o : Oper} {u v : Value} {a : Act} {w : World} (hS : S w) (h : YieldsIf P ops S o u a) (k : YieldsIf P ops S o v a) : u = v := by
  rcases h with ⟨h1, h2⟩ | ⟨h1, h2⟩ <;> rcases k with ⟨k1, k2⟩ | ⟨k1, k2⟩
  · have := (h2 w hS).symm.trans (k2 w hS)
    injection this with e
    injection e
  · rw [h1] at k1; cases k1
  · rw [h1] at k1; cases k1
  · rw [h2, k2]

/-- one operation apart from another: its value may be there already -/
theorem sOp_put {j : Nat} {oi oj : Oper} {v : Value} (hj : ops[j]? = some oj) (hap : oi.apart ops oj = true) (hsi : ∀ cs b, oi.op ≠ .select cs b) (hsj : ∀ cs b, oj.op ≠ .select cs b) {K : Act → World → Prop} {a : Act} {w : World}
    (hq : quietNow ops oi a) (hy : YieldsIf P ops S oi v a) (h : sOp P ops S j K (a.put oi.dst v) w) : sOp P ops S j (fun a' w' => quietNow ops oi a' ∧ YieldsIf P ops S oi v a' ∧ K (a'.put oi.dst v) w') a w := by
  obtain ⟨h1, h2, h3⟩ := Oper.apart_spec hap
  have keep : ∀ u, quietNow ops oi (a.put oj.dst u) ∧ YieldsIf P ops S oi v (a.put oj.dst u) := fun u =>
    ⟨(quietNow_put h3).2 hq, hy.of_same (execOp_put oi hsi a oj.dst u h3) (wanted_put oi a oj.dst u h3)⟩
  unfold sOp at *
  rw [hj] at h ⊢
  rcases h with ⟨hqj, u, hu, hk⟩ | ⟨hqj, hh⟩
  · exact .inl ⟨(quietNow_put h1).1 hqj, u, hu.of_same (execOp_put oj hsj a oi.dst v h1).symm (wanted_put oj a oi.dst v h1).symm, (keep u).1, (keep u).2, by rw [← Act.put_comm a v u h2]; exact hk⟩
  · refine .inr ⟨fun e => hqj ((quietNow_put h1).2 e), ?_⟩
    have hh' : hOp P oj (fun v' w' => S w' ∧ K ((a.put oi.dst v).put oj.dst v') w') a w := by
      unfold hOp at *
      rw [execOp_put oj hsj a oi.dst v h1] at hh
      exact hh
    exact hOp_mono (fun u w' ⟨e1, e2⟩ => ⟨e1, (keep u).1, (keep u).2, by rw [← Act.put_comm a v u h2]; exact e2⟩) hh'

/-- every later call waits for a call that has not come up -/
def Chain (ops : Array Oper) (i : Nat) (listed : Array Bool) : Prop := ∀ j oj, ops[j]? = some oj → j ≠ i → listed.getD j true = false → stillOp oj = false →
  ∃ e, e ∈ oj.after ∧ Region.binds .any e = true ∧ listed.getD e.on false = false ∧ ∀ oe, ops[e.on]? = some oe → stillOp oe = false

end

def LaterB (B : Nat) (w : World) : Type := { w' : World // Below B w w' }
instance {B : Nat} {w : World} : Nonempty (LaterB B w) := ⟨⟨w, Below.refl _ _⟩⟩
def LaterB.at {B : Nat} {w : World} (x : LaterB B w) : World := x.1
theorem LaterB.below {B : Nat} {w : World} (x : LaterB B w) : Below B w x.at := x.2
theorem LaterB.cell {B : Nat} {w : World} {a : Addr} {v : Value} (h : w.cell? a = some v) (hB : a.block < B) (x : LaterB B w) : x.at.cell? a = some v := (x.2.cell hB).trans h
theorem LaterB.step {B : Nat} {w w' w1 : World} (h : ∃ x : LaterB B w, w' = x.at) (hb : Below B w' w1) : ∃ x : LaterB B w, w1 = x.at := by
  obtain ⟨x, rfl⟩ := h
  exact ⟨⟨w1, x.2.trans hb⟩, rfl⟩
theorem LaterB.of {B : Nat} {w w' : World} (h : ∃ x : LaterB B w, w' = x.at) : Below B w w' := by
  obtain ⟨x, rfl⟩ := h
  exact x.2
end Go.Proofs.YtopicjdmajlndaaDoor.J

namespace Go.Proofs.YtopicjdmajlndaaDoor.J
set_option linter.unusedVariables false
set_option linter.unusedSimpArgs false
set_option linter.unusedSectionVars false
set_option maxRecDepth 8000
open Go.RowKit Gold

/-- the two cells of an element -/
def AtV (w : World) (ad : Addr) (i : Nat) (p : Value × Value) : Prop :=
  w.cell? (ad.add (i * 2)) = some p.1 ∧ w.cell? ⟨(ad.add (i * 2)).block, (ad.add (i * 2)).off + 1, none⟩ = some p.2
theorem add_add' (a : Addr) (i j : Nat) : (a.add i).add j = a.add (i + j) := by
  unfold Addr.add
  by_cases hi : i = 0 <;> by_cases hj : j = 0 <;> simp [hi, hj, Nat.add_assoc]
theorem add_base (g k : Nat) : (⟨g, 0, none⟩ : Addr).add k = ⟨g, k, none⟩ := by
  unfold Addr.add
  split
  · next h => rw [h]
  · simp
theorem AtV.keep {w w' : World} {ad : Addr} {i : Nat} {p : Value × Value} (h : AtV w ad i p) (hb : Below w.heap.size w w') : AtV w' ad i p := ⟨cell_keep h.1 hb, cell_keep h.2 hb⟩

/-- a slice value that reads as the pairs of cells ps -/
structure SlR (w : World) (A : Option Addr) (n c : Nat) (ps : List (Value × Value)) : Prop where
  len : n = ps.length
  cap : n ≤ c
  top : c ≤ 9223372036854775807
  nil : A = none → c = 0
  cells : ∀ i p, ps[i]? = some p → ∃ ad, A = some ad ∧ AtV w ad i p
def valE (x : E2) : Value × Value := (.int .u64 (vF x.A), .int .u64 (vF x.B))
/-- a slice value that reads as the elements xs -/
def Sl (w : World) (A : Option Addr) (n c : Nat) (xs : List E2) : Prop := SlR w A n c (xs.map valE)

section
variable {w w' : World} {A : Option Addr} {n c : Nat} {ps : List (Value × Value)} {xs : List E2}
theorem SlR.keep (h : SlR w A n c ps) (hb : Below w.heap.size w w') : SlR w' A n c ps :=
  ⟨h.len, h.cap, h.top, h.nil, fun i p hp => by obtain ⟨ad, e, ha⟩ := h.cells i p hp; exact ⟨ad, e, ha.keep hb⟩⟩
theorem Sl.keep (h : Sl w A n c xs) (hb : Below w.heap.size w w') : Sl w' A n c xs := SlR.keep h hb
theorem Sl.len (h : Sl w A n c xs) : n = xs.length := by simpa using SlR.len h
theorem Sl.cap (h : Sl w A n c xs) : n ≤ c := SlR.cap h
theorem Sl.top (h : Sl w A n c xs) : c ≤ 9223372036854775807 := SlR.top h
theorem Sl.at_ {i : Nat} {x : E2} (h : Sl w A n c xs) (hx : xs[i]? = some x) : ∃ ad, A = some ad ∧ w.cell? (ad.add (i * 2)) = some (.int .u64 (vF x.A)) ∧ w.cell? ⟨(ad.add (i * 2)).block, (ad.add (i * 2)).off + 1, none⟩ = some (.int .u64 (vF x.B)) := by
  obtain ⟨ad, e, h1, h2⟩ := SlR.cells h i (valE x) (by simp [hx])
  exact ⟨ad, e, h1, h2⟩
theorem Sl.get {i : Nat} (h : Sl w A n c xs) (hi : i < n) : ∃ x, xs[i]? = some x := ⟨xs[i]'(by have := h.len; omega), List.getElem?_eq_getElem _⟩
theorem Sl.take (h : Sl w A n c xs) {k : Nat} (hk : k ≤ n) : Sl w A k c (xs.take k) := by
  refine ⟨by have := h.len; simp; omega, by have := h.cap; omega, h.top, SlR.nil h, fun i p hp => ?_⟩
  refine SlR.cells h i p ?_
  rw [List.map_take] at hp
  have hl := (List.getElem?_eq_some_iff.1 hp).1
  rw [List.getElem?_take_of_lt (by simp at hl; omega)] at hp
  exact hp
theorem Sl.drop (h : Sl w A n c xs) {k : Nat} (hk : k ≤ n) : Sl w (if c = k then A else A.map (·.add (k * 2))) (n - k) (c - k) (xs.drop k) := by
  refine ⟨by have := h.len; simp; omega, by have := h.cap; omega, by have := h.top; omega, ?_, fun i p hp => ?_⟩
  · intro e
    by_cases hck : c = k
    · omega
    · rw [if_neg hck] at e
      cases A with
      | none => have := SlR.nil h rfl; omega
      | some a => cases e
  rw [List.map_drop, List.getElem?_drop] at hp
  obtain ⟨ad, e, h1, h2⟩ := SlR.cells h _ p hp
  have hl := (List.getElem?_eq_some_iff.1 hp).1
  have hn := SlR.len h
  have hc := h.cap
  have hck : c ≠ k := by simp at hl hn; omega
  rw [if_neg hck, e]
  refine ⟨_, rfl, ?_, ?_⟩
  · rw [add_add', show k * 2 + i * 2 = (k + i) * 2 by omega]; exact h1
  · rw [add_add', show k * 2 + i * 2 = (k + i) * 2 by omega]; exact h2
theorem Sl.nil (w : World) : Sl w none 0 0 [] := ⟨rfl, Nat.le_refl _, Nat.zero_le _, fun _ => rfl, fun i p hp => by simp at hp⟩
theorem Sl.none (h : Sl w none n c xs) : n = 0 ∧ c = 0 ∧ xs = [] := by
  have h1 := SlR.nil h rfl
  have h2 := SlR.cap h
  have h3 : n = xs.length := by simpa using SlR.len h
  exact ⟨by omega, h1, List.eq_nil_of_length_eq_zero (by omega)⟩
end

theorem below_step {w W W1 : World} (h : Below w.heap.size w W) (h1 : Below W.heap.size W W1) : Below w.heap.size w W1 := h.trans (h1.mono h.size)
def cellsE (xs : List E2) : List Value := xs.flatMap fun x => [.int .u64 (vF x.A), .int .u64 (vF x.B)]
theorem cellsE_length (xs : List E2) : (cellsE xs).length = xs.length * 2 := by
  induction xs with
  | nil => rfl
  | cons x xs ih => unfold cellsE at *; rw [List.flatMap_cons, List.length_append, ih]; simp; omega
theorem cellsE_append (xs ys : List E2) : cellsE (xs ++ ys) = cellsE xs ++ cellsE ys := by unfold cellsE; simp
theorem cellsE_even {xs : List E2} {i : Nat} {x : E2} (h : xs[i]? = some x) : (cellsE xs)[i * 2]? = some (.int .u64 (vF x.A)) := by
  induction xs generalizing i with
  | nil => simp at h
  | cons y xs ih =>
    cases i with
    | zero => simp at h; subst h; rfl
    | succ i =>
      simp at h
      have := ih h
      unfold cellsE at *
      rw [List.flatMap_cons, List.getElem?_append_right (by simp; omega)]
      simpa [show (i + 1) * 2 - 2 = i * 2 by omega] using this
theorem cellsE_odd {xs : List E2} {i : Nat} {x : E2} (h : xs[i]? = some x) : (cellsE xs)[i * 2 + 1]? = some (.int .u64 (vF x.B)) := by
  induction xs generalizing i with
  | nil => simp at h
  | cons y xs ih =>
    cases i with
    | zero => simp at h; subst h; rfl
    | succ i =>
      simp at h
      have := ih h
      unfold cellsE at *
      rw [List.flatMap_cons, List.getElem?_append_right (by simp; omega)]
      simpa [show (i + 1) * 2 + 1 - 2 = i * 2 + 1 by omega] using this
section
variable {w w' : World} {g : Nat} {xs : List E2}
end

theorem ext_info : (Tryd.prog.info? 63).map (fun i => (i.zero, i.size, i.bytes)) = some (some (.agg #[.int .u64 0, .int .u64 0]), 2, 16) := by kernel_rfl
end Go.Proofs.YtopicjdmajlndaaDoor.J

