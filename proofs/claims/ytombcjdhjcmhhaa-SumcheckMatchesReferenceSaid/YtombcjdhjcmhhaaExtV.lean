/- An element of the extension field as a program has it: two words; no program, no conditions. -/
import Derived.Test.YtombcjdhjcmhhaaFieldF
import Derived.Test.YtombcjdhjcmhhaaEx
namespace Go.Proofs.Ytombcjdhjcmhhaa
set_option maxRecDepth 8000
open Go.RowKit Gold

instance : DecidableEq E2 := fun x y => decidable_of_iff (x.A = y.A ∧ x.B = y.B) E2.ext_iff'.symm
/-- is it zero? -/
def ezero (x : E2) : Bool := decide (vF x.A = 0 ∧ vF x.B = 0)
theorem ezero_iff (x : E2) : ezero x = true ↔ x = E2.zero := by
  unfold ezero
  rw [decide_eq_true_iff, E2.ext_iff']
  exact ⟨fun h => ⟨vF_inj h.1, vF_inj h.2⟩, fun h => ⟨by rw [h.1]; rfl, by rw [h.2]; rfl⟩⟩
theorem inv_zero_E : E2.inv E2.zero = E2.zero := E2.ext' (by show (0 : F) * invF (E2.norm E2.zero) = 0; grind) (by show -(0 : F) * invF (E2.norm E2.zero) = 0; grind)
theorem mulConj_ne_zero {x : E2} (h : x ≠ E2.zero) : (x * E2.conj x).A ≠ 0 := by
  rw [E2.mul_conj]
  exact E2.norm_ne_zero h
theorem inv_eq' (x : E2) : E2.inv x = E2.conj x * E2.ofF (invF (x * E2.conj x).A) := by
  rw [E2.inv_eq, E2.mul_conj]
  rfl
/-- the error code of an inverse -/
def einvE (x : E2) : Int := if x = E2.zero then 3 else 0
theorem pow_even (x : E2) (q : Nat) (h : ¬ q % 2 = 1) : E2.pow x (q / 2) * E2.pow x (q / 2) = E2.pow x q := by
  rw [← E2.pow_add]
  congr 1
  omega
theorem pow_odd (x : E2) (q : Nat) (h : q % 2 = 1) : E2.pow x (q / 2) * E2.pow x (q / 2) * x = E2.pow x q := by
  rw [← E2.pow_add, ← E2.pow_succ]
  congr 1
  omega
theorem times_B (x y : E2) : (x.A + x.B) * (y.A + y.B) - x.A * y.A - x.B * y.B = (x * y).B := by show _ = x.A * y.B + x.B * y.A; grind
/-- are these words an element? -/
theorem mulBase_A (x : E2) (a : F) : x.A * a = (x * E2.ofF a).A := by show x.A * a = x.A * a + 7 * (x.B * 0); grind
theorem mulBase_B (x : E2) (a : F) : x.B * a = (x * E2.ofF a).B := by show x.B * a = x.A * 0 + x.B * a; grind
def evalid (a b : Int) : Bool := decide (a < 18446744069414584321) && decide (b < 18446744069414584321)
theorem evalid_E2 (x : E2) : evalid (vF x.A) (vF x.B) = true := by
  unfold evalid
  rw [decide_eq_true (El_vF x.A).2, decide_eq_true (El_vF x.B).2]
  rfl
/-- the element of two integers -/
def toE (a b : Int) : E2 := ⟨toF a, toF b⟩
theorem ret_E2 {a b : F} {x : E2} (hA : a = x.A) (hB : b = x.B) : Ending.returned (.agg #[.int .u64 (vF a), .int .u64 (vF b)]) = .returned (.agg #[.int .u64 (vF x.A), .int .u64 (vF x.B)]) := by rw [hA, hB]

end Go.Proofs.Ytombcjdhjcmhhaa
