/- Contracts of package ext, their results under a given name; no conditions. -/
import Derived.Test.YtombcjdhjcmhhaaExtC
import Derived.Test.YtombcjdhjcmhhaaExtT
import Derived.Test.YtombcjdhjcmhhaaLex
import Derived.Test.YtombcjdhjcmhhaaExtS
import Derived.Test.YtombcjdhjcmhhaaDecl
import Derived.IntWalk
namespace Go.Proofs.Ytombcjdhjcmhhaa
set_option maxRecDepth 8000
open Go.RowKit Gold

theorem run_allocE (ev : Operand → Value) (o : Oper) (w : World) (h : o.op = .alloc 43) : (execOp ev o).run Try.prog w = .ok (.value (ptr w.heap.size)) (w.alloc (.cells #[.int .u64 0, .int .u64 0] 43)) := by
  unfold execOp
  rw [h]
  go_simp
  rfl
theorem extAdd_as (x y z : E2) (w : World) (h : x + y = z) : Calls Try.prog 47 #[.agg #[.int .u64 (vF x.A), .int .u64 (vF x.B)], .agg #[.int .u64 (vF y.A), .int .u64 (vF y.B)]] w fun e w' => e = .returned (.agg #[.int .u64 (vF z.A), .int .u64 (vF z.B)]) ∧ Below w.heap.size w w' := h ▸ extAdd_any x y w
theorem extSub_as (x y z : E2) (w : World) (h : x - y = z) : Calls Try.prog 60 #[.agg #[.int .u64 (vF x.A), .int .u64 (vF x.B)], .agg #[.int .u64 (vF y.A), .int .u64 (vF y.B)]] w fun e w' => e = .returned (.agg #[.int .u64 (vF z.A), .int .u64 (vF z.B)]) ∧ Below w.heap.size w w' := h ▸ extSub_any x y w
theorem extMul_as (x y z : E2) (w : World) (h : x * y = z) : Calls Try.prog 63 #[.agg #[.int .u64 (vF x.A), .int .u64 (vF x.B)], .agg #[.int .u64 (vF y.A), .int .u64 (vF y.B)]] w fun e w' => e = .returned (.agg #[.int .u64 (vF z.A), .int .u64 (vF z.B)]) ∧ Below w.heap.size w w' := h ▸ extMul_any x y w
theorem extConj_as (x z : E2) (w : World) (h : E2.conj x = z) : Calls Try.prog 112 #[.agg #[.int .u64 (vF x.A), .int .u64 (vF x.B)]] w fun e w' => e = .returned (.agg #[.int .u64 (vF z.A), .int .u64 (vF z.B)]) ∧ Below w.heap.size w w' := h ▸ extConj_any x w
theorem extAdd_zero (x : E2) (w : World) : Calls Try.prog 47 #[.agg #[.int .u64 (vF x.A), .int .u64 (vF x.B)], .agg #[.int .u64 0, .int .u64 0]] w fun e w' => e = .returned (.agg #[.int .u64 (vF x.A), .int .u64 (vF x.B)]) ∧ Below w.heap.size w w' := extAdd_as x E2.zero x w (E2.add_zero x)
theorem extMul_one (x : E2) (w : World) : Calls Try.prog 63 #[.agg #[.int .u64 (vF x.A), .int .u64 (vF x.B)], .agg #[.int .u64 1, .int .u64 0]] w fun e w' => e = .returned (.agg #[.int .u64 (vF x.A), .int .u64 (vF x.B)]) ∧ Below w.heap.size w w' := extMul_as x E2.one x w (E2.mul_one x)
theorem extValid_E2 (x : E2) (w : World) : Calls Try.prog 66 #[.agg #[.int .u64 (vF x.A), .int .u64 (vF x.B)]] w fun e w' => e = .returned (.bool true) ∧ Below w.heap.size w w' := by
  have h := extValid_any (vF x.A) (vF x.B) w
  rw [evalid_E2] at h
  exact h
theorem rValid_E2 (x : E2) (w : World) : Calls Try.prog 40 #[.agg #[.int .u64 (vF x.A), .int .u64 (vF x.B)]] w fun e w' => e = .returned (.bool true) ∧ Below w.heap.size w w' := by
  have h := rValidE_any (vF x.A) (vF x.B) w
  rw [evalid_E2] at h
  exact h
/-! ### Two elements compared -/
theorem run_eqlE (x y : E2) (w : World) : (binOp .eql 43 (.agg #[.int .u64 (vF x.A), .int .u64 (vF x.B)]) (.agg #[.int .u64 (vF y.A), .int .u64 (vF y.B)])).run Try.prog w = .ok (.bool (decide (x = y))) w := by
  by_cases hA : vF x.A = vF y.A
  · by_cases hB : vF x.B = vF y.B
    · rw [decide_eq_true (E2.ext' (vF_inj hA) (vF_inj hB))]
      simp [go_sem, Try.underlying43, hA, hB]
    · rw [decide_eq_false (fun e => hB (by rw [e]))]
      simp [go_sem, Try.underlying43, hA, hB]
  · rw [decide_eq_false (fun e => hA (by rw [e]))]
    simp [go_sem, Try.underlying43, hA]
theorem run_eqlZ (x : E2) (w : World) : (binOp .eql 43 (.agg #[.int .u64 (vF x.A), .int .u64 (vF x.B)]) (.agg #[.int .u64 0, .int .u64 0])).run Try.prog w = .ok (.bool (decide (x = E2.zero))) w := run_eqlE x E2.zero w

/-! ### Inverses, squares, multiples of X -/
theorem extInv_none (x : E2) (w : World) (h : x = E2.zero) : Calls Try.prog 107 #[.agg #[.int .u64 (vF x.A), .int .u64 (vF x.B)]] w fun e w' => e = .returned (.tuple #[.agg #[.int .u64 0, .int .u64 0], .int .i64 3]) ∧ Below w.heap.size w w' := by
  subst h
  exact extInv_zero w
theorem extInv_as (x z : E2) (w : World) (h : x ≠ E2.zero) (hz : E2.inv x = z) : Calls Try.prog 107 #[.agg #[.int .u64 (vF x.A), .int .u64 (vF x.B)]] w fun e w' => e = .returned (.tuple #[.agg #[.int .u64 (vF z.A), .int .u64 (vF z.B)], .int .i64 0]) ∧ Below w.heap.size w w' := hz ▸ extInv_any x w h
theorem extMul_unit (x y : E2) (w : World) (h : x * y = E2.one) : Calls Try.prog 63 #[.agg #[.int .u64 (vF x.A), .int .u64 (vF x.B)], .agg #[.int .u64 (vF y.A), .int .u64 (vF y.B)]] w fun e w' => e = .returned (.agg #[.int .u64 1, .int .u64 0]) ∧ Below w.heap.size w w' := extMul_as x y E2.one w h
theorem extAdd_real (x y : E2) (a : F) (w : World) (h : x + y = E2.ofF a) : Calls Try.prog 47 #[.agg #[.int .u64 (vF x.A), .int .u64 (vF x.B)], .agg #[.int .u64 (vF y.A), .int .u64 (vF y.B)]] w fun e w' => e = .returned (.agg #[.int .u64 (vF a), .int .u64 0]) ∧ Below w.heap.size w w' := extAdd_as x y (E2.ofF a) w h
theorem extMul_real (x y : E2) (a : F) (w : World) (h : x * y = E2.ofF a) : Calls Try.prog 63 #[.agg #[.int .u64 (vF x.A), .int .u64 (vF x.B)], .agg #[.int .u64 (vF y.A), .int .u64 (vF y.B)]] w fun e w' => e = .returned (.agg #[.int .u64 (vF a), .int .u64 0]) ∧ Below w.heap.size w w' := extMul_as x y (E2.ofF a) w h
theorem extMul_X (x : E2) (w : World) : Calls Try.prog 63 #[.agg #[.int .u64 0, .int .u64 1], .agg #[.int .u64 (vF x.A), .int .u64 (vF x.B)]] w fun e w' => e = .returned (.agg #[.int .u64 (vF (7 * x.B)), .int .u64 (vF x.A)]) ∧ Below w.heap.size w w' :=
  extMul_as E2.X x ⟨7 * x.B, x.A⟩ w (E2.ext' (by show 0 * x.A + 7 * (1 * x.B) = 7 * x.B; grind) (by show 0 * x.B + 1 * x.A = x.A; grind))
theorem extMul_XX (x : E2) (w : World) : Calls Try.prog 63 #[.agg #[.int .u64 0, .int .u64 1], .agg #[.int .u64 (vF (7 * x.B)), .int .u64 (vF x.A)]] w fun e w' => e = .returned (.agg #[.int .u64 (vF (7 * x.A)), .int .u64 (vF (7 * x.B))]) ∧ Below w.heap.size w w' := extMul_X ⟨7 * x.B, x.A⟩ w
theorem extMulBase_X (a : F) (w : World) : Calls Try.prog 111 #[.agg #[.int .u64 0, .int .u64 1], .int .u64 (vF a)] w fun e w' => e = .returned (.agg #[.int .u64 0, .int .u64 (vF a)]) ∧ Below w.heap.size w w' := by
  have h := extMulBase_any E2.X a w
  rw [show E2.X * E2.ofF a = ⟨0, a⟩ from E2.ext' (by show 0 * a + 7 * (1 * 0) = 0; grind) (by show 0 * 0 + 1 * a = a; grind)] at h
  exact h
theorem extMulBase_7 (x : E2) (w : World) : Calls Try.prog 111 #[.agg #[.int .u64 (vF x.A), .int .u64 (vF x.B)], .int .u64 7] w fun e w' => e = .returned (.agg #[.int .u64 (vF (7 * x.A)), .int .u64 (vF (7 * x.B))]) ∧ Below w.heap.size w w' := by
  have h := extMulBase_any x 7 w
  rw [show x * E2.ofF 7 = ⟨7 * x.A, 7 * x.B⟩ from E2.ext' (by show x.A * 7 + 7 * (x.B * 0) = 7 * x.A; grind) (by show x.A * 0 + x.B * 7 = 7 * x.B; grind)] at h
  exact h
theorem extAdd_parts (x : E2) (w : World) : Calls Try.prog 47 #[.agg #[.int .u64 (vF (E2.ofF x.A).A), .int .u64 (vF (E2.ofF x.A).B)], .agg #[.int .u64 0, .int .u64 (vF x.B)]] w fun e w' => e = .returned (.agg #[.int .u64 (vF x.A), .int .u64 (vF x.B)]) ∧ Below w.heap.size w w' :=
  extAdd_as (E2.ofF x.A) ⟨0, x.B⟩ x w (E2.ext' (by show x.A + 0 = x.A; grind) (by show 0 + x.B = x.B; grind))
theorem ezero_mul {a b : E2} (h : a ≠ E2.zero) : ezero (a * b) = decide (b = E2.zero) := by
  by_cases hb : b = E2.zero
  · rw [decide_eq_true hb, hb, E2.mul_zero]
    rfl
  · rw [decide_eq_false hb]
    cases k : ezero (a * b) with
    | false => rfl
    | true =>
      rcases E2.zero_divisor ((ezero_iff _).1 k) with e | e
      · exact absurd e h
      · exact absurd e hb
theorem conj_fix_bool (a : E2) : decide (E2.conj a = a) = (vF a.B == 0) := by
  by_cases h : a.B = 0
  · rw [decide_eq_true ((E2.conj_fix a).2 h), h]
    rfl
  · rw [decide_eq_false (fun e => h ((E2.conj_fix a).1 e))]
    exact (beq_not (vF_ne_zero h)).symm
theorem add_conj (a : E2) : a + E2.conj a = E2.ofF (a.A + a.A) := E2.ext' rfl (by show a.B + -a.B = 0; grind)

theorem sq_bool1 {x y : E2} (h : x = y) : decide (x * x = y * y) = true := decide_eq_true (by rw [h])
theorem sq_bool2 {x y : E2} (h : x ≠ y) : decide (x * x = y * y) = decide (x = -y) := by
  by_cases k : x = -y
  · rw [decide_eq_true k, decide_eq_true ((E2.sq_eq x y).2 (Or.inr k))]
  · rw [decide_eq_false k, decide_eq_false (fun e => ((E2.sq_eq x y).1 e).elim h k)]
theorem extInv_ofF (a : F) (w : World) : Calls Try.prog 107 #[.agg #[.int .u64 (vF (E2.ofF a).A), .int .u64 (vF (E2.ofF a).B)]] w fun e w' => e = .returned (.tuple #[.agg #[.int .u64 (vF (E2.ofF (invF a)).A), .int .u64 (vF (E2.ofF (invF a)).B)], .int .i64 (einvF a)]) ∧ Below w.heap.size w w' := by
  have h := extInv_all (E2.ofF a) w
  rw [E2.inv_ofF] at h
  have e : einvE (E2.ofF a) = einvF a := by
    unfold einvE einvF
    by_cases k : a = 0
    · rw [if_pos k, if_pos (by rw [k]; rfl)]
    · rw [if_neg k, if_neg (fun j => k (congrArg E2.A j))]
  rw [e] at h
  exact h
theorem toF_add (a b : Int) : toF a + toF b = toF (a + b) := by
  apply vF_inj
  rw [← vF_add, vF_toF, vF_toF, vF_toF]
  unfold fadd fred
  omega
theorem toF_mul (a b : Int) : toF a * toF b = toF (a * b) := by
  apply vF_inj
  rw [← vF_mul, vF_toF, vF_toF, vF_toF]
  unfold fmul fred
  rw [← Int.mul_emod]
theorem prod32 {a b : Int} (ha : 0 ≤ a ∧ a < 4294967296) (hb : 0 ≤ b ∧ b < 4294967296) : 0 ≤ a * b ∧ a * b < 18446744073709551616 := by
  refine ⟨Int.mul_nonneg ha.1 hb.1, ?_⟩
  have h := Int.mul_le_mul (show a ≤ 4294967295 by omega) (show b ≤ 4294967295 by omega) hb.1 (by decide)
  exact Int.lt_of_le_of_lt h (by decide)
theorem prod31 {a b : Int} (ha : -2147483648 ≤ a ∧ a < 2147483648) (hb : -2147483648 ≤ b ∧ b < 2147483648) : -4611686018427387904 ≤ a * b ∧ a * b ≤ 4611686018427387904 := by
  have h1 : a.natAbs * b.natAbs ≤ 2147483648 * 2147483648 := Nat.mul_le_mul (by omega) (by omega)
  rw [← Int.natAbs_mul] at h1
  omega

theorem ezero_not {x : E2} (h : x ≠ E2.zero) : ezero x = false := by
  cases k : ezero x with
  | false => rfl
  | true => exact absurd ((ezero_iff x).1 k) h

/-! ### Inverses and error codes behind letters -/
theorem invF_er (a z : F) (er : Int) (w : World) (hz : invF a = z) (h : einvF a = er) : Calls Try.prog 109 #[.int .u64 (vF a)] w fun e w' => e = .returned (.tuple #[.int .u64 (vF z), .int .i64 er]) ∧ Below w.heap.size w w' := h ▸ hz ▸ invF_all a w
theorem extInv_ofF_er (a z : F) (er : Int) (w : World) (hz : invF a = z) (h : einvF a = er) : Calls Try.prog 107 #[.agg #[.int .u64 (vF (E2.ofF a).A), .int .u64 (vF (E2.ofF a).B)]] w fun e w' => e = .returned (.tuple #[.agg #[.int .u64 (vF (E2.ofF z).A), .int .u64 (vF (E2.ofF z).B)], .int .i64 er]) ∧ Below w.heap.size w w' := h ▸ hz ▸ extInv_ofF a w
theorem extInv_er (x z : E2) (er : Int) (w : World) (hz : E2.inv x = z) (h : einvE x = er) : Calls Try.prog 107 #[.agg #[.int .u64 (vF x.A), .int .u64 (vF x.B)]] w fun e w' => e = .returned (.tuple #[.agg #[.int .u64 (vF z.A), .int .u64 (vF z.B)], .int .i64 er]) ∧ Below w.heap.size w w' := h ▸ hz ▸ extInv_all x w
theorem rInvE_er (x z : E2) (er : Int) (w : World) (hz : E2.inv x = z) (h : einvE x = er) : Calls Try.prog 71 #[.agg #[.int .u64 (vF x.A), .int .u64 (vF x.B)]] w fun e w' => e = .returned (.tuple #[.agg #[.int .u64 (vF z.A), .int .u64 (vF z.B)], .int .i64 er]) ∧ Below w.heap.size w w' := h ▸ hz ▸ rInvE_all x w
end Go.Proofs.Ytombcjdhjcmhhaa
