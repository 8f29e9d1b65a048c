/- The contracts of package field and of its reference over the field as a type; no conditions but that the words are field elements. -/
import Derived.Test.YtombcjdhjcmhhaaFieldC
import Derived.Test.YtombcjdhjcmhhaaFp
import Derived.Test.YtombcjdhjcmhhaaMem
import Derived.Deep.RegionHeld3
import Derived.Deep.QuietTactic
import Derived.BigQuiet
namespace Go.Proofs.Ytombcjdhjcmhhaa
set_option maxRecDepth 8000
open Go.RowKit Gold

theorem addF (a b : F) (w : World) : Calls Try.prog 65 #[.int .u64 (vF a), .int .u64 (vF b)] w fun e w' => e = .returned (.int .u64 (vF (a + b))) ∧ w' = w :=
  vF_add a b ▸ add_any (vF a) (vF b) w (El_vF a) (El_vF b)
theorem subF (a b : F) (w : World) : Calls Try.prog 79 #[.int .u64 (vF a), .int .u64 (vF b)] w fun e w' => e = .returned (.int .u64 (vF (a - b))) ∧ w' = w :=
  vF_sub a b ▸ sub_any (vF a) (vF b) w (El_vF a) (El_vF b)
theorem sub0F (b : F) (w : World) : Calls Try.prog 79 #[.int .u64 0, .int .u64 (vF b)] w fun e w' => e = .returned (.int .u64 (vF (0 - b))) ∧ w' = w :=
  subF 0 b w
theorem negF (a : F) (w : World) : Calls Try.prog 115 #[.int .u64 (vF a)] w fun e w' => e = .returned (.int .u64 (vF (-a))) ∧ w' = w :=
  vF_neg a ▸ neg_any (vF a) w (El_vF a)
theorem mulF (a b : F) (w : World) : Calls Try.prog 94 #[.int .u64 (vF a), .int .u64 (vF b)] w fun e w' => e = .returned (.int .u64 (vF (a * b))) ∧ w' = w :=
  vF_mul a b ▸ mul_any (vF a) (vF b) w (El_vF a).u64 (El_vF b).u64
theorem mul7F (b : F) (w : World) : Calls Try.prog 94 #[.int .u64 7, .int .u64 (vF b)] w fun e w' => e = .returned (.int .u64 (vF (7 * b))) ∧ w' = w :=
  mulF 7 b w
theorem validF (a : F) (w : World) : Calls Try.prog 85 #[.int .u64 (vF a)] w fun e w' => e = .returned (.bool true) ∧ w' = w := by
  have h := valid_any (vF a) w
  rw [show decide (vF a < 18446744069414584321) = true from decide_eq_true (El_vF a).2] at h
  exact h
theorem fromIntF (a : Int) (w : World) (h0 : -9223372036854775808 ≤ a) (h1 : a < 9223372036854775808) : Calls Try.prog 108 #[.int .i64 a] w fun e w' => e = .returned (.int .u64 (vF (toF a))) ∧ w' = w :=
  vF_toF a ▸ fromInt_any a w h0 h1
/-- the error code of an inverse -/
def einvF (a : F) : Int := if a = 0 then 3 else 0
theorem invF_any (a : F) (w : World) (h : a ≠ 0) : Calls Try.prog 109 #[.int .u64 (vF a)] w fun e w' => e = .returned (.tuple #[.int .u64 (vF (invF a)), .int .i64 0]) ∧ Below w.heap.size w w' := by
  have k := inv_any (vF a) w (El_vF a) (vF_ne_zero h)
  rw [vF_inv] at k
  exact k
theorem invF_zero_any (w : World) : Calls Try.prog 109 #[.int .u64 (vF 0)] w fun e w' => e = .returned (.tuple #[.int .u64 0, .int .i64 3]) ∧ Below w.heap.size w w' :=
  inv_zero w
theorem invF_all (a : F) (w : World) : Calls Try.prog 109 #[.int .u64 (vF a)] w fun e w' => e = .returned (.tuple #[.int .u64 (vF (invF a)), .int .i64 (einvF a)]) ∧ Below w.heap.size w w' := by
  by_cases h : a = 0
  · subst h
    rw [invF_zero, show einvF 0 = 3 from rfl]
    exact inv_zero w
  · rw [show einvF a = 0 from if_neg h]
    exact invF_any a w h
theorem raddF (a b : F) (w : World) : Calls Try.prog 52 #[.int .u64 (vF a), .int .u64 (vF b)] w fun e w' => e = .returned (.int .u64 (vF (a + b))) ∧ w' = w :=
  vF_add a b ▸ radd_any (vF a) (vF b) w (El_vF a) (El_vF b)
theorem rnegF (a : F) (w : World) : Calls Try.prog 74 #[.int .u64 (vF a)] w fun e w' => e = .returned (.int .u64 (vF (-a))) ∧ w' = w :=
  vF_neg a ▸ rneg_any (vF a) w (El_vF a)
theorem rmulF (a b : F) (w : World) : Calls Try.prog 56 #[.int .u64 (vF a), .int .u64 (vF b)] w fun e w' => e = .returned (.int .u64 (vF (a * b))) ∧ w' = w :=
  vF_mul a b ▸ rmul_any (vF a) (vF b) w (El_vF a) (El_vF b)
theorem rmul7F (b : F) (w : World) : Calls Try.prog 56 #[.int .u64 7, .int .u64 (vF b)] w fun e w' => e = .returned (.int .u64 (vF (7 * b))) ∧ w' = w :=
  rmulF 7 b w
theorem rvalidF (a : F) (w : World) : Calls Try.prog 59 #[.int .u64 (vF a)] w fun e w' => e = .returned (.bool true) ∧ w' = w := by
  have h := rvalid_any (vF a) w
  rw [show decide (vF a < 18446744069414584321) = true from decide_eq_true (El_vF a).2] at h
  exact h
theorem rreduceF (a : Int) (w : World) (h : U64 a) : Calls Try.prog 51 #[.int .u64 a] w fun e w' => e = .returned (.int .u64 (vF (toF a))) ∧ w' = w :=
  vF_toF a ▸ rreduce_any a w h
theorem rfromIntF (a : Int) (w : World) (h0 : -9223372036854775808 ≤ a) (h1 : a < 9223372036854775808) : Calls Try.prog 57 #[.int .i64 a] w fun e w' => e = .returned (.int .u64 (vF (toF a))) ∧ w' = w :=
  vF_toF a ▸ rfromInt_any a w h0 h1
theorem rinvF_any (a : F) (w : World) (h : a ≠ 0) : Calls Try.prog 90 #[.int .u64 (vF a)] w fun e w' => e = .returned (.tuple #[.int .u64 (vF (invF a)), .int .i64 0]) ∧ w' = w := by
  have k := rinv_any (vF a) w (El_vF a) (vF_ne_zero h)
  rw [vF_inv] at k
  exact k
theorem rinvF_all (a : F) (w : World) : Calls Try.prog 90 #[.int .u64 (vF a)] w fun e w' => e = .returned (.tuple #[.int .u64 (vF (invF a)), .int .i64 (einvF a)]) ∧ w' = w := by
  by_cases h : a = 0
  · subst h
    rw [invF_zero, show einvF 0 = 3 from rfl]
    exact rinv_zero w
  · rw [show einvF a = 0 from if_neg h]
    exact rinvF_any a w h

end Go.Proofs.Ytombcjdhjcmhhaa
