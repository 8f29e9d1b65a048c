/- FieldPowers, the walk: the laws of exponents for all field elements and all exponents below 2^32. -/
import Derived.Test.YtnhiggpndhndfaaW4
import Derived.Test.YtnhiggpndhndfaaL0
import Derived.Deep.QuietTactic
import Derived.BigQuiet
import Derived.Test.YtnhiggpndhndfaaL1
namespace Go.Proofs.Ytnhiggpndhndfaa
open Go.RowKit Gold

set_option maxHeartbeats 1000000 in
set_option maxRecDepth 100000 in
theorem powers_any (x0 x1 m n : Int) (w : World) (h0 : U64 x0) (h1 : U64 x1) (hm : 0 ≤ m ∧ m < 4294967296) (hn : 0 ≤ n ∧ n < 4294967296) :
    Calls Try.prog 7 #[.agg #[.int .u64 x0, .int .u64 x1], .int .u32 m, .int .u32 n] w fun e w' => e = .returned (.bool true) ∧ Below w.heap.size w w' := by
  have p0 : 0 ≤ m * n := Int.mul_nonneg hm.1 hn.1
  have p1 : m * n ≤ 18446744065119617025 := Int.le_trans (Int.mul_le_mul (show m ≤ 4294967295 by omega) (show n ≤ 4294967295 by omega) hn.1 (by decide)) (by decide)
  go_enter Try.func7, Try.ntmps7
  go_wp2_with (go_at_call 11; refine (sanity_any _).mono ?_; rintro e w1 ⟨rfl, hB⟩)
  have c0 : w1.cell? ⟨w.heap.size, 0, none⟩ = some (.int .u64 x0) := by rw [hB.cell (by simp)]; simp
  have c1 : w1.cell? ⟨w.heap.size, 1, none⟩ = some (.int .u64 x1) := by rw [hB.cell (by simp)]; simp
  have HB := Lib.hid hB
  clear hB
  go_quiet ((go_at_call 12; exact Calls.quiet_of_same (rreduce_any _ _ (by assumption))))
  have HB2 : Hid (Below w.heap.size w (w1.drewN nq)) := Lib.hid (below_drewN (((Below.refl _ _).alloc (Nat.le_refl _) _).trans (HB.out.mono (by simp))) _)
  clear HB c0 c1
  generalize w1.drewN nq = w2 at *
  have ha := El_fred x0
  have hb := El_fred x1
  clear h0 h1
  generalize fred x0 = a at *
  generalize fred x1 = b at *
  have e1 := beq_of (fpow_add a m n hm.1 hn.1)
  have e2 := beq_of (fpow_mul a m n hm.1 hn.1)
  have e3 := beq_of (fpow_fmul a b n)
  have e4 := beq_of (fpow_zero a)
  have e5 := beq_of (fpow_one ha)
  have e6 := beq_of (fpow_two a)
  go_wp2_with (first
    | (go_at_call 30; refine (pow_any _ _ _ (by first | assumption | exact El_fadd _ _ | exact El_fmul _ _ | exact El_fsub _ _ | exact El_fneg _ | exact El_fpow _ _ | exact El_finv _ | exact El_fred _ | exact El_zero | exact El_one) (by unfold U64; omega)).mono ?_; rintro e w' ⟨rfl, rfl⟩)
    | (go_at_call 28; refine (mul_any _ _ _ (El.u64 (by first | assumption | exact El_fadd _ _ | exact El_fmul _ _ | exact El_fsub _ _ | exact El_fneg _ | exact El_fpow _ _ | exact El_finv _ | exact El_fred _ | exact El_zero | exact El_one)) (El.u64 (by first | assumption | exact El_fadd _ _ | exact El_fmul _ _ | exact El_fsub _ _ | exact El_fneg _ | exact El_fpow _ _ | exact El_finv _ | exact El_fred _ | exact El_zero | exact El_one))).mono ?_; rintro e w' ⟨rfl, rfl⟩)
    | (go_at_call 18; refine (rvalid_yes _ _ (by first | assumption | exact El_fadd _ _ | exact El_fmul _ _ | exact El_fsub _ _ | exact El_fneg _ | exact El_fpow _ _ | exact El_finv _ | exact El_fred _ | exact El_zero | exact El_one)).mono ?_; rintro e w' ⟨rfl, rfl⟩))
  go_ret
  exact ⟨rfl, HB2.out⟩

end Go.Proofs.Ytnhiggpndhndfaa
