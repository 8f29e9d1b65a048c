/- FieldNegatives, the walk: additive inverses of all field elements. -/
import Derived.Test.YtnhiggpndhndfaaW4
import Derived.Test.YtnhiggpndhndfaaL0
import Derived.Deep.QuietTactic
import Derived.BigQuiet
import Derived.Test.YtnhiggpndhndfaaL1
namespace Go.Proofs.Ytnhiggpndhndfaa
open Go.RowKit Gold

set_option maxHeartbeats 1000000 in
set_option maxRecDepth 100000 in
theorem negatives_any (x0 x1 : Int) (w : World) (h0 : U64 x0) (h1 : U64 x1) :
    Calls Try.prog 5 #[.agg #[.int .u64 x0, .int .u64 x1]] w fun e w' => e = .returned (.bool true) ∧ Below w.heap.size w w' := by
  go_enter Try.func5, Try.ntmps5
  go_wp2_with (go_at_call 11; refine (sanity_any _).mono ?_; rintro e w1 ⟨rfl, hB⟩)
  have c0 : w1.cell? ⟨w.heap.size, 0, none⟩ = some (.int .u64 x0) := by rw [hB.cell (by simp)]; simp
  have c1 : w1.cell? ⟨w.heap.size, 1, none⟩ = some (.int .u64 x1) := by rw [hB.cell (by simp)]; simp
  have HB := Lib.hid hB
  clear hB
  go_quiet ((go_at_call 12; exact Calls.quiet_of_same (rreduce_any _ _ (by assumption))))
  have HB2 : Hid (Below w.heap.size w (w1.drewN nq)) := Lib.hid (below_drewN (((Below.refl _ _).alloc (Nat.le_refl _) _).trans (HB.out.mono (by simp))) _)
  clear HB c0 c1
  generalize w1.drewN nq = w2 at *
  have ha := El_fred x0
  have hb := El_fred x1
  clear h0 h1
  generalize fred x0 = a at *
  generalize fred x1 = b at *
  have e1 := beq_of (fadd_fneg a)
  have e2 := beq_of (fneg_fneg ha)
  have e3 := beq_of (fsub_eq a b)
  have e4 := beq_of (fadd_fsub b ha)
  have e5 := beq_of (fmul_fneg a b)
  go_wp2_with (first
    | (go_at_call 22; refine (add_any _ _ _ (by first | assumption | exact El_fadd _ _ | exact El_fmul _ _ | exact El_fsub _ _ | exact El_fneg _ | exact El_fpow _ _ | exact El_finv _ | exact El_fred _ | exact El_zero | exact El_one) (by first | assumption | exact El_fadd _ _ | exact El_fmul _ _ | exact El_fsub _ _ | exact El_fneg _ | exact El_fpow _ _ | exact El_finv _ | exact El_fred _ | exact El_zero | exact El_one)).mono ?_; rintro e w' ⟨rfl, rfl⟩)
    | (go_at_call 24; refine (sub_any _ _ _ (by first | assumption | exact El_fadd _ _ | exact El_fmul _ _ | exact El_fsub _ _ | exact El_fneg _ | exact El_fpow _ _ | exact El_finv _ | exact El_fred _ | exact El_zero | exact El_one) (by first | assumption | exact El_fadd _ _ | exact El_fmul _ _ | exact El_fsub _ _ | exact El_fneg _ | exact El_fpow _ _ | exact El_finv _ | exact El_fred _ | exact El_zero | exact El_one)).mono ?_; rintro e w' ⟨rfl, rfl⟩)
    | (go_at_call 26; refine (neg_any _ _ (by first | assumption | exact El_fadd _ _ | exact El_fmul _ _ | exact El_fsub _ _ | exact El_fneg _ | exact El_fpow _ _ | exact El_finv _ | exact El_fred _ | exact El_zero | exact El_one)).mono ?_; rintro e w' ⟨rfl, rfl⟩)
    | (go_at_call 28; refine (mul_any _ _ _ (El.u64 (by first | assumption | exact El_fadd _ _ | exact El_fmul _ _ | exact El_fsub _ _ | exact El_fneg _ | exact El_fpow _ _ | exact El_finv _ | exact El_fred _ | exact El_zero | exact El_one)) (El.u64 (by first | assumption | exact El_fadd _ _ | exact El_fmul _ _ | exact El_fsub _ _ | exact El_fneg _ | exact El_fpow _ _ | exact El_finv _ | exact El_fred _ | exact El_zero | exact El_one))).mono ?_; rintro e w' ⟨rfl, rfl⟩)
    | (go_at_call 18; refine (rvalid_yes _ _ (by first | assumption | exact El_fadd _ _ | exact El_fmul _ _ | exact El_fsub _ _ | exact El_fneg _ | exact El_fpow _ _ | exact El_finv _ | exact El_fred _ | exact El_zero | exact El_one)).mono ?_; rintro e w' ⟨rfl, rfl⟩))
  go_ret
  exact ⟨rfl, HB2.out⟩

end Go.Proofs.Ytnhiggpndhndfaa
