/- FieldRing, the walk: the ring laws hold for all field elements. -/
import Derived.Test.YtnhiggpndhndfaaW4
import Derived.Test.YtnhiggpndhndfaaL0
import Derived.Deep.QuietTactic
import Derived.BigQuiet
import Derived.Test.YtnhiggpndhndfaaL1
namespace Go.Proofs.Ytnhiggpndhndfaa
open Go.RowKit Gold

set_option maxHeartbeats 1000000 in
set_option maxRecDepth 100000 in
theorem ring_any (x0 x1 x2 : Int) (w : World) (h0 : U64 x0) (h1 : U64 x1) (h2 : U64 x2) :
    Calls Try.prog 4 #[.agg #[.int .u64 x0, .int .u64 x1, .int .u64 x2]] w fun e w' => e = .returned (.bool true) ∧ Below w.heap.size w w' := by
  go_enter Try.func4, Try.ntmps4
  go_wp2_with (go_at_call 11; refine (sanity_any _).mono ?_; rintro e w1 ⟨rfl, hB⟩)
  have c0 : w1.cell? ⟨w.heap.size, 0, none⟩ = some (.int .u64 x0) := by rw [hB.cell (by simp)]; simp
  have c1 : w1.cell? ⟨w.heap.size, 1, none⟩ = some (.int .u64 x1) := by rw [hB.cell (by simp)]; simp
  have c2 : w1.cell? ⟨w.heap.size, 2, none⟩ = some (.int .u64 x2) := by rw [hB.cell (by simp)]; simp
  have HB := Lib.hid hB
  clear hB
  go_quiet ((go_at_call 12; exact Calls.quiet_of_same (rreduce_any _ _ (by assumption))))
  have HB2 : Hid (Below w.heap.size w (w1.drewN nq)) := Lib.hid (below_drewN (((Below.refl _ _).alloc (Nat.le_refl _) _).trans (HB.out.mono (by simp))) _)
  clear HB c0 c1 c2
  generalize w1.drewN nq = w2 at *
  have ha := El_fred x0
  have hb := El_fred x1
  have hc := El_fred x2
  clear h0 h1 h2
  generalize fred x0 = a at *
  generalize fred x1 = b at *
  generalize fred x2 = c at *
  have e1 := beq_of (fadd_comm a b)
  have e2 := beq_of (fmul_comm a b)
  have e3 := beq_of (fadd_assoc a b c)
  have e4 := beq_of (fmul_assoc a b c)
  have e5 := beq_of (fmul_fadd a b c)
  have e6 := beq_of (fadd_zero ha)
  have e7 := beq_of (fmul_one ha)
  have e8 := beq_of (fmul_zero a)
  go_wp2_with (first
    | (go_at_call 22; refine (add_any _ _ _ (by first | assumption | exact El_fadd _ _ | exact El_fmul _ _ | exact El_zero) (by first | assumption | exact El_fadd _ _ | exact El_fmul _ _ | exact El_zero)).mono ?_; rintro e w' ⟨rfl, rfl⟩)
    | (go_at_call 28; refine (mul_any _ _ _ (El.u64 (by first | assumption | exact El_fadd _ _ | exact El_fmul _ _ | exact El_zero | exact El_one)) (El.u64 (by first | assumption | exact El_fadd _ _ | exact El_fmul _ _ | exact El_zero | exact El_one))).mono ?_; rintro e w' ⟨rfl, rfl⟩)
    | (go_at_call 18; refine (rvalid_yes _ _ (by first | assumption | exact El_fadd _ _ | exact El_fmul _ _)).mono ?_; rintro e w' ⟨rfl, rfl⟩))
  go_ret
  exact ⟨rfl, HB2.out⟩
end Go.Proofs.Ytnhiggpndhndfaa
