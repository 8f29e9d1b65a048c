/- FieldFermat, the walk: Fermat's little theorem for all field elements. -/
import Derived.Test.YtnhiggpndhndfaaW4
import Derived.Test.YtnhiggpndhndfaaL0
import Derived.Deep.QuietTactic
import Derived.BigQuiet
import Derived.Test.YtnhiggpndhndfaaL1
namespace Go.Proofs.Ytnhiggpndhndfaa
open Go.RowKit Gold

theorem zero_pos (n : Nat) (hn : 0 < n) : fpow 0 n = 0 := by
  have h := fpow_nat El_zero n
  have e : (Int.toNat 0) ^ n % P = 0 := by
    rw [show Int.toNat 0 = 0 from rfl, Nat.zero_pow hn]
    rfl
  rw [e] at h
  exact h
theorem zero_half : fpow 0 9223372034707292160 = 0 := zero_pos 9223372034707292160 (by omega)

set_option maxHeartbeats 1000000 in
set_option maxRecDepth 100000 in
theorem fermat_any (x0 x1 : Int) (w : World) (h0 : U64 x0) (h1 : U64 x1) :
    Calls Try.prog 8 #[.agg #[.int .u64 x0, .int .u64 x1]] w fun e w' => e = .returned (.bool true) ∧ Below w.heap.size w w' := by
  go_enter Try.func8, Try.ntmps8
  go_wp2_with (go_at_call 11; refine (sanity_any _).mono ?_; rintro e w1 ⟨rfl, hB⟩)
  have c0 : w1.cell? ⟨w.heap.size, 0, none⟩ = some (.int .u64 x0) := by rw [hB.cell (by simp)]; simp
  have c1 : w1.cell? ⟨w.heap.size, 1, none⟩ = some (.int .u64 x1) := by rw [hB.cell (by simp)]; simp
  have HB := Lib.hid hB
  clear hB
  go_quiet ((go_at_call 12; exact Calls.quiet_of_same (rreduce_any _ _ (by assumption))))
  have HB2 : Hid (Below w.heap.size w (w1.drewN nq)) := Lib.hid (below_drewN (((Below.refl _ _).alloc (Nat.le_refl _) _).trans (HB.out.mono (by simp))) _)
  clear HB c0 c1
  generalize w1.drewN nq = w2 at *
  have ha := El_fred x0
  have hb := El_fred x1
  clear h0 h1
  generalize fred x0 = a at *
  generalize fred x1 = b at *
  have e1 := bne_of (fpow_order ha)
  by_cases z0 : a = 0
  · subst z0
    have e2 := beq_of zero_half
    go_wp2_with (first
    | (go_at_call 30; refine (pow_any _ _ _ (by first | assumption | exact El_fadd _ _ | exact El_fmul _ _ | exact El_fsub _ _ | exact El_fneg _ | exact El_fpow _ _ | exact El_finv _ | exact El_fred _ | exact El_zero | exact El_one) (by unfold U64; omega)).mono ?_; rintro e w' ⟨rfl, rfl⟩)
    | (go_at_call 28; refine (mul_any _ _ _ (El.u64 (by first | assumption | exact El_fadd _ _ | exact El_fmul _ _ | exact El_fsub _ _ | exact El_fneg _ | exact El_fpow _ _ | exact El_finv _ | exact El_fred _ | exact El_zero | exact El_one)) (El.u64 (by first | assumption | exact El_fadd _ _ | exact El_fmul _ _ | exact El_fsub _ _ | exact El_fneg _ | exact El_fpow _ _ | exact El_finv _ | exact El_fred _ | exact El_zero | exact El_one))).mono ?_; rintro e w' ⟨rfl, rfl⟩)
    | (go_at_call 18; refine (rvalid_yes _ _ (by first | assumption | exact El_fadd _ _ | exact El_fmul _ _ | exact El_fsub _ _ | exact El_fneg _ | exact El_fpow _ _ | exact El_finv _ | exact El_fred _ | exact El_zero | exact El_one)).mono ?_; rintro e w' ⟨rfl, rfl⟩))
    go_ret
    exact ⟨rfl, HB2.out⟩
  · have e2 := bne_not z0
    have e3 := beq_not z0
    have e4 := bne_of (fpow_fermat ha z0)
    have e5 := beq_of (fpow_fmul a b 9223372034707292160)
    have D := fpow_half ha z0
    clear z0
    rcases D with D | D
    · have e6 := beq_of D
      clear D
      go_wp2_with (first
    | (go_at_call 30; refine (pow_any _ _ _ (by first | assumption | exact El_fadd _ _ | exact El_fmul _ _ | exact El_fsub _ _ | exact El_fneg _ | exact El_fpow _ _ | exact El_finv _ | exact El_fred _ | exact El_zero | exact El_one) (by unfold U64; omega)).mono ?_; rintro e w' ⟨rfl, rfl⟩)
    | (go_at_call 28; refine (mul_any _ _ _ (El.u64 (by first | assumption | exact El_fadd _ _ | exact El_fmul _ _ | exact El_fsub _ _ | exact El_fneg _ | exact El_fpow _ _ | exact El_finv _ | exact El_fred _ | exact El_zero | exact El_one)) (El.u64 (by first | assumption | exact El_fadd _ _ | exact El_fmul _ _ | exact El_fsub _ _ | exact El_fneg _ | exact El_fpow _ _ | exact El_finv _ | exact El_fred _ | exact El_zero | exact El_one))).mono ?_; rintro e w' ⟨rfl, rfl⟩)
    | (go_at_call 18; refine (rvalid_yes _ _ (by first | assumption | exact El_fadd _ _ | exact El_fmul _ _ | exact El_fsub _ _ | exact El_fneg _ | exact El_fpow _ _ | exact El_finv _ | exact El_fred _ | exact El_zero | exact El_one)).mono ?_; rintro e w' ⟨rfl, rfl⟩))
      go_ret
      exact ⟨rfl, HB2.out⟩
    · have e6 := beq_of D
      have e7 : (fpow a 9223372034707292160 == 1) = false := by rw [D]; decide
      clear D
      go_wp2_with (first
    | (go_at_call 30; refine (pow_any _ _ _ (by first | assumption | exact El_fadd _ _ | exact El_fmul _ _ | exact El_fsub _ _ | exact El_fneg _ | exact El_fpow _ _ | exact El_finv _ | exact El_fred _ | exact El_zero | exact El_one) (by unfold U64; omega)).mono ?_; rintro e w' ⟨rfl, rfl⟩)
    | (go_at_call 28; refine (mul_any _ _ _ (El.u64 (by first | assumption | exact El_fadd _ _ | exact El_fmul _ _ | exact El_fsub _ _ | exact El_fneg _ | exact El_fpow _ _ | exact El_finv _ | exact El_fred _ | exact El_zero | exact El_one)) (El.u64 (by first | assumption | exact El_fadd _ _ | exact El_fmul _ _ | exact El_fsub _ _ | exact El_fneg _ | exact El_fpow _ _ | exact El_finv _ | exact El_fred _ | exact El_zero | exact El_one))).mono ?_; rintro e w' ⟨rfl, rfl⟩)
    | (go_at_call 18; refine (rvalid_yes _ _ (by first | assumption | exact El_fadd _ _ | exact El_fmul _ _ | exact El_fsub _ _ | exact El_fneg _ | exact El_fpow _ _ | exact El_finv _ | exact El_fred _ | exact El_zero | exact El_one)).mono ?_; rintro e w' ⟨rfl, rfl⟩))
      go_ret
      exact ⟨rfl, HB2.out⟩

end Go.Proofs.Ytnhiggpndhndfaa
