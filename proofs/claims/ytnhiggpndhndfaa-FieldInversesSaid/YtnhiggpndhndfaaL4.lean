/- FieldInverses, the walk: multiplicative inverses of all nonzero field elements. -/
import Derived.Test.YtnhiggpndhndfaaW4
import Derived.Test.YtnhiggpndhndfaaL0
import Derived.Deep.QuietTactic
import Derived.BigQuiet
import Derived.Test.YtnhiggpndhndfaaL1
namespace Go.Proofs.Ytnhiggpndhndfaa
open Go.RowKit Gold

set_option maxHeartbeats 1000000 in
set_option maxRecDepth 100000 in
theorem inverses_any (x0 x1 : Int) (w : World) (h0 : U64 x0) (h1 : U64 x1) :
    Calls Try.prog 6 #[.agg #[.int .u64 x0, .int .u64 x1]] w fun e w' => e = .returned (.bool true) ∧ Below w.heap.size w w' := by
  go_enter Try.func6, Try.ntmps6
  go_wp2_with (go_at_call 11; refine (sanity_any _).mono ?_; rintro e w1 ⟨rfl, hB⟩)
  have c0 : w1.cell? ⟨w.heap.size, 0, none⟩ = some (.int .u64 x0) := by rw [hB.cell (by simp)]; simp
  have c1 : w1.cell? ⟨w.heap.size, 1, none⟩ = some (.int .u64 x1) := by rw [hB.cell (by simp)]; simp
  have HB := Lib.hid hB
  clear hB
  go_quiet ((go_at_call 12; exact Calls.quiet_of_same (rreduce_any _ _ (by assumption))))
  have HB2 : Hid (Below w.heap.size w (w1.drewN nq)) := Lib.hid (below_drewN (((Below.refl _ _).alloc (Nat.le_refl _) _).trans (HB.out.mono (by simp))) _)
  clear HB c0 c1
  generalize w1.drewN nq = w2 at *
  have ha := El_fred x0
  have hb := El_fred x1
  clear h0 h1
  generalize fred x0 = a at *
  generalize fred x1 = b at *
  by_cases z0 : a = 0
  · subst z0
    go_wp2_with (go_at_call 13; refine (inv_zero _).mono ?_; rintro e w3 ⟨rfl, hB3⟩; have HB3 := Lib.hid hB3; clear hB3)
    go_ret
    exact ⟨rfl, HB2.out.trans (HB3.out.mono HB2.out.size)⟩
  · have n0 := finv_ne_zero ha z0
    have f0 := beq_not z0
    have f1 := beq_not n0
    have f2 := bne_of (fmul_finv ha z0)
    have f3 := beq_of (finv_finv ha z0)
    have Z0 := Lib.hid z0
    have N0 := Lib.hid n0
    clear z0 n0
    by_cases z1 : b = 0
    · subst z1
      go_wp2_with (first
        | (go_at_call 13; ((with_reducible refine (inv_any a _ ha Z0.out).mono ?_)); rintro e w3 ⟨rfl, hB3⟩; have HB3 := Lib.hid hB3; clear hB3)
        | (go_at_call 13; ((with_reducible refine (inv_any (finv a) _ (El_finv a) N0.out).mono ?_)); rintro e w4 ⟨rfl, hB4⟩; have HB4 := Lib.hid hB4; clear hB4)
        | (go_at_call 18; refine (rvalid_yes _ _ (by first | assumption | exact El_fadd _ _ | exact El_fmul _ _ | exact El_fsub _ _ | exact El_fneg _ | exact El_fpow _ _ | exact El_finv _ | exact El_fred _ | exact El_zero | exact El_one)).mono ?_; rintro e w' ⟨rfl, rfl⟩)
        | (go_at_call 28; refine (mul_any _ _ _ (El.u64 (by first | assumption | exact El_fadd _ _ | exact El_fmul _ _ | exact El_fsub _ _ | exact El_fneg _ | exact El_fpow _ _ | exact El_finv _ | exact El_fred _ | exact El_zero | exact El_one)) (El.u64 (by first | assumption | exact El_fadd _ _ | exact El_fmul _ _ | exact El_fsub _ _ | exact El_fneg _ | exact El_fpow _ _ | exact El_finv _ | exact El_fred _ | exact El_zero | exact El_one))).mono ?_; rintro e w' ⟨rfl, rfl⟩))
      go_ret
      have k3 := HB2.out.trans (HB3.out.mono HB2.out.size)
      exact ⟨rfl, k3.trans (HB4.out.mono k3.size)⟩
    · have m0 := fmul_ne_zero ha hb Z0.out z1
      have f4 := beq_not z1
      have f5 := bne_not m0
      have f6 := beq_of (finv_fmul ha hb Z0.out z1)
      have Z1 := Lib.hid z1
      have M0 := Lib.hid m0
      clear z1 m0
      go_wp2_with (first
        | (go_at_call 13; ((with_reducible refine (inv_any a _ ha Z0.out).mono ?_)); rintro e w3 ⟨rfl, hB3⟩; have HB3 := Lib.hid hB3; clear hB3)
        | (go_at_call 13; ((with_reducible refine (inv_any (finv a) _ (El_finv a) N0.out).mono ?_)); rintro e w4 ⟨rfl, hB4⟩; have HB4 := Lib.hid hB4; clear hB4)
        | (go_at_call 13; ((with_reducible refine (inv_any b _ hb Z1.out).mono ?_)); rintro e w5 ⟨rfl, hB5⟩; have HB5 := Lib.hid hB5; clear hB5)
        | (go_at_call 13; ((with_reducible refine (inv_any (fmul a b) _ (El_fmul a b) M0.out).mono ?_)); rintro e w6 ⟨rfl, hB6⟩; have HB6 := Lib.hid hB6; clear hB6)
        | (go_at_call 18; refine (rvalid_yes _ _ (by first | assumption | exact El_fadd _ _ | exact El_fmul _ _ | exact El_fsub _ _ | exact El_fneg _ | exact El_fpow _ _ | exact El_finv _ | exact El_fred _ | exact El_zero | exact El_one)).mono ?_; rintro e w' ⟨rfl, rfl⟩)
        | (go_at_call 28; refine (mul_any _ _ _ (El.u64 (by first | assumption | exact El_fadd _ _ | exact El_fmul _ _ | exact El_fsub _ _ | exact El_fneg _ | exact El_fpow _ _ | exact El_finv _ | exact El_fred _ | exact El_zero | exact El_one)) (El.u64 (by first | assumption | exact El_fadd _ _ | exact El_fmul _ _ | exact El_fsub _ _ | exact El_fneg _ | exact El_fpow _ _ | exact El_finv _ | exact El_fred _ | exact El_zero | exact El_one))).mono ?_; rintro e w' ⟨rfl, rfl⟩))
      go_ret
      have k3 := HB2.out.trans (HB3.out.mono HB2.out.size)
      have k4 := k3.trans (HB4.out.mono k3.size)
      have k5 := k4.trans (HB5.out.mono k4.size)
      exact ⟨rfl, k5.trans (HB6.out.mono k5.size)⟩

end Go.Proofs.Ytnhiggpndhndfaa
