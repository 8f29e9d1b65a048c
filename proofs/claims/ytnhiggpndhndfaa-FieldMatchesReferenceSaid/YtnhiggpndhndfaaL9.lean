/- FieldMatchesReference, the walk: every function of package field answers as its reference does. -/
import Derived.Test.YtnhiggpndhndfaaW4
import Derived.Test.YtnhiggpndhndfaaR0
import Derived.Test.YtnhiggpndhndfaaL1
import Derived.Test.YtnhiggpndhndfaaL6
import Derived.Deep.QuietTactic
import Derived.BigQuiet
namespace Go.Proofs.Ytnhiggpndhndfaa
open Go.RowKit Gold

/-- the error codes of Inv and Root, and the root or zero -/
def einv (a : Int) : Int := if a = 0 then 3 else 0
def vroot (k : Int) : Int := if 0 ≤ k ∧ k ≤ 32 then froot k else 0
def eroot (k : Int) : Int := if 0 ≤ k ∧ k ≤ 32 then 0 else 1

theorem finv_zero : finv 0 = 0 := zero_pos 18446744069414584319 (by omega)

theorem inv_all (a : Int) (w : World) (ha : El a) :
    Calls Try.prog 13 #[.int .u64 a] w fun e w' => e = .returned (.tuple #[.int .u64 (finv a), .int .i64 (einv a)]) ∧ Below w.heap.size w w' := by
  by_cases h : a = 0
  · subst h
    rw [finv_zero, show einv 0 = 3 from rfl]
    exact inv_zero w
  · rw [show einv a = 0 from if_neg h]
    exact inv_any a w ha h
theorem rinv_all (a : Int) (w : World) (ha : El a) :
    Calls Try.prog 14 #[.int .u64 a] w fun e w' => e = .returned (.tuple #[.int .u64 (finv a), .int .i64 (einv a)]) ∧ w' = w := by
  by_cases h : a = 0
  · subst h
    rw [finv_zero, show einv 0 = 3 from rfl]
    exact rinv_zero w
  · rw [show einv a = 0 from if_neg h]
    exact rinv_any a w ha h
theorem root_all (k : Int) (w : World) :
    Calls Try.prog 15 #[.int .i64 k] w fun e w' => e = .returned (.tuple #[.int .u64 (vroot k), .int .i64 (eroot k)]) ∧ w' = w := by
  by_cases h : 0 ≤ k ∧ k ≤ 32
  · rw [show vroot k = froot k from if_pos h, show eroot k = 0 from if_pos h]
    obtain ⟨j, rfl⟩ : ∃ j : Nat, k = j := ⟨k.toNat, by omega⟩
    exact root_nat j w (by omega)
  · rw [show vroot k = 0 from if_neg h, show eroot k = 1 from if_neg h]
    exact root_no k w (by omega)
theorem rroot_all (k : Int) (w : World) :
    Calls Try.prog 16 #[.int .i64 k] w fun e w' => e = .returned (.tuple #[.int .u64 (vroot k), .int .i64 (eroot k)]) ∧ w' = w := by
  by_cases h : 0 ≤ k ∧ k ≤ 32
  · rw [show vroot k = froot k from if_pos h, show eroot k = 0 from if_pos h]
    obtain ⟨j, rfl⟩ : ∃ j : Nat, k = j := ⟨k.toNat, by omega⟩
    exact rroot_nat j w (by omega)
  · rw [show vroot k = 0 from if_neg h, show eroot k = 1 from if_neg h]
    exact rroot_no k w (by omega)

set_option maxHeartbeats 2000000 in
set_option maxRecDepth 100000 in
theorem matches_any (x0 x1 n k : Int) (w : World) (h0 : U64 x0) (h1 : U64 x1) (hn : -9223372036854775808 ≤ n ∧ n < 9223372036854775808) :
    Calls Try.prog 3 #[.agg #[.int .u64 x0, .int .u64 x1], .int .i64 n, .int .i64 k] w fun e w' => e = .returned (.bool true) ∧ Below w.heap.size w w' := by
  go_enter Try.func3, Try.ntmps3
  go_wp2_with (go_at_call 11; refine (sanity_any _).mono ?_; rintro e w1 ⟨rfl, hB⟩)
  have c0 : w1.cell? ⟨w.heap.size, 0, none⟩ = some (.int .u64 x0) := by rw [hB.cell (by simp)]; simp
  have c1 : w1.cell? ⟨w.heap.size, 1, none⟩ = some (.int .u64 x1) := by rw [hB.cell (by simp)]; simp
  have hb1 : w.heap.size < w1.heap.size := Nat.lt_of_lt_of_le (by simp) hB.size
  have HB := Lib.hid hB
  clear hB
  go_quiet ((go_at_call 12; exact Calls.quiet_of_same (rreduce_any _ _ (by assumption))))
  have HB2 : Hid (Below w.heap.size w (w1.drewN nq)) := Lib.hid (below_drewN (((Below.refl _ _).alloc (Nat.le_refl _) _).trans (HB.out.mono (by simp))) _)
  have d0 : (w1.drewN nq).cell? ⟨w.heap.size, 0, none⟩ = some (.int .u64 x0) := c0
  have d1 : (w1.drewN nq).cell? ⟨w.heap.size, 1, none⟩ = some (.int .u64 x1) := c1
  have hb2 : w.heap.size < (w1.drewN nq).heap.size := hb1
  clear HB c0 c1 hb1
  generalize w1.drewN nq = w2 at *
  go_wp2_with (first
    | (go_at_call 13; ((with_reducible refine (inv_all _ _ (El_fred _)).mono ?_)); rintro e w3 ⟨rfl, hB3⟩; have g0 := (hB3.cell (p := ⟨w.heap.size, 0, none⟩) hb2).trans d0; have g1 := (hB3.cell (p := ⟨w.heap.size, 1, none⟩) hb2).trans d1; have HB3 := Lib.hid hB3; clear hB3 d0 d1 hb2)
    | (go_at_call 14; ((with_reducible refine (rinv_all _ _ (El_fred _)).mono ?_)); rintro e w' ⟨rfl, rfl⟩)
    | (go_at_call 15; ((with_reducible refine (root_all _ _).mono ?_)); rintro e w' ⟨rfl, rfl⟩)
    | (go_at_call 16; ((with_reducible refine (rroot_all _ _).mono ?_)); rintro e w' ⟨rfl, rfl⟩))
  go_quiet ((first
    | (go_at_call 17; exact Calls.quiet_of_same (valid_any _ _))
    | (go_at_call 18; exact Calls.quiet_of_same (rvalid_any _ _))
    | (go_at_call 19; exact Calls.quiet_of_same (reduce_any _ _ (by assumption)))
    | (go_at_call 20; exact Calls.quiet_of_same (fromInt_any _ _ hn.1 hn.2))
    | (go_at_call 21; exact Calls.quiet_of_same (rfromInt_any _ _ hn.1 hn.2))
    | (go_at_call 22; exact Calls.quiet_of_same (add_any _ _ _ (by first | assumption | exact El_fred _) (by first | assumption | exact El_fred _)))
    | (go_at_call 23; exact Calls.quiet_of_same (radd_any _ _ _ (by first | assumption | exact El_fred _) (by first | assumption | exact El_fred _)))
    | (go_at_call 24; exact Calls.quiet_of_same (sub_any _ _ _ (by first | assumption | exact El_fred _) (by first | assumption | exact El_fred _)))
    | (go_at_call 25; exact Calls.quiet_of_same (rsub_any _ _ _ (by first | assumption | exact El_fred _) (by first | assumption | exact El_fred _)))
    | (go_at_call 26; exact Calls.quiet_of_same (neg_any _ _ (by first | assumption | exact El_fred _)))
    | (go_at_call 27; exact Calls.quiet_of_same (rneg_any _ _ (by first | assumption | exact El_fred _)))
    | (go_at_call 28; exact Calls.quiet_of_same (mul_any _ _ _ (El.u64 (by first | assumption | exact El_fred _)) (El.u64 (by first | assumption | exact El_fred _))))
    | (go_at_call 29; exact Calls.quiet_of_same (rmul_any _ _ _ (by first | assumption | exact El_fred _) (by first | assumption | exact El_fred _)))
    | (go_at_call 30; exact Calls.quiet_of_same (pow_any _ _ _ (by first | assumption | exact El_fred _) (by assumption)))
    | (go_at_call 31; exact Calls.quiet_of_same (rpow_any _ _ _ (by first | assumption | exact El_fred _) (by assumption)))))
  go_wp2
  go_ret
  exact ⟨rfl, below_drewN (HB2.out.trans (HB3.out.mono HB2.out.size)) _⟩

end Go.Proofs.Ytnhiggpndhndfaa
