/- Contracts of the powers of package field and of its reference: each returns the power modulo the order and leaves memory alone, for every field element and every exponent. -/
import Derived.Test.YtombcjdhjcmhhaaFieldA
import Derived.Test.YtombcjdhjcmhhaaGold
import Derived.Lib.Hide
namespace Go.Proofs.Ytombcjdhjcmhhaa
set_option maxRecDepth 8000
open Go.RowKit Gold

set_option maxHeartbeats 400000 in
theorem rpow_nat (a : Int) (N : Nat) (w : World) (ha : El a) (hn : N < 18446744073709551616) :
    Calls Try.prog 98 #[.int .u64 a, .int .u64 N] w fun e w' => e = .returned (.int .u64 (fpow a N)) ∧ w' = w := by
  go_enter Try.func98, Try.ntmps98
  go_wp2
  go_loop [0, 1, 5] (fun s0 s1 s5 => ∃ (b r : Int) (k : Nat), El b ∧ El r ∧ k < 18446744073709551616 ∧ Hid (Pw b k r = fpow a N) ∧ s0 = .int .u64 b ∧ s1 = .int .u64 k ∧ s5 = .int .u64 r) (fun _ s1 _ => (intOf s1).toNat)
  case atStart => exact ⟨a, 1, N, ha, El_one, hn, Lib.hid (Pw_one a N), rfl, rfl, rfl⟩
  case round =>
    obtain ⟨b, r, k, hb, hr, hk, hp, rfl, rfl, rfl⟩ := hrel
    by_cases h0 : k = 0
    · subst h0
      go_wp2
      go_ret
      exact ⟨ret_int (by rw [← hp.out, Pw_zero _ _ hr]), rfl⟩
    · have hpos : 0 < (k : Int) := by omega
      by_cases h1 : k % 2 = 1
      · have e1 : ((k : Int) % 2 == 1) = true := by simp; omega
        have H0 := Lib.hid h0
        have H1 := Lib.hid h1
        clear h0 h1
        go_wp2_with (go_at_call 56; refine (rmul_any _ _ _ (by assumption) (by assumption)).mono ?_; rintro e w' ⟨rfl, rfl⟩)
        go_round
        case rel => exact ⟨fmul b b, fmul r b, k / 2, El_fmul _ _, El_fmul _ _, by omega, Lib.hid ((Pw_odd b r k H1.out).trans hp.out), rfl, by go_num, rfl⟩
        case measure => have := H0.out; simp [intOf]; omega
      · have e1 : ((k : Int) % 2 == 1) = false := by simp; omega
        have H0 := Lib.hid h0
        have H1 := Lib.hid h1
        clear h0 h1
        go_wp2_with (go_at_call 56; refine (rmul_any _ _ _ hb hb).mono ?_; rintro e w' ⟨rfl, rfl⟩)
        go_round
        case rel => exact ⟨fmul b b, r, k / 2, El_fmul _ _, hr, by omega, Lib.hid ((Pw_even b r k (by have := H1.out; omega)).trans hp.out), rfl, by go_num, rfl⟩
        case measure => have := H0.out; simp [intOf]; omega




theorem rpow_any (a n : Int) (w : World) (ha : El a) (hn : U64 n) :
    Calls Try.prog 98 #[.int .u64 a, .int .u64 n] w fun e w' => e = .returned (.int .u64 (fpow a n)) ∧ w' = w := by
  obtain ⟨N, rfl⟩ : ∃ N : Nat, n = N := ⟨n.toNat, by unfold U64 at hn; omega⟩
  exact rpow_nat a N w ha (by unfold U64 at hn; omega)

end Go.Proofs.Ytombcjdhjcmhhaa
