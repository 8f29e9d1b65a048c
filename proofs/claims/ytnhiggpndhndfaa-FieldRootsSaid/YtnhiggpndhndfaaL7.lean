/- FieldRoots, the walk: the roots of unity of the field: squares, orders, and the sum of all powers of a primitive root. -/
import Derived.Test.YtnhiggpndhndfaaW4
import Derived.Test.YtnhiggpndhndfaaR0
import Derived.Test.YtnhiggpndhndfaaL1
namespace Go.Proofs.Ytnhiggpndhndfaa
open Go.RowKit Gold

theorem root_yes (k : Int) (w : World) (hk : 0 ≤ k ∧ k ≤ 32) :
    Calls Try.prog 15 #[.int .i64 k] w fun e w' => e = .returned (.tuple #[.int .u64 (froot k), .int .i64 0]) ∧ w' = w := by
  obtain ⟨j, rfl⟩ : ∃ j : Nat, k = j := ⟨k.toNat, by omega⟩
  exact root_nat j w (by omega)

theorem shl_wrap (j N : Int) (hj : 0 ≤ j ∧ j < 6) (hN : N = pw2 (j.toNat + 1)) : wrap64 (2 ^ (1 + j).toNat) = N := by
  rw [hN, show (1 + j).toNat = j.toNat + 1 by omega]
  have hp := pw2_le (j.toNat + 1) (by omega)
  show wrap64 (pw2 (j.toNat + 1)) = _
  unfold wrap64
  omega

set_option maxHeartbeats 2000000 in
set_option maxRecDepth 100000 in
theorem roots_at (n m : Int) (k j : Int) (w : World) (hn : 0 ≤ n ∧ n < 256) (hm : 0 ≤ m ∧ m < 256) (hk : n % 32 = k) (hj : m % 6 = j) (hj0 : 0 ≤ j ∧ j < 6) :
    Calls Try.prog 9 #[.int .u8 n, .int .u8 m] w fun e w' => e = .returned (.bool true) ∧ Below w.heap.size w w' := by
  have hk0 : 0 ≤ k ∧ k < 32 := by omega
  obtain ⟨N, hN⟩ : ∃ N, N = pw2 (j.toNat + 1) := ⟨_, rfl⟩
  have hN0 : 1 ≤ N ∧ N ≤ 4294967296 := by rw [hN]; exact pw2_le _ (by omega)
  have hw := shl_wrap j N hj0 hN
  have HN := Lib.hid hN
  clear hN
  have e1 := beq_of (froot_sq k hk0)
  go_enter Try.func9, Try.ntmps9
  go_wp2_with (first
    | (go_at_call 11; refine (sanity_any _).mono ?_; rintro e w1 ⟨rfl, hB⟩; have HB := Lib.hid hB; clear hB)
    | (go_at_call 15; refine (root_yes _ _ (by omega)).mono ?_; rintro e w' ⟨rfl, rfl⟩)
    | (go_at_call 18; refine (rvalid_yes _ _ (El_froot _)).mono ?_; rintro e w' ⟨rfl, rfl⟩))
  go_loop [14, 15] (fun s14 s15 => ∃ s : Nat, (s : Int) ≤ k ∧ s14 = .int .u64 (pw2 s) ∧ s15 = .int .i64 (s + 1)) (fun _ s15 => (1 + k - intOf s15).toNat)
  case atStart => exact ⟨0, by omega, rfl, rfl⟩
  case round =>
    obtain ⟨s, hs, rfl, rfl⟩ := hrel
    have hb := pw2_le s (by omega)
    by_cases hlt : (s : Int) < k
    · have hp := Lib.hid (pw2_succ s)
      go_wp2
      go_round
      case rel => exact ⟨s + 1, by omega, by rw [hp.out], by go_num⟩
      case measure => simp [intOf]; omega
    · have hsk : (s : Int) = k := by omega
      have e2 := beq_of (froot_half k s hk0 hsk)
      have e3 := beq_of (froot_full k s hk0 hsk)
      clear hsk
      go_wp2
      go_loop [16, 17, 18] (fun s16 s17 s18 => ∃ t : Nat, (t : Int) ≤ N ∧ s16 = .int .u64 (gsum (froot (1 + j)) t) ∧ s17 = .int .u64 (fpow (froot (1 + j)) t) ∧ s18 = .int .i64 t) (fun _ _ s18 => (N - intOf s18).toNat)
      case atStart => exact ⟨0, by omega, rfl, by rw [show ((0 : Nat) : Int) = 0 from rfl, fpow_zero], rfl⟩
      case round =>
        obtain ⟨t, ht, rfl, rfl, rfl⟩ := hrel
        by_cases htl : (t : Int) < N
        · have hf := Lib.hid ((fmul_comm (fpow (froot (1 + j)) t) (froot (1 + j))).trans (fpow_succ (froot (1 + j)) t))
          go_wp2_with (first
            | (go_at_call 22; refine (add_any _ _ _ (by first | assumption | exact El_fadd _ _ | exact El_fmul _ _ | exact El_fpow _ _ | exact El_froot _ | exact El_gsum _ _) (by first | assumption | exact El_fadd _ _ | exact El_fmul _ _ | exact El_fpow _ _ | exact El_froot _ | exact El_gsum _ _)).mono ?_; rintro e w' ⟨rfl, rfl⟩)
            | (go_at_call 28; refine (mul_any _ _ _ (El.u64 (by first | assumption | exact El_fadd _ _ | exact El_fmul _ _ | exact El_fpow _ _ | exact El_froot _ | exact El_gsum _ _)) (El.u64 (by first | assumption | exact El_fadd _ _ | exact El_fmul _ _ | exact El_fpow _ _ | exact El_froot _ | exact El_gsum _ _))).mono ?_; rintro e w' ⟨rfl, rfl⟩))
          go_round
          case rel => exact ⟨t + 1, by omega, rfl, by rw [hf.out], by go_num⟩
          case measure => simp [intOf]; omega
        · have htN : (t : Int) = N := by omega
          have hg := gsum_root j t (by omega) (htN.trans HN.out)
          have e4 := beq_of hg.1
          have e5 := beq_of hg.2
          clear hg htN
          go_wp2_with (first
            | (go_at_call 28; refine (mul_any _ _ _ (El.u64 (by first | assumption | exact El_fadd _ _ | exact El_fmul _ _ | exact El_fpow _ _ | exact El_froot _ | exact El_gsum _ _)) (El.u64 (by first | assumption | exact El_fadd _ _ | exact El_fmul _ _ | exact El_fpow _ _ | exact El_froot _ | exact El_gsum _ _))).mono ?_; rintro e w' ⟨rfl, rfl⟩)
            | (go_at_call 30; refine (pow_any _ _ _ (by first | assumption | exact El_fadd _ _ | exact El_fmul _ _ | exact El_fpow _ _ | exact El_froot _ | exact El_gsum _ _) (by unfold U64; omega)).mono ?_; rintro e w' ⟨rfl, rfl⟩))
          go_ret
          exact ⟨rfl, HB.out⟩

theorem roots_any (n m : Int) (w : World) (hn : 0 ≤ n ∧ n < 256) (hm : 0 ≤ m ∧ m < 256) :
    Calls Try.prog 9 #[.int .u8 n, .int .u8 m] w fun e w' => e = .returned (.bool true) ∧ Below w.heap.size w w' :=
  roots_at n m _ _ w hn hm rfl rfl (by omega)

end Go.Proofs.Ytnhiggpndhndfaa
