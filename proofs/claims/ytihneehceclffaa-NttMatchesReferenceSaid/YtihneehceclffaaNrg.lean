/- Forward, Inverse and Extend of package ntt and of its reference answer alike; no conditions but that slices hold field elements. -/
import Derived.Test.YtihneehceclffaaNrf
import Derived.Test.YtihneehceclffaaNlq
namespace Go.Proofs.Ytihneehceclffaa
open Go.RowKit Gold

set_option maxHeartbeats 1000000 in
theorem rextend_yes (A : Option Addr) (n c : Nat) (xs : List F) (b N K L : Nat) (w : World) (h : Sf w A n c xs) (hn : n = 2 ^ K) (hb : b = 2 ^ L) (hN : N = 2 ^ (K + L)) (hK : K + L ≤ 16) :
    Calls Try.prog 19 #[.slice A n c, .int .i64 (b : Int)] w fun e w' => ∃ A' c', e = .returned (.tuple #[.slice A' N c', .int .i64 0]) ∧ Sf w' A' N c' (tabF N (fwdF (cfF xs) (K + L))) ∧ Below w.heap.size w w' := by
  have hN2 : N ≤ 65536 := by rw [hN]; exact pow2_le hK
  have hp : b * n = N := by rw [hn, hb, hN, Nat.pow_add, Nat.mul_comm]
  have hl := h.len
  have hnN : n ≤ N := by rw [← hp]; exact Nat.le_mul_of_pos_left n (by rw [hb]; exact Nat.two_pow_pos L)
  have HN := Lib.hid hN
  have Hn := Lib.hid hn
  have Hb := Lib.hid hb
  have HS := Lib.hid h
  have HV := Lib.hid (vals_fwd (xs := xs) hN (by omega))
  have HPI := Lib.hid (show (b : Int) * (n : Int) = (N : Int) by rw [← Int.natCast_mul, hp])
  have hk0 : (0 : Int) ≤ (K : Int) := by omega
  have hk1 : (0 : Int) ≤ (L : Int) := by omega
  have hk2 : (K : Int) + (L : Int) ≤ 16 := by omega
  have hcap := h.cap
  have htop := h.top
  clear hN h hl hp hb hn
  go_enter Try.func19, Try.ntmps19
  go_wp2_with fail
  refine (log_yes n K _ Hn.out (by omega)).mono ?_
  rintro e w' ⟨rfl, hw⟩
  obtain rfl : w = w' := hw.symm
  go_wp2_with fail
  refine (log_yes b L _ Hb.out (by omega)).mono ?_
  rintro e w' ⟨rfl, hw⟩
  obtain rfl : w = w' := hw.symm
  go_wp2_with fail
  have hr := ref_rootF (K + L) w (by omega)
  rw [Int.natCast_add] at hr
  refine hr.mono ?_
  rintro e w' ⟨rfl, hw⟩
  obtain rfl : w = w' := hw.symm
  clear hr
  have hw64 : wrap64 ((b : Int) * (n : Int)) = (N : Int) := by rw [HPI.out]; unfold wrap64; omega
  have HW := Lib.hid hw64
  clear hw64
  go_wp2_with fail
  rw [HW.out]
  refine (values_any A n c xs (rootF (K + L)) N _ HS.out hN2).mono ?_
  rintro e W2 ⟨A1, c1, rfl, ho, hb⟩
  rw [HV.out] at ho
  have HO := Lib.hid ho
  have HB := Lib.hid hb
  clear ho hb
  go_wp2_with fail
  go_ret2
  obtain ⟨A2, c2, e, hs⟩ := HO.out.sl
  injection e with e1 e2 e3
  subst e1
  subst e3
  exact ⟨_, _, rfl, hs, HB.out⟩
set_option maxHeartbeats 1000000 in
theorem rextend_no (A : Option Addr) (n c : Nat) (xs : List F) (b : Int) (w : World) (h : Sf w A n c xs) (hno : ∀ K L : Nat, K + L ≤ 16 → n = 2 ^ K → b ≠ ((2 ^ L : Nat) : Int)) :
    Calls Try.prog 19 #[.slice A n c, .int .i64 b] w fun e w' => e = .returned (.tuple #[.slice none 0 0, .int .i64 1]) ∧ Below w.heap.size w w' := by
  have hcap := h.cap
  have htop := h.top
  have HNo := Lib.hid hno
  clear hno h
  go_enter Try.func19, Try.ntmps19
  go_wp2_with fail
  by_cases hp : ∃ q : Nat, q ≤ 16 ∧ n = 2 ^ q
  · obtain ⟨q, hq, hnq⟩ := hp
    refine (log_yes n q _ hnq hq).mono ?_
    have HQ := Lib.hid hnq
    clear hnq
    rintro e w' ⟨rfl, hw⟩
    obtain rfl : w = w' := hw.symm
    go_wp2_with fail
    by_cases hb : ∃ L : Nat, L ≤ 16 ∧ b = ((2 ^ L : Nat) : Int)
    · obtain ⟨L, hL, hb⟩ := hb
      obtain ⟨B, hB⟩ : ∃ B : Nat, B = 2 ^ L := ⟨_, rfl⟩
      rw [← hB] at hb
      subst hb
      have hs : ¬ q + L ≤ 16 := fun h => HNo.out q L h HQ.out (by rw [hB])
      refine (log_yes B L _ hB hL).mono ?_
      clear hB
      rintro e w' ⟨rfl, hw⟩
      obtain rfl : w = w' := hw.symm
      have hk2 : (16 : Int) < (q : Int) + (L : Int) := by omega
      go_wp2_with fail
      go_ret2
      exact ⟨rfl, Below.refl _ _⟩
    · refine (log_no b _ (fun k hk e => hb ⟨k, hk, e⟩)).mono ?_
      clear hb
      rintro e w' ⟨rfl, hw⟩
      obtain rfl : w = w' := hw.symm
      go_wp2_with fail
      go_ret2
      exact ⟨rfl, Below.refl _ _⟩
  · refine (log_no (n : Int) _ (fun k hk e => hp ⟨k, hk, Int.ofNat.inj e⟩)).mono ?_
    clear hp
    rintro e w' ⟨rfl, hw⟩
    obtain rfl : w = w' := hw.symm
    go_wp2_with fail
    refine (log_any b _).mono ?_
    rintro e w' ⟨v, rfl, hw⟩
    obtain rfl : w = w' := hw.symm
    go_wp2_with fail
    go_ret2
    exact ⟨rfl, Below.refl _ _⟩

end Go.Proofs.Ytihneehceclffaa
