/- Contracts of package poly, its small functions: no conditions but the arguments' own form. -/
import Derived.Test.YtjimnoikkgheaaaSli
namespace Go.Proofs.Ytjimnoikkgheaaa
open Go.RowKit Gold

set_option maxHeartbeats 400000 in
theorem coefficient_any (A : Option Addr) (n c : Nat) (xs : List E2) (i : Nat) (w : World) (h : Sl w A n c xs) :
    Calls Try.prog 52 #[.slice A n c, .int .i64 i] w fun e w' => e = .returned (.agg #[.int .u64 (vF (cfE xs i).A), .int .u64 (vF (cfE xs i).B)]) ∧ Below w.heap.size w w' := by
  have hcap := h.cap
  have htop := h.top
  by_cases hlt : i < n
  · obtain ⟨x, hx⟩ := h.get hlt
    obtain ⟨ad, rfl, h0, h1⟩ := h.at_ hx
    have e : cfE xs i = x := cfE_some hx
    rw [e]
    have h0' := cell_alloc h0 (.cells #[.int .u64 0, .int .u64 0] 25)
    have h1' := cell_alloc h1 (.cells #[.int .u64 0, .int .u64 0] 25)
    clear e hx h h0 h1
    go_enter Try.func52, Try.ntmps52
    go_wp2_with fail
    refine bodyPost_ret (v := .agg #[.int .u64 (vF x.A), .int .u64 (vF x.B)]) (by simp [results, Try.results52, go_sem]) rfl ⟨rfl, ?_⟩
    exact (Below.refl _ _).alloc (Nat.le_refl _) _
  · have e : cfE xs i = E2.zero := cfE_ge (by have := h.len; omega)
    rw [e]
    clear e h
    go_enter Try.func52, Try.ntmps52
    go_wp2_with fail
    refine bodyPost_ret (v := .agg #[.int .u64 0, .int .u64 0]) (by simp [results, Try.results52, go_sem]) rfl ⟨rfl, ?_⟩
    exact (Below.refl _ _).alloc (Nat.le_refl _) _

theorem extFromBase_one (w : World) : Calls Try.prog 80 #[.int .u64 1] w fun e w' => e = .returned (.agg #[.int .u64 1, .int .u64 0]) ∧ Below w.heap.size w w' := extFromBase_any 1 w
set_option maxHeartbeats 400000 in
theorem polyOne_lit (w : World) : Calls Try.prog 63 #[] w fun e w' => e = .returned (.agg #[.int .u64 1, .int .u64 0]) ∧ Below w.heap.size w w' := by
  go_enter Try.func63, Try.ntmps63
  go_wp2_with fail
  refine calls_named1 (fun W hB g0 hz => ?_)
  have HB := Lib.hid hB
  have c00 := Two.c0 g0; have c01 := Two.c1 g0; have f00 := Two.f0 g0; have f01 := Two.f1 g0
  clear hB g0
  go_wp2_with (first
    | (go_at_call 80; ((with_reducible refine (extFromBase_one _).mono ?_)); rintro e W1 ⟨rfl, hb⟩; replace f00 := free_after hb c00 f00; replace f01 := free_after hb c01 f01; replace c00 := cell_after hb c00; replace c01 := cell_after hb c01; replace HB := Lib.hid (HB.out.trans (hb.mono HB.out.size)); replace hz := Nat.lt_of_lt_of_le hz hb.size; clear hb))
  refine bodyPost_ret (v := .agg #[.int .u64 1, .int .u64 0]) (by simp [results, Try.results63, go_sem, c00, c01]) rfl ⟨rfl, ?_⟩
  exact (HB.out.setCell (Nat.le_refl _) _).setCell (Nat.le_refl _) _
theorem polyOne_any (w : World) : Calls Try.prog 63 #[] w fun e w' => e = .returned (.agg #[.int .u64 (vF E2.one.A), .int .u64 (vF E2.one.B)]) ∧ Below w.heap.size w w' := polyOne_lit w

set_option maxHeartbeats 400000 in
theorem node_any (n : Int) (w : World) (h0 : -9223372036854775808 ≤ n) (h1 : n < 9223372036854775808) : Calls Try.prog 64 #[.int .i64 n] w fun e w' => e = .returned (.agg #[.int .u64 (vF (E2.ofF (toF n)).A), .int .u64 (vF (E2.ofF (toF n)).B)]) ∧ Below w.heap.size w w' := by
  go_enter Try.func64, Try.ntmps64
  go_wp2_with fail
  refine calls_named1 (fun W hB g0 hz => ?_)
  have HB := Lib.hid hB
  have c00 := Two.c0 g0; have c01 := Two.c1 g0; have f00 := Two.f0 g0; have f01 := Two.f1 g0
  clear hB g0
  go_wp2_with (first
    | (go_at_call 81; ((with_reducible refine (extFromInt_any n _ h0 h1).mono ?_)); rintro e W1 ⟨rfl, hb⟩; replace f00 := free_after hb c00 f00; replace f01 := free_after hb c01 f01; replace c00 := cell_after hb c00; replace c01 := cell_after hb c01; replace HB := Lib.hid (HB.out.trans (hb.mono HB.out.size)); replace hz := Nat.lt_of_lt_of_le hz hb.size; clear hb))
  refine bodyPost_ret (v := .agg #[.int .u64 (vF (E2.ofF (toF n)).A), .int .u64 (vF (E2.ofF (toF n)).B)]) (by simp [results, Try.results64, go_sem, c00, c01]) rfl ⟨rfl, ?_⟩
  exact (HB.out.setCell (Nat.le_refl _) _).setCell (Nat.le_refl _) _

theorem ret_slice {A : Option Addr} {n n' c : Nat} (h : n = n') : Ending.returned (.slice A n c) = .returned (.slice A n' c) := by rw [h]
set_option maxHeartbeats 1000000 in
theorem cut_any (A : Option Addr) (n c : Nat) (xs : List E2) (w : World) (h : Sl w A n c xs) :
    Calls Try.prog 49 #[.slice A n c] w fun e w' => ∃ m, e = .returned (.slice A m c) ∧ m ≤ n ∧ Sl w' A m c (trimE xs) ∧ Below w.heap.size w w' := by
  have hcap := h.cap
  have htop := h.top
  have HS := Lib.hid h
  have HT := Lib.hid (show trimE (xs.take n) = trimE xs by rw [h.len, List.take_length])
  clear h
  go_enter Try.func49, Try.ntmps49
  go_wp2_with fail
  go_loopw [3] (fun s3 wr => ∃ k : Nat, k ≤ n ∧ s3 = .int .i64 k ∧ trimE (xs.take k) = trimE xs ∧ Below w.heap.size w wr) (fun s3 _ => (intOf s3).toNat)
  case atStart => exact ⟨n, Nat.le_refl _, rfl, HT.out, Below.refl _ _⟩
  case round =>
    clear HT
    obtain ⟨k, hk, rfl, ht, hb⟩ := hrel
    have HT := Lib.hid ht
    have HB := Lib.hid hb
    clear ht hb
    cases k with
    | zero =>
      go_wp2_with fail
      go_ret
      exact ⟨0, rfl, Nat.zero_le _, by rw [← HT.out]; exact (HS.out.keep HB.out).take (Nat.zero_le _), HB.out⟩
    | succ j =>
      obtain ⟨x, hx⟩ := HS.out.get (show j < n by omega)
      obtain ⟨ad, rfl, h0, h1⟩ := HS.out.at_ hx
      replace h0 := cell_keep h0 HB.out
      replace h1 := cell_keep h1 HB.out
      have HX := Lib.hid hx
      clear hx
      cases he : ezero x with
      | true =>
        have HE := Lib.hid he
        go_wp2_with (first
          | (go_at_call 59; ((with_reducible refine (extIsZero_any x _).mono ?_)); rw [he]; rintro e W1 ⟨rfl, hb⟩))
        go_roundw
        case rel => exact ⟨j, by omega, by go_num, by rw [← HT.out]; exact (trimE_take_zero HX.out ((ezero_iff x).1 HE.out)).symm, below_step HB.out hb⟩
        case measure => simp [intOf]
      | false =>
        have HE := Lib.hid he
        go_wp2_with (first
          | (go_at_call 59; ((with_reducible refine (extIsZero_any x _).mono ?_)); rw [he]; rintro e W1 ⟨rfl, hb⟩))
        go_ret
        exact ⟨j + 1, rfl, hk, by rw [← HT.out, trimE_take_stop HX.out (fun k => by rw [(ezero_iff x).2 k] at he; cases he)]; exact (HS.out.keep (below_step HB.out hb)).take hk, below_step HB.out hb⟩

set_option maxHeartbeats 400000 in
theorem degree_any (A : Option Addr) (n c : Nat) (xs : List E2) (w : World) (h : Sl w A n c xs) :
    Calls Try.prog 17 #[.slice A n c] w fun e w' => e = .returned (.int .i64 (((trimE xs).length : Int) - 1)) ∧ Below w.heap.size w w' := by
  have hcap := h.cap
  have htop := h.top
  have HS := Lib.hid h
  clear h
  go_enter Try.func17, Try.ntmps17
  go_wp2_with (first
    | (go_at_call 49; ((with_reducible refine (cut_any _ _ _ xs _ HS.out).mono ?_)); rintro e W1 ⟨m, rfl, hm, hs, hb⟩; have HL := Lib.hid hs.len; clear hs))
  go_ret
  exact ⟨by rw [HL.out]; rfl, hb⟩

end Go.Proofs.Ytjimnoikkgheaaa
