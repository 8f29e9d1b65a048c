/- Contracts of package poly: the polynomial whose coefficients a closure gives, at each closure of the package; no conditions but the closure's own contract and a length of at most 65536. -/
import Derived.Test.YtjimnoikkgheaaaPolA
namespace Go.Proofs.Ytjimnoikkgheaaa
open Go.RowKit Gold

set_option maxHeartbeats 1000000 in
theorem build_Trim (n : Nat) (p0 : Value) (g : Nat → E2) (w : World) (hn : n ≤ 65536)
    (hf : ∀ i, i < n → ∀ W, Below w.heap.size w W → Calls Try.prog 47 #[.int .i64 i, p0] W fun e W' => e = .returned (.agg #[.int .u64 (vF (g i).A), .int .u64 (vF (g i).B)]) ∧ Below W.heap.size W W') :
    Calls Try.prog 46 #[.int .i64 n, .func (.func 47) #[] #[p0]] w fun e w' => ∃ A m c, e = .returned (.slice A m c) ∧ m ≤ n ∧ Sl w' A m c (trimE (tabE n g)) ∧ Below w.heap.size w w' := by
  have hmk := run_makeE n hn
  have HF := Lib.hid hf
  clear hf
  go_enter Try.func46, Try.ntmps46
  go_wp2_with fail
  clear hmk
  go_loopw [10] (fun s wr => ∃ k : Nat, k ≤ n ∧ s = .int .i64 k ∧ Row wr w.heap.size (tabE k g ++ List.replicate (n - k) E2.zero) ∧ Below w.heap.size w wr) (fun s _ => n - (intOf s).toNat)
  case atStart => exact ⟨0, Nat.zero_le _, rfl, by rw [tab_start]; exact heap_new _ _, (Below.refl _ _).alloc (Nat.le_refl _) _⟩
  case round =>
    obtain ⟨k, hk, rfl, hr, hb⟩ := hrel
    have HR := Lib.hid hr
    have HB := Lib.hid hb
    clear hr hb
    by_cases hlt : k < n
    · obtain ⟨y, hy⟩ : ∃ y, (tabE k g ++ List.replicate (n - k) E2.zero)[k]? = some y := ⟨_, List.getElem?_eq_getElem (by rw [tab_len g hk]; exact hlt)⟩
      have HY := Lib.hid hy
      clear hy
      go_wp2_with (first
        | (go_at_call 47; ((with_reducible refine (HF.out k hlt _ HB.out).mono ?_)); rintro e W1 ⟨rfl, hb⟩; have HR1 := Lib.hid (HR.out.keep hb); have HB1 := Lib.hid (below_step HB.out hb); obtain ⟨c0, c1⟩ := HR1.out.at_ HY.out; have f0 := HR1.out.free (k * 2); have f1 := HR1.out.free (k * 2 + 1); clear hb))
      go_roundw
      case rel => exact ⟨k + 1, by omega, by go_num, by rw [← tab_step g hlt]; exact HR1.out.set k (g k), (HB1.out.setCell (Nat.le_refl _) _).setCell (Nat.le_refl _) _⟩
      case measure => simp [intOf]; omega
    · go_wp2_with (first
        | (go_at_call 49; ((with_reducible refine (cut_any _ _ _ (tabE n g) _ (Row.slc (w := wr) (g := w.heap.size) (by have := HR.out; rw [show k = n by omega, tab_end] at this; exact this) (by rw [tabE_length]) (Nat.le_refl _) (by omega))).mono ?_)); rintro e W1 ⟨m, rfl, hm, hs, hb⟩; have HS := Lib.hid hs; clear hs))
      go_ret
      exact ⟨_, m, _, rfl, hm, HS.out, below_step HB.out hb⟩

set_option maxHeartbeats 1000000 in
theorem build_Add (n : Nat) (p0 p1 : Value) (g : Nat → E2) (w : World) (hn : n ≤ 65536)
    (hf : ∀ i, i < n → ∀ W, Below w.heap.size w W → Calls Try.prog 50 #[.int .i64 i, p0, p1] W fun e W' => e = .returned (.agg #[.int .u64 (vF (g i).A), .int .u64 (vF (g i).B)]) ∧ Below W.heap.size W W') :
    Calls Try.prog 46 #[.int .i64 n, .func (.func 50) #[] #[p0, p1]] w fun e w' => ∃ A m c, e = .returned (.slice A m c) ∧ m ≤ n ∧ Sl w' A m c (trimE (tabE n g)) ∧ Below w.heap.size w w' := by
  have hmk := run_makeE n hn
  have HF := Lib.hid hf
  clear hf
  go_enter Try.func46, Try.ntmps46
  go_wp2_with fail
  clear hmk
  go_loopw [10] (fun s wr => ∃ k : Nat, k ≤ n ∧ s = .int .i64 k ∧ Row wr w.heap.size (tabE k g ++ List.replicate (n - k) E2.zero) ∧ Below w.heap.size w wr) (fun s _ => n - (intOf s).toNat)
  case atStart => exact ⟨0, Nat.zero_le _, rfl, by rw [tab_start]; exact heap_new _ _, (Below.refl _ _).alloc (Nat.le_refl _) _⟩
  case round =>
    obtain ⟨k, hk, rfl, hr, hb⟩ := hrel
    have HR := Lib.hid hr
    have HB := Lib.hid hb
    clear hr hb
    by_cases hlt : k < n
    · obtain ⟨y, hy⟩ : ∃ y, (tabE k g ++ List.replicate (n - k) E2.zero)[k]? = some y := ⟨_, List.getElem?_eq_getElem (by rw [tab_len g hk]; exact hlt)⟩
      have HY := Lib.hid hy
      clear hy
      go_wp2_with (first
        | (go_at_call 50; ((with_reducible refine (HF.out k hlt _ HB.out).mono ?_)); rintro e W1 ⟨rfl, hb⟩; have HR1 := Lib.hid (HR.out.keep hb); have HB1 := Lib.hid (below_step HB.out hb); obtain ⟨c0, c1⟩ := HR1.out.at_ HY.out; have f0 := HR1.out.free (k * 2); have f1 := HR1.out.free (k * 2 + 1); clear hb))
      go_roundw
      case rel => exact ⟨k + 1, by omega, by go_num, by rw [← tab_step g hlt]; exact HR1.out.set k (g k), (HB1.out.setCell (Nat.le_refl _) _).setCell (Nat.le_refl _) _⟩
      case measure => simp [intOf]; omega
    · go_wp2_with (first
        | (go_at_call 49; ((with_reducible refine (cut_any _ _ _ (tabE n g) _ (Row.slc (w := wr) (g := w.heap.size) (by have := HR.out; rw [show k = n by omega, tab_end] at this; exact this) (by rw [tabE_length]) (Nat.le_refl _) (by omega))).mono ?_)); rintro e W1 ⟨m, rfl, hm, hs, hb⟩; have HS := Lib.hid hs; clear hs))
      go_ret
      exact ⟨_, m, _, rfl, hm, HS.out, below_step HB.out hb⟩

set_option maxHeartbeats 1000000 in
theorem build_Sub (n : Nat) (p0 p1 : Value) (g : Nat → E2) (w : World) (hn : n ≤ 65536)
    (hf : ∀ i, i < n → ∀ W, Below w.heap.size w W → Calls Try.prog 53 #[.int .i64 i, p0, p1] W fun e W' => e = .returned (.agg #[.int .u64 (vF (g i).A), .int .u64 (vF (g i).B)]) ∧ Below W.heap.size W W') :
    Calls Try.prog 46 #[.int .i64 n, .func (.func 53) #[] #[p0, p1]] w fun e w' => ∃ A m c, e = .returned (.slice A m c) ∧ m ≤ n ∧ Sl w' A m c (trimE (tabE n g)) ∧ Below w.heap.size w w' := by
  have hmk := run_makeE n hn
  have HF := Lib.hid hf
  clear hf
  go_enter Try.func46, Try.ntmps46
  go_wp2_with fail
  clear hmk
  go_loopw [10] (fun s wr => ∃ k : Nat, k ≤ n ∧ s = .int .i64 k ∧ Row wr w.heap.size (tabE k g ++ List.replicate (n - k) E2.zero) ∧ Below w.heap.size w wr) (fun s _ => n - (intOf s).toNat)
  case atStart => exact ⟨0, Nat.zero_le _, rfl, by rw [tab_start]; exact heap_new _ _, (Below.refl _ _).alloc (Nat.le_refl _) _⟩
  case round =>
    obtain ⟨k, hk, rfl, hr, hb⟩ := hrel
    have HR := Lib.hid hr
    have HB := Lib.hid hb
    clear hr hb
    by_cases hlt : k < n
    · obtain ⟨y, hy⟩ : ∃ y, (tabE k g ++ List.replicate (n - k) E2.zero)[k]? = some y := ⟨_, List.getElem?_eq_getElem (by rw [tab_len g hk]; exact hlt)⟩
      have HY := Lib.hid hy
      clear hy
      go_wp2_with (first
        | (go_at_call 53; ((with_reducible refine (HF.out k hlt _ HB.out).mono ?_)); rintro e W1 ⟨rfl, hb⟩; have HR1 := Lib.hid (HR.out.keep hb); have HB1 := Lib.hid (below_step HB.out hb); obtain ⟨c0, c1⟩ := HR1.out.at_ HY.out; have f0 := HR1.out.free (k * 2); have f1 := HR1.out.free (k * 2 + 1); clear hb))
      go_roundw
      case rel => exact ⟨k + 1, by omega, by go_num, by rw [← tab_step g hlt]; exact HR1.out.set k (g k), (HB1.out.setCell (Nat.le_refl _) _).setCell (Nat.le_refl _) _⟩
      case measure => simp [intOf]; omega
    · go_wp2_with (first
        | (go_at_call 49; ((with_reducible refine (cut_any _ _ _ (tabE n g) _ (Row.slc (w := wr) (g := w.heap.size) (by have := HR.out; rw [show k = n by omega, tab_end] at this; exact this) (by rw [tabE_length]) (Nat.le_refl _) (by omega))).mono ?_)); rintro e W1 ⟨m, rfl, hm, hs, hb⟩; have HS := Lib.hid hs; clear hs))
      go_ret
      exact ⟨_, m, _, rfl, hm, HS.out, below_step HB.out hb⟩

set_option maxHeartbeats 1000000 in
theorem build_Scale (n : Nat) (p0 p1 : Value) (g : Nat → E2) (w : World) (hn : n ≤ 65536)
    (hf : ∀ i, i < n → ∀ W, Below w.heap.size w W → Calls Try.prog 57 #[.int .i64 i, p0, p1] W fun e W' => e = .returned (.agg #[.int .u64 (vF (g i).A), .int .u64 (vF (g i).B)]) ∧ Below W.heap.size W W') :
    Calls Try.prog 46 #[.int .i64 n, .func (.func 57) #[] #[p0, p1]] w fun e w' => ∃ A m c, e = .returned (.slice A m c) ∧ m ≤ n ∧ Sl w' A m c (trimE (tabE n g)) ∧ Below w.heap.size w w' := by
  have hmk := run_makeE n hn
  have HF := Lib.hid hf
  clear hf
  go_enter Try.func46, Try.ntmps46
  go_wp2_with fail
  clear hmk
  go_loopw [10] (fun s wr => ∃ k : Nat, k ≤ n ∧ s = .int .i64 k ∧ Row wr w.heap.size (tabE k g ++ List.replicate (n - k) E2.zero) ∧ Below w.heap.size w wr) (fun s _ => n - (intOf s).toNat)
  case atStart => exact ⟨0, Nat.zero_le _, rfl, by rw [tab_start]; exact heap_new _ _, (Below.refl _ _).alloc (Nat.le_refl _) _⟩
  case round =>
    obtain ⟨k, hk, rfl, hr, hb⟩ := hrel
    have HR := Lib.hid hr
    have HB := Lib.hid hb
    clear hr hb
    by_cases hlt : k < n
    · obtain ⟨y, hy⟩ : ∃ y, (tabE k g ++ List.replicate (n - k) E2.zero)[k]? = some y := ⟨_, List.getElem?_eq_getElem (by rw [tab_len g hk]; exact hlt)⟩
      have HY := Lib.hid hy
      clear hy
      go_wp2_with (first
        | (go_at_call 57; ((with_reducible refine (HF.out k hlt _ HB.out).mono ?_)); rintro e W1 ⟨rfl, hb⟩; have HR1 := Lib.hid (HR.out.keep hb); have HB1 := Lib.hid (below_step HB.out hb); obtain ⟨c0, c1⟩ := HR1.out.at_ HY.out; have f0 := HR1.out.free (k * 2); have f1 := HR1.out.free (k * 2 + 1); clear hb))
      go_roundw
      case rel => exact ⟨k + 1, by omega, by go_num, by rw [← tab_step g hlt]; exact HR1.out.set k (g k), (HB1.out.setCell (Nat.le_refl _) _).setCell (Nat.le_refl _) _⟩
      case measure => simp [intOf]; omega
    · go_wp2_with (first
        | (go_at_call 49; ((with_reducible refine (cut_any _ _ _ (tabE n g) _ (Row.slc (w := wr) (g := w.heap.size) (by have := HR.out; rw [show k = n by omega, tab_end] at this; exact this) (by rw [tabE_length]) (Nat.le_refl _) (by omega))).mono ?_)); rintro e W1 ⟨m, rfl, hm, hs, hb⟩; have HS := Lib.hid hs; clear hs))
      go_ret
      exact ⟨_, m, _, rfl, hm, HS.out, below_step HB.out hb⟩

end Go.Proofs.Ytjimnoikkgheaaa
