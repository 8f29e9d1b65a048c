/- Contracts of package mle and of its reference: vertices; no conditions but lengths. -/
import Derived.Test.YtipbfonlcmegdaaMpb
import Derived.Test.YtipbfonlcmegdaaNbit
namespace Go.Proofs.Ytipbfonlcmegdaa
set_option maxRecDepth 8000
open Go.RowKit Gold

theorem shr_and (i k : Nat) (hi : i < 9223372036854775808) : bits .and .i64 ((i : Int) / 2 ^ k) 1 = ((i / 2 ^ k % 2 : Nat) : Int) := by
  have e : ((i : Int) / 2 ^ k) = ((i / 2 ^ k : Nat) : Int) := by rw [Int.natCast_ediv, Int.natCast_pow]; rfl
  have hl : i / 2 ^ k ≤ i := Nat.div_le_self _ _
  have h := bits_and_i64_nat (i / 2 ^ k) 1 (by omega) (by omega)
  rw [e, ← Nat.and_one_is_mod]
  exact h
theorem extFromBit (i k : Nat) (w : World) (hi : i ≤ 4611686018427387904) : Calls Try.prog 108 #[.int .i64 (bits .and .i64 ((i : Int) / 2 ^ k) 1)] w fun e w' => e = .returned (.agg #[.int .u64 (vF (bitE (i / 2 ^ k)).A), .int .u64 (vF (bitE (i / 2 ^ k)).B)]) ∧ Below w.heap.size w w' := by
  rw [shr_and i k (by omega)]
  exact extFromInt_any _ w (by omega) (by omega)
theorem rFromBit (i k : Nat) (w : World) (hi : i ≤ 4611686018427387904) : Calls Try.prog 47 #[.int .i64 (bits .and .i64 ((i : Int) / 2 ^ k) 1)] w fun e w' => e = .returned (.agg #[.int .u64 (vF (bitE (i / 2 ^ k)).A), .int .u64 (vF (bitE (i / 2 ^ k)).B)]) ∧ Below w.heap.size w w' := by
  rw [shr_and i k (by omega)]
  exact rFromInt_any _ w (by omega) (by omega)
set_option maxHeartbeats 1000000 in
theorem vertex_any (i n : Nat) (w : World) (hi : i ≤ 4611686018427387904) (hn : n ≤ 62) :
    Calls Try.prog 87 #[.int .i64 (i : Int), .int .i64 (n : Int)] w fun e w' => ∃ g, e = .returned (.slice (some ⟨g, 0, none⟩) n n) ∧ Row w' g (vtx i n) ∧ Below w.heap.size w w' := by
  have hmk := run_makeE n (by omega)
  generalize hr0 : List.replicate n E2.zero = r0 at hmk
  have HR0 := Lib.hid hr0
  clear hr0
  go_enter Try.func87, Try.ntmps87
  go_wp2_with fail
  clear hmk
  go_loopw [11] (fun s wr => ∃ k : Nat, k ≤ n ∧ s = .int .i64 k ∧ Row wr w.heap.size (tabE k (fun k => bitE (i / 2 ^ k)) ++ List.replicate (n - k) E2.zero) ∧ Below w.heap.size w wr) (fun s _ => n - (intOf s).toNat)
  case atStart => exact ⟨0, Nat.zero_le _, rfl, by rw [tab_start, HR0.out]; exact heap_new _ _, (Below.refl _ _).alloc (Nat.le_refl _) _⟩
  case round =>
    obtain ⟨k, hk, rfl, hr, hb⟩ := hrel
    have HR := Lib.hid hr
    have HB := Lib.hid hb
    clear hr hb
    by_cases hlt : k < n
    · have hk1 : (k : Int) < (n : Int) := by omega
      have hk0 : (0 : Int) ≤ (k : Int) := by omega
      go_wp2_with fail
      have hfb := extFromBit i k wr hi
      with_reducible refine hfb.mono ?_
      rintro e W1 ⟨rfl, hb⟩
      have HR1 := Lib.hid (HR.out.keep hb)
      have HB1 := Lib.hid (below_step HB.out hb)
      clear hb
      have hz := HR1.out.at_ (tab_at (fun k => bitE (i / 2 ^ k)) hlt)
      have c0 := hz.1
      have c1 := hz.2
      have f0 := HR1.out.free (k * 2)
      have f1 := HR1.out.free (k * 2 + 1)
      clear hz
      go_wp2_with fail
      go_roundw
      case rel => exact ⟨k + 1, by omega, by go_num, by have := HR1.out.set k (bitE (i / 2 ^ k)); rw [← tab_step (n := n) (fun k => bitE (i / 2 ^ k)) hlt]; exact this, (HB1.out.setCell (Nat.le_refl _) _).setCell (Nat.le_refl _) _⟩
      case measure => simp [intOf]; omega
    · have hkn : k = n := by omega
      subst hkn
      go_wp2_with fail
      go_ret
      exact ⟨_, rfl, by unfold vtx; rw [← tab_end k]; exact HR.out, HB.out⟩

set_option maxHeartbeats 1000000 in
theorem rVertex_any (i n : Nat) (w : World) (hi : i ≤ 4611686018427387904) (hn : n ≤ 62) :
    Calls Try.prog 102 #[.int .i64 (i : Int), .int .i64 (n : Int)] w fun e w' => ∃ A c, e = .returned (.slice A n c) ∧ Sl w' A n c (vtx i n) ∧ Below w.heap.size w w' := by
  go_enter Try.func102, Try.ntmps102
  go_wp2_with fail
  go_loopw [5, 6] (fun v s wr => ∃ k : Nat, k ≤ n ∧ s = .int .i64 k ∧ OwE wr w.heap.size v k (tabE k fun k => bitE (i / 2 ^ k)) ∧ Below w.heap.size w wr) (fun _ s _ => n - (intOf s).toNat)
  case atStart => exact ⟨0, Nat.zero_le _, rfl, OwE.made w w.heap.size (Nat.le_refl _), (Below.refl _ _).alloc (Nat.le_refl _) _⟩
  case round =>
    obtain ⟨k, hk, rfl, ho, hb⟩ := hrel
    have HO := Lib.hid ho
    have HB := Lib.hid hb
    clear ho hb
    by_cases hlt : k < n
    · have hk1 : (k : Int) < (n : Int) := by omega
      have hk0 : (0 : Int) ≤ (k : Int) := by omega
      go_wp2_with fail
      have hfb := rFromBit i k wr hi
      with_reducible refine hfb.mono ?_
      rintro e W1 ⟨rfl, hb⟩
      have HO1 := Lib.hid (HO.out.keep hb)
      have HB1 := Lib.hid (below_step HB.out hb)
      clear hb
      go_wp2_with (at_builtin; refine wpList_appendE rfl (.tmp 13) (.tmp 19) rfl (w.heap.size) _ k _ rfl (HO1.out.keep ((Below.refl _ _).alloc (Nat.le_refl _) _)) W1.heap.size 1 (bitE (i / 2 ^ k)) rfl (Two.new W1 _ _ _) (by omega) (by have := HB1.out.size; simp; omega) ?_; intro v1 w1 hown1 hg1; have HO2 := Lib.hid hown1; have HB2 := Lib.hid (below_grown (w0 := w) (HB1.out.alloc HB1.out.size _) hg1 (HO1.out.keep ((Below.refl _ _).alloc (Nat.le_refl _) _)) (Nat.le_refl _)); clear hown1 hg1)
      go_roundw
      case rel => exact ⟨k + 1, by omega, by go_num, by rw [tabE_succ]; exact HO2.out, HB2.out⟩
      case measure => simp [intOf]; omega
    · have hkn : k = n := by omega
      subst hkn
      obtain ⟨A1, c1, rfl, hs1⟩ := HO.out.sl
      have HSQ := Lib.hid hs1
      clear hs1
      go_wp2_with fail
      go_ret
      exact ⟨A1, c1, rfl, HSQ.out, HB.out⟩

end Go.Proofs.Ytipbfonlcmegdaa
