/- Contracts of the reference of package ext, its inverses and powers; no conditions but that words are words. -/
import Derived.Test.YtbjeicbphkglfaaExtR
import Derived.Deep.LoopGhost
namespace Go.Proofs.Ytbjeicbphkglfaa
open Go.RowKit Gold
theorem field_A (a b : Value) (w : World) : (Instr.field 24 (.agg #[a, b]) 0).run Try.prog w = .ok a w := by kernel_rfl
theorem field_B (a b : Value) (w : World) : (Instr.field 24 (.agg #[a, b]) 1).run Try.prog w = .ok b w := by kernel_rfl

set_option maxHeartbeats 1000000 in
theorem rInvE_zero (w : World) : Calls Try.prog 16 #[.agg #[.int .u64 (vF E2.zero.A), .int .u64 (vF E2.zero.B)]] w fun e w' => e = .returned (.tuple #[.agg #[.int .u64 0, .int .u64 0], .int .i64 3]) ∧ Below w.heap.size w w' := by
  have hz : ezero E2.zero = true := rfl
  go_enter Try.func16, Try.ntmps16
  go_wp2_with fail
  refine calls_named2 (fun W hB g0 g1 hz => ?_)
  have HB := Lib.hid hB
  have c00 := Two.c0 g0; have c01 := Two.c1 g0; have c10 := Two.c0 g1; have c11 := Two.c1 g1; have f10 := Two.f0 g1; have f11 := Two.f1 g1
  clear hB g0 g1
  go_wp2_with (first
    | (go_at_call 32; ((with_reducible refine (rIsZero_any E2.zero _).mono ?_)); rintro e W1 ⟨rfl, hb⟩; replace f10 := free_after hb c10 f10; replace f11 := free_after hb c11 f11; replace c00 := cell_after hb c00; replace c01 := cell_after hb c01; replace c10 := cell_after hb c10; replace c11 := cell_after hb c11; replace HB := Lib.hid (HB.out.trans (hb.mono HB.out.size)); replace hz := Nat.lt_of_lt_of_le hz hb.size; clear hb))
  refine bodyPost_ret (v := .tuple #[.agg #[.int .u64 0, .int .u64 0], .int .i64 3]) (by simp [results, Try.results16, go_sem, c10, c11]) rfl ⟨rfl, ?_⟩
  exact (HB.out.setCell (by simp; try omega) _).setCell (by simp; try omega) _
set_option maxHeartbeats 1000000 in
theorem rInvE_any (x : E2) (w : World) (h : x ≠ E2.zero) : Calls Try.prog 16 #[.agg #[.int .u64 (vF x.A), .int .u64 (vF x.B)]] w fun e w' => e = .returned (.tuple #[.agg #[.int .u64 (vF (E2.inv x).A), .int .u64 (vF (E2.inv x).B)], .int .i64 0]) ∧ Below w.heap.size w w' := by
  have hz : ezero x = false := by
    cases k : ezero x with
    | false => rfl
    | true => exact absurd ((ezero_iff x).1 k) h
  have hn := Lib.hid (mulConj_ne_zero h)
  have he := Lib.hid (inv_eq' x)
  have hfA := field_A
  clear h
  go_enter Try.func16, Try.ntmps16
  go_wp2_with fail
  refine calls_named2 (fun W hB g0 g1 hz => ?_)
  have HB := Lib.hid hB
  have c00 := Two.c0 g0; have c01 := Two.c1 g0; have c10 := Two.c0 g1; have c11 := Two.c1 g1; have f10 := Two.f0 g1; have f11 := Two.f1 g1
  clear hB g0 g1
  go_wp2_with (first
    | (go_at_call 32; ((with_reducible refine (rIsZero_any x _).mono ?_)); rintro e W1 ⟨rfl, hb⟩; replace f10 := free_after hb c10 f10; replace f11 := free_after hb c11 f11; replace c00 := cell_after hb c00; replace c01 := cell_after hb c01; replace c10 := cell_after hb c10; replace c11 := cell_after hb c11; replace HB := Lib.hid (HB.out.trans (hb.mono HB.out.size)); replace hz := Nat.lt_of_lt_of_le hz hb.size; clear hb)
    | (go_at_call 28; ((with_reducible refine (rConj_any x _).mono ?_)); rintro e W1 ⟨rfl, hb⟩; replace f10 := free_after hb c10 f10; replace f11 := free_after hb c11 f11; replace c00 := cell_after hb c00; replace c01 := cell_after hb c01; replace c10 := cell_after hb c10; replace c11 := cell_after hb c11; replace HB := Lib.hid (HB.out.trans (hb.mono HB.out.size)); replace hz := Nat.lt_of_lt_of_le hz hb.size; clear hb); have k00 := cell_alloc c00; have k01 := cell_alloc c01)
  refine calls_named1 (fun W2 hb gc hz2 => ?_)
  have c20 := Two.c0 gc; have c21 := Two.c1 gc
  clear gc k00 k01
  replace f10 := free_after hb c10 f10; replace f11 := free_after hb c11 f11; replace c00 := cell_after hb c00; replace c01 := cell_after hb c01; replace c10 := cell_after hb c10; replace c11 := cell_after hb c11; replace HB := Lib.hid (HB.out.trans (hb.mono HB.out.size)); replace hz := Nat.lt_of_lt_of_le hz hb.size; clear hb
  go_wp2_with (first
    | (go_at_call 24; ((with_reducible refine (rMul_any x (E2.conj x) _).mono ?_)); rintro e W1 ⟨rfl, hb⟩; replace f10 := free_after hb c10 f10; replace f11 := free_after hb c11 f11; replace c00 := cell_after hb c00; replace c01 := cell_after hb c01; replace c10 := cell_after hb c10; replace c11 := cell_after hb c11; replace c20 := cell_after hb c20; replace c21 := cell_after hb c21; replace HB := Lib.hid (HB.out.trans (hb.mono HB.out.size)); replace hz := Nat.lt_of_lt_of_le hz hb.size; clear hb)
    | (go_at_call 46; ((with_reducible refine (rinvF_any (x * E2.conj x).A _ hn.out).mono ?_)); rintro e w' ⟨rfl, rfl⟩)
    | (go_at_call 26; ((with_reducible refine (rMulBase_any (E2.conj x) (invF (x * E2.conj x).A) _).mono ?_)); rintro e W1 ⟨rfl, hb⟩; replace f10 := free_after hb c10 f10; replace f11 := free_after hb c11 f11; replace c00 := cell_after hb c00; replace c01 := cell_after hb c01; replace c10 := cell_after hb c10; replace c11 := cell_after hb c11; replace c20 := cell_after hb c20; replace c21 := cell_after hb c21; replace HB := Lib.hid (HB.out.trans (hb.mono HB.out.size)); replace hz := Nat.lt_of_lt_of_le hz hb.size; clear hb))
  rw [he.out]
  refine bodyPost_ret (v := .tuple #[.agg #[.int .u64 (vF (E2.conj x * E2.ofF (invF (x * E2.conj x).A)).A), .int .u64 (vF (E2.conj x * E2.ofF (invF (x * E2.conj x).A)).B)], .int .i64 0]) (by simp [results, Try.results16, go_sem, c10, c11]) rfl ⟨rfl, ?_⟩
  exact (HB.out.setCell (by simp; try omega) _).setCell (by simp; try omega) _
theorem rInvE_all (x : E2) (w : World) : Calls Try.prog 16 #[.agg #[.int .u64 (vF x.A), .int .u64 (vF x.B)]] w fun e w' => e = .returned (.tuple #[.agg #[.int .u64 (vF (E2.inv x).A), .int .u64 (vF (E2.inv x).B)], .int .i64 (einvE x)]) ∧ Below w.heap.size w w' := by
  by_cases h : x = E2.zero
  · subst h
    rw [inv_zero_E, show einvE E2.zero = 3 from rfl]
    exact rInvE_zero w
  · rw [show einvE x = 0 from if_neg h]
    exact rInvE_any x w h

set_option maxHeartbeats 1000000 in
theorem rPow_nat (x : E2) (n : Nat) (w : World) (hn : n < 18446744073709551616) : Calls Try.prog 30 #[.agg #[.int .u64 (vF x.A), .int .u64 (vF x.B)], .int .u64 n] w fun e w' => e = .returned (.agg #[.int .u64 (vF (E2.pow x n).A), .int .u64 (vF (E2.pow x n).B)]) ∧ Below w.heap.size w w' := by
  go_enter Try.func30, Try.ntmps30
  go_wp2_with fail
  refine calls_named2 (fun W hB g0 g1 hz => ?_)
  go_wp2_with (go_at_call 55; ((with_reducible refine (rOne_any _).mono ?_)); rintro e W1 ⟨rfl, hb⟩)
  have hzB := Nat.lt_of_lt_of_le hz hb.size
  replace hB := hB.trans (hb.mono hB.size)
  replace g0 := heap_keep g0 hb
  replace g1 := heap_keep g1 hb
  clear hb hz
  refine wp_named1 (fun W2 hb gc hz2 => ?_)
  replace hB := hB.trans (hb.mono hB.size)
  replace g0 := heap_keep g0 hb
  replace g1 := heap_keep g1 hb
  clear hb
  generalize W1.heap.size = B at *
  clear W1 W
  have hne0 : ¬ B = w.heap.size := by omega
  have hne1 : ¬ B = w.heap.size + 1 := by omega
  have hne2 : w.heap.size ≠ B := by omega
  have hne3 : w.heap.size + 1 ≠ B := by omega
  have hle : w.heap.size ≤ B := by omega
  have hone : E2.pow x (n / 2 ^ 64) = E2.one := by rw [Nat.div_eq_of_lt (by omega)]; rfl
  have R0 : Hid (Two W2 B 24 (.int .u64 (vF (E2.pow x (n / 2 ^ 64)).A)) (.int .u64 (vF (E2.pow x (n / 2 ^ 64)).B)) ∧ Two W2 w.heap.size 24 (.int .u64 (vF (x).A)) (.int .u64 (vF (x).B)) ∧ Two W2 (w.heap.size + 1) 24 (.int .u64 0) (.int .u64 0) ∧ Below w.heap.size w W2) := Lib.hid ⟨by rw [hone]; exact gc, g0, g1, hB⟩
  clear gc g0 g1 hB hone hzB hz2
  go_loopw [6] (fun s6 wr => ∃ k : Nat, k ≤ 64 ∧ s6 = .int .i64 ((k : Int) - 1) ∧ Two wr B 24 (.int .u64 (vF (E2.pow x (n / 2 ^ k)).A)) (.int .u64 (vF (E2.pow x (n / 2 ^ k)).B)) ∧ Two wr w.heap.size 24 (.int .u64 (vF (x).A)) (.int .u64 (vF (x).B)) ∧ Two wr (w.heap.size + 1) 24 (.int .u64 0) (.int .u64 0) ∧ Below w.heap.size w wr) (fun s6 _ => (intOf s6 + 1).toNat)
  case atStart => exact ⟨64, by omega, by go_num, R0.out⟩
  case round =>
    clear R0
    obtain ⟨k, hk, rfl, h0, h1, h2, hB⟩ := hrel
    have H0 := Lib.hid h0
    have H1 := Lib.hid h1
    have H2 := Lib.hid h2
    have HB := Lib.hid hB
    clear h0 h1 h2 hB
    cases k with
    | zero =>
      have c20 := H0.out.c0; have c21 := H0.out.c1; have c10 := H2.out.c0; have c11 := H2.out.c1; have f10 := H2.out.f0; have f11 := H2.out.f1
      go_wp2
      refine bodyPost_ret (v := .agg #[.int .u64 (vF (E2.pow x (n / 2 ^ 0)).A), .int .u64 (vF (E2.pow x (n / 2 ^ 0)).B)]) (by simp [results, Try.results30, go_sem, c10, c11]) rfl ⟨?_, ?_⟩
      · rw [Nat.pow_zero, Nat.div_one]
      · exact (HB.out.setCell (by simp; try omega) _).setCell (by simp; try omega) _
    | succ j =>
      have hq1 : n / 2 ^ (j + 1) = n / 2 ^ j / 2 := by rw [Nat.pow_succ, Nat.div_div_eq_div_mul]
      have hq2 : ((n : Int) / 2 ^ j) = ((n / 2 ^ j : Nat) : Int) := by rw [Int.natCast_ediv, Int.natCast_pow]; rfl
      have hqn : n / 2 ^ j ≤ n := Nat.div_le_self _ _
      rw [hq1] at H0
      clear hq1
      generalize hq : n / 2 ^ j = q at *
      have Hq := Lib.hid hq
      clear hq
      have eb := and_one_u64 (q : Int) (by omega) (by omega)
      have c20 := H0.out.c0; have c21 := H0.out.c1; have f20 := H0.out.f0; have f21 := H0.out.f1; have c00 := H1.out.c0; have c01 := H1.out.c1
      by_cases hodd : q % 2 = 1
      · have e1 : ((q : Int) % 2 == 1) = true := by simp; omega
        have hp := Lib.hid (pow_odd x q hodd)
        clear hodd
        go_wp2_with (first
          | (go_at_call 24; ((with_reducible refine (rMul_any (E2.pow x (q / 2)) (E2.pow x (q / 2)) _).mono ?_)); rintro e W1 ⟨rfl, hb⟩; replace H0 := Lib.hid (((H0.out.keep hb).set0 (.int .u64 (vF (E2.pow x (q / 2) * E2.pow x (q / 2)).A))).set1 (.int .u64 (vF (E2.pow x (q / 2) * E2.pow x (q / 2)).B))); replace H1 := Lib.hid (((H1.out.keep hb).far (a := ⟨B, 0, none⟩) (.int .u64 (vF (E2.pow x (q / 2) * E2.pow x (q / 2)).A)) hne2).far (a := ⟨B, 1, none⟩) (.int .u64 (vF (E2.pow x (q / 2) * E2.pow x (q / 2)).B)) hne2); replace H2 := Lib.hid (((H2.out.keep hb).far (a := ⟨B, 0, none⟩) (.int .u64 (vF (E2.pow x (q / 2) * E2.pow x (q / 2)).A)) hne3).far (a := ⟨B, 1, none⟩) (.int .u64 (vF (E2.pow x (q / 2) * E2.pow x (q / 2)).B)) hne3); replace HB := Lib.hid (((HB.out.trans (hb.mono HB.out.size)).setCell (p := ⟨B, 0, none⟩) hle (.int .u64 (vF (E2.pow x (q / 2) * E2.pow x (q / 2)).A))).setCell (p := ⟨B, 1, none⟩) hle (.int .u64 (vF (E2.pow x (q / 2) * E2.pow x (q / 2)).B))); replace f20 := free_after hb c20 f20; replace f21 := free_after hb c21 f21; replace c20 := cell_after hb c20; replace c21 := cell_after hb c21; replace c00 := cell_after hb c00; replace c01 := cell_after hb c01; clear hb)
          | (go_at_call 24; ((with_reducible refine (rMul_any (E2.pow x (q / 2) * E2.pow x (q / 2)) x _).mono ?_)); rintro e W3 ⟨rfl, hb⟩; replace f20 := free_after hb H0.out.c0 H0.out.f0; replace f21 := free_after hb H0.out.c1 H0.out.f1; replace c20 := cell_after hb H0.out.c0; replace c21 := cell_after hb H0.out.c1; replace H0 := Lib.hid (H0.out.keep hb); replace H1 := Lib.hid (H1.out.keep hb); replace H2 := Lib.hid (H2.out.keep hb); replace HB := Lib.hid (HB.out.trans (hb.mono HB.out.size)); clear c00 c01 hb))
        go_roundw
        case rel => exact ⟨j, by omega, by go_num, by rw [Hq.out, ← hp.out]; exact (H0.out.set0 _).set1 _, (H1.out.far _ hne2).far _ hne2, (H2.out.far _ hne3).far _ hne3, (HB.out.setCell hle _).setCell hle _⟩
        case measure => simp [intOf]
      · have e1 : ((q : Int) % 2 == 1) = false := by simp; omega
        have hp := Lib.hid (pow_even x q hodd)
        clear hodd
        go_wp2_with (go_at_call 24; ((with_reducible refine (rMul_any (E2.pow x (q / 2)) (E2.pow x (q / 2)) _).mono ?_)); rintro e W1 ⟨rfl, hb⟩; replace H0 := Lib.hid (((H0.out.keep hb).set0 (.int .u64 (vF (E2.pow x (q / 2) * E2.pow x (q / 2)).A))).set1 (.int .u64 (vF (E2.pow x (q / 2) * E2.pow x (q / 2)).B))); replace H1 := Lib.hid (((H1.out.keep hb).far (a := ⟨B, 0, none⟩) (.int .u64 (vF (E2.pow x (q / 2) * E2.pow x (q / 2)).A)) hne2).far (a := ⟨B, 1, none⟩) (.int .u64 (vF (E2.pow x (q / 2) * E2.pow x (q / 2)).B)) hne2); replace H2 := Lib.hid (((H2.out.keep hb).far (a := ⟨B, 0, none⟩) (.int .u64 (vF (E2.pow x (q / 2) * E2.pow x (q / 2)).A)) hne3).far (a := ⟨B, 1, none⟩) (.int .u64 (vF (E2.pow x (q / 2) * E2.pow x (q / 2)).B)) hne3); replace HB := Lib.hid (((HB.out.trans (hb.mono HB.out.size)).setCell (p := ⟨B, 0, none⟩) hle (.int .u64 (vF (E2.pow x (q / 2) * E2.pow x (q / 2)).A))).setCell (p := ⟨B, 1, none⟩) hle (.int .u64 (vF (E2.pow x (q / 2) * E2.pow x (q / 2)).B))); replace f20 := free_after hb c20 f20; replace f21 := free_after hb c21 f21; replace c20 := cell_after hb c20; replace c21 := cell_after hb c21; replace c00 := cell_after hb c00; replace c01 := cell_after hb c01; clear hb)
        go_roundw
        case rel => exact ⟨j, by omega, by go_num, by rw [Hq.out, ← hp.out]; exact H0.out, H1.out, H2.out, HB.out⟩
        case measure => simp [intOf]

end Go.Proofs.Ytbjeicbphkglfaa
