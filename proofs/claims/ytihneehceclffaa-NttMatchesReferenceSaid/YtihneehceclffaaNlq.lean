/- More mathematics of the laws of package ntt: extensions; no conditions but lengths. -/
import Derived.Test.YtihneehceclffaaNlm
namespace Go.Proofs.Ytihneehceclffaa
open Go.RowKit Gold

theorem root_pow : ∀ (r q : Nat), q + r ≤ 32 → rootF (q + r) ^ (2 ^ r) = rootF q
  | 0, q, _ => F_pow_one _
  | r + 1, q, h => by
    have ih := root_pow r (q + 1) (by omega)
    rw [show q + (r + 1) = q + 1 + r by omega, pow2_succ, F_pow_add, ih]
    exact rootF_sq (by omega)
theorem ext_sub {xs : List F} {q r : Nat} (h : q + r ≤ 32) (hl : xs.length ≤ 2 ^ q) (j : Nat) : fwdF (cfF xs) (q + r) (2 ^ r * j) = fwdF (cfF xs) q j := by
  unfold fwdF
  rw [F_pow_mul, root_pow r q h]
  exact evF_pad (Nat.pow_le_pow_right (by omega) (by omega)) (fun i hi => cfF_none (by omega)) _
theorem ext_inv {xs : List F} {q r N : Nat} (hN : N = 2 ^ (q + r)) (h : q + r ≤ 16) {j : Nat} (hj : j < N) : invT (cfF (tabF N (fwdF (cfF xs) (q + r)))) (q + r) j = cfF xs j := by
  rw [invT_tab (f := fwdF (cfF xs) (q + r)) (fun i hi => cfF_tab _ (by omega))]
  exact inv_fwd h _ (by omega)
theorem fwd_evL {xs : List F} {q i : Nat} (hl : xs.length ≤ 2 ^ q) : fwdF (cfF xs) q i = evL xs (rootF q ^ i) := evL_evF' hl _
theorem rpowFb (x : F) (i : Nat) (w : World) (hi : i < 18446744073709551616) : Calls Try.prog 30 #[.int .u64 (vF x), .int .u64 (i : Int)] w fun e w' => e = .returned (.int .u64 (vF (x ^ i))) ∧ Below w.heap.size w w' := by
  refine (rpow_nat (vF x) i w (El_vF x) hi).mono ?_
  rw [vF_pow]
  rintro e w' ⟨he, rfl⟩
  exact ⟨he, Below.refl _ _⟩
theorem run_makeH {ev : Operand → Value} {o : Oper} {x : Operand} (n : Nat) (hn : n ≤ 70000) (ho : o.op = .makeSlice 22 x x) (hx : ev x = .int .i64 (n : Int)) (w : World) :
    (execOp ev o).run Try.prog w = .ok (.value (.slice (some ⟨w.heap.size, 0, none⟩) n n)) (w.alloc (.cells (cellsF (tabF n fun _ => 0)).toArray 34)) := by
  have h := run_makeF n hn w
  unfold execOp
  rw [ho]
  simp only [hx]
  simp only [Sem.run_bind, h, Result.andThen_ok, Sem.run_pure]
theorem log_any (n : Int) (w : World) : Calls Try.prog 28 #[.int .i64 n] w fun e w' => ∃ v : Int, e = .returned (.int .i64 v) ∧ w' = w := by
  by_cases h : ∃ k : Nat, k ≤ 16 ∧ n = ((2 ^ k : Nat) : Int)
  · obtain ⟨k, hk, rfl⟩ := h
    exact (log_yes (2 ^ k) k w rfl hk).mono fun _ _ h => ⟨_, h⟩
  · exact (log_no n w fun k hk e => h ⟨k, hk, e⟩).mono fun _ _ h => ⟨_, h⟩
theorem run_buildF {ev : Operand → Value} {o : Oper} {x : Operand} (y : F) (ho : o.op = .buildSlice 22 1 #[(0, x)]) (hx : ev x = .int .u64 (vF y)) (w : World) :
    (execOp ev o).run Try.prog w = .ok (.value (.slice (some ⟨w.heap.size, 0, none⟩) 1 1)) (w.alloc (.cells #[.int .u64 (vF y)] 34)) := by
  unfold execOp
  rw [ho]
  simp only [List.map_toArray, List.map_cons, List.map_nil, hx]
  go_simp
theorem lin_fwd {xs ys : List F} {q N : Nat} (hN : N = 2 ^ q) (c : F) (j : Nat) : fwdF (cfF (tabF N fun i => cfF xs i + c * cfF ys i)) q j = fwdF (cfF xs) q j + c * fwdF (cfF ys) q j := by
  unfold fwdF
  rw [evF_congr (fun i hi => cfF_tab _ (by omega)), evF_add, evF_mul]

end Go.Proofs.Ytihneehceclffaa
