/- append in a statement whose order is open, for words; no conditions but the arguments' own. -/
import Derived.Test.YtihneehceclffaaNlq
import Derived.Test.YtihneehceclffaaFloat2
import Derived.WalkSmall
namespace Go.Proofs.Ytihneehceclffaa
open Go.RowKit Gold
theorem and_15 (E : Int) (h : U64 E) : bits BinOp.and IntKind.u64 E 15 = E % 16 := by
  unfold U64 at h
  have h1 := bits_and_u64_nat E.toNat 15 (by omega) (by omega)
  rw [show (15 : Nat) = 2 ^ 4 - 1 from rfl, Nat.and_two_pow_sub_one_eq_mod, Int.toNat_of_nonneg h.1] at h1
  have h2 : ((E.toNat % 2 ^ 4 : Nat) : Int) = E % 16 := by omega
  exact h1.trans h2
theorem hOp_appendF {o : Oper} {a : Act} {w : World} {K : Value → World → Prop} (s x : Operand)
    (ho : o.op = .call { callee := .builtin .append, args := #[s, x], argTypes := #[22, 22] }) (base : Nat) (v : Value) (n : Nat) (xs : List F) (hs : a.eval s = v) (hown : OwF w base v n xs)
    (g c : Nat) (y : F) (hx : a.eval x = .slice (some ⟨g, 0, none⟩) 1 c) (hy : One w g 34 (.int .u64 (vF y))) (hn : n ≤ 70000) (hbase : base ≤ w.heap.size)
    (h : ∀ v' w', OwF w' base v' (n + 1) (xs ++ [y]) → Below base w w' → K v' w') : hOp Try.prog o K a w := by
  obtain ⟨i, hi, hz, hs2, hb⟩ := info_parts u64_info
  obtain ⟨v', w', hrun, hown', hg, _⟩ := run_append_own (P := Try.prog) w base 22 o.type 34 i (.int .u64 0) 1 8 Try.underlying22 hi hz hs2 hb rfl (by omega) v n (cellsF xs) hown ⟨g, 0, none⟩ 1 c [.int .u64 (vF y)] rfl
    (by
      intro j u hj
      rw [ad_base]
      match j, hj with
      | 0, hj => injection hj with hj; subst hj; exact hy.c
      | j + 1, hj => simp at hj)
    (by
      intro u hu
      simp at hu
      subst hu
      rfl)
    (by unfold maxLen; omega) (by omega) hbase
  unfold hOp execOp
  simp only [ho, resolve, invoke, builtin, Sem.run_bind, Sem.run_pure, Result.andThen_ok, List.map_toArray, List.map_cons, List.map_nil, hs, hx, hrun]
  refine h v' w' ?_ (OwF.below hown hg hbase)
  unfold OwF
  rw [cellsF_append]
  exact hown'
end Go.Proofs.Ytihneehceclffaa
