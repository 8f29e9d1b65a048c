/- Contracts with lengths; own lists of integers: for the law of sizes. -/
import Derived.Test.YtcephdkcjcbanaaDoorMvk
namespace Go.Proofs.YtcephdkcjcbanaaDoor
set_option maxRecDepth 8000
set_option linter.unusedVariables false
set_option linter.unusedSimpArgs false
open Go.RowKit
attribute [local simp] z32_ne z32_run
attribute [-simp] Tryd.zeroValue31 Tryd.isAgg31 Tryd.sizeOf31
theorem open_n (A : Option Addr) (n c : Nat) (Ls : List (List Nat)) (I : Option Addr) (k d : Nat) (is : List Int) (w : World) (h : Pb w A n c Ls) (hi : Ib w I k d is) (hn1 : 1 ≤ n) (hn : n ≤ 65536) (hL : ∀ l ∈ Ls, l.length ≤ 59999) (hG : Gl w) (hinc : incF 0 (n : Int) is = true) (D : List (List Nat)) (hD : digsN Ls (closedN 0 n is) = D) (N : Nat) (hN : D.length = N) :
    Calls Tryd.prog 13 #[.slice A n c, .slice I k d] w fun e w' => ∃ B f, e = .returned (.tuple #[.agg #[.slice B N f], .int .i64 0]) ∧ Db w' B N f D ∧ Below w.heap.size w w' :=
  (open_yes A n c Ls I k d is w h hi hn1 hn hL hG hinc D hD).mono fun e w' ⟨B, m, f, he, hd, hb⟩ => by
    have hm : m = N := by rw [← hN]; exact hd.len
    subst hm
    exact ⟨B, f, he, hd, hb⟩
theorem witness_n (A : Option Addr) (n c : Nat) (Ls : List (List Nat)) (i : Int) (w : World) (h : Pb w A n c Ls) (hn1 : 1 ≤ n) (hn : n ≤ 65536) (hL : ∀ l ∈ Ls, l.length ≤ 59999) (hG : Gl w) (hi : 0 ≤ i ∧ i < (n : Int)) (D : List (List Nat)) (hD : digsN Ls (sibN 0 n i) = D) (N : Nat) (hN : D.length = N) :
    Calls Tryd.prog 16 #[.slice A n c, .int .i64 i] w fun e w' => ∃ B f, e = .returned (.tuple #[.slice B N f, .int .i64 0]) ∧ Db w' B N f D ∧ Below w.heap.size w w' :=
  (witness_yes A n c Ls i w h hn1 hn hL hG hi D hD).mono fun e w' ⟨B, m, f, he, hd, hb⟩ => by
    have hm : m = N := by rw [← hN]; exact hd.len
    subst hm
    exact ⟨B, f, he, hd, hb⟩
theorem count_as (A : Option Addr) (n c : Nat) (Ds : List (List Nat)) (d : List Nat) (w : World) (hA : Db w A n c Ds) (hn : n ≤ 100000) (hd : d.length = 32 ∧ ∀ x ∈ d, x < 256) (N : Nat) (hN : countN Ds d = N) :
    Calls Tryd.prog 29 #[.slice A n c, .agg (celB d).toArray] w fun e w' => e = .returned (.int .i64 (N : Int)) ∧ Below w.heap.size w w' := by
  have := count_any A n c Ds d w hA hn hd.1 hd.2
  rwa [hN] at this
theorem countN_perm {Ds Es : List (List Nat)} (h : Ds.Perm Es) (d : List Nat) : countN Ds d = countN Es d := (h.filter _).length_eq
theorem OwZ.nil1 {w : World} {base b : Nat} (h : w.heap[b]? = some (.cells #[] 3 (0, 0))) (hb : base ≤ b) : OwZ w base (.slice (some ⟨b, 0, none⟩) 0 0) 0 [] := by
  refine ⟨rfl, .inr ⟨b, 0, _, rfl, hb, h, Nat.le_refl _, Nat.zero_le _, rfl, rfl⟩⟩
theorem rangeI_succ (j : Nat) : ((List.range (j + 1)).map fun i : Nat => (i : Int)) = ((List.range j).map fun i : Nat => (i : Int)) ++ [(j : Int)] := by
  rw [List.range_succ, List.map_append]; rfl
theorem rangeI_pw (n : Nat) : ((List.range n).map fun i : Nat => (i : Int)).Pairwise (· < ·) := by
  rw [List.pairwise_map]
  exact List.pairwise_lt_range.imp fun h => by omega
theorem rangeI_in (n : Nat) : ∀ x ∈ ((List.range n).map fun i : Nat => (i : Int)), 0 ≤ x ∧ x < (n : Int) := by
  intro x hx
  obtain ⟨i, hi, rfl⟩ := List.mem_map.1 hx
  have := List.mem_range.1 hi
  omega
theorem rangeI_inc (n : Nat) : incF 0 (n : Int) ((List.range n).map fun i : Nat => (i : Int)) = true := incF_of_pw (rangeI_pw n) (rangeI_in n)
theorem open_all {ml : List (List Nat)} {n : Nat} (h : 1 ≤ n) : digsN ml (closedN 0 n ((List.range n).map fun i : Nat => (i : Int))) = [] := by
  rw [closed_all n h 0 _ (InS.of_inc (rangeI_inc n)) (by rw [List.length_map, List.length_range])]
  rfl
theorem open_one {ml : List (List Nat)} {n a : Nat} (ha : a < n) : (digsN ml (closedN 0 n [(a : Int)])).Perm (digsN ml (sibN 0 n (a : Int))) :=
  (closed_single n (by omega) 0 (a : Int) (by omega) (by omega)).map _
theorem one_inc {n a : Nat} (ha : a < n) : incF 0 (n : Int) [(a : Int)] = true := incF_of_pw (List.pairwise_singleton _ _) (fun x hx => by rw [List.mem_singleton.1 hx]; omega)
theorem pathsN_take {n : Nat} {is : List Int} {j : Nat} {z : Int} (h : is[j]? = some z) : pathsN 0 n (is.take (j + 1)) = pathsN 0 n (is.take j) + (sibN 0 n z).length := by
  rw [List.take_add_one, h, pathsN_append]
  unfold pathsN
  simp
section
variable {ev : Operand → Value} {o : Oper}
theorem exec_boxI0 (w : World) (ho : o.op = .buildSlice 26 0 #[]) : (execOp ev o).run Tryd.prog w = .ok (.value (.slice (some ⟨w.heap.size, 0, none⟩) 0 0)) (w.alloc (.cells #[] 3)) := by
  unfold execOp
  rw [ho]
  go_simp
theorem exec_remE {x y : Operand} {t : TypeId} (a b c : Nat) (hc : a % b = c) (hb : 0 < b) (ha : a ≤ 1000000) (hb2 : b ≤ 1000000) (ho : o.op = .binOp .rem 3 x y t) (hx : ev x = .int .i64 (a : Int)) (hy : ev y = .int .i64 (b : Int)) (w : World) :
    (execOp ev o).run Tryd.prog w = .ok (.value (.int .i64 (c : Int))) w := by
  subst hc
  exact exec_remN a b hb ha hb2 ho hx hy w
end
end Go.Proofs.YtcephdkcjcbanaaDoor
