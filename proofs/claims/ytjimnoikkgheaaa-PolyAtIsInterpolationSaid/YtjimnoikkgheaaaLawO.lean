/- Two slices of the call's own that grow one after the other: where the grown one lies; the mathematics of values at further nodes; no conditions but lengths. -/
import Derived.Test.YtjimnoikkgheaaaLawN
import Derived.ArgAppend
namespace Go.Proofs.Ytjimnoikkgheaaa
open Go.RowKit Gold

/-- a slice of the call's own from base on, or one with no room and nothing in it -/
def OwZ (w : World) (base : Nat) (v : Value) (n : Nat) (xs : List E2) : Prop := (n = 0 ∧ xs = [] ∧ ∃ a : Addr, v = .slice (some a) 0 0) ∨ OwE w base v n xs
theorem OwZ.nil (w : World) (base : Nat) (a : Addr) : OwZ w base (.slice (some a) 0 0) 0 [] := .inl ⟨rfl, rfl, a, rfl⟩
theorem OwZ.keep {w w' : World} {base : Nat} {v : Value} {n : Nat} {xs : List E2} (h : OwZ w base v n xs) (hb : Below w.heap.size w w') : OwZ w' base v n xs := h.elim .inl fun h => .inr (h.keep hb)
theorem OwZ.own {w : World} {base : Nat} {v : Value} {n : Nat} {xs : List E2} (h : OwZ w base v n xs) (hn : n ≠ 0) : OwE w base v n xs := h.elim (fun h => absurd h.1 hn) id
theorem OwE.block {w : World} {base : Nat} {v : Value} {n : Nat} {xs : List E2} (h : OwE w base v n xs) (hn : n ≠ 0) : ∃ g c, v = .slice (some ⟨g, 0, none⟩) n c ∧ base ≤ g ∧ g < w.heap.size := by
  rcases h.2 with ⟨_, h0⟩ | ⟨g, cap, cur, rfl, hb, hg, _⟩
  · exact absurd h0 hn
  · exact ⟨g, cap, rfl, hb, (Array.getElem?_eq_some_iff.1 hg).1⟩
theorem OwE.same {w w' : World} {base g c : Nat} {n : Nat} {xs : List E2} (h : OwE w base (.slice (some ⟨g, 0, none⟩) n c) n xs) (e : w'.heap[g]? = w.heap[g]?) : OwE w' base (.slice (some ⟨g, 0, none⟩) n c) n xs := by
  refine ⟨h.1, ?_⟩
  rcases h.2 with ⟨h0, _⟩ | ⟨g1, cap, cur, e1, hb, hg, r⟩
  · cases h0
  · injection e1 with e1 e2 e3
    injection e1 with e1
    injection e1 with e1
    subst e1
    exact .inr ⟨g, cap, cur, by rw [e3], hb, e.trans hg, r⟩
theorem two_cells {w : World} {g : Nat} {y : E2} (hy : Two w g 25 (.int .u64 (vF y.A)) (.int .u64 (vF y.B))) (j : Nat) (u : Value) (hj : [Value.int .u64 (vF y.A), Value.int .u64 (vF y.B)][j]? = some u) : w.cell? ((⟨g, 0, none⟩ : Addr).add j) = some u := by
  rw [add_base]
  match j, hj with
  | 0, hj => injection hj with hj; subst hj; exact hy.c0
  | 1, hj => injection hj with hj; subst hj; exact hy.c1
  | j + 2, hj => simp at hj
theorem two_ones {y : E2} (u : Value) (hu : u ∈ [Value.int .u64 (vF y.A), Value.int .u64 (vF y.B)]) : u.oneCell' = true := by
  simp at hu
  rcases hu with rfl | rfl <;> rfl
theorem hOp_appendZ {o : Oper} {a : Act} {w : World} {K : Value → World → Prop} (s x : Operand)
    (ho : o.op = .call { callee := .builtin .append, args := #[s, x], argTypes := #[22, 22] }) (base : Nat) (v : Value) (n : Nat) (xs : List E2) (hs : a.eval s = v) (hown : OwZ w base v n xs)
    (g c : Nat) (y : E2) (hx : a.eval x = .slice (some ⟨g, 0, none⟩) 1 c) (hy : Two w g 25 (.int .u64 (vF y.A)) (.int .u64 (vF y.B))) (hn : n ≤ 65536) (hbase : base ≤ w.heap.size)
    (h : ∀ v' w', OwZ w' base v' (n + 1) (xs ++ [y]) → Below base w w' → K v' w') : hOp Try.prog o K a w := by
  rcases hown with ⟨rfl, rfl, ad, rfl⟩ | hown
  · obtain ⟨i, hi, hz, hs2, hb⟩ := info_parts ext_info
    obtain ⟨v', w', hrun, hown', hg⟩ := run_append_arg_grows (P := Try.prog) w 22 o.type 25 i (.agg #[.int .u64 0, .int .u64 0]) 2 16 Try.underlying22 hi hz hs2 hb rfl (by omega) ad 0 0 [] rfl (fun j u hj => by simp at hj) ⟨g, 0, none⟩ 1 c [.int .u64 (vF y.A), .int .u64 (vF y.B)] rfl (two_cells hy) (by omega) (by unfold maxLen; omega) (by omega)
    unfold hOp execOp
    simp only [ho, resolve, invoke, builtin, Sem.run_bind, Sem.run_pure, Result.andThen_ok, List.map_toArray, List.map_cons, List.map_nil, hs, hx, hrun]
    refine h v' w' (.inr ⟨hown'.1, ?_⟩) ⟨hg.os, hg.tape, hg.output, hg.size, fun k hk => hg.block k (by omega) (fun e => by cases e)⟩
    rcases hown'.2 with ⟨_, h0⟩ | ⟨g1, cap, cur, e1, hb1, r⟩
    · cases h0
    · exact .inr ⟨g1, cap, cur, e1, Nat.le_trans hbase hb1, r⟩
  · exact hOp_appendE s x ho base v n xs hs hown g c y hx hy hn hbase fun v' w' hown' hg => h v' w' (.inr hown') ⟨hg.os, hg.tape, hg.output, hg.size, fun k hk => hg.block k (by omega) (fun e => by have := (World.ownsRow.lt hown k e.symm).1; omega)⟩
/-- append(s, y): where the new slice lies -/
theorem wpList_appendW {ops : Array Oper} {rest : List Oper} {o : Oper} {a : Act} {Q : Exit → Act → World → Prop} {w : World} (hgd : o.guard = none) (s x : Operand)
    (ho : o.op = .call { callee := .builtin .append, args := #[s, x], argTypes := #[22, 22] }) (base : Nat) (v : Value) (n : Nat) (xs : List E2) (hs : a.eval s = v) (hown : OwE w base v n xs)
    (g c : Nat) (y : E2) (hx : a.eval x = .slice (some ⟨g, 0, none⟩) 1 c) (hy : Two w g 25 (.int .u64 (vF y.A)) (.int .u64 (vF y.B))) (hn : n ≤ 65536) (hbase : base ≤ w.heap.size)
    (h : ∀ v' w', OwE w' base v' (n + 1) (xs ++ [y]) → w.grownBy w' v.ownBlock → (∀ k, v'.ownBlock = some k → v.ownBlock = some k ∨ w.heap.size ≤ k) → wpList Try.prog ops Q rest (a.put o.dst v') w') : wpList Try.prog ops Q (o :: rest) a w := by
  refine wpList_plain hgd fun K hK => ?_
  obtain ⟨i, hi, hz, hs2, hb⟩ := info_parts ext_info
  obtain ⟨v', w', hrun, hown', hg, _⟩ := run_append_own (P := Try.prog) w base 22 o.type 25 i (.agg #[.int .u64 0, .int .u64 0]) 2 16 Try.underlying22 hi hz hs2 hb rfl (by omega) v n (cellsE xs) hown ⟨g, 0, none⟩ 1 c [.int .u64 (vF y.A), .int .u64 (vF y.B)] rfl (two_cells hy) two_ones (by unfold maxLen; omega) (by omega) hbase
  have hw : ∀ k, v'.ownBlock = some k → v.ownBlock = some k ∨ w.heap.size ≤ k := by
    intro k hk
    rcases hown.2 with ⟨rfl, rfl⟩ | ⟨g1, cap, cur, rfl, hb1, hg1, hcap, hmax, hsz, htake⟩
    · obtain ⟨v2, w2, hrun2, hown2, _⟩ := run_append_own (P := Try.prog) w w.heap.size 22 o.type 25 i (.agg #[.int .u64 0, .int .u64 0]) 2 16 Try.underlying22 hi hz hs2 hb rfl (by omega) (.slice none 0 0) 0 [] (World.ownsRow_nil w _ _ _) ⟨g, 0, none⟩ 1 c [.int .u64 (vF y.A), .int .u64 (vF y.B)] rfl (two_cells hy) two_ones (by unfold maxLen; omega) (by omega) (Nat.le_refl _)
      rw [hrun] at hrun2
      injection hrun2 with e1 e2
      subst e1
      subst e2
      exact .inr (World.ownsRow.lt hown2 k hk).1
    · by_cases hr : n + 1 ≤ cap
      · have hcell : ∀ j, j < cap * 2 → (w.cell? ⟨g1, j, none⟩).isSome = true := by
          intro j hj
          simp [World.cell?, hg1]
          rw [hsz]
          exact hj
        have hrun2 := run_append_room_cells (P := Try.prog) w 22 o.type 25 i Try.underlying22 hi g1 0 n cap ⟨g, 0, none⟩ 1 c [.int .u64 (vF y.A), .int .u64 (vF y.B)] (by rw [hs2]; rfl) (two_cells hy) two_ones hr
          (fun j hj => hcell _ (by rw [hs2]; simp at hj; omega)) (fun j hj => by simp [World.frozen?, hg1])
        rw [hrun] at hrun2
        injection hrun2 with e1 e2
        subst e1
        exact .inl hk
      · obtain ⟨v2, w2, hrun2, hown2, _⟩ := run_append_arg_grows (P := Try.prog) w 22 o.type 25 i (.agg #[.int .u64 0, .int .u64 0]) 2 16 Try.underlying22 hi hz hs2 hb rfl (by omega) ⟨g1, 0, none⟩ n cap (cellsE xs) (by rw [cellsE_length, ← OwE.len hown])
          (fun j u hj => by
            rw [add_base]
            rw [← htake] at hj
            have hk := (List.getElem?_eq_some_iff.1 hj).1
            rw [List.getElem?_take_of_lt (by simp at hk; omega)] at hj
            simpa [World.cell?, hg1] using hj) ⟨g, 0, none⟩ 1 c [.int .u64 (vF y.A), .int .u64 (vF y.B)] rfl (two_cells hy) (by omega) (by unfold maxLen; omega) (by omega)
        rw [hrun] at hrun2
        injection hrun2 with e1 e2
        subst e1
        subst e2
        exact .inr (World.ownsRow.lt hown2 k hk).1
  unfold Oper.wp
  simp [execOp, ho, resolve, invoke, builtin, hs, hx, hrun, Result.andThen]
  refine hK _ _ (h v' w' ?_ hg hw)
  unfold OwE
  rw [cellsE_append]
  exact hown'
theorem sep_step {w w' : World} {v v' : Value} {g : Nat} (hg : w.grownBy w' v.ownBlock) (hw : ∀ k, v'.ownBlock = some k → v.ownBlock = some k ∨ w.heap.size ≤ k) (hne : v.ownBlock ≠ some g) (hlt : g < w.heap.size) :
    w'.heap[g]? = w.heap[g]? ∧ v'.ownBlock ≠ some g :=
  ⟨hg.block g hlt (fun e => hne e.symm), fun e => (hw g e).elim hne (fun h => by omega)⟩

/-! ### Mathematics -/
def sumX (xs ys : List E2) (k : Nat) : List E2 := (List.range k).map fun i => cfE xs i + cfE ys i
theorem sumX_succ (xs ys : List E2) (k : Nat) : sumX xs ys (k + 1) = sumX xs ys k ++ [cfE xs k + cfE ys k] := by
  unfold sumX
  rw [List.range_succ, List.map_append]
  rfl
theorem sumX_length (xs ys : List E2) (k : Nat) : (sumX xs ys k).length = k := by unfold sumX; simp
def longX (xs : List E2) (k : Nat) : List E2 := xs ++ (List.range (k - xs.length)).map fun i => atE xs (nd (xs.length + i))
theorem longX_start {xs : List E2} {k : Nat} (h : xs.length = k) : longX xs k = xs := by subst h; unfold longX; simp
theorem longX_succ {xs : List E2} {k : Nat} (h : xs.length ≤ k) : longX xs (k + 1) = longX xs k ++ [atE xs (ndZ (k : Int))] := by
  unfold longX
  rw [show k + 1 - xs.length = (k - xs.length) + 1 by omega, List.range_succ, List.map_append, ← List.append_assoc]
  congr 2
  show [atE xs (nd (xs.length + (k - xs.length)))] = _
  rw [show xs.length + (k - xs.length) = k by omega]
  rfl
theorem longX_length {xs : List E2} {k : Nat} (h : xs.length ≤ k) : (longX xs k).length = k := by unfold longX; simp; omega
theorem at_linear {xs ys : List E2} {n : Nat} (hx : xs.length = n) (hy : ys.length = n) (hn : n ≤ 1000) (x : E2) : atE (sumX xs ys n) x = atE xs x + atE ys x := by
  have hl := sumX_length xs ys n
  have h : IsInterp (sumX xs ys n) (addE (interpE xs) (interpE ys)) := by
    refine ⟨trimE_trimE _, ?_, fun k hk => ?_⟩
    · have h1 := addE_length (interpE xs) (interpE ys)
      have h2 := interpE_length xs
      have h3 := interpE_length ys
      omega
    · rw [hl] at hk
      rw [evE_addE, evE_interpE, evE_interpE, atE_node (by omega) (by omega), atE_node (by omega) (by omega)]
      rw [cfE_some (show (sumX xs ys n)[k]? = some (cfE xs k + cfE ys k) by unfold sumX; simp [hk])]
  rw [← evE_interpE, ← h.eq (by omega), evE_addE, evE_interpE, evE_interpE]
theorem at_long {xs : List E2} {n : Nat} (hx : xs.length ≤ n) (hn : n ≤ 1000) (x : E2) : atE (longX xs n) x = atE xs x := by
  have hl := longX_length hx
  have h : IsInterp (longX xs n) (interpE xs) := by
    refine ⟨(interp_is (by omega)).trim, ?_, fun k hk => ?_⟩
    · have := interpE_length xs
      omega
    · rw [hl] at hk
      rw [evE_interpE]
      by_cases h1 : k < xs.length
      · rw [atE_node h1 (by omega)]
        unfold cfE longX
        rw [List.getElem?_append_left h1]
      · rw [cfE_some (show (longX xs n)[k]? = some (atE xs (nd k)) by
          unfold longX
          rw [List.getElem?_append_right (by omega)]
          simp [show k - xs.length < n - xs.length by omega]
          rw [show xs.length + (k - xs.length) = k by omega])]
  rw [← evE_interpE, ← h.eq (by omega), evE_interpE]

end Go.Proofs.Ytjimnoikkgheaaa
