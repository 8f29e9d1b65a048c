/- Slices of the call's own, grown by one element at a time: elements of the extension field, integers; no conditions but lengths. -/
import Derived.Test.YtombcjdhjcmhhaaSli
import Derived.OwnWalk
import Derived.Laws.AppendOwnNone
namespace Go.Proofs.Ytombcjdhjcmhhaa
set_option maxRecDepth 8000
open Go.RowKit Gold

theorem ownsRow_keep {w w' : World} {base : Nat} {e : TypeId} {size : Nat} {v : Value} {n : Nat} {xs : List Value} (h : w.ownsRow base e size v n xs) (hb : Below w.heap.size w w') : w'.ownsRow base e size v n xs := by
  refine ⟨h.1, ?_⟩
  rcases h.2 with hn | ⟨g, cap, cur, rfl, hbs, hgg, rest⟩
  · exact .inl hn
  · exact .inr ⟨g, cap, cur, rfl, hbs, heap_keep hgg hb, rest⟩
theorem ownsRow_setCell {w : World} {base : Nat} {e : TypeId} {size : Nat} {v : Value} {n : Nat} {xs : List Value} (h : w.ownsRow base e size v n xs) {a : Addr} (x : Value) (hne : v.ownBlock ≠ some a.block) : (w.setCell a x).ownsRow base e size v n xs := by
  refine ⟨h.1, ?_⟩
  rcases h.2 with hn | ⟨g, cap, cur, rfl, hbs, hgg, rest⟩
  · exact .inl hn
  · refine .inr ⟨g, cap, cur, rfl, hbs, ?_, rest⟩
    exact (Below.heap_setCell w a x g (by simpa [Value.ownBlock] using hne)).trans hgg

/-- a slice of the call's own that holds xs -/
def OwE (w : World) (base : Nat) (v : Value) (n : Nat) (xs : List E2) : Prop := w.ownsRow base 43 2 v n (cellsE xs)
section
variable {w w' : World} {base : Nat} {v : Value} {n : Nat} {xs : List E2}
theorem OwE.keep (h : OwE w base v n xs) (hb : Below w.heap.size w w') : OwE w' base v n xs := ownsRow_keep h hb
theorem OwE.len (h : OwE w base v n xs) : n = xs.length := by
  have := h.1
  rw [cellsE_length] at this
  omega
theorem OwE.sl (h : OwE w base v n xs) : ∃ A c, v = .slice A n c ∧ Sl w A n c xs := by
  have hn := h.len
  rcases h.2 with ⟨rfl, rfl⟩ | ⟨g, cap, cur, rfl, hb, hg, hc, hm, hs, ht⟩
  · refine ⟨none, 0, rfl, ?_⟩
    have : xs = [] := List.eq_nil_of_length_eq_zero hn.symm
    subst this
    exact Sl.nil _
  · unfold maxLen at hm
    refine ⟨_, cap, rfl, by simpa using hn, hc, by omega, (fun e => by cases e), fun i p hp => ⟨_, rfl, ?_⟩⟩
    rw [List.getElem?_map] at hp
    cases hx : xs[i]? with
    | none => rw [hx] at hp; cases hp
    | some x =>
      rw [hx] at hp
      injection hp with hp
      subst hp
      have hl := (List.getElem?_eq_some_iff.1 hx).1
      have key : ∀ k u, (cellsE xs)[k]? = some u → w.cell? ⟨g, k, none⟩ = some u := fun k u hu => by
        rw [← ht] at hu
        have hk := (List.getElem?_eq_some_iff.1 hu).1
        rw [List.getElem?_take_of_lt (by simp at hk; omega)] at hu
        simpa [World.cell?, hg] using hu
      unfold AtV
      rw [add_base]
      exact ⟨key _ _ (cellsE_even hx), key _ _ (cellsE_odd hx)⟩
theorem OwE.sl' {A : Option Addr} {c : Nat} (h : OwE w base (.slice A n c) n xs) : Sl w A n c xs := by
  obtain ⟨A1, c1, e, hs⟩ := h.sl
  injection e with e1 e2 e3
  subst e1
  subst e3
  exact hs
theorem OwE.far (h : OwE w base v n xs) {a : Addr} (x : Value) (e : a.block < base) : OwE (w.setCell a x) base v n xs :=
  ownsRow_setCell h x (fun k => by have := (World.ownsRow.lt h _ k).1; omega)
theorem OwE.made (w : World) (base : Nat) (hb : base ≤ w.heap.size) : OwE (w.alloc (.cells #[] 43)) base (.slice (some ⟨w.heap.size, 0, none⟩) 0 0) 0 [] := World.ownsRow_made w #[] 0 hb (Nat.zero_le _) rfl
theorem OwE.one (w : World) (base : Nat) (hb : base ≤ w.heap.size) (x : E2) : OwE (w.alloc (.cells #[.int .u64 (vF x.A), .int .u64 (vF x.B)] 43)) base (.slice (some ⟨w.heap.size, 0, none⟩) 1 1) 1 [x] :=
  ⟨rfl, .inr ⟨w.heap.size, 1, _, rfl, hb, heap_alloc_new w _, Nat.le_refl _, by unfold maxLen; omega, rfl, rfl⟩⟩
end

/-- append(s, y), y in a block of its own -/
theorem wpList_appendE {ops : Array Oper} {rest : List Oper} {o : Oper} {a : Act} {Q : Exit → Act → World → Prop} {w : World} (hgd : o.guard = none) (s x : Operand)
    (ho : o.op = .call { callee := .builtin .append, args := #[s, x], argTypes := #[22, 22] }) (base : Nat) (v : Value) (n : Nat) (xs : List E2) (hs : a.eval s = v) (hown : OwE w base v n xs)
    (g c : Nat) (y : E2) (hx : a.eval x = .slice (some ⟨g, 0, none⟩) 1 c) (hy : Two w g 43 (.int .u64 (vF y.A)) (.int .u64 (vF y.B))) (hn : n ≤ 65536) (hbase : base ≤ w.heap.size)
    (h : ∀ v' w', OwE w' base v' (n + 1) (xs ++ [y]) → w.grownBy w' v.ownBlock → wpList Try.prog ops Q rest (a.put o.dst v') w') : wpList Try.prog ops Q (o :: rest) a w := by
  obtain ⟨i, hi, hz, hs2, hb⟩ := info_parts ext_info
  refine wpList_append_own w hgd s x 22 ho base 43 i (.agg #[.int .u64 0, .int .u64 0]) 2 16 Try.underlying22 hi hz hs2 hb rfl (by omega) v n (cellsE xs) hs hown ⟨g, 0, none⟩ 1 c [.int .u64 (vF y.A), .int .u64 (vF y.B)] hx rfl ?_ ?_ ?_ ?_ hbase ?_
  · intro j u hj
    rw [add_base]
    match j, hj with
    | 0, hj => injection hj with hj; subst hj; exact hy.c0
    | 1, hj => injection hj with hj; subst hj; exact hy.c1
    | j + 2, hj => simp at hj
  · intro u hu
    simp at hu
    rcases hu with rfl | rfl <;> rfl
  · unfold maxLen; omega
  · omega
  · intro v' w' hown' hg _
    refine h v' w' ?_ hg
    unfold OwE
    rw [cellsE_append]
    exact hown'
theorem hOp_appendE {o : Oper} {a : Act} {w : World} {K : Value → World → Prop} (s x : Operand)
    (ho : o.op = .call { callee := .builtin .append, args := #[s, x], argTypes := #[22, 22] }) (base : Nat) (v : Value) (n : Nat) (xs : List E2) (hs : a.eval s = v) (hown : OwE w base v n xs)
    (g c : Nat) (y : E2) (hx : a.eval x = .slice (some ⟨g, 0, none⟩) 1 c) (hy : Two w g 43 (.int .u64 (vF y.A)) (.int .u64 (vF y.B))) (hn : n ≤ 65536) (hbase : base ≤ w.heap.size)
    (h : ∀ v' w', OwE w' base v' (n + 1) (xs ++ [y]) → w.grownBy w' v.ownBlock → K v' w') : hOp Try.prog o K a w := by
  obtain ⟨i, hi, hz, hs2, hb⟩ := info_parts ext_info
  obtain ⟨v', w', hrun, hown', hg, _⟩ := run_append_own (P := Try.prog) w base 22 o.type 43 i (.agg #[.int .u64 0, .int .u64 0]) 2 16 Try.underlying22 hi hz hs2 hb rfl (by omega) v n (cellsE xs) hown ⟨g, 0, none⟩ 1 c [.int .u64 (vF y.A), .int .u64 (vF y.B)] rfl
    (by
      intro j u hj
      rw [add_base]
      match j, hj with
      | 0, hj => injection hj with hj; subst hj; exact hy.c0
      | 1, hj => injection hj with hj; subst hj; exact hy.c1
      | j + 2, hj => simp at hj)
    (by
      intro u hu
      simp at hu
      rcases hu with rfl | rfl <;> rfl)
    (by unfold maxLen; omega) (by omega) hbase
  unfold hOp execOp
  simp only [ho, resolve, invoke, builtin, Sem.run_bind, Sem.run_pure, Result.andThen_ok, List.map_toArray, List.map_cons, List.map_nil, hs, hx, hrun]
  refine h v' w' ?_ hg
  unfold OwE
  rw [cellsE_append]
  exact hown'
theorem run_buildE {ev : Operand → Value} {o : Oper} {x : Operand} (y : E2) (ho : o.op = .buildSlice 22 1 #[(0, x)]) (hx : ev x = .agg #[.int .u64 (vF y.A), .int .u64 (vF y.B)]) (w : World) :
    (execOp ev o).run Try.prog w = .ok (.value (.slice (some ⟨w.heap.size, 0, none⟩) 1 1)) (w.alloc (.cells #[.int .u64 (vF y.A), .int .u64 (vF y.B)] 43)) := by
  unfold execOp
  rw [ho]
  simp only [List.map_toArray, List.map_cons, List.map_nil, hx]
  go_simp
theorem run_buildE2 {ev : Operand → Value} {o : Oper} {p q : Operand} (y z : E2) (ho : o.op = .buildSlice 22 2 #[(0, p), (1, q)]) (hp : ev p = .agg #[.int .u64 (vF y.A), .int .u64 (vF y.B)]) (hq : ev q = .agg #[.int .u64 (vF z.A), .int .u64 (vF z.B)]) (w : World) :
    (execOp ev o).run Try.prog w = .ok (.value (.slice (some ⟨w.heap.size, 0, none⟩) 2 2)) (w.alloc (.cells #[.int .u64 (vF y.A), .int .u64 (vF y.B), .int .u64 (vF z.A), .int .u64 (vF z.B)] 43)) := by
  unfold execOp
  rw [ho]
  simp only [List.map_toArray, List.map_cons, List.map_nil, hp, hq]
  go_simp
theorem pair_row (w : World) (x y : E2) : Row (w.alloc (.cells #[.int .u64 (vF x.A), .int .u64 (vF x.B), .int .u64 (vF y.A), .int .u64 (vF y.B)] 43)) w.heap.size [x, y] := heap_new w _
theorem one_row (w : World) (x : E2) : Row (w.alloc (.cells #[.int .u64 (vF x.A), .int .u64 (vF x.B)] 43)) w.heap.size [x] := heap_new w _
theorem run_storeE {ev : Operand → Value} {o : Oper} {p x : Operand} {u1 u2 : Value} {w : World} (b : Nat) (y : E2) (ho : o.op = .store 43 p x) (hp : ev p = .pointer (some ⟨b, 0, none⟩)) (hx : ev x = .agg #[.int .u64 (vF y.A), .int .u64 (vF y.B)]) (h : Two w b 43 u1 u2) :
    (execOp ev o).run Try.prog w = .ok .skip ((w.setCell ⟨b, 0, none⟩ (.int .u64 (vF y.A))).setCell ⟨b, 1, none⟩ (.int .u64 (vF y.B))) := by
  have c0 := h.c0
  have c1 := h.c1
  have f0 := h.f0
  have f1 := h.f1
  unfold execOp
  rw [ho]
  simp only [hp, hx]
  go_simp
/-- append(s, t...), t a slice -/
theorem wpList_appendSl {ops : Array Oper} {rest : List Oper} {o : Oper} {a : Act} {Q : Exit → Act → World → Prop} {w : World} (hgd : o.guard = none) (s x : Operand)
    (ho : o.op = .call { callee := .builtin .append, args := #[s, x], argTypes := #[22, 22] }) (base : Nat) (v : Value) (n : Nat) (xs : List E2) (hs : a.eval s = v) (hown : OwE w base v n xs)
    (ad : Addr) (m c : Nat) (ys : List E2) (hx : a.eval x = .slice (some ad) m c) (hy : Sl w (some ad) m c ys) (hn : n + m ≤ 65536) (hbase : base ≤ w.heap.size)
    (h : ∀ v' w', OwE w' base v' (n + m) (xs ++ ys) → w.grownBy w' v.ownBlock → wpList Try.prog ops Q rest (a.put o.dst v') w') : wpList Try.prog ops Q (o :: rest) a w := by
  obtain ⟨i, hi, hz, hs2, hb⟩ := info_parts ext_info
  refine wpList_append_own w hgd s x 22 ho base 43 i (.agg #[.int .u64 0, .int .u64 0]) 2 16 Try.underlying22 hi hz hs2 hb rfl (by omega) v n (cellsE xs) hs hown ad m c (cellsE ys) hx (by rw [cellsE_length, hy.len]) ?_ (fun u hu => cellsE_one hu) ?_ ?_ hbase ?_
  · intro j u hj
    have hl := (List.getElem?_eq_some_iff.1 hj).1
    rw [cellsE_length] at hl
    obtain ⟨q, hq⟩ := hy.get (show j / 2 < m by rw [hy.len]; omega)
    obtain ⟨ad', e, h0, h1⟩ := hy.at_ hq
    injection e with e
    subst e
    rcases Nat.mod_two_eq_zero_or_one j with hm | hm
    · have := cellsE_even hq
      rw [show j / 2 * 2 = j by omega] at this h0
      rw [this] at hj
      injection hj with hj
      subst hj
      exact h0
    · have := cellsE_odd hq
      rw [show j / 2 * 2 + 1 = j by omega] at this
      rw [this] at hj
      injection hj with hj
      subst hj
      have e2 : ad.add j = ⟨(ad.add (j / 2 * 2)).block, (ad.add (j / 2 * 2)).off + 1, none⟩ := by
        rw [← add_succ, show j / 2 * 2 + 1 = j by omega]
      rw [e2]
      exact h1
  · unfold maxLen; omega
  · omega
  · intro v' w' hown' hg _
    refine h v' w' ?_ hg
    unfold OwE
    rw [cellsE_append]
    exact hown'
/-- append(s, t...), t a slice or nil -/
theorem wpList_appendAny {ops : Array Oper} {rest : List Oper} {o : Oper} {a : Act} {Q : Exit → Act → World → Prop} {w : World} (hgd : o.guard = none) (s x : Operand)
    (ho : o.op = .call { callee := .builtin .append, args := #[s, x], argTypes := #[22, 22] }) (base : Nat) (v : Value) (n : Nat) (xs : List E2) (hs : a.eval s = v) (hown : OwE w base v n xs)
    (A : Option Addr) (m c : Nat) (ys : List E2) (hx : a.eval x = .slice A m c) (hy : Sl w A m c ys) (hn : n + m ≤ 65536) (hbase : base ≤ w.heap.size)
    (h : ∀ v' w', OwE w' base v' (n + m) (xs ++ ys) → w.grownBy w' v.ownBlock → wpList Try.prog ops Q rest (a.put o.dst v') w') : wpList Try.prog ops Q (o :: rest) a w := by
  cases A with
  | some ad => exact wpList_appendSl hgd s x ho base v n xs hs hown ad m c ys hx hy hn hbase h
  | none =>
    obtain ⟨rfl, rfl, rfl⟩ := hy.none
    obtain ⟨i, hi, hz, hs2, hb⟩ := info_parts ext_info
    refine wpList_append_own_none hgd s x 22 ho base 43 i 2 Try.underlying22 hi v n (cellsE xs) hs hown hx ?_
    exact h v w (by rw [List.append_nil]; exact hown) (World.grownBy.refl w _)

/-- a slice of the call's own that holds the integers ls -/
def OwI (w : World) (base : Nat) (v : Value) (n : Nat) (ls : List Nat) : Prop := w.ownsRow base 3 1 v n (ls.map fun k : Nat => Value.int .i64 (k : Int))
/-- a slice value that reads as the integers ls -/
structure Si (w : World) (A : Option Addr) (n c : Nat) (ls : List Nat) : Prop where
  len : n = ls.length
  cap : n ≤ c
  top : c ≤ 9223372036854775807
  cells : ∀ (i k : Nat), ls[i]? = some k → ∃ ad, A = some ad ∧ w.cell? (ad.add i) = some (.int .i64 (k : Int))
theorem Si.keep {w w' : World} {A : Option Addr} {n c : Nat} {ls : List Nat} (h : Si w A n c ls) (hb : Below w.heap.size w w') : Si w' A n c ls :=
  ⟨h.len, h.cap, h.top, fun i k hk => by obtain ⟨ad, e, hc⟩ := h.cells i k hk; exact ⟨ad, e, cell_keep hc hb⟩⟩
theorem int_info : (Try.prog.info? 3).map (fun i => (i.zero, i.size, i.bytes)) = some (some (.int .i64 0), 1, 8) := by kernel_rfl
section
variable {w w' : World} {base : Nat} {v : Value} {n : Nat} {ls : List Nat}
theorem OwI.keep (h : OwI w base v n ls) (hb : Below w.heap.size w w') : OwI w' base v n ls := ownsRow_keep h hb
theorem OwI.len (h : OwI w base v n ls) : n = ls.length := by
  have := h.1
  simp at this
  omega
theorem OwI.si (h : OwI w base v n ls) : ∃ A c, v = .slice A n c ∧ Si w A n c ls := by
  have hn := h.len
  rcases h.2 with ⟨rfl, rfl⟩ | ⟨g, cap, cur, rfl, hb, hg, hc, hm, hs, ht⟩
  · refine ⟨none, 0, rfl, hn, Nat.le_refl _, by omega, fun i k hk => ?_⟩
    have := (List.getElem?_eq_some_iff.1 hk).1
    omega
  · unfold maxLen at hm
    refine ⟨_, cap, rfl, hn, hc, by omega, fun i k hk => ⟨_, rfl, ?_⟩⟩
    rw [add_base]
    have hu : (ls.map fun k : Nat => Value.int .i64 (k : Int))[i]? = some (.int .i64 (k : Int)) := by rw [List.getElem?_map, hk]; rfl
    rw [← ht] at hu
    have hl := (List.getElem?_eq_some_iff.1 hu).1
    rw [List.getElem?_take_of_lt (by simp at hl; omega)] at hu
    simpa [World.cell?, hg] using hu
theorem OwI.nil (w : World) (base : Nat) : OwI w base (.slice none 0 0) 0 [] := World.ownsRow_nil _ _ _ _
theorem OwI.made (w : World) (base : Nat) (hb : base ≤ w.heap.size) : OwI (w.alloc (.cells #[] 3)) base (.slice (some ⟨w.heap.size, 0, none⟩) 0 0) 0 [] := World.ownsRow_made w #[] 0 hb (Nat.zero_le _) rfl
end
/-- append(s, k), k in a block of its own -/
theorem wpList_appendI {ops : Array Oper} {rest : List Oper} {o : Oper} {a : Act} {Q : Exit → Act → World → Prop} {w : World} (hgd : o.guard = none) (s x : Operand)
    (ho : o.op = .call { callee := .builtin .append, args := #[s, x], argTypes := #[63, 63] }) (base : Nat) (v : Value) (n : Nat) (ls : List Nat) (hs : a.eval s = v) (hown : OwI w base v n ls)
    (g c : Nat) (k : Nat) (hx : a.eval x = .slice (some ⟨g, 0, none⟩) 1 c) (hy : One w g 3 (.int .i64 (k : Int))) (hn : n ≤ 65536) (hbase : base ≤ w.heap.size)
    (h : ∀ v' w', OwI w' base v' (n + 1) (ls ++ [k]) → w.grownBy w' v.ownBlock → wpList Try.prog ops Q rest (a.put o.dst v') w') : wpList Try.prog ops Q (o :: rest) a w := by
  obtain ⟨i, hi, hz, hs2, hb⟩ := info_parts int_info
  refine wpList_append_own w hgd s x 63 ho base 3 i (.int .i64 0) 1 8 Try.underlying63 hi hz hs2 hb rfl (by omega) v n _ hs hown ⟨g, 0, none⟩ 1 c [.int .i64 (k : Int)] hx rfl ?_ ?_ ?_ ?_ hbase ?_
  · intro j u hj
    rw [add_base]
    match j, hj with
    | 0, hj => injection hj with hj; subst hj; exact hy.c
    | j + 1, hj => simp at hj
  · intro u hu
    simp at hu
    subst hu
    rfl
  · unfold maxLen; omega
  · omega
  · intro v' w' hown' hg _
    refine h v' w' ?_ hg
    unfold OwI
    rw [List.map_append]
    exact hown'

theorem below_grown {w0 w w' : World} {base : Nat} {e : TypeId} {size : Nat} {v : Value} {n : Nat} {xs : List Value} (hb : Below w0.heap.size w0 w) (hg : w.grownBy w' v.ownBlock) (hown : w.ownsRow base e size v n xs) (hbase : w0.heap.size ≤ base) : Below w0.heap.size w0 w' :=
  hb.grown hg hb.size fun k hk => Nat.le_trans hbase (hown.lt k hk).1
theorem two_grown {w w' : World} {b : Nat} {t : TypeId} {u1 u2 : Value} {base : Nat} {e : TypeId} {size : Nat} {v : Value} {n : Nat} {xs : List Value} (h : Two w b t u1 u2) (hg : w.grownBy w' v.ownBlock) (hown : w.ownsRow base e size v n xs) (hbase : b < base) : Two w' b t u1 u2 :=
  (hg.block b h.lt (fun k => by have := (hown.lt b k.symm).1; omega)).trans h

end Go.Proofs.Ytombcjdhjcmhhaa
