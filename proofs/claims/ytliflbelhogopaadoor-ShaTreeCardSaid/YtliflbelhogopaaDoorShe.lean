/- Slices of slices of bytes; operations on whole rows; padded. -/
import Derived.Test.YtliflbelhogopaaDoorShd
import Derived.Test.YtliflbelhogopaaDoorTalb
import Derived.Test.YtliflbelhogopaaDoorFloat3
import Derived.Deep.AppendSrc
namespace Go.Proofs.YtliflbelhogopaaDoor
set_option maxRecDepth 8000
open Go.RowKit

/-! ### Operations whose run is known -/
section
variable {P : Program} {ops : Array Oper} {rest : List Oper} {o : Oper} {a : Act}
theorem wpList_val {Q : Exit → Act → World → Prop} {w : World} (hgd : o.guard = none) (v : Value) (w' : World) (hr : (execOp a.eval o).run P w = .ok (.value v) w') (h : wpList P ops Q rest (a.put o.dst v) w') : wpList P ops Q (o :: rest) a w :=
  wpList_plain hgd fun _ hK => by
    unfold Oper.wp
    rw [hr]
    exact hK _ _ h
theorem wpList_skip0 {Q : Exit → Act → World → Prop} {w : World} (hgd : o.guard = none) (w' : World) (hr : (execOp a.eval o).run P w = .ok .skip w') (h : wpList P ops Q rest (a.put o.dst undef) w') : wpList P ops Q (o :: rest) a w :=
  wpList_plain hgd fun _ hK => by
    unfold Oper.wp
    rw [hr]
    exact hK _ _ h
theorem wpQuiet_val {C : World → Prop} {Q : Act → Prop} (hw : Region.wanted o (yielded ops a.tmps) = true) (v : Value) (hr : ∀ w, C w → (execOp a.eval o).run P w = .ok (.value v) w) (h : wpQuiet P ops C Q rest (a.put o.dst v)) : wpQuiet P ops C Q (o :: rest) a :=
  BigFrame.wpQuiet_want hw fun _ hK => ⟨v, fun w hC => by unfold Oper.quietAt; rw [hr w hC]; exact ⟨rfl, rfl⟩, hK _ h⟩
end
section
variable {P : Program} {ev : Operand → Value} {o : Oper} {w : World}
theorem exec_loadRow {ty t n e : TypeId} {x : Operand} (g : Nat) (cs : Array Value) (ho : o.op = .load ty x) (hx : ev x = .pointer (some ⟨g, 0, none⟩)) (hc : w.heap[g]? = some (.cells cs t (0, 0))) (hu : P.underlying ty = some (.array n e)) (hi : (P.info? ty).map (·.size) = some cs.size) :
    (execOp ev o).run P w = .ok (.value (.agg cs)) w := by
  unfold execOp
  simp only [ho, hx, Instr.loadAt, Instr.sureAddr, Sem.run_bind, Sem.run_pure, Result.andThen_ok]
  rw [run_loadVar_row w g t ty cs (0, 0) _ hc hu rfl hi]
  rfl
theorem exec_storeRow {ty t : TypeId} {x y : Operand} (g : Nat) (old cs : Array Value) (ho : o.op = .store ty x y) (hx : ev x = .pointer (some ⟨g, 0, none⟩)) (hy : ev y = .agg cs) (hc : w.heap[g]? = some (.cells old t (0, 0))) (hi : (P.info? ty).map (·.size) = some cs.size) (hl : old.size = cs.size) (h1 : cs.all (·.oneCell') = true) :
    (execOp ev o).run P w = .ok .skip (w.setRow g cs) := by
  unfold execOp
  simp only [ho, hx, hy, Instr.storeAt, Instr.sureAddr, Sem.run_bind, Sem.run_pure, Result.andThen_ok]
  rw [run_storeVar_row w g t ty old cs hc hi hl h1]
  rfl
end
theorem dig_size {bs : List Nat} (h : bs.length = 32) : (Tryd.prog.info? 26).map (·.size) = some (celB bs).toArray.size := by rw [List.size_toArray, celB_length, h]; kernel_rfl
theorem exec_loadD {ev : Operand → Value} {o : Oper} {w : World} {x : Operand} {g t : Nat} {bs : List Nat} (hl : bs.length = 32) (h : RowB w t g bs) (ho : o.op = .load 26 x) (hx : ev x = .pointer (some ⟨g, 0, none⟩)) :
    (execOp ev o).run Tryd.prog w = .ok (.value (.agg (celB bs).toArray)) w := exec_loadRow g _ ho hx h Tryd.underlying26 (dig_size hl)
theorem exec_storeD {ev : Operand → Value} {o : Oper} {w : World} {x y : Operand} {g t : Nat} {old bs : List Nat} (hl : bs.length = 32) (hol : old.length = 32) (h : RowB w t g old) (ho : o.op = .store 26 x y) (hx : ev x = .pointer (some ⟨g, 0, none⟩)) (hy : ev y = .agg (celB bs).toArray) :
    (execOp ev o).run Tryd.prog w = .ok .skip (w.setRow g (celB bs).toArray) := exec_storeRow g _ _ ho hx hy h (dig_size hl) (by simp [celB_length, hl, hol]) celB_one

/-! ### Slices of slices of bytes -/
structure Pb (w : World) (A : Option Addr) (n c : Nat) (Ps : List (List Nat)) : Prop where
  len : n = Ps.length
  cap : n ≤ c
  top : c ≤ 9223372036854775807
  nil : A = none → c = 0
  cells : ∀ (i : Nat) (p : List Nat), Ps[i]? = some p → ∃ ad B m d, A = some ad ∧ w.cell? (ad.add i) = some (.slice B m d) ∧ Sb w B m d p
theorem Pb.keep {w w' : World} {A : Option Addr} {n c : Nat} {Ps : List (List Nat)} (h : Pb w A n c Ps) (hb : Below w.heap.size w w') : Pb w' A n c Ps :=
  ⟨h.len, h.cap, h.top, h.nil, fun i p hp => by obtain ⟨ad, B, m, d, e, hc, hs⟩ := h.cells i p hp; exact ⟨ad, B, m, d, e, cell_keep hc hb, hs.keep hb⟩⟩
theorem Pb.row {w : World} {t g : Nat} {vs : List Value} {Ps : List (List Nat)} {n c : Nat} (hg : w.heap[g]? = some (.cells vs.toArray t (0, 0))) (hn : n = Ps.length) (hc : n ≤ c) (ht : c ≤ 9223372036854775807)
    (hv : ∀ (i : Nat) (p : List Nat), Ps[i]? = some p → ∃ B m d, vs[i]? = some (.slice B m d) ∧ Sb w B m d p) : Pb w (some ⟨g, 0, none⟩) n c Ps :=
  ⟨hn, hc, ht, (fun e => by cases e), fun i p hp => by
    obtain ⟨B, m, d, h1, h2⟩ := hv i p hp
    refine ⟨_, B, m, d, rfl, ?_, h2⟩
    rw [ad_base]
    simp [World.cell?, hg, h1]⟩
/-- the lengths' sum -/
def sumL (Ps : List (List Nat)) : Nat := Ps.flatten.length
theorem sumL_take {Ps : List (List Nat)} {i : Nat} {p : List Nat} (h : Ps[i]? = some p) : sumL (Ps.take (i + 1)) = sumL (Ps.take i) + p.length := by
  obtain ⟨h1, e1⟩ := List.getElem?_eq_some_iff.1 h
  unfold sumL
  rw [List.take_succ_eq_append_getElem h1, e1]
  simp
theorem sumL_le (Ps : List (List Nat)) (i : Nat) : sumL (Ps.take i) ≤ sumL Ps := by
  unfold sumL
  conv => rhs; rw [← List.take_append_drop i Ps]
  rw [List.flatten_append, List.length_append]
  omega
theorem sl_info : (Tryd.prog.info? 22).map (fun i => (i.zero, i.size, i.bytes)) = some (some (.slice none 0 0), 1, 24) := by kernel_rfl
theorem run_buildP1 {ev : Operand → Value} {o : Oper} {x : Operand} (A : Option Addr) (n c : Nat) (ho : o.op = .buildSlice 57 1 #[(0, x)]) (hx : ev x = .slice A n c) (w : World) :
    (execOp ev o).run Tryd.prog w = .ok (.value (.slice (some ⟨w.heap.size, 0, none⟩) 1 1)) (w.alloc (.cells #[.slice A n c] 22)) := by
  unfold execOp
  rw [ho]
  simp only [List.map_toArray, List.map_cons, List.map_nil, hx]
  go_simp
theorem run_buildP2 {ev : Operand → Value} {o : Oper} {x y : Operand} (A : Option Addr) (n c : Nat) (B : Option Addr) (m d : Nat) (ho : o.op = .buildSlice 57 2 #[(0, x), (1, y)]) (hx : ev x = .slice A n c) (hy : ev y = .slice B m d) (w : World) :
    (execOp ev o).run Tryd.prog w = .ok (.value (.slice (some ⟨w.heap.size, 0, none⟩) 2 2)) (w.alloc (.cells #[.slice A n c, .slice B m d] 22)) := by
  unfold execOp
  rw [ho]
  simp only [List.map_toArray, List.map_cons, List.map_nil, hx, hy]
  go_simp
theorem run_buildP3 {ev : Operand → Value} {o : Oper} {x y z : Operand} (A : Option Addr) (n c : Nat) (B : Option Addr) (m d : Nat) (C : Option Addr) (k f : Nat) (ho : o.op = .buildSlice 57 3 #[(0, x), (1, y), (2, z)]) (hx : ev x = .slice A n c) (hy : ev y = .slice B m d) (hz : ev z = .slice C k f) (w : World) :
    (execOp ev o).run Tryd.prog w = .ok (.value (.slice (some ⟨w.heap.size, 0, none⟩) 3 3)) (w.alloc (.cells #[.slice A n c, .slice B m d, .slice C k f] 22)) := by
  unfold execOp
  rw [ho]
  simp only [List.map_toArray, List.map_cons, List.map_nil, hx, hy, hz]
  go_simp
/-- append(s[:n:n], t): a new row -/
theorem run_appendP {w : World} {ty : TypeId} {A : Option Addr} {n : Nat} {Ps : List (List Nat)} (h : Pb w A n n Ps) (g : Nat) (B : Option Addr) (m d : Nat) (q : List Nat) (hg : One w g 22 (.slice B m d)) (hs : Sb w B m d q) (hn : n ≤ 1000) :
    ∃ c w', (Builtin.append_ #[57, 57] ty #[.slice A n n, .slice (some ⟨g, 0, none⟩) 1 1]).run Tryd.prog w = .ok (.slice (some ⟨w.heap.size, 0, none⟩) (n + 1) c) w' ∧ Below w.heap.size w w' ∧ w.heap.size < w'.heap.size ∧ Pb w' (some ⟨w.heap.size, 0, none⟩) (n + 1) c (Ps ++ [q]) := by
  obtain ⟨i, hi, hz, hs2, hb⟩ := info_parts sl_info
  obtain ⟨olds, ho1, ho2, ho3⟩ : ∃ olds : List Value, olds.length = n ∧ (∀ (j : Nat) (p : List Nat), Ps[j]? = some p → ∃ B m d, olds[j]? = some (Value.slice B m d) ∧ Sb w B m d p) ∧ (Builtin.firstCells i.size n (Value.slice A n n)).run Tryd.prog w.drew = .ok olds.toArray w.drew := by
    cases A with
    | none =>
      have h0 := h.nil rfl
      subst h0
      have : Ps = [] := List.eq_nil_of_length_eq_zero h.len.symm
      subst this
      exact ⟨[], rfl, (by intro j p hp; simp at hp), run_firstCells_none w.drew _ 0 0 0⟩
    | some ad =>
      have hex : ∀ j, j < n → ∃ v : Value, w.cell? (ad.add j) = some v ∧ ∀ p, Ps[j]? = some p → ∃ B m d, v = Value.slice B m d ∧ Sb w B m d p := fun j hj => by
        obtain ⟨p, hp⟩ : ∃ p, Ps[j]? = some p := ⟨Ps[j]'(by have := h.len; omega), List.getElem?_eq_getElem _⟩
        obtain ⟨ad', B', m', d', e, hc, hss⟩ := h.cells j p hp
        injection e with e
        subst e
        refine ⟨_, hc, fun p' hp' => ?_⟩
        rw [hp] at hp'
        injection hp' with hp'
        subst hp'
        exact ⟨B', m', d', rfl, hss⟩
      have hch : ∀ N, N ≤ n → ∃ l : List Value, l.length = N ∧ ∀ j, j < N → ∃ v : Value, l[j]? = some v ∧ w.cell? (ad.add j) = some v ∧ ∀ p, Ps[j]? = some p → ∃ B m d, v = Value.slice B m d ∧ Sb w B m d p := by
        intro N
        induction N with
        | zero => exact fun _ => ⟨[], rfl, fun j hj => absurd hj (Nat.not_lt_zero _)⟩
        | succ N ih =>
          intro hN
          obtain ⟨l, hl, hall⟩ := ih (by omega)
          obtain ⟨v, hv1, hv2⟩ := hex N (by omega)
          refine ⟨l ++ [v], by simp [hl], fun j hj => ?_⟩
          by_cases e : j = N
          · subst e
            exact ⟨v, by rw [List.getElem?_append_right (by omega)]; simp [hl], hv1, hv2⟩
          · obtain ⟨u, h1, h2⟩ := hall j (by omega)
            exact ⟨u, by rw [List.getElem?_append_left (by omega)]; exact h1, h2⟩
      obtain ⟨l, hl, hall⟩ := hch n (Nat.le_refl _)
      refine ⟨l, hl, fun j p hp => ?_, run_firstCells_some w.drew i.size n ad n n l (by rw [hl, hs2, Nat.mul_one]) fun j u hu => ?_⟩
      · have hj : j < n := by have := (List.getElem?_eq_some_iff.1 hp).1; have := h.len; omega
        obtain ⟨v, h1, _, h3⟩ := hall j hj
        obtain ⟨B', m', d', rfl, h4⟩ := h3 p hp
        exact ⟨B', m', d', h1, h4⟩
      · have hj : j < n := by have := (List.getElem?_eq_some_iff.1 hu).1; omega
        obtain ⟨v, h1, h2, _⟩ := hall j hj
        rw [h1] at hu
        injection hu with hu
        subst hu
        exact h2
  have hsrc : Src Tryd.prog i.size 57 (.slice (some ⟨g, 0, none⟩) 1 1) 1 [.slice B m d] w := Src.ofSlice w Tryd.underlying57 ⟨g, 0, none⟩ 1 1 [.slice B m d] (by rw [hs2]; rfl) (fun j u hu => by
      rw [ad_base]
      match j, hu with
      | 0, hu => injection hu with hu; subst hu; exact hg.c
      | j + 1, hu => simp at hu) (fun u hu => by simp at hu; subst hu; rfl)
  have hr := run_append_grow_src (P := Tryd.prog) w 57 57 ty 22 i (.slice none 0 0) Tryd.underlying57 hi hz A n n olds ho3 (.slice (some ⟨g, 0, none⟩) 1 1) 1 [.slice B m d] hsrc (by omega) (by omega)
    (by rw [hb]; exact growslice_fits (by omega) (by omega))
  have hgc := grownCap_ge w (n + 1) n 22
  have hgm := grownCap_le_maxLen w (n + 1) n 22 (by unfold maxLen; omega)
  unfold maxLen at hgm
  have hbel : Below w.heap.size w (w.drew.alloc (.cells ((olds ++ [Value.slice B m d]).toArray ++ Builtin.zeroCells (Value.slice none 0 0).cells (grownCap w (n + 1) n 22 - (n + 1))) 22)) := (Below.refl _ _).drew.alloc (Nat.le_refl _) _
  refine ⟨_, _, hr, hbel, by simp, ?_⟩
  obtain ⟨zs, hzs⟩ : ∃ zs : List Value, Builtin.zeroCells (Value.slice none 0 0).cells (grownCap w (n + 1) n 22 - (n + 1)) = zs.toArray := ⟨_, (Array.toArray_toList).symm⟩
  rw [hzs] at hbel ⊢
  rw [List.append_toArray] at hbel ⊢
  refine Pb.row (heap_new w.drew _) (by rw [List.length_append, ← h.len]; rfl) hgc (by omega) fun j p hp => ?_
  by_cases hj : j < n
  · rw [List.getElem?_append_left (by rw [← h.len]; exact hj)] at hp
    obtain ⟨B', m', d', h1, h2⟩ := ho2 j p hp
    exact ⟨B', m', d', by rw [List.append_assoc, List.getElem?_append_left (by omega)]; exact h1, h2.keep hbel⟩
  · have hlt := (List.getElem?_eq_some_iff.1 hp).1
    have hj2 : j = n := by rw [List.length_append, ← h.len] at hlt; simp at hlt; omega
    subst hj2
    rw [List.getElem?_append_right (by rw [← h.len]; exact Nat.le_refl _), ← h.len, Nat.sub_self] at hp
    simp at hp
    subst hp
    exact ⟨B, m, d, by rw [List.append_assoc, List.getElem?_append_right (by omega)]; simp [ho1], hs.keep hbel⟩
theorem hOp_appendP {o : Oper} {a : Act} {w : World} {K : Value → World → Prop} (s x : Operand)
    (ho : o.op = .call { callee := .builtin .append, args := #[s, x], argTypes := #[57, 57] }) {A : Option Addr} {n : Nat} {Ps : List (List Nat)} (h : Pb w A n n Ps) (g : Nat) (B : Option Addr) (m d : Nat) (q : List Nat) (hs : a.eval s = .slice A n n) (hx : a.eval x = .slice (some ⟨g, 0, none⟩) 1 1) (hg : One w g 22 (.slice B m d)) (hq : Sb w B m d q) (hn : n ≤ 1000)
    (hK : ∀ c w', Below w.heap.size w w' → Pb w' (some ⟨w.heap.size, 0, none⟩) (n + 1) c (Ps ++ [q]) → K (.slice (some ⟨w.heap.size, 0, none⟩) (n + 1) c) w') : hOp Tryd.prog o K a w := by
  obtain ⟨c, w', hrun, hb, _, hp⟩ := run_appendP (ty := o.type) h g B m d q hg hq hn
  unfold hOp execOp
  simp only [ho, resolve, invoke, builtin, Sem.run_bind, Sem.run_pure, Result.andThen_ok, List.map_toArray, List.map_cons, List.map_nil, hs, hx, hrun]
  exact hK c w' hb hp
end Go.Proofs.YtliflbelhogopaaDoor
