/- Several texts in one: She, Shf, Shg, Shj, Shh. -/
import Derived.Test.YtgkojdbepgonkaaDoorH03
import Derived.Test.YtgkojdbepgonkaaDoorH04
import Derived.Deep.AppendSrc
import Derived.RangeFuncNested
import Derived.RangeFuncBound
import Derived.RangeFuncCalls
import Derived.RangeFuncLeaves
import Derived.RangeFuncBox
import Derived.Shelf.Abstract
import Derived.Shelf.RegionOpen
import Derived.OwnWalkIn
import Derived.TacticsInMore
import Derived.LoopNIn
import Derived.LoopIn
import Derived.Laws.EntriesVeiled
import Derived.Sort.CutIn
/- Slices of slices of bytes; operations on whole rows; padded. -/
namespace Go.Proofs.YtgkojdbepgonkaaDoor
set_option maxRecDepth 8000
set_option linter.unusedVariables false
set_option linter.unusedSimpArgs false
open Go.RowKit

/-! ### Operations whose run is known -/
section
variable {P : Program} {ops : Array Oper} {rest : List Oper} {o : Oper} {a : Act}
theorem wpList_val {Q : Exit → Act → World → Prop} {w : World} (hgd : o.guard = none) (v : Value) (w' : World) (hr : (execOp a.eval o).run P w = .ok (.value v) w') (h : wpList P ops Q rest (a.put o.dst v) w') : wpList P ops Q (o :: rest) a w :=
  wpList_plain hgd fun _ hK => by
    unfold Oper.wp
    rw [hr]
    exact hK _ _ h
theorem wpList_skip0 {Q : Exit → Act → World → Prop} {w : World} (hgd : o.guard = none) (w' : World) (hr : (execOp a.eval o).run P w = .ok .skip w') (h : wpList P ops Q rest (a.put o.dst undef) w') : wpList P ops Q (o :: rest) a w :=
  wpList_plain hgd fun _ hK => by
    unfold Oper.wp
    rw [hr]
    exact hK _ _ h
theorem wpQuiet_val {C : World → Prop} {Q : Act → Prop} (hw : Region.wanted o (yielded ops a.tmps) = true) (v : Value) (hr : ∀ w, C w → (execOp a.eval o).run P w = .ok (.value v) w) (h : wpQuiet P ops C Q rest (a.put o.dst v)) : wpQuiet P ops C Q (o :: rest) a :=
  BigFrame.wpQuiet_want hw fun _ hK => ⟨v, fun w hC => by unfold Oper.quietAt; rw [hr w hC]; exact ⟨rfl, rfl⟩, hK _ h⟩
end
section
variable {P : Program} {ev : Operand → Value} {o : Oper} {w : World}
theorem exec_loadRow {ty t n e : TypeId} {x : Operand} (g : Nat) (cs : Array Value) (ho : o.op = .load ty x) (hx : ev x = .pointer (some ⟨g, 0, none⟩)) (hc : w.heap[g]? = some (.cells cs t (0, 0))) (hu : P.underlying ty = some (.array n e)) (hi : (P.info? ty).map (·.size) = some cs.size) :
    (execOp ev o).run P w = .ok (.value (.agg cs)) w := by
  unfold execOp
  simp only [ho, hx, Instr.loadAt, Instr.sureAddr, Sem.run_bind, Sem.run_pure, Result.andThen_ok]
  rw [run_loadVar_row w g t ty cs (0, 0) _ hc hu rfl hi]
  rfl
theorem exec_storeRow {ty t : TypeId} {x y : Operand} (g : Nat) (old cs : Array Value) (ho : o.op = .store ty x y) (hx : ev x = .pointer (some ⟨g, 0, none⟩)) (hy : ev y = .agg cs) (hc : w.heap[g]? = some (.cells old t (0, 0))) (hi : (P.info? ty).map (·.size) = some cs.size) (hl : old.size = cs.size) (h1 : cs.all (·.oneCell') = true) :
    (execOp ev o).run P w = .ok .skip (w.setRow g cs) := by
  unfold execOp
  simp only [ho, hx, hy, Instr.storeAt, Instr.sureAddr, Sem.run_bind, Sem.run_pure, Result.andThen_ok]
  rw [run_storeVar_row w g t ty old cs hc hi hl h1]
  rfl
end
theorem dig_size {bs : List Nat} (h : bs.length = 32) : (Tryd.prog.info? 34).map (·.size) = some (celB bs).toArray.size := by rw [List.size_toArray, celB_length, h]; kernel_rfl
theorem exec_loadD {ev : Operand → Value} {o : Oper} {w : World} {x : Operand} {g t : Nat} {bs : List Nat} (hl : bs.length = 32) (h : RowB w t g bs) (ho : o.op = .load 34 x) (hx : ev x = .pointer (some ⟨g, 0, none⟩)) :
    (execOp ev o).run Tryd.prog w = .ok (.value (.agg (celB bs).toArray)) w := exec_loadRow g _ ho hx h Tryd.underlying34 (dig_size hl)
theorem exec_storeD {ev : Operand → Value} {o : Oper} {w : World} {x y : Operand} {g t : Nat} {old bs : List Nat} (hl : bs.length = 32) (hol : old.length = 32) (h : RowB w t g old) (ho : o.op = .store 34 x y) (hx : ev x = .pointer (some ⟨g, 0, none⟩)) (hy : ev y = .agg (celB bs).toArray) :
    (execOp ev o).run Tryd.prog w = .ok .skip (w.setRow g (celB bs).toArray) := exec_storeRow g _ _ ho hx hy h (dig_size hl) (by simp [celB_length, hl, hol]) celB_one

/-! ### Slices of slices of bytes -/
structure Pb (w : World) (A : Option Addr) (n c : Nat) (Ps : List (List Nat)) : Prop where
  len : n = Ps.length
  cap : n ≤ c
  top : c ≤ 9223372036854775807
  nil : A = none → c = 0
  cells : ∀ (i : Nat) (p : List Nat), Ps[i]? = some p → ∃ ad B m d, A = some ad ∧ w.cell? (ad.add i) = some (.slice B m d) ∧ Sb w B m d p
theorem Pb.keep {w w' : World} {A : Option Addr} {n c : Nat} {Ps : List (List Nat)} (h : Pb w A n c Ps) (hb : Below w.heap.size w w') : Pb w' A n c Ps :=
  ⟨h.len, h.cap, h.top, h.nil, fun i p hp => by obtain ⟨ad, B, m, d, e, hc, hs⟩ := h.cells i p hp; exact ⟨ad, B, m, d, e, cell_keep hc hb, hs.keep hb⟩⟩
theorem Pb.row {w : World} {t g : Nat} {vs : List Value} {Ps : List (List Nat)} {n c : Nat} (hg : w.heap[g]? = some (.cells vs.toArray t (0, 0))) (hn : n = Ps.length) (hc : n ≤ c) (ht : c ≤ 9223372036854775807)
    (hv : ∀ (i : Nat) (p : List Nat), Ps[i]? = some p → ∃ B m d, vs[i]? = some (.slice B m d) ∧ Sb w B m d p) : Pb w (some ⟨g, 0, none⟩) n c Ps :=
  ⟨hn, hc, ht, (fun e => by cases e), fun i p hp => by
    obtain ⟨B, m, d, h1, h2⟩ := hv i p hp
    refine ⟨_, B, m, d, rfl, ?_, h2⟩
    rw [ad_base]
    simp [World.cell?, hg, h1]⟩
/-- the lengths' sum -/
def sumL (Ps : List (List Nat)) : Nat := Ps.flatten.length
theorem sumL_take {Ps : List (List Nat)} {i : Nat} {p : List Nat} (h : Ps[i]? = some p) : sumL (Ps.take (i + 1)) = sumL (Ps.take i) + p.length := by
  obtain ⟨h1, e1⟩ := List.getElem?_eq_some_iff.1 h
  unfold sumL
  rw [List.take_succ_eq_append_getElem h1, e1]
  simp
theorem sumL_le (Ps : List (List Nat)) (i : Nat) : sumL (Ps.take i) ≤ sumL Ps := by
  unfold sumL
  conv => rhs; rw [← List.take_append_drop i Ps]
  rw [List.flatten_append, List.length_append]
  omega
theorem sl_info : (Tryd.prog.info? 29).map (fun i => (i.zero, i.size, i.bytes)) = some (some (.slice none 0 0), 1, 24) := by kernel_rfl
theorem run_buildP1 {ev : Operand → Value} {o : Oper} {x : Operand} (A : Option Addr) (n c : Nat) (ho : o.op = .buildSlice 23 1 #[(0, x)]) (hx : ev x = .slice A n c) (w : World) :
    (execOp ev o).run Tryd.prog w = .ok (.value (.slice (some ⟨w.heap.size, 0, none⟩) 1 1)) (w.alloc (.cells #[.slice A n c] 29)) := by
  unfold execOp
  rw [ho]
  simp only [List.map_toArray, List.map_cons, List.map_nil, hx]
  go_simp
theorem run_buildP2 {ev : Operand → Value} {o : Oper} {x y : Operand} (A : Option Addr) (n c : Nat) (B : Option Addr) (m d : Nat) (ho : o.op = .buildSlice 23 2 #[(0, x), (1, y)]) (hx : ev x = .slice A n c) (hy : ev y = .slice B m d) (w : World) :
    (execOp ev o).run Tryd.prog w = .ok (.value (.slice (some ⟨w.heap.size, 0, none⟩) 2 2)) (w.alloc (.cells #[.slice A n c, .slice B m d] 29)) := by
  unfold execOp
  rw [ho]
  simp only [List.map_toArray, List.map_cons, List.map_nil, hx, hy]
  go_simp
theorem run_buildP3 {ev : Operand → Value} {o : Oper} {x y z : Operand} (A : Option Addr) (n c : Nat) (B : Option Addr) (m d : Nat) (C : Option Addr) (k f : Nat) (ho : o.op = .buildSlice 23 3 #[(0, x), (1, y), (2, z)]) (hx : ev x = .slice A n c) (hy : ev y = .slice B m d) (hz : ev z = .slice C k f) (w : World) :
    (execOp ev o).run Tryd.prog w = .ok (.value (.slice (some ⟨w.heap.size, 0, none⟩) 3 3)) (w.alloc (.cells #[.slice A n c, .slice B m d, .slice C k f] 29)) := by
  unfold execOp
  rw [ho]
  simp only [List.map_toArray, List.map_cons, List.map_nil, hx, hy, hz]
  go_simp
/-- append(s[:n:n], t): a new row -/
theorem run_appendP {w : World} {ty : TypeId} {A : Option Addr} {n : Nat} {Ps : List (List Nat)} (h : Pb w A n n Ps) (g : Nat) (B : Option Addr) (m d : Nat) (q : List Nat) (hg : One w g 29 (.slice B m d)) (hs : Sb w B m d q) (hn : n ≤ 1000) :
    ∃ c w', (Builtin.append_ #[23, 23] ty #[.slice A n n, .slice (some ⟨g, 0, none⟩) 1 1]).run Tryd.prog w = .ok (.slice (some ⟨w.heap.size, 0, none⟩) (n + 1) c) w' ∧ Below w.heap.size w w' ∧ w.heap.size < w'.heap.size ∧ Pb w' (some ⟨w.heap.size, 0, none⟩) (n + 1) c (Ps ++ [q]) := by
  obtain ⟨i, hi, hz, hs2, hb⟩ := info_parts sl_info
  obtain ⟨olds, ho1, ho2, ho3⟩ : ∃ olds : List Value, olds.length = n ∧ (∀ (j : Nat) (p : List Nat), Ps[j]? = some p → ∃ B m d, olds[j]? = some (Value.slice B m d) ∧ Sb w B m d p) ∧ (Builtin.firstCells i.size n (Value.slice A n n)).run Tryd.prog w.drew = .ok olds.toArray w.drew := by
    cases A with
    | none =>
      have h0 := h.nil rfl
      subst h0
      have : Ps = [] := List.eq_nil_of_length_eq_zero h.len.symm
      subst this
      exact ⟨[], rfl, (by intro j p hp; simp at hp), run_firstCells_none w.drew _ 0 0 0⟩
    | some ad =>
      have hex : ∀ j, j < n → ∃ v : Value, w.cell? (ad.add j) = some v ∧ ∀ p, Ps[j]? = some p → ∃ B m d, v = Value.slice B m d ∧ Sb w B m d p := fun j hj => by
        obtain ⟨p, hp⟩ : ∃ p, Ps[j]? = some p := ⟨Ps[j]'(by have := h.len; omega), List.getElem?_eq_getElem _⟩
        obtain ⟨ad', B', m', d', e, hc, hss⟩ := h.cells j p hp
        injection e with e
        subst e
        refine ⟨_, hc, fun p' hp' => ?_⟩
        rw [hp] at hp'
        injection hp' with hp'
        subst hp'
        exact ⟨B', m', d', rfl, hss⟩
      have hch : ∀ N, N ≤ n → ∃ l : List Value, l.length = N ∧ ∀ j, j < N → ∃ v : Value, l[j]? = some v ∧ w.cell? (ad.add j) = some v ∧ ∀ p, Ps[j]? = some p → ∃ B m d, v = Value.slice B m d ∧ Sb w B m d p := by
        intro N
        induction N with
        | zero => exact fun _ => ⟨[], rfl, fun j hj => absurd hj (Nat.not_lt_zero _)⟩
        | succ N ih =>
          intro hN
          obtain ⟨l, hl, hall⟩ := ih (by omega)
          obtain ⟨v, hv1, hv2⟩ := hex N (by omega)
          refine ⟨l ++ [v], by simp [hl], fun j hj => ?_⟩
          by_cases e : j = N
          · subst e
            exact ⟨v, by rw [List.getElem?_append_right (by omega)]; simp [hl], hv1, hv2⟩
          · obtain ⟨u, h1, h2⟩ := hall j (by omega)
            exact ⟨u, by rw [List.getElem?_append_left (by omega)]; exact h1, h2⟩
      obtain ⟨l, hl, hall⟩ := hch n (Nat.le_refl _)
      refine ⟨l, hl, fun j p hp => ?_, run_firstCells_some w.drew i.size n ad n n l (by rw [hl, hs2, Nat.mul_one]) fun j u hu => ?_⟩
      · have hj : j < n := by have := (List.getElem?_eq_some_iff.1 hp).1; have := h.len; omega
        obtain ⟨v, h1, _, h3⟩ := hall j hj
        obtain ⟨B', m', d', rfl, h4⟩ := h3 p hp
        exact ⟨B', m', d', h1, h4⟩
      · have hj : j < n := by have := (List.getElem?_eq_some_iff.1 hu).1; omega
        obtain ⟨v, h1, h2, _⟩ := hall j hj
        rw [h1] at hu
        injection hu with hu
        subst hu
        exact h2
  have hsrc : Src Tryd.prog i.size 23 (.slice (some ⟨g, 0, none⟩) 1 1) 1 [.slice B m d] w := Src.ofSlice w Tryd.underlying23 ⟨g, 0, none⟩ 1 1 [.slice B m d] (by rw [hs2]; rfl) (fun j u hu => by
      rw [ad_base]
      match j, hu with
      | 0, hu => injection hu with hu; subst hu; exact hg.c
      | j + 1, hu => simp at hu) (fun u hu => by simp at hu; subst hu; rfl)
  have hr := run_append_grow_src (P := Tryd.prog) w 23 23 ty 29 i (.slice none 0 0) Tryd.underlying23 hi hz A n n olds ho3 (.slice (some ⟨g, 0, none⟩) 1 1) 1 [.slice B m d] hsrc (by omega) (by omega)
    (by rw [hb]; exact growslice_fits (by omega) (by omega))
  have hgc := grownCap_ge w (n + 1) n 29
  have hgm := grownCap_le_maxLen w (n + 1) n 29 (by unfold maxLen; omega)
  unfold maxLen at hgm
  have hbel : Below w.heap.size w (w.drew.alloc (.cells ((olds ++ [Value.slice B m d]).toArray ++ Builtin.zeroCells (Value.slice none 0 0).cells (grownCap w (n + 1) n 29 - (n + 1))) 29)) := (Below.refl _ _).drew.alloc (Nat.le_refl _) _
  refine ⟨_, _, hr, hbel, by simp, ?_⟩
  obtain ⟨zs, hzs⟩ : ∃ zs : List Value, Builtin.zeroCells (Value.slice none 0 0).cells (grownCap w (n + 1) n 29 - (n + 1)) = zs.toArray := ⟨_, (Array.toArray_toList).symm⟩
  rw [hzs] at hbel ⊢
  rw [List.append_toArray] at hbel ⊢
  refine Pb.row (heap_new w.drew _) (by rw [List.length_append, ← h.len]; rfl) hgc (by omega) fun j p hp => ?_
  by_cases hj : j < n
  · rw [List.getElem?_append_left (by rw [← h.len]; exact hj)] at hp
    obtain ⟨B', m', d', h1, h2⟩ := ho2 j p hp
    exact ⟨B', m', d', by rw [List.append_assoc, List.getElem?_append_left (by omega)]; exact h1, h2.keep hbel⟩
  · have hlt := (List.getElem?_eq_some_iff.1 hp).1
    have hj2 : j = n := by rw [List.length_append, ← h.len] at hlt; simp at hlt; omega
    subst hj2
    rw [List.getElem?_append_right (by rw [← h.len]; exact Nat.le_refl _), ← h.len, Nat.sub_self] at hp
    simp at hp
    subst hp
    exact ⟨B, m, d, by rw [List.append_assoc, List.getElem?_append_right (by omega)]; simp [ho1], hs.keep hbel⟩
theorem hOp_appendP {o : Oper} {a : Act} {w : World} {K : Value → World → Prop} (s x : Operand)
    (ho : o.op = .call { callee := .builtin .append, args := #[s, x], argTypes := #[23, 23] }) {A : Option Addr} {n : Nat} {Ps : List (List Nat)} (h : Pb w A n n Ps) (g : Nat) (B : Option Addr) (m d : Nat) (q : List Nat) (hs : a.eval s = .slice A n n) (hx : a.eval x = .slice (some ⟨g, 0, none⟩) 1 1) (hg : One w g 29 (.slice B m d)) (hq : Sb w B m d q) (hn : n ≤ 1000)
    (hK : ∀ c w', Below w.heap.size w w' → Pb w' (some ⟨w.heap.size, 0, none⟩) (n + 1) c (Ps ++ [q]) → K (.slice (some ⟨w.heap.size, 0, none⟩) (n + 1) c) w') : hOp Tryd.prog o K a w := by
  obtain ⟨c, w', hrun, hb, _, hp⟩ := run_appendP (ty := o.type) h g B m d q hg hq hn
  unfold hOp execOp
  simp only [ho, resolve, invoke, builtin, Sem.run_bind, Sem.run_pure, Result.andThen_ok, List.map_toArray, List.map_cons, List.map_nil, hs, hx, hrun]
  exact hK c w' hb hp
end Go.Proofs.YtgkojdbepgonkaaDoor

/- Contracts of package sha256: padded. -/
namespace Go.Proofs.YtgkojdbepgonkaaDoor
set_option linter.unusedVariables false
set_option linter.unusedSimpArgs false
set_option maxRecDepth 8000
open Go.RowKit
set_option maxHeartbeats 2000000 in
theorem padded_any (A : Option Addr) (n c : Nat) (Ps : List (List Nat)) (w : World) (h : Pb w A n c Ps) (hn1 : 1 ≤ n) (hn : n ≤ 1000) (hL : sumL Ps ≤ 140737488353000) :
    Calls Tryd.prog 110 #[.slice A n c] w fun e w' => ∃ g c', e = .returned (.slice (some ⟨g, 0, none⟩) (n + 1) c') ∧ Pb w' (some ⟨g, 0, none⟩) (n + 1) c' (Ps ++ [padN (sumL Ps)]) ∧ Below w.heap.size w w' := by
  have hcap := h.cap
  have htop := h.top
  have HS := Lib.hid h
  clear h
  go_enter Tryd.func110, Tryd.ntmps110
  go_wp2_with fail
  go_loopw [3, 8] (fun s i wr => ∃ k : Nat, k ≤ n ∧ s = .int .u64 ((sumL (Ps.take k) : Nat) : Int) ∧ i = .int .i64 k ∧ wr = w) (fun _ i _ => n - (intOf i).toNat)
  case atStart => exact ⟨0, by omega, rfl, rfl, rfl⟩
  case round =>
    obtain ⟨k, hk, rfl, rfl, rfl⟩ := hrel
    by_cases hlt : k < n
    · have hk1 : (k : Int) < (n : Int) := by omega
      have hk0 : (0 : Int) ≤ (k : Int) := by omega
      obtain ⟨p, hp⟩ : ∃ p, Ps[k]? = some p := ⟨Ps[k]'(by have := HS.out.len; omega), List.getElem?_eq_getElem _⟩
      obtain ⟨ad, B, m, d, rfl, hc, hs⟩ := HS.out.cells k p hp
      have hst := sumL_take hp
      have hsl := sumL_le Ps (k + 1)
      have hml := hs.len
      rw [← hml] at hst
      have HX := Lib.hid hst
      have hm : m ≤ 140737488353000 := by omega
      have hm2 : sumL (Ps.take k) + m ≤ 140737488353000 := by omega
      clear hst hsl hml hs hp
      generalize sumL (Ps.take k) = s at *
      go_wp2_with fail
      go_roundw
      case rel => exact ⟨k + 1, by omega, by rw [HX.out]; go_num, by go_num, trivial⟩
      case measure => simp [intOf]; omega
    · obtain rfl : k = n := by omega
      have hts : Ps.take k = Ps := List.take_of_length_le (by have := HS.out.len; omega)
      rw [hts]
      clear hts
      generalize hss : sumL Ps = s at *
      go_upto_region 7 with fail
      obtain ⟨ad, rfl⟩ : ∃ ad, A = some ad := by
        obtain ⟨p, hp⟩ : ∃ p, Ps[0]? = some p := ⟨Ps[0]'(by have := HS.out.len; omega), List.getElem?_eq_getElem _⟩
        obtain ⟨ad, _, _, _, e, _⟩ := HS.out.cells 0 _ hp
        exact ⟨ad, e⟩
      refine wp_heldB wr.heap.size (by kernel_rfl) (lexOK_of (by kernel_rfl) (by kernel_rfl)) (chainOK_of (by kernel_rfl)) (fun W hbW hSW => ?_)
      have HSl := Lib.hid (HS.out.keep hbW)
      have HBW := Lib.hid hbW
      have HSW := Lib.hid hSW
      have hz0 := hbW.size
      clear hbW hSW
      refine wpHeld_seg 7 HSW.out (by kernel_rfl) ?_
      simp only [List.take_succ_cons, List.take_zero, List.drop_succ_cons, List.drop_zero]
      repeat (go_big_quiet_step (fail))
      refine wpQuiet_nil ?_
      refine wpHeld_call 114 Tryd.func114 (by kernel_rfl) (by kernel_rfl) _ _ #[.int .u64 (s : Int)] rfl (by kernel_rfl) (by kernel_rfl) ?_
      refine (padding_any s _ hL).mono ?_
      rintro e W1 ⟨rfl, hr, hb⟩
      have hz1 := hb.size
      have HR1 := Lib.hid (hr.all (padN_lt s) (n := zerosN s + 9) (c := zerosN s + 9) (padN_length s).symm (Nat.le_refl _) (by have := zerosN_le s; omega))
      have HSl1 := Lib.hid (HSl.out.keep hb)
      have HB1 := Lib.hid (bel_step HBW.out hb)
      have HS1 := Lib.hid (LaterB.step HSW.out (hb.mono hz0))
      clear hb hr
      refine ⟨_, rfl, HS1.out, ?_⟩
      simp only [Act.put, List.setIfInBounds_toArray, List.set_cons_zero, List.set_cons_succ]
      have hb2 : Below W1.heap.size W1 (W1.alloc (.cells #[.slice (some ⟨W.heap.size, 0, none⟩) (zerosN s + 9) (zerosN s + 9)] 29)) := (Below.refl _ _).alloc (Nat.le_refl _) _
      refine wpHeld_run _ _ (by kernel_rfl) (by kernel_rfl) (run_buildP1 _ _ _ rfl rfl _) (LaterB.step HS1.out (hb2.mono (by omega))) ?_
      simp only [Act.put, List.setIfInBounds_toArray, List.set_cons_zero, List.set_cons_succ]
      have HO2 := Lib.hid (One.new W1 29 (.slice (some ⟨W.heap.size, 0, none⟩) (zerosN s + 9) (zerosN s + 9)))
      have HR2 := Lib.hid (HR1.out.keep hb2)
      have HSl2 := Lib.hid (HSl1.out.keep hb2)
      have HB2 := Lib.hid (bel_step HB1.out hb2)
      have HS2 := Lib.hid (LaterB.step HS1.out (hb2.mono (show wr.heap.size ≤ W1.heap.size by omega)))
      have hz2 := hb2.size
      clear hb2
      generalize W1.alloc (.cells #[.slice (some ⟨W.heap.size, 0, none⟩) (zerosN s + 9) (zerosN s + 9)] 29) = W2 at *
      have hpk : Pb W2 (some ad) k k Ps := ⟨HSl2.out.len, Nat.le_refl _, by omega, (fun e => by cases e), HSl2.out.cells⟩
      refine wpHeld_op (by kernel_rfl) (by kernel_rfl) ?_
      refine hOp_appendP (.tmp 23) (.tmp 26) rfl hpk W1.heap.size _ _ _ _ rfl rfl HO2.out HR2.out hn ?_
      intro c' W3 hb3 hp3
      have HP3 := Lib.hid hp3
      have HB3 := Lib.hid (bel_step HB2.out hb3)
      have HS3 := Lib.hid (LaterB.step HS2.out (hb3.mono (by omega)))
      clear hb3 hp3 hpk
      refine ⟨HS3.out, ?_⟩
      simp only [Act.put, List.setIfInBounds_toArray, List.set_cons_zero, List.set_cons_succ]
      refine wpHeld_seg 1 HS3.out (by kernel_rfl) ?_
      simp only [List.take_succ_cons, List.take_zero, List.drop_succ_cons, List.drop_zero]
      repeat (go_big_quiet_step (fail))
      refine wpQuiet_nil (wpHeld_nil ?_)
      go_wp2_with fail
      go_ret
      exact ⟨_, c', rfl, by rw [hss]; exact HP3.out, HB3.out⟩
end Go.Proofs.YtgkojdbepgonkaaDoor

/- What the iterator over the blocks reads, whatever else changes; the blocks of a list of portions; no program. -/
namespace Go.Proofs.YtgkojdbepgonkaaDoor
set_option linter.unusedVariables false
set_option linter.unusedSimpArgs false
set_option maxRecDepth 8000
open Go.RowKit
open Go.Shelf

/-- portions that read alike in all worlds of a class -/
structure PbG (G : World → Prop) (A : Option Addr) (n c : Nat) (Ps : List (List Nat)) : Prop where
  len : n = Ps.length
  cap : n ≤ c
  top : c ≤ 9223372036854775807
  cells : ∀ (i : Nat) (p : List Nat), Ps[i]? = some p → ∃ ad B m d, A = some ad ∧ ∀ w, G w → w.cell? (ad.add i) = some (.slice B m d) ∧ Sb w B m d p
/-- B has all of A but for block x -/
def SameX (x : Nat) (A B : World) : Prop := A.heap.size ≤ B.heap.size ∧ ∀ b, b < A.heap.size → b ≠ x → B.heap[b]? = A.heap[b]?
theorem SameX.refl (x : Nat) (A : World) : SameX x A A := ⟨Nat.le_refl _, fun _ _ _ => rfl⟩
theorem SameX.below {x : Nat} {A B C : World} (h : SameX x A B) (hb : Below A.heap.size B C) : SameX x A C := ⟨Nat.le_trans h.1 hb.size, fun b hb1 hx => (hb.block b hb1).trans (h.2 b hb1 hx)⟩
theorem SameX.row {x : Nat} {A B : World} (h : SameX x A B) (cs : Array Value) : SameX x A (B.setRow x cs) :=
  ⟨by simpa [World.setRow] using h.1, fun b hb hx => by simp [World.setRow, Array.getElem?_modify, Ne.symm hx]; exact h.2 b hb hx⟩
theorem SameX.same {x : Nat} {A B C : World} (h : SameX x A B) (hs : B.heap.size ≤ C.heap.size) (e : ∀ b, b < A.heap.size → C.heap[b]? = B.heap[b]?) : SameX x A C := ⟨Nat.le_trans h.1 hs, fun b hb hx => (e b hb).trans (h.2 b hb hx)⟩
/-- what is no word of 32 bits lies outside a row of such words -/
theorem RowW.other {w : World} {t x : Nat} {ws : List Nat} (h : RowW w t x ws) {a : Addr} {v : Value} (hc : w.cell? a = some v) (hv : ∀ z, v ≠ .int .u32 z) : a.block ≠ x := by
  intro e
  subst e
  unfold RowW at h
  simp [World.cell?, h] at hc
  have hm := List.mem_of_getElem? hc.2
  simp [celW] at hm
  obtain ⟨z, _, rfl⟩ := hm
  exact hv _ rfl
theorem cell_same {x : Nat} {A B : World} (h : SameX x A B) {a : Addr} {v : Value} (hc : A.cell? a = some v) (hx : a.block ≠ x) : B.cell? a = some v :=
  (World.cell?_of_block (h.2 _ (World.block_lt_of_cell? A a hc) hx)).trans hc
theorem Sb.keepX {w B : World} {t x : Nat} {ws : List Nat} {A : Option Addr} {n c : Nat} {bs : List Nat} (h : Sb w A n c bs) (hr : RowW w t x ws) (hb : SameX x w B) : Sb B A n c bs :=
  ⟨h.len, h.cap, h.top, h.nil, h.byte, fun i z hz => by obtain ⟨ad, e, hc⟩ := h.cells i z hz; exact ⟨ad, e, cell_same hb hc (hr.other hc (fun _ e => by cases e))⟩⟩
theorem Pb.keepX {w : World} {t x : Nat} {ws : List Nat} {A : Option Addr} {n c : Nat} {Ps : List (List Nat)} (h : Pb w A n c Ps) (hr : RowW w t x ws) : PbG (SameX x w) A n c Ps :=
  ⟨h.len, h.cap, h.top, fun i p hp => by
    obtain ⟨ad, B, m, d, e, hc, hs⟩ := h.cells i p hp
    exact ⟨ad, B, m, d, e, fun W hW => ⟨cell_same hW hc (hr.other hc (fun _ e => by cases e)), hs.keepX hr hW⟩⟩⟩

/-! ### Where a portion lies in the message -/
theorem flat_drop {Ps : List (List Nat)} {k : Nat} {q : List Nat} (h : Ps[k]? = some q) (t : Nat) (ht : t ≤ q.length) : (Ps.flatten.drop (sumL (Ps.take k) + t)).take (q.length - t) = q.drop t := by
  obtain ⟨h1, e1⟩ := List.getElem?_eq_some_iff.1 h
  have e2 : Ps.flatten = (Ps.take k).flatten ++ (q ++ (Ps.drop (k + 1)).flatten) := by
    conv => lhs; rw [← List.take_append_drop k Ps, List.drop_eq_getElem_cons h1, e1]
    rw [List.flatten_append, List.flatten_cons]
  rw [e2, ← List.drop_drop]
  have e3 : ((Ps.take k).flatten ++ (q ++ (Ps.drop (k + 1)).flatten)).drop (sumL (Ps.take k)) = q ++ (Ps.drop (k + 1)).flatten := by
    unfold sumL
    exact List.drop_left
  rw [e3, List.drop_append_of_le_length ht, List.take_left' (by simp)]
/-- the next bytes of the message, out of what is left of a portion -/
theorem flat_next {Ps : List (List Nat)} {k i r t n : Nat} {q : List Nat} (h : Ps[k]? = some q) (ht : t + n ≤ q.length) (hp : 64 * i + r = sumL (Ps.take k) + t) :
    (Ps.flatten.drop (64 * i)).take r ++ (q.drop t).take n = (Ps.flatten.drop (64 * i)).take (r + n) := by
  rw [List.take_add, List.drop_drop, hp, ← flat_drop h t (by omega), List.take_take, Nat.min_eq_left (by omega)]
theorem getD_take {l : List Nat} {n j : Nat} (h : j < n) : (l.take n).getD j 0 = l.getD j 0 := by
  rw [List.getD_eq_getElem?_getD, List.getElem?_take_of_lt h, ← List.getD_eq_getElem?_getD]
theorem getD_drop' {l : List Nat} {n j : Nat} : (l.drop n).getD j 0 = l.getD (n + j) 0 := by
  rw [List.getD_eq_getElem?_getD, List.getElem?_drop, ← List.getD_eq_getElem?_getD]
theorem flat_blk {Ps : List (List Nat)} {k i t j : Nat} {q : List Nat} (h : Ps[k]? = some q) (ht : t + 64 ≤ q.length) (hp : 64 * i = sumL (Ps.take k) + t) (hj : j < 64) : (q.drop t).getD j 0 = blkF Ps.flatten i j := by
  have e := flat_next (n := 64) (r := 0) h ht (by omega)
  rw [List.take_zero, List.nil_append, Nat.zero_add] at e
  have e2 := congrArg (fun l : List Nat => l.getD j 0) e
  rw [getD_take hj, getD_take hj, getD_drop', getD_drop'] at e2
  rw [getD_drop', e2]
  rfl
theorem part_blk {p : List Nat} {i j : Nat} (hj : j < 64) : ((p.drop (64 * i)).take 64).getD j 0 = blkF p i j := by
  rw [getD_take hj, getD_drop']
  rfl
theorem OwB.same {w w' : World} {base : Nat} {v : Value} {n : Nat} {bs : List Nat} (h : OwB w base v n bs) (hk : ∀ b o, base ≤ b → w.heap[b]? = some o → w'.heap[b]? = some o) : OwB w' base v n bs := by
  refine ⟨⟨h.1.1, ?_⟩, h.2⟩
  rcases h.1.2 with hn | ⟨g, cap, cur, rfl, hbs, hgg, rest⟩
  · exact .inl hn
  · exact .inr ⟨g, cap, cur, rfl, hbs, hk g _ hbs hgg, rest⟩
theorem OwB.zero {w : World} {base : Nat} {g n c : Nat} {bs : List Nat} (h : OwB w base (.slice (some ⟨g, 0, none⟩) n c) n bs) : OwB w base (.slice (some ⟨g, 0, none⟩) 0 c) 0 [] := by
  refine ⟨⟨rfl, ?_⟩, fun _ h => by cases h⟩
  rcases h.1.2 with ⟨hn, _⟩ | ⟨g', cap, cur, e, hbs, hgg, h1, h2, h3, h4⟩
  · cases hn
  · injection e with e1 e2 e3
    subst e3
    exact .inr ⟨g', _, cur, by rw [e1], hbs, hgg, Nat.zero_le _, h2, h3, by simp [celB]⟩
/-- make([]byte, 0, N) -/
theorem OwB.fresh (w : World) (N : Nat) (hN : N ≤ 140737488353000) : OwB (w.alloc (.cells (celB (List.replicate N 0)).toArray 5)) w.heap.size (.slice (some ⟨w.heap.size, 0, none⟩) 0 N) 0 [] :=
  ⟨⟨rfl, .inr ⟨w.heap.size, N, _, rfl, Nat.le_refl _, heap_new w _, Nat.zero_le _, by unfold maxLen; omega, by simp [celB_length], by simp [celB]⟩⟩, fun _ h => by cases h⟩
end Go.Proofs.YtgkojdbepgonkaaDoor

/- A range over a function whose iterator has a variable of its own in memory: one law for the caller and the iterator. -/
namespace Go.Proofs.YtgkojdbepgonkaaDoor
set_option linter.unusedVariables false
set_option linter.unusedSimpArgs false
set_option maxRecDepth 8000
open Go.RowKit
open Go.Shelf

/-- whatever lies at or beyond block N in A lies there in B -/
def KeepA (N : Nat) (A B : World) : Prop := A.heap.size ≤ B.heap.size ∧ ∀ b o, N ≤ b → A.heap[b]? = some o → B.heap[b]? = some o
theorem KeepA.refl (N : Nat) (A : World) : KeepA N A A := ⟨Nat.le_refl _, fun _ _ _ h => h⟩
theorem KeepA.trans {N : Nat} {A B C : World} (h : KeepA N A B) (k : KeepA N B C) : KeepA N A C := ⟨Nat.le_trans h.1 k.1, fun b o hb ho => k.2 b o hb (h.2 b o hb ho)⟩
theorem KeepA.of_below {N : Nat} {A B : World} (h : Below A.heap.size A B) : KeepA N A B := ⟨h.size, fun _ _ _ ho => heap_keep ho h⟩
theorem KeepA.set {N : Nat} {A B : World} (h : KeepA N A B) {p : Addr} (hp : p.block < N) (x : Value) : KeepA N A (B.setCell p x) :=
  ⟨by simp [World.setCell]; exact h.1, fun b o hb ho => (Below.heap_setCell B p x b (by omega)).trans (h.2 b o hb ho)⟩
theorem KeepA.mono {N M : Nat} {A B : World} (h : KeepA N A B) (hN : N ≤ M) : KeepA M A B := ⟨h.1, fun b o hb ho => h.2 b o (by omega) ho⟩

/-- what a round of the loop leaves -/
def ownEnd (N : Nat) (J1 : World → Prop) (Jx : World → Prop) (A : World) : Exit → Act → World → Prop
  | .normal, _, B => KeepA N A B ∧ J1 B
  | .ret, _, B => KeepA N A B ∧ Jx B
  | _, _, _ => False

theorem wpIn_rangeOwn {P : Program} {α : Type} {g : Operand} {ps : Array Tmp} {assign body : Code} {Q : Exit → Act → World → Prop} {a : Act} {w : World} {gf : Nat} {lb : Array Value}
    (hg : a.eval g = .func (.func gf) #[] lb) (eg : ∀ args w, (callFunc gf args).run P w = .ok (.enter gf args) w) (encs : α → Array Value) (hps : ∀ x, (encs x).size = ps.size)
    (n : Nat) (J : Nat → World → Prop) (Jx : Nat → World → Prop) (X : Nat → α → World → Prop) (hJ : ∀ i A B, J i A → Below w.heap.size A B → J i B) (hJx : ∀ i A B, Jx i A → Below w.heap.size A B → Jx i B) (h0 : J 0 w)
    (hiter : ∀ (l : Nat) (W : World) (J' Jx' : Nat → World → Prop), (∀ i A B, J' i A → Below W.heap.size A B → J' i B) → (∀ i A, J' i A → J i A ∧ W.heap.size ≤ A.heap.size) → w.heap.size ≤ W.heap.size →
      (∀ i x A, i < n → J' i A → X i x A → YieldAt Fence.wide 1 P l (encs x) A fun e B => (e = .returned (.bool true) ∧ J' (i + 1) B ∧ KeepA W.heap.size A B) ∨ (e = .returned (.bool false) ∧ Jx' i B)) → J' 0 W →
      CallsIn Fence.wide 2 P gf (#[.func (.yield l) #[] #[]] ++ lb) W fun e B => (∃ v, e = .returned v) ∧ (J' n B ∨ ∃ i, i < n ∧ Jx' i B))
    (hround : ∀ (l i : Nat) (x : α) (A : World), i < n → w.heap.size ≤ l → l < A.heap.size → (∃ L, A.heap[l]? = some (.loop L)) → J i A → X i x A →
      assign.wpIn (Fence.wide.inRound l) 1 P (Exit.then (fun a' B => KeepA w.heap.size A B ∧ J i B ∧ ∀ B2, KeepA (l + 1) B B2 → Below w.heap.size B B2 → (∀ b o, b ≠ l → B.heap[b]? = some o → B2.heap[b]? = some o) → body.wpIn (Fence.wide.inRound l) 1 P (ownEnd w.heap.size (J (i + 1)) (Jx i) B2) a' B2) (fun _ _ _ => False))
        { tmps := (ps.zip (encs x)).foldl (fun t (p, v) => t.setIfInBounds p v) a.tmps, defers := [] } A)
    (hdone : ∀ (D : Nat) (B : World), w.heap.size ≤ D → J n B → B.heap[D]? = some (.deferred (some [])) → Q .normal { a with defers := { target := .collected D, args := #[] } :: a.defers } B)
    (hstop : ∀ (D i : Nat) (B : World), w.heap.size ≤ D → i < n → Jx i B → B.heap[D]? = some (.deferred (some [])) → Code.ret.wpIn Fence.wide 3 P Q { a with defers := { target := .collected D, args := #[] } :: a.defers } B) :
    (Code.rangeFunc g ps assign body).wpIn Fence.wide 3 P Q a w := by
  refine wpIn_rangeFunc fun fn hfn => ?_
  let R : LoopState → Option Code → Loop := fun st pe => { state := st, pending := pe, fn := fn, tmps := a.tmps, params := ps, assign := assign, body := body, defers := w.heap.size }
  let W : World := (w.alloc (.deferred (some []))).alloc (.loop (R .ready none))
  have hsz : W.heap.size = w.heap.size + 1 + 1 := by simp [W]
  have hbW : Below w.heap.size w W := ((Below.refl _ w).alloc (Nat.le_refl _) _).alloc (by simp) _
  have hWL : W.heap[w.heap.size + 1]? = some (.loop (R .ready none)) := by
    have h := World.alloc_heap_new (w.alloc (.deferred (some []))) (.loop (R .ready none))
    rwa [World.size_alloc] at h
  have hWD : W.heap[w.heap.size]? = some (.deferred (some [])) := heap_old _ (heap_new w _)
  have put : ∀ (A : World) (o o' : Obj), A.heap[w.heap.size + 1]? = some o → Below w.heap.size A (A.putObj (w.heap.size + 1) o') ∧ KeepA (w.heap.size + 1 + 1) A (A.putObj (w.heap.size + 1) o') ∧ (A.putObj (w.heap.size + 1) o').heap[w.heap.size + 1]? = some o' ∧ ∀ b q, b ≠ w.heap.size + 1 → A.heap[b]? = some q → (A.putObj (w.heap.size + 1) o').heap[b]? = some q := fun A o o' h =>
    ⟨⟨rfl, rfl, rfl, by simp, fun k hk => World.putObj_heap_other (by omega)⟩, ⟨by simp, fun b q hb hq => (World.putObj_heap_other (by omega)).trans hq⟩, World.putObj_heap_same (Array.getElem?_eq_some_iff.1 h).1, fun b q hb hq => (World.putObj_heap_other hb).trans hq⟩
  refine ⟨w.heap.size + 1, [{ target := .collected w.heap.size, args := #[] }], W, { target := .fn (.func gf) lb, args := #[.func (.yield (w.heap.size + 1)) #[] #[]] }, W, gf, #[.func (.yield (w.heap.size + 1)) #[] #[]] ++ lb, W, run_enterLoop_outer _ _ _ _ _, ?_, fun _ _ => trivial, ?_, fun _ => by omega, ?_⟩
  · simp only [resolve, hg]
    simp [go_sem]
  · simp [invoke, go_sem, eg]
  · refine (hiter (w.heap.size + 1) W
      (fun i A => J i A ∧ W.heap.size ≤ A.heap.size ∧ A.heap[w.heap.size + 1]? = some (.loop (R .ready none)) ∧ A.heap[w.heap.size]? = some (.deferred (some [])))
      (fun i A => Jx i A ∧ A.heap[w.heap.size + 1]? = some (.loop (R .done (some .ret))) ∧ A.heap[w.heap.size]? = some (.deferred (some [])))
      (fun i A B h hb => ⟨hJ i A B h.1 (hb.mono hbW.size), Nat.le_trans h.2.1 hb.size, (hb.block _ (by omega)).trans h.2.2.1, (hb.block _ (by omega)).trans h.2.2.2⟩)
      (fun i A h => ⟨h.1, h.2.1⟩) hbW.size ?_ ⟨hJ 0 w W h0 hbW, Nat.le_refl _, hWL, hWD⟩).mono ?_
    · intro i x A hin ⟨hj, hs, hl, hd⟩ hx
      refine ⟨fn, _, assign, body, run_yield hl (hps x), roundIn_of_wpIn hfn ?_⟩
      refine wpIn_mono (hround (w.heap.size + 1) i x A hin (Nat.le_succ _) (Array.getElem?_eq_some_iff.1 hl).1 ⟨_, hl⟩ hj hx) ?_
      rintro e a' B hp
      cases e with
      | normal =>
        obtain ⟨hk, hjB, hbody⟩ := hp
        have hl2 := hk.2 _ _ (Nat.le_succ _) hl
        have hd2 := hk.2 _ _ (Nat.le_refl _) hd
        obtain ⟨p1, p2, p3, p4⟩ := put B _ (.loop (R .busy none)) hl2
        refine ⟨_, run_beginRound hl2 rfl, ?_⟩
        refine wpIn_mono (hbody _ p2 p1 p4) ?_
        rintro e2 a3 C hp2
        cases e2 with
        | normal =>
          obtain ⟨hk3, hj3⟩ := hp2
          have hl3 := hk3.2 _ _ (Nat.le_succ _) p3
          have hd3 := hk3.2 _ _ (Nat.le_refl _) (p4 _ _ (by omega) hd2)
          obtain ⟨q1, q2, q3, q4⟩ := put C _ (.loop (R .ready none)) hl3
          refine ⟨_, _, run_endRound none hl3, .inl ⟨rfl, ⟨hJ _ _ _ hj3 q1, ?_, q3, q4 _ _ (by omega) hd3⟩, ?_⟩⟩
          · exact Nat.le_trans hs (Nat.le_trans hk.1 (Nat.le_trans p2.1 (Nat.le_trans hk3.1 q2.1)))
          · rw [hsz]
            exact ((hk.mono (by omega)).trans p2).trans ((hk3.mono (by omega)).trans q2)
        | ret =>
          obtain ⟨hk3, hj3⟩ := hp2
          have hl3 := hk3.2 _ _ (Nat.le_succ _) p3
          have hd3 := hk3.2 _ _ (Nat.le_refl _) (p4 _ _ (by omega) hd2)
          obtain ⟨q1, q2, q3, q4⟩ := put C _ (.loop (R .done (some .ret))) hl3
          exact ⟨_, _, run_endRound (some .ret) hl3, .inr ⟨rfl, hJx _ _ _ hj3 q1, q3, q4 _ _ (by omega) hd3⟩⟩
        | exit id => exact hp2.elim
        | goto t => exact hp2.elim
        | panic ch => exact hp2.elim
        | outgrown => exact hp2.elim
      | _ => exact hp.elim
    · rintro e B ⟨⟨v, rfl⟩, (⟨hj, _, hl, hd⟩ | ⟨i, hin, hj, hl, hd⟩)⟩
      · obtain ⟨q1, q2, q3, q4⟩ := put B _ (.loop (R .exhausted none)) hl
        exact ⟨none, _, run_endLoop hl (by simp [R]), hdone _ _ (Nat.le_refl _) (hJ _ _ _ hj q1) (q4 _ _ (by omega) hd)⟩
      · obtain ⟨q1, q2, q3, q4⟩ := put B _ (.loop (R .exhausted (some .ret))) hl
        exact ⟨some .ret, _, run_endLoop hl (by simp [R]), hstop _ i _ (Nat.le_refl _) hin (hJx _ _ _ hj q1) (q4 _ _ (by omega) hd)⟩

end Go.Proofs.YtgkojdbepgonkaaDoor

/- Contracts of package sha256: the iterator over the blocks of a message. -/
namespace Go.Proofs.YtgkojdbepgonkaaDoor
set_option linter.unusedVariables false
set_option linter.unusedSimpArgs false
set_option maxRecDepth 8000
open Go.RowKit
open Go.Shelf
attribute [local go_sem] Oper.semAt_some
theorem Sb.empty (w : World) (A : Option Addr) (c : Nat) (hc : c ≤ 9223372036854775807) (h0 : A = none → c = 0) : Sb w A 0 c [] := ⟨rfl, Nat.zero_le _, hc, h0, (fun _ h => by cases h), fun i z hz => by simp at hz⟩
/-- what a yielded slice reads as: block i of the message -/
def BlkX (p : List Nat) (i : Nat) (x : Addr × Nat) (w : World) : Prop := Blk w x.1 (blkF p i) ∧ 64 ≤ x.2 ∧ x.2 ≤ 9223372036854775807
theorem blkx_part {Ps : List (List Nat)} {i g base : Nat} {w : World} (h : OwB w base (.slice (some ⟨g, 0, none⟩) 64 64) 64 ((Ps.flatten.drop (64 * i)).take 64)) (hb : ∀ x ∈ Ps.flatten, x < 256) : BlkX Ps.flatten i ((⟨g, 0, none⟩ : Addr), 64) w := by
  refine ⟨⟨fun j => blkF_lt hb i j, fun j hj => ?_⟩, Nat.le_refl _, by omega⟩
  have h1 := h.sl'.at_ (i := j) (by omega)
  rwa [part_blk hj] at h1
theorem wpListIn_appendBf {F : Fence} {N : Nat} {ops : Array Oper} {rest : List Oper} {o : Oper} {a : Act} {Q : Exit → Act → World → Prop} {w : World} (hgd : o.guard = none) (s x : Operand)
    (ho : o.op = .call { callee := .builtin .append, args := #[s, x], argTypes := #[29, 29] }) (base g k cap : Nat) (bs : List Nat) (hs : a.eval s = .slice (some ⟨g, 0, none⟩) k cap) (hown : OwB w base (.slice (some ⟨g, 0, none⟩) k cap) k bs)
    (ad : Addr) (m c : Nat) (ys : List Nat) (hx : a.eval x = .slice (some ad) m c) (hy : Sb w (some ad) m c ys) (k2 : Nat) (hk2 : k + m = k2) (hn : k2 ≤ cap) (hbase : base ≤ w.heap.size)
    (h : ∀ w', OwB w' base (.slice (some ⟨g, 0, none⟩) k2 cap) k2 (bs ++ ys) → Below base w w' → wpListIn F N Tryd.prog ops Q rest (a.put o.dst (.slice (some ⟨g, 0, none⟩) k2 cap)) w') : wpListIn F N Tryd.prog ops Q (o :: rest) a w := by
  subst hk2
  obtain ⟨i, hi, hz, hs2, hb⟩ := info_parts u8_info
  refine wpListIn_append_fits w hgd s x 29 ho base 5 i 1 Tryd.underlying29 hi hs2 g k cap (celB bs) hs hown.1 ad m c (celB ys) hx (by rw [celB_length, ← hy.len, Nat.mul_one]) (celB_src hy) (fun u hu => celB_one' hu) hn ?_
  intro w' hown' hg
  refine h w' ⟨?_, fun z hz => ?_⟩ (OwB.below hown hg hbase)
  · rw [celB_append]
    exact hown'
  · rcases List.mem_append.1 hz with hz | hz
    · exact hown.2 z hz
    · exact hy.byte z hz
set_option maxRecDepth 100000 in
set_option maxHeartbeats 4000000 in
theorem blk_iter (G : World → Prop) (A : Option Addr) (n c : Nat) (Ps : List (List Nat)) (hP : PbG G A n c Ps) (hn : n ≤ 1000) (K b1 : Nat) (hK : sumL Ps = 64 * K) (hKs : sumL Ps ≤ 140737488354000) (hpb : ∀ x ∈ Ps.flatten, x < 256)
    (l : Nat) (W : World) (J Jx : Nat → World → Prop) (hJ : ∀ i A B, J i A → Below W.heap.size A B → J i B) (hJB : ∀ i B, J i B → G B ∧ W.heap.size ≤ B.heap.size) (hc1 : W.cell? ⟨b1, 0, none⟩ = some (.slice A n c))
    (hY : ∀ i (x : Addr × Nat) B, i < K → J i B → BlkX Ps.flatten i x B → YieldAt Fence.wide 1 Tryd.prog l #[.slice (some x.1) 64 x.2] B fun e B' => (e = .returned (.bool true) ∧ J (i + 1) B' ∧ KeepA W.heap.size B B') ∨ (e = .returned (.bool false) ∧ Jx i B'))
    (h0 : J 0 W) :
    CallsIn Fence.wide 2 Tryd.prog 113 (#[.func (.yield l) #[] #[]] ++ #[.pointer (some ⟨b1, 0, none⟩)]) W fun e B => (∃ v, e = .returned v) ∧ (J K B ∨ ∃ i, i < K ∧ Jx i B) := by
  have hcap := hP.cap
  have htop := hP.top
  have HP := Lib.hid hP
  have HJ := Lib.hid hJ
  have HJB := Lib.hid hJB
  have HPB := Lib.hid hpb
  have HK := Lib.hid hK
  have H0 := Lib.hid h0
  clear hP hJ hJB h0 hpb hK
  refine callsIn_of_wp Tryd.func113 rfl trivial ?_ rfl
  simp only [Tryd.ntmps113, List.size_toArray, List.length_cons, List.length_nil, Nat.reduceAdd, Nat.reduceSub, Array.replicate_succ, Array.replicate_zero, List.push_toArray, List.append_toArray, List.nil_append, List.cons_append]
  have hmk0 : ∀ w : World, (Instr.makeSlice 29 (.int .i64 0) (.int .i64 64)).run Tryd.prog w = .ok (.slice (some ⟨w.heap.size, 0, none⟩) 0 64) (w.alloc (.cells (celB (List.replicate 64 0)).toArray 5)) := fun w => run_makeB 0 64 (by omega) (by omega) w
  have HO1 := Lib.hid (OwB.fresh W 64 (by omega))
  obtain ⟨zs, hzs⟩ : ∃ zs : List Value, zs = celB (List.replicate 64 0) := ⟨_, rfl⟩
  rw [← hzs] at HO1
  have hmk : ∀ w : World, (Instr.makeSlice 29 (.int .i64 0) (.int .i64 64)).run Tryd.prog w = .ok (.slice (some ⟨w.heap.size, 0, none⟩) 0 64) (w.alloc (.cells zs.toArray 5)) := fun w => by rw [hzs]; exact hmk0 w
  clear hmk0 hzs
  have hc1' := cell_alloc hc1 (.cells zs.toArray 5)
  gi_wp2
  clear hmk hc1 hc1'
  have HJ1 := Lib.hid (HJ.out 0 W _ H0.out ((Below.refl _ _).alloc (Nat.le_refl _) (.cells zs.toArray 5)))
  clear H0
  generalize W.alloc (.cells zs.toArray 5) = W1 at *
  gi_loopw [3, 11] (fun pt s wr => ∃ k i r : Nat, k ≤ n ∧ r < 64 ∧ s = .int .i64 k ∧ pt = .slice (some ⟨W.heap.size, 0, none⟩) r 64 ∧ 64 * i + r = sumL (Ps.take k) ∧ J i wr ∧ OwB wr W.heap.size (.slice (some ⟨W.heap.size, 0, none⟩) r 64) r ((Ps.flatten.drop (64 * i)).take r)) (fun _ s _ => n - (intOf s).toNat)
  case atStart => exact ⟨0, 0, 0, Nat.zero_le _, by omega, rfl, rfl, rfl, HJ1.out, HO1.out⟩
  case round =>
    clear HJ1 HO1
    obtain ⟨k, i, r, hk, hr, rfl, rfl, hir, hj, ho⟩ := hrel
    have HIR := Lib.hid hir
    have HJi := Lib.hid hj
    have HO := Lib.hid ho
    have hg := (HJB.out i wr hj).1
    clear hir hj ho
    by_cases hlt : k < n
    · have hk1 : (k : Int) < (n : Int) := by omega
      have hk0 : (0 : Int) ≤ (k : Int) := by omega
      obtain ⟨q, hq⟩ : ∃ q, Ps[k]? = some q := ⟨Ps[k]'(by have := HP.out.len; omega), List.getElem?_eq_getElem _⟩
      obtain ⟨ad, B, m, d, rfl, hG⟩ := HP.out.cells k q hq
      obtain ⟨hc, hs⟩ := hG wr hg
      have HQ := Lib.hid hq
      have HG := Lib.hid hG
      obtain rfl : m = q.length := hs.len
      have hST := sumL_take hq
      have hSL := sumL_le Ps (k + 1)
      rw [hST] at hSL
      have HST := Lib.hid hST
      clear hq hs hg hG hST
      gi_wp2
      have HLT := Lib.hid hlt
      clear hc hlt hk1
      gi_loopw [3, 5] (fun pt rs wr => ∃ i r t m d, ∃ R : Option Addr, r < 64 ∧ t ≤ q.length ∧ m = q.length - t ∧ pt = .slice (some ⟨W.heap.size, 0, none⟩) r 64 ∧ rs = .slice R m d ∧ 64 * i + r = sumL (Ps.take k) + t ∧ (∀ w, G w → Sb w R m d (q.drop t)) ∧ J i wr ∧ OwB wr W.heap.size (.slice (some ⟨W.heap.size, 0, none⟩) r 64) r ((Ps.flatten.drop (64 * i)).take r)) (fun _ rs _ => match rs with | .slice _ m _ => m | _ => 0)
      case atStart => exact ⟨i, r, 0, q.length, d, B, hr, Nat.zero_le _, by omega, rfl, rfl, HIR.out, fun w hw => (HG.out w hw).2, HJi.out, HO.out⟩
      case round =>
        clear HIR HJi HO HG hr
        obtain ⟨i, r, t, m, d, R, hr, ht, hm, rfl, rfl, hir, hS, hj, ho⟩ := hrel
        have HIR := Lib.hid hir
        have HJi := Lib.hid hj
        have HO := Lib.hid ho
        have HS := Lib.hid hS
        have hg := (HJB.out i wr hj).1
        have hsb := hS wr hg
        have hmd := hsb.cap
        have hdt := hsb.top
        clear hir hj ho hS
        have HMq := Lib.hid hm
        clear hm
        by_cases hm0 : m = 0
        · subst hm0
          have hm1 : ¬ ((0 : Int) < ((0 : Nat) : Int)) := by simp
          have htq : t = q.length := by have := HMq.out; omega
          subst htq
          gi_wp2
          go_roundw
          case rel =>
            refine ⟨k + 1, i, r, HLT.out, hr, by go_num, rfl, ?_, HJi.out, HO.out⟩
            rw [HST.out]; exact HIR.out
          case measure => have := HLT.out; simp [intOf]; omega
        · have hm1 : (0 : Int) < (m : Int) := by omega
          obtain ⟨ad2, rfl⟩ := hsb.some_ (by omega)
          obtain ⟨M, hM⟩ : ∃ M, M = 64 - r := ⟨_, rfl⟩
          have e1 : (64 : Int) - (r : Int) = (M : Int) := by omega
          have HM := Lib.hid hM
          have hM1 : 1 ≤ M ∧ M ≤ 64 := by omega
          clear hM
          have hbase := (HJB.out i wr HJi.out).2
          by_cases hmM : m < M
          · have hm64 : (m : Int) < 64 := by omega
            have hrm : r + m < 64 := by have := HM.out; omega
            have hrm2 : ((r + m : Nat) : Int) < 64 := by omega
            by_cases hd : m = d
            · subst hd
              have hd0 := hm0
              have hsbm := hsb.take (Nat.le_refl m)
              gi_wp2_with (gi_at_builtin; refine wpListIn_appendBf rfl (.tmp 32) (.tmp 33) rfl W.heap.size W.heap.size r 64 _ rfl HO.out ad2 m _ _ rfl hsbm (r + m) (by omega) (by omega) hbase ?_; intro W2 ho2 hb2; have HO2 := Lib.hid ho2; have HB2 := Lib.hid hb2; clear ho2 hb2)
              go_roundw
              case rel =>
                have htq : t + m = q.length := by have := HMq.out; omega
                have hnx := flat_next (i := i) (r := r) (t := t) (n := m) HQ.out (by omega) HIR.out
                refine ⟨i, r + m, t + m, 0, _, _, hrm, by omega, by omega, rfl, rfl, by have := HIR.out; omega, fun w hw => ?_, HJ.out i _ _ HJi.out HB2.out, ?_⟩
                · rw [List.drop_of_length_le (by omega)]
                  exact Sb.empty _ _ _ (by omega) (fun e => by cases e)
                · rw [← hnx]
                  exact HO2.out
              case measure => simp; omega
            · have hd2 : ¬ d = m := fun e => hd e.symm
              clear hd
              have hsbm := hsb.take (Nat.le_refl m)
              gi_wp2_with (gi_at_builtin; refine wpListIn_appendBf rfl (.tmp 32) (.tmp 33) rfl W.heap.size W.heap.size r 64 _ rfl HO.out ad2 m _ _ rfl hsbm (r + m) (by omega) (by omega) hbase ?_; intro W2 ho2 hb2; have HO2 := Lib.hid ho2; have HB2 := Lib.hid hb2; clear ho2 hb2)
              go_roundw
              case rel =>
                have htq : t + m = q.length := by have := HMq.out; omega
                have hnx := flat_next (i := i) (r := r) (t := t) (n := m) HQ.out (by omega) HIR.out
                refine ⟨i, r + m, t + m, 0, _, _, hrm, by omega, by omega, rfl, rfl, by have := HIR.out; omega, fun w hw => ?_, HJ.out i _ _ HJi.out HB2.out, ?_⟩
                · rw [List.drop_of_length_le (by omega)]
                  exact Sb.empty _ _ _ (by omega) (fun e => by cases e)
                · rw [← hnx]
                  exact HO2.out
              case measure => simp; omega
          · have htM : t + M ≤ q.length := by have := HMq.out; omega
            have hi : i < K := by have := HIR.out; have := HM.out; have := HK.out; omega
            have htM' : M ≤ m := by omega
            by_cases h64 : M = 64
            · subst h64
              obtain rfl : r = 0 := by have := HM.out; omega
              have hx : BlkX Ps.flatten i (ad2, d) wr := by
                refine ⟨⟨fun j => blkF_lt HPB.out i j, fun j hj => ?_⟩, by omega, by omega⟩
                have h1 := hsb.at_ (i := j) (by omega)
                rwa [flat_blk HQ.out (by omega) (by have := HIR.out; omega) hj] at h1
              obtain ⟨fn, tmps, assign, body, hy, hR⟩ := hY i (ad2, d) wr hi HJi.out hx
              clear hx
              have HM : Hid ((64 : Nat) = 64 - 0) := Lib.hid rfl
              by_cases hd : d = 64
              · subst hd
                have hS2 := fun w (hw : G w) => (HS.out w hw).drop (k := 64) (by omega)
                rw [if_pos rfl, show m - 64 = 0 by omega] at hS2
                simp only [List.drop_drop, Nat.sub_self] at hS2
                have HS2 := Lib.hid hS2
                clear hS2
                gi_wp2
                clear hy
                refine hR.mono ?_
                rintro e W3 (⟨rfl, hj3, hk3⟩ | ⟨rfl, hx3⟩)
                · have HJ3 := Lib.hid hj3
                  have HO3 := Lib.hid (HO.out.same hk3.2)
                  clear hj3 hk3
                  gi_wp2
                  go_roundw
                  case rel =>
                    refine ⟨i + 1, 0, t + 64, 0, _, _, by omega, htM, by have := HMq.out; omega, rfl, rfl, by have := HIR.out; have := HM.out; omega, fun w hw => ?_, HJ3.out, HO3.out.zero⟩
                    exact HS2.out w hw
                  case measure => simp; omega
                · gi_wp2
                  refine bodyPost_ret (results_none rfl _ _ _) rfl ?_
                  exact ⟨⟨_, rfl⟩, .inr ⟨i, hi, hx3⟩⟩
              · have hS2 := fun w (hw : G w) => (HS.out w hw).drop (k := 64) (by omega)
                rw [if_neg hd] at hS2
                simp only [List.drop_drop] at hS2
                have HS2 := Lib.hid hS2
                clear hS2
                gi_wp2
                clear hy
                refine hR.mono ?_
                rintro e W3 (⟨rfl, hj3, hk3⟩ | ⟨rfl, hx3⟩)
                · have HJ3 := Lib.hid hj3
                  have HO3 := Lib.hid (HO.out.same hk3.2)
                  clear hj3 hk3
                  gi_wp2
                  go_roundw
                  case rel =>
                    refine ⟨i + 1, 0, t + 64, m - 64, _, _, by omega, htM, by have := HMq.out; omega, rfl, rfl, by have := HIR.out; have := HM.out; omega, fun w hw => ?_, HJ3.out, HO3.out.zero⟩
                    exact HS2.out w hw
                  case measure => simp; omega
                · gi_wp2
                  refine bodyPost_ret (results_none rfl _ _ _) rfl ?_
                  exact ⟨⟨_, rfl⟩, .inr ⟨i, hi, hx3⟩⟩
            · have hM64 : (M : Int) < 64 := by omega
              by_cases hd : M = d
              · subst hd
                have hsbm := hsb.take htM'
                have hS2 := fun w (hw : G w) => (HS.out w hw).drop (k := M) (by omega)
                rw [if_pos rfl, show m - M = 0 by omega] at hS2
                simp only [List.drop_drop, Nat.sub_self] at hS2
                have HS2 := Lib.hid hS2
                clear hS2
                gi_wp2_with (gi_at_builtin; refine wpListIn_appendBf rfl (.tmp 32) (.tmp 33) rfl W.heap.size W.heap.size r 64 _ rfl HO.out ad2 M _ _ rfl hsbm 64 (by have := HM.out; omega) (by omega) hbase ?_; intro W2 ho2 hb2; rw [flat_next HQ.out htM HIR.out, show r + M = 64 by have := HM.out; omega] at ho2; have HO2 := Lib.hid ho2; have HB2 := Lib.hid hb2; clear ho2 hb2; have hx : BlkX Ps.flatten i ((⟨W.heap.size, 0, none⟩ : Addr), 64) W2 := blkx_part HO2.out HPB.out; obtain ⟨fn, tmps, assign, body, hy, hR⟩ := hY i ((⟨W.heap.size, 0, none⟩ : Addr), 64) W2 hi (HJ.out i _ _ HJi.out HB2.out) hx; clear hx)
                clear hy
                refine hR.mono ?_
                rintro e W3 (⟨rfl, hj3, hk3⟩ | ⟨rfl, hx3⟩)
                · have HJ3 := Lib.hid hj3
                  have HO3 := Lib.hid (HO2.out.same hk3.2)
                  clear hj3 hk3
                  gi_wp2
                  go_roundw
                  case rel =>
                    refine ⟨i + 1, 0, t + M, 0, _, _, by omega, htM, by have := HMq.out; omega, rfl, rfl, by have := HIR.out; have := HM.out; omega, fun w hw => ?_, HJ3.out, HO3.out.zero⟩
                    exact HS2.out w hw
                  case measure => simp; omega
                · gi_wp2
                  refine bodyPost_ret (results_none rfl _ _ _) rfl ?_
                  exact ⟨⟨_, rfl⟩, .inr ⟨i, hi, hx3⟩⟩
              · have hd2 : ¬ d = M := fun e => hd e.symm
                clear hd
                have hsbm := hsb.take htM'
                have hS2 := fun w (hw : G w) => (HS.out w hw).drop (k := M) (by omega)
                rw [if_neg hd2] at hS2
                simp only [List.drop_drop] at hS2
                have HS2 := Lib.hid hS2
                clear hS2
                gi_wp2_with (gi_at_builtin; refine wpListIn_appendBf rfl (.tmp 32) (.tmp 33) rfl W.heap.size W.heap.size r 64 _ rfl HO.out ad2 M _ _ rfl hsbm 64 (by have := HM.out; omega) (by omega) hbase ?_; intro W2 ho2 hb2; rw [flat_next HQ.out htM HIR.out, show r + M = 64 by have := HM.out; omega] at ho2; have HO2 := Lib.hid ho2; have HB2 := Lib.hid hb2; clear ho2 hb2; have hx : BlkX Ps.flatten i ((⟨W.heap.size, 0, none⟩ : Addr), 64) W2 := blkx_part HO2.out HPB.out; obtain ⟨fn, tmps, assign, body, hy, hR⟩ := hY i ((⟨W.heap.size, 0, none⟩ : Addr), 64) W2 hi (HJ.out i _ _ HJi.out HB2.out) hx; clear hx)
                clear hy
                refine hR.mono ?_
                rintro e W3 (⟨rfl, hj3, hk3⟩ | ⟨rfl, hx3⟩)
                · have HJ3 := Lib.hid hj3
                  have HO3 := Lib.hid (HO2.out.same hk3.2)
                  clear hj3 hk3
                  gi_wp2
                  go_roundw
                  case rel =>
                    refine ⟨i + 1, 0, t + M, m - M, _, _, by omega, htM, by have := HMq.out; omega, rfl, rfl, by have := HIR.out; have := HM.out; omega, fun w hw => ?_, HJ3.out, HO3.out.zero⟩
                    exact HS2.out w hw
                  case measure => simp; omega
                · gi_wp2
                  refine bodyPost_ret (results_none rfl _ _ _) rfl ?_
                  exact ⟨⟨_, rfl⟩, .inr ⟨i, hi, hx3⟩⟩
    · have hkn : k = n := by omega
      subst hkn
      have hts : Ps.take k = Ps := List.take_of_length_le (by have := HP.out.len; omega)
      have hir := HIR.out
      rw [hts, HK.out] at hir
      obtain rfl : i = K := by omega
      clear hir hts
      gi_wp2
      go_end0
      exact ⟨⟨_, rfl⟩, .inl HJi.out⟩
end Go.Proofs.YtgkojdbepgonkaaDoor
