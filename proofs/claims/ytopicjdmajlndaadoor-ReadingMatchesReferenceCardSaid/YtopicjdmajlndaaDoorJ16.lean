/- Several texts in one: Ra, Ri. -/
import Derived.Test.YtopicjdmajlndaaDoorJ15
import Derived.Test.YtopicjdmajlndaaDoorRows
import Derived.Test.YtopicjdmajlndaaDoorTie
import Derived.ProofKit
import Derived.OpenShut
import Derived.ChangeOld
import Derived.ChangeSlices
import Derived.Below
import Derived.Lib.SmallJoins
import Derived.Lib.LaidTab
import Derived.LaidMore
import Derived.Deep.Slices
namespace Go.Proofs.YtopicjdmajlndaaDoor.K
set_option linter.unusedVariables false
set_option linter.unusedSimpArgs false
set_option linter.unusedSectionVars false
set_option maxRecDepth 8000
open Go.RowKit
section
variable {P : Program} {ops : Array Oper} {Q : Exit → Act → World → Prop}
def wpX (P : Program) (ops : Array Oper) (Q : Exit → Act → World → Prop) : OT → Act → World → Prop
  | .nil, a, w => Q .normal a w
  | .q i t, a, w => ∃ o, ops[i]? = some o ∧ ∃ v, YieldsIf P ops (fun W => Below w.heap.size w W) o v a ∧ wpX P ops Q t (a.put o.dst v) w
  | .one i t, a, w => ∃ o, ops[i]? = some o ∧ Region.wanted o (yielded ops a.tmps) = true ∧ hOp P o (fun v w' => Below w.heap.size w w' ∧ wpX P ops Q t (a.put o.dst v) w') a w
  | .fork i t j u, a, w => (∃ o, ops[i]? = some o ∧ Region.wanted o (yielded ops a.tmps) = true ∧ hOp P o (fun v w' => Below w.heap.size w w' ∧ wpX P ops Q t (a.put o.dst v) w') a w) ∧
      (∃ o, ops[j]? = some o ∧ Region.wanted o (yielded ops a.tmps) = true ∧ hOp P o (fun v w' => Below w.heap.size w w' ∧ wpX P ops Q u (a.put o.dst v) w') a w)
theorem wpAnyH_of_wpX (hs : Region.noSelect ops = true) (hQ : ∀ c a (dt : Option Tmp) v w, Q (.panic c) (Act.put a dt v) w → Q (.panic c) a w) : ∀ (t : OT) (m : Array Bool) (a : Act) (w : World), okT ops t m = true → wpX P ops Q t a w → wpAnyH P .any ops Q (fun W => Below w.heap.size w W) t.len m a w
  | .nil, m, a, w, ho, h => wpAnyH_done (by unfold okT at ho; simpa using ho) h _
  | .q i t, m, a, w, ho, h => by
    unfold okT at ho
    rw [Bool.and_eq_true, Bool.and_eq_true] at ho
    obtain ⟨o, hi, v, hy, hk⟩ := h
    exact wpAnyH_take hi hs ho.1.1 ho.1.2 (fun c a w h => hQ c a _ _ w h) hy (Below.refl _ _) (wpAnyH_of_wpX hs hQ t _ _ w ho.2 hk)
  | .one i t, m, a, w, ho, h => by
    unfold okT at ho
    rw [Bool.and_eq_true] at ho
    obtain ⟨o, hi, hw, hk⟩ := h
    refine wpAnyH_all (rs := [i]) (by simpa using ho.1) (by simp) ?_
    intro j hj
    obtain rfl : j = i := by simpa using hj
    exact wpOp_of_hOp hi hw (hOp_mono (fun v w' hk => ⟨hk.1, wpAnyH_mono (S := fun W => Below w'.heap.size w' W) (fun W (hW : Below w'.heap.size w' W) => hk.1.trans (hW.mono hk.1.size)) _ _ _ _ (wpAnyH_of_wpX hs hQ t _ _ w' ho.2 hk.2)⟩) hk)
  | .fork i t j u, m, a, w, ho, h => by
    unfold okT at ho
    rw [Bool.and_eq_true, Bool.and_eq_true, Bool.and_eq_true] at ho
    obtain ⟨⟨⟨h1, h2⟩, h3⟩, h4⟩ := ho
    have h2 : t.len = u.len := by simpa using h2
    obtain ⟨⟨o, hi, hw, hk⟩, ⟨o2, hi2, hw2, hk2⟩⟩ := h
    refine wpAnyH_all (rs := [i, j]) (by simpa using h1) (by simp) ?_
    intro q hq
    rcases List.mem_cons.1 hq with rfl | hq
    · exact wpOp_of_hOp hi hw (hOp_mono (fun v w' hk => ⟨hk.1, wpAnyH_mono (S := fun W => Below w'.heap.size w' W) (fun W (hW : Below w'.heap.size w' W) => hk.1.trans (hW.mono hk.1.size)) _ _ _ _ (wpAnyH_of_wpX hs hQ t _ _ w' h3 hk.2)⟩) hk)
    · obtain rfl : q = j := by simpa using hq
      exact wpOp_of_hOp hi2 hw2 (hOp_mono (fun v w' hk => ⟨hk.1, wpAnyH_mono (S := fun W => Below w'.heap.size w' W) (fun W (hW : Below w'.heap.size w' W) => hk.1.trans (hW.mono hk.1.size)) _ _ _ _ (by have := wpAnyH_of_wpX hs hQ u _ _ w' h4 hk.2; rw [← h2] at this; exact this)⟩) hk2)
theorem wp_ordX (t : OT) {id : Nat} {a : Act} {w : World} {l : List Oper} (hm : P.follows .mixedOrders = true) (hs : Region.noSelect l.toArray = true) (hQ : ∀ c a (dt : Option Tmp) v w, Q (.panic c) (Act.put a dt v) w → Q (.panic c) a w)
    (hn : t.len = l.length) (ho : okT l.toArray t (Array.replicate l.length false) = true) (h : ∀ V, Below w.heap.size w V → wpX P l.toArray Q t a V) : (Code.region id l.toArray true).wp P Q a w := by
  refine wp_region_held (S := fun W => Below w.drew.heap.size w.drew W) hm ?_
  have := wpAnyH_of_wpX hs hQ t _ a w.drew ho (h _ (Below.refl _ _).drew)
  rw [hn] at this
  simpa using this
theorem wpX_nil {a : Act} {w : World} (h : Q .normal a w) : wpX P ops Q .nil a w := h
theorem wpX_q {i : Nat} {t : OT} {o : Oper} {l : List Oper} {a : Act} {w : World} (v : Value) (hi : l[i]? = some o) (hw : Region.wanted o (yielded l.toArray a.tmps) = true) (hr : ∀ w', Below w.heap.size w w' → (execOp a.eval o).run P w' = .ok (.value v) w') (h : wpX P l.toArray Q t (a.put o.dst v) w) : wpX P l.toArray Q (.q i t) a w :=
  ⟨o, by simpa using hi, v, .inl ⟨hw, hr⟩, h⟩
theorem wpX_one {i : Nat} {t : OT} {o : Oper} {l : List Oper} {a : Act} {w : World} (hi : l[i]? = some o) (hw : Region.wanted o (yielded l.toArray a.tmps) = true) (h : hOp P o (fun v w' => Below w.heap.size w w' ∧ wpX P l.toArray Q t (a.put o.dst v) w') a w) : wpX P l.toArray Q (.one i t) a w :=
  ⟨o, by simpa using hi, hw, h⟩
end
end Go.Proofs.YtopicjdmajlndaaDoor.K

namespace Go.Proofs.YtopicjdmajlndaaDoor.K
set_option linter.unusedVariables false
set_option linter.unusedSimpArgs false
set_option linter.unusedSectionVars false
set_option maxRecDepth 8000
open Go.ChangeShapes Go.WideShapes Go.ChangeAt Go.RowKit Go.Joins Go.Deep
theorem list_ofK {α : Type} (n : Nat) (P : Nat → α → Prop) (h : ∀ i, i < n → ∃ x, P i x) : ∃ l : List α, l.length = n ∧ ∀ i x, l[i]? = some x → P i x := by
  induction n with
  | zero => exact ⟨[], rfl, fun i x hx => by simp at hx⟩
  | succ n ih =>
    obtain ⟨l, hl, hp⟩ := ih fun i hi => h i (by omega)
    obtain ⟨x, hx⟩ := h n (Nat.lt_succ_self n)
    refine ⟨l ++ [x], by simp [hl], fun i y hy => ?_⟩
    by_cases hi : i < l.length
    · rw [List.getElem?_append_left hi] at hy
      exact hp i y hy
    · rw [List.getElem?_append_right (by omega)] at hy
      have e : i = n := by
        have := (List.getElem?_eq_some_iff.1 hy).1
        simp at this
        omega
      subst e
      rw [hl, Nat.sub_self] at hy
      simp at hy
      subst hy
      exact hx
section
variable {α : Type} {E : α → List Value} {k : Nat} [hE : Enc E k] {P : Program} {H : Type} {enc : TypeId × Value → H} {W : World} {b1 : Nat} {sp : Nat → Bool} {hd : Bool} {t e : TypeId}
/-- a slice that comes in, its elements opened -/
theorem open_seq (p : α → Prop) (hu : P.underlying t = some (.slice e)) (hc : P.cellsOf e = k) (hel : ∀ m cs y, cs.length = k → DataW.trod enc P W b1 sp hd m e cs = some y → ∃ x, cs = E x ∧ p x) {m : Nat} {cs : List Value} {y : DataW H × List MemPlace} (h : DataW.trod enc P W b1 sp hd m t cs = some y) :
    ∃ A n c xs, cs = [.slice A n c] ∧ Sg E k W A n c xs ∧ ∀ x ∈ xs, p x := by
  have hk := hE.pos
  rcases open_slice hu h with ⟨hcs, _⟩ | ⟨a, len, cap, m', n', D, Pl, hcs, _, hl, hm, hmm, _, hi⟩
  · exact ⟨none, 0, 0, [], hcs, Sg.nil_ _, fun x hx => by cases hx⟩
  · unfold maxLen at hm
    have hC : ∀ i, i < len → ∃ x, p x ∧ ∀ j v, (E x)[j]? = some v → W.cell? ((a.add (i * k)).add j) = some v := fun i hin => by
      obtain ⟨cs', hc2, ht⟩ := hi i (by rw [hmm]; split <;> omega)
      rw [hc] at hc2
      obtain ⟨_, hcl, hat⟩ := World.cells?_some hc2
      obtain ⟨x, hx, hpx⟩ := hel _ _ _ hcl ht
      subst hx
      exact ⟨x, hpx, fun j v hv => (hat j (by rw [← hE.len x]; exact (List.getElem?_eq_some_iff.1 hv).1)).trans hv⟩
    obtain ⟨xs, hxl, hxx⟩ := list_ofK len _ hC
    refine ⟨some a, len, cap, xs, hcs, ⟨hxl, hl, by omega, fun e => (by cases e), fun i x hx => ?_⟩, fun x hx => ?_⟩
    · have hil := (List.getElem?_eq_some_iff.1 hx).1
      obtain ⟨b, off, s⟩ := a
      obtain ⟨x0, hx0⟩ : ∃ x0, xs[0]? = some x0 := ⟨_, List.getElem?_eq_getElem (by omega)⟩
      obtain ⟨v0, hv0⟩ : ∃ v0, (E x0)[0]? = some v0 := ⟨_, List.getElem?_eq_getElem (by rw [hE.len]; exact hk)⟩
      have h0 := (hxx 0 x0 hx0).2 0 v0 hv0
      rw [Nat.zero_mul] at h0
      have hs : s = none := by
        cases s with
        | none => rfl
        | some q =>
          simp only [Addr.add, if_true, World.cell?] at h0
          split at h0 <;> simp at h0
      subst hs
      refine ⟨b, off, rfl, fun j v hv => ?_⟩
      have h1 := (hxx i x hx).2 j v hv
      rw [Addr.add_mid, Addr.add_mid] at h1
      exact h1
    · obtain ⟨i, hi'⟩ := List.getElem?_of_mem hx
      exact (hxx i x hi').1
end
end Go.Proofs.YtopicjdmajlndaaDoor.K
namespace Go.Proofs.YtopicjdmajlndaaDoor
set_option linter.unusedVariables false
set_option linter.unusedSimpArgs false
set_option linter.unusedSectionVars false
open Go.ChangeShapes Go.WideShapes Go.ChangeAt Go.RowKit Go.Joins Go.Deep Go.Proofs.YtopicjdmajlndaaDoor.K
theorem own : ownKnob Tryd.prog.godebug = none := by kernel_rfl
theorem laidOut : laidOutB Tryd.prog = true := by kernel_rfl
section
variable {H : Type} {enc : TypeId × Value → H} {W : World} {base : Nat} {sp : Nat → Bool} {b1 : Nat} {hd : Bool} {v : Value} {d : DataW H} {p : List MemPlace}
theorem cells12B : Tryd.prog.cellsOf 5 = 1 := by kernel_rfl
theorem trod12_u8 {m : Nat} {cs : List Value} {y : DataW H × List MemPlace} (h : DataW.trod enc Tryd.prog W b1 sp hd m 5 cs = some y) : ∃ x : Nat, cs = byC x ∧ x < 256 := by
  obtain ⟨a, e, _, w⟩ := DataW.trod_int Tryd.underlying5 h
  have hb := bounds_u8 w
  exact ⟨a.toNat, by rw [e]; simp only [byC]; rw [Int.toNat_of_nonneg hb.1], by omega⟩
theorem open12_bytes (hv : Value.okWide Tryd.prog W .any base 25 v) (h : DataW.Trod enc Tryd.prog W b1 sp hd 25 v d p) : ∃ (A : Option Addr) (n c : Nat) (xs : List Nat), v = .slice A n c ∧ Sg byC 1 W A n c xs ∧ ∀ x ∈ xs, x < 256 := by
  obtain ⟨A, n, c, rfl⟩ : ∃ A n c, v = .slice A n c := okWide_slice Tryd.underlying25 hv
  obtain ⟨fuel, hf⟩ := h
  obtain ⟨A2, n2, c2, xs, e, hs, hp⟩ := open_seq (E := byC) (fun x => x < 256) Tryd.underlying25 cells12B (fun m cs y _ hy => trod12_u8 hy) (show DataW.trod enc Tryd.prog W b1 sp hd fuel 25 [.slice A n c] = some (d, p) by simpa [Value.cells] using hf)
  simp only [List.cons.injEq, Value.slice.injEq, and_true] at e
  obtain ⟨rfl, rfl, rfl⟩ := e
  exact ⟨A, n, c, xs, rfl, hs, hp⟩
theorem trod12_three {m : Nat} {cs : List Value} {y : DataW H × List MemPlace} (hl : cs.length = 3) (h : DataW.trod enc Tryd.prog W b1 sp hd m 44 cs = some y) : ∃ x y z : Nat, cs = [.int .u8 (x : Int), .int .u8 (y : Int), .int .u8 (z : Int)] ∧ x < 256 ∧ y < 256 ∧ z < 256 := by
  obtain ⟨xs, m', _, _, _, hn, hel⟩ := DataW.trod_array Tryd.underlying44 h
  rw [cells12B] at hel
  match cs, hl, xs, hn with
  | [c0, c1, c2], _, [y0, y1, y2], _ =>
    have g0 : DataW.trod enc Tryd.prog W b1 sp hd m' 5 [c0] = some y0 := by simpa using hel 0 (by omega)
    have g1 : DataW.trod enc Tryd.prog W b1 sp hd m' 5 [c1] = some y1 := by simpa using hel 1 (by omega)
    have g2 : DataW.trod enc Tryd.prog W b1 sp hd m' 5 [c2] = some y2 := by simpa using hel 2 (by omega)
    obtain ⟨x0, e0, h0⟩ := trod12_u8 g0
    obtain ⟨x1, e1, h1⟩ := trod12_u8 g1
    obtain ⟨x2, e2, h2⟩ := trod12_u8 g2
    simp only [byC, List.cons.injEq, and_true] at e0 e1 e2
    subst e0 e1 e2
    exact ⟨x0, x1, x2, rfl, h0, h1, h2⟩
theorem cells12T : Tryd.prog.cellsOf 44 = 3 := by kernel_rfl
theorem cells12O : Tryd.prog.cellsOf 72 = 4 := by kernel_rfl
theorem cells12F : Tryd.prog.cellsOf 4 = 1 := by kernel_rfl
theorem trod12_op {m : Nat} {cs : List Value} {y : DataW H × List MemPlace} (hl : cs.length = 4) (h : DataW.trod enc Tryd.prog W b1 sp hd m 72 cs = some y) : ∃ o : Opn, cs = opC o ∧ (o.b0 < 256 ∧ o.b1 < 256 ∧ o.b2 < 256) := by
  obtain ⟨ys, m2, _, _, _, hn, hel⟩ := DataW.trod_struct Tryd.underlying72 h
  match cs, hl, ys, hn with
  | [c0, c1, c2, c3], _, [y0, y1], _ =>
    have g0 : DataW.trod enc Tryd.prog W b1 sp hd m2 44 [c0, c1, c2] = some y0 := by simpa [cells12T] using hel 0 _ rfl
    have g1 : DataW.trod enc Tryd.prog W b1 sp hd m2 4 [c3] = some y1 := by simpa [cells12F] using hel 1 _ rfl
    obtain ⟨x, y, z, e0, h0⟩ := trod12_three rfl g0
    obtain ⟨b, e1, _⟩ := DataW.trod_bool Tryd.underlying4 g1
    simp only [List.cons.injEq, and_true] at e0 e1
    obtain ⟨rfl, rfl, rfl⟩ := e0
    subst e1
    exact ⟨Opn.mk x y z b, rfl, h0⟩
theorem open12_ops (hv : Value.okWide Tryd.prog W .any base 22 v) (h : DataW.Trod enc Tryd.prog W b1 sp hd 22 v d p) : ∃ (A : Option Addr) (n c : Nat) (ops : List Opn), v = .slice A n c ∧ Sg opC 4 W A n c ops ∧ ∀ o ∈ ops, o.b0 < 256 ∧ o.b1 < 256 ∧ o.b2 < 256 := by
  obtain ⟨A, n, c, rfl⟩ : ∃ A n c, v = .slice A n c := okWide_slice Tryd.underlying22 hv
  obtain ⟨fuel, hf⟩ := h
  obtain ⟨A2, n2, c2, xs, e, hs, hp⟩ := open_seq (E := opC) (fun o => o.b0 < 256 ∧ o.b1 < 256 ∧ o.b2 < 256) Tryd.underlying22 cells12O (fun m cs y hl hy => trod12_op hl hy) (show DataW.trod enc Tryd.prog W b1 sp hd fuel 22 [.slice A n c] = some (d, p) by simpa [Value.cells] using hf)
  simp only [List.cons.injEq, Value.slice.injEq, and_true] at e
  obtain ⟨rfl, rfl, rfl⟩ := e
  exact ⟨A, n, c, xs, rfl, hs, hp⟩
theorem cells12R : Tryd.prog.cellsOf 24 = 4 := by kernel_rfl
theorem cells12I : Tryd.prog.cellsOf 3 = 1 := by kernel_rfl
theorem open12_reading (hv : Value.okWide Tryd.prog W .any base 24 v) (h : DataW.Trod enc Tryd.prog W b1 sp hd 24 v d p) : ∃ a b k q : Int, v = .agg #[.int .i64 a, .int .i64 b, .int .i64 k, .int .i64 q] := by
  obtain ⟨cs, rfl, hsz, _⟩ : ∃ cs, v = .agg cs ∧ cs.size = Tryd.prog.cellsOf 24 ∧ Row.okWide Tryd.prog W .any base 24 cs := by
    simpa [Value.okWide, Tryd.underlying24] using hv
  rw [cells12R] at hsz
  obtain ⟨c0, c1, c2, c3, rfl⟩ : ∃ c0 c1 c2 c3, cs = #[c0, c1, c2, c3] := by
    match cs, hsz with
    | ⟨[c0, c1, c2, c3]⟩, _ => exact ⟨c0, c1, c2, c3, rfl⟩
  obtain ⟨fuel, hf⟩ := h
  obtain ⟨ys, m', _, _, _, hn, hel⟩ := DataW.trod_struct Tryd.underlying24 (show DataW.trod enc Tryd.prog W b1 sp hd fuel 24 [c0, c1, c2, c3] = some (d, p) by simpa [Value.cells] using hf)
  match ys, hn with
  | [y0, y1, y2, y3], _ =>
    have g0 : DataW.trod enc Tryd.prog W b1 sp hd m' 3 [c0] = some y0 := by simpa [cells12I] using hel 0 _ rfl
    have g1 : DataW.trod enc Tryd.prog W b1 sp hd m' 3 [c1] = some y1 := by simpa [cells12I] using hel 1 _ rfl
    have g2 : DataW.trod enc Tryd.prog W b1 sp hd m' 3 [c2] = some y2 := by simpa [cells12I] using hel 2 _ rfl
    have g3 : DataW.trod enc Tryd.prog W b1 sp hd m' 3 [c3] = some y3 := by simpa [cells12I] using hel 3 _ rfl
    obtain ⟨a0, e0, _, _⟩ := DataW.trod_int Tryd.underlying3 g0
    obtain ⟨a1, e1, _, _⟩ := DataW.trod_int Tryd.underlying3 g1
    obtain ⟨a2, e2, _, _⟩ := DataW.trod_int Tryd.underlying3 g2
    obtain ⟨a3, e3, _, _⟩ := DataW.trod_int Tryd.underlying3 g3
    simp at e0 e1 e2 e3
    subst e0 e1 e2 e3
    exact ⟨a0, a1, a2, a3, rfl⟩
end
def laid12 : List (String × DataW Unit) := [("attestor/reading.widths", Rows.laid_attestor_reading_widths)]
theorem of_laid12 {W : World} (h : laidMetH Tryd.prog laid12 W) : Gw W := by
  rw [MakeChecks.laidMetH_plain _ _ _ (by kernel_rfl)] at h
  have h1 : laidMet Tryd.prog (("attestor/reading.widths", Lib.tabData .i64 [4, 8, 4, 8]) :: []) W := h
  have g1 : Tryd.prog.globalNamed "attestor/reading.widths" = some 0 := by kernel_rfl
  have t1 := Lib.tabIs_of_head g1 (t := 78) (by kernel_rfl) Tryd.underlying78 Tryd.underlying3 (by kernel_rfl) (by kernel_rfl) h1
  intro j v hv
  rw [Nat.zero_add]
  have hj := (List.getElem?_eq_some_iff.1 hv).1
  have h2 := t1.cell g1 j (by simpa using hj)
  rw [h2]
  have h4 : j = 0 ∨ j = 1 ∨ j = 2 ∨ j = 3 := by simp at hj; omega
  rcases h4 with rfl | rfl | rfl | rfl <;> exact hv
theorem door_met12 (os : Os) (args : Array Value) : laidMetH Tryd.prog laid12 ((World.doorLaid Tryd.prog 400 os).forCall (fun _ _ => 0) ⟨#[], args, []⟩).memory :=
  laidMetH_of_parts3 (fuel := 8) (laidMet_of_run' 8 (by kernel_rfl) (by kernel_rfl)) (by kernel_rfl) (by kernel_rfl)
end Go.Proofs.YtopicjdmajlndaaDoor

