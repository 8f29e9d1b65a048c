/- The frames of the laws of stage 7: arrays of byte slices that come in are opened. -/
import Derived.Test.YtliflbelhogopaaDoorShf0
import Derived.Test.YtliflbelhogopaaDoorShl5
import Derived.Test.YtliflbelhogopaaDoorDecl
namespace Go.Proofs.YtliflbelhogopaaDoor
set_option maxRecDepth 8000
open Go.ChangeShapes Go.WideShapes Go.ChangeAt Go.RowKit Go.Joins
attribute [local simp] z32_ne z32_run

section
variable {H : Type} {enc : TypeId × Value → H} {W : World} {base : Nat} {sp : Nat → Bool} {b1 : Nat} {hd : Bool} {v : Value} {d : DataW H} {p : List MemPlace}
theorem bytes_of_trod {fuel : Nat} {cs : List Value} (hf : DataW.trod enc Tryd.prog W b1 sp hd fuel 22 cs = some (d, p)) : ∃ (A : Option Addr) (n c : Nat) (bs : List Nat), cs = [.slice A n c] ∧ Sb W A n c bs := by
  rcases open_ints Tryd.underlying22 Tryd.underlying5 cellsB hf with ⟨hcs, _⟩ | ⟨a, len, cap, zs, hcs, _, hl, hm, hlen, _, hcell, hwf⟩
  · exact ⟨none, 0, 0, [], hcs, Sb.nil_ _⟩
  · unfold maxLen at hm
    have hnl : len ≤ zs.length := by rw [hlen]; split <;> omega
    have hbd : ∀ z ∈ zs, 0 ≤ z ∧ z ≤ 255 := fun z hz => bounds_u8 (hwf z hz)
    refine ⟨some a, len, cap, (zs.take len).map Int.toNat, hcs, ⟨by rw [List.length_map, List.length_take]; omega, hl, by omega, (fun e => by cases e), fun x hx => ?_, fun i z hz => ⟨a, rfl, ?_⟩⟩⟩
    · obtain ⟨z, hz, rfl⟩ := List.mem_map.1 hx
      have := hbd z (List.mem_of_mem_take hz)
      omega
    · rw [List.getElem?_map] at hz
      cases hx : (zs.take len)[i]? with
      | none => rw [hx] at hz; cases hz
      | some x =>
        rw [hx] at hz
        injection hz with hz
        subst hz
        have hi := (List.getElem?_eq_some_iff.1 hx).1
        rw [List.length_take] at hi
        have hxz := hbd x (List.mem_of_mem_take (List.mem_of_getElem? hx))
        rw [List.getElem?_take_of_lt (by omega)] at hx
        have h1 := hcell i (by omega)
        rw [List.getD_eq_getElem?_getD, hx] at h1
        rw [Int.toNat_of_nonneg hxz.1]
        exact h1
theorem cellsS2 : Tryd.prog.cellsOf 23 = 2 := by kernel_rfl
theorem cellsS1 : Tryd.prog.cellsOf 22 = 1 := by kernel_rfl
theorem open_bytes2 (hv : Value.okWide Tryd.prog W .any base 23 v) (h : DataW.Trod enc Tryd.prog W b1 sp hd 23 v d p) :
    ∃ (A : Option Addr) (n c : Nat) (us : List Nat) (B : Option Addr) (m e : Nat) (bs : List Nat), v = .agg #[.slice A n c, .slice B m e] ∧ Sb W A n c us ∧ Sb W B m e bs := by
  obtain ⟨cs, rfl, hsz, _⟩ : ∃ cs, v = .agg cs ∧ cs.size = Tryd.prog.cellsOf 23 ∧ Row.okWide Tryd.prog W .any base 23 cs := by
    simpa [Value.okWide, Tryd.underlying23] using hv
  rw [cellsS2] at hsz
  obtain ⟨c0, c1, rfl⟩ := array2 hsz
  obtain ⟨fuel, hf⟩ := h
  obtain ⟨xs, m, _, _, _, hn, hel⟩ := DataW.trod_array Tryd.underlying23 hf
  rw [cellsS1] at hel
  match xs, hn with
  | [y0, y1], _ =>
    have g0 : DataW.trod enc Tryd.prog W b1 sp hd m 22 [c0] = some y0 := by simpa [Value.cells] using hel 0 (by omega)
    have g1 : DataW.trod enc Tryd.prog W b1 sp hd m 22 [c1] = some y1 := by simpa [Value.cells] using hel 1 (by omega)
    obtain ⟨A, n, c, us, e0, h0⟩ := bytes_of_trod (d := y0.1) (p := y0.2) g0
    obtain ⟨B, k, e, bs, e1, h1⟩ := bytes_of_trod (d := y1.1) (p := y1.2) g1
    injection e0 with e0
    injection e1 with e1
    subst e0 e1
    exact ⟨A, n, c, us, B, k, e, bs, rfl, h0, h1⟩
end
theorem run_allocD (ev : Operand → Value) (o : Oper) (w : World) (h : o.op = .alloc 26) : (execOp ev o).run Tryd.prog w = .ok (.value (ptr w.heap.size)) (w.alloc (.cells z32 26)) := by
  unfold execOp
  rw [h]
  go_simp
  exact ⟨rfl, rfl⟩
section
variable {P : Program} {ops : Array Oper} {w0 : World}
theorem wpCalm_val {Q : Act → Prop} {a : Act} {o : Oper} {rest : List Oper} (v : Value) (hw : Region.wanted o (yielded ops a.tmps) = true) (hr : ∀ x : Later w0, (execOp a.eval o).run P x.at = .ok (.value v) x.at) (h : wpCalm P ops w0 Q rest (a.put o.dst v)) : wpCalm P ops w0 Q (o :: rest) a := by
  unfold wpCalm
  rw [if_pos hw]
  exact ⟨v, fun x => by rw [hr x]; exact ⟨rfl, rfl⟩, h⟩
/-- the last operation, a run that yields a value -/
theorem mOp_val {m : Nat} {o : Oper} {a : Act} {w : World} {K : Act → World → Prop} (v : Value) (h0 : ops[m]? = some o) (hg : o.guard = none) (hr : (execOp a.eval o).run P w = .ok (.value v) w) (h : K (a.put o.dst v) w) : mOp P ops m K a w := by
  refine ⟨o, h0, by unfold Region.wanted; rw [hg], ?_⟩
  unfold hOp
  rw [hr]
  exact h
end
end Go.Proofs.YtliflbelhogopaaDoor
