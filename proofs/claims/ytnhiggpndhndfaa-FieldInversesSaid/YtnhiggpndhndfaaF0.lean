/- The frames of the laws: an array of words that comes in is opened, and nothing that it reads has changed behind the call. -/
import Derived.Test.YtnhiggpndhndfaaRows
import Derived.Test.YtnhiggpndhndfaaFe
import Derived.WalkKit
import Derived.ProofKit
import Derived.OpenShut
import Derived.ChangeOld
import Derived.Below
import Derived.Lib.SmallJoins
namespace Go.Proofs.Ytnhiggpndhndfaa
open Go.ChangeShapes Go.WideShapes Go.ChangeAt Go.RowKit Go.Joins Gold

theorem own : ownKnob Try.prog.godebug = none := by kernel_rfl
theorem laidOut : laidOutB Try.prog = true := by kernel_rfl
theorem cells22 : Try.prog.cellsOf 22 = 1 := by kernel_rfl
theorem cells23 : Try.prog.cellsOf 23 = 2 := by kernel_rfl
theorem cells34 : Try.prog.cellsOf 34 = 3 := by kernel_rfl

theorem wf_u64 {n : Int} (h : (Lit.int .u64 n).wf = true) : U64 n := by
  have := bounds_u64 h
  unfold U64
  omega

theorem open_two {H : Type} {enc : TypeId × Value → H} {W : World} {base : Nat} {sp : Nat → Bool} {b1 : Nat} {hd : Bool} {v : Value} {d : DataW H} {p : List MemPlace}
    (hv : Value.okWide Try.prog W .any base 23 v) (h : DataW.Trod enc Try.prog W b1 sp hd 23 v d p) : ∃ x0 x1 : Int, v = .agg #[.int .u64 x0, .int .u64 x1] ∧ U64 x0 ∧ U64 x1 := by
  obtain ⟨cs, rfl, hsz, _⟩ : ∃ cs, v = .agg cs ∧ cs.size = Try.prog.cellsOf 23 ∧ Row.okWide Try.prog W .any base 23 cs := by
    simpa [Value.okWide, Try.underlying23] using hv
  rw [cells23] at hsz
  obtain ⟨c0, c1, rfl⟩ := array2 hsz
  obtain ⟨fuel, hf⟩ := h
  obtain ⟨xs, m, _, _, _, hn, hel⟩ := DataW.trod_array Try.underlying23 hf
  rw [cells22] at hel
  match xs, hn with
  | [y0, y1], _ =>
    have g0 : DataW.trod enc Try.prog W b1 sp hd m 22 [c0] = some y0 := by simpa [Value.cells] using hel 0 (by omega)
    have g1 : DataW.trod enc Try.prog W b1 sp hd m 22 [c1] = some y1 := by simpa [Value.cells] using hel 1 (by omega)
    obtain ⟨a0, e0, _, w0⟩ := DataW.trod_int Try.underlying22 g0
    obtain ⟨a1, e1, _, w1⟩ := DataW.trod_int Try.underlying22 g1
    simp at e0 e1
    subst e0 e1
    exact ⟨a0, a1, rfl, wf_u64 w0, wf_u64 w1⟩

theorem open_three {H : Type} {enc : TypeId × Value → H} {W : World} {base : Nat} {sp : Nat → Bool} {b1 : Nat} {hd : Bool} {v : Value} {d : DataW H} {p : List MemPlace}
    (hv : Value.okWide Try.prog W .any base 34 v) (h : DataW.Trod enc Try.prog W b1 sp hd 34 v d p) : ∃ x0 x1 x2 : Int, v = .agg #[.int .u64 x0, .int .u64 x1, .int .u64 x2] ∧ U64 x0 ∧ U64 x1 ∧ U64 x2 := by
  obtain ⟨cs, rfl, hsz, _⟩ : ∃ cs, v = .agg cs ∧ cs.size = Try.prog.cellsOf 34 ∧ Row.okWide Try.prog W .any base 34 cs := by
    simpa [Value.okWide, Try.underlying34] using hv
  rw [cells34] at hsz
  obtain ⟨c0, c1, c2, rfl⟩ := array3 hsz
  obtain ⟨fuel, hf⟩ := h
  obtain ⟨xs, m, _, _, _, hn, hel⟩ := DataW.trod_array Try.underlying34 hf
  rw [cells22] at hel
  match xs, hn with
  | [y0, y1, y2], _ =>
    have g0 : DataW.trod enc Try.prog W b1 sp hd m 22 [c0] = some y0 := by simpa [Value.cells] using hel 0 (by omega)
    have g1 : DataW.trod enc Try.prog W b1 sp hd m 22 [c1] = some y1 := by simpa [Value.cells] using hel 1 (by omega)
    have g2 : DataW.trod enc Try.prog W b1 sp hd m 22 [c2] = some y2 := by simpa [Value.cells] using hel 2 (by omega)
    obtain ⟨a0, e0, _, w0⟩ := DataW.trod_int Try.underlying22 g0
    obtain ⟨a1, e1, _, w1⟩ := DataW.trod_int Try.underlying22 g1
    obtain ⟨a2, e2, _, w2⟩ := DataW.trod_int Try.underlying22 g2
    simp at e0 e1 e2
    subst e0 e1 e2
    exact ⟨a0, a1, a2, rfl, wf_u64 w0, wf_u64 w1, wf_u64 w2⟩

end Go.Proofs.Ytnhiggpndhndfaa
