/- The frames of the extension's laws: elements and arrays of elements that come in are opened; nothing that is read has changed behind the call. -/
import Derived.Test.YtombcjdhjcmhhaaRows
import Derived.Test.YtombcjdhjcmhhaaFe
import Derived.WalkKit
import Derived.ProofKit
import Derived.OpenShut
import Derived.ChangeOld
import Derived.Below
import Derived.Lib.SmallJoins
namespace Go.Proofs.Ytombcjdhjcmhhaa
set_option maxRecDepth 8000
open Go.ChangeShapes Go.WideShapes Go.ChangeAt Go.RowKit Go.Joins Gold

theorem own : ownKnob Try.prog.godebug = none := by kernel_rfl
theorem laidOut : laidOutB Try.prog = true := by kernel_rfl
theorem cellsW : Try.prog.cellsOf 41 = 1 := by kernel_rfl
theorem cellsOfE : Try.prog.cellsOf 43 = 2 := by kernel_rfl

theorem wf_u64 {n : Int} (h : (Lit.int .u64 n).wf = true) : U64 n := by
  have := bounds_u64 h
  unfold U64
  omega
theorem array6 {α : Type} {cs : Array α} (h : cs.size = 6) : ∃ c0 c1 c2 c3 c4 c5, cs = #[c0, c1, c2, c3, c4, c5] := by
  obtain ⟨l⟩ := cs
  match l, h with
  | [a, b, c, d, e, f], _ => exact ⟨a, b, c, d, e, f, rfl⟩
section
variable {H : Type} {enc : TypeId × Value → H} {W : World} {base : Nat} {sp : Nat → Bool} {b1 : Nat} {hd : Bool} {v : Value} {d : DataW H} {p : List MemPlace}

theorem trod_ext {m : Nat} {c0 c1 : Value} {y : DataW H × List MemPlace} (h : DataW.trod enc Try.prog W b1 sp hd m 43 [c0, c1] = some y) : ∃ a0 a1 : Int, c0 = .int .u64 a0 ∧ c1 = .int .u64 a1 ∧ U64 a0 ∧ U64 a1 := by
  obtain ⟨xs, m', _, _, _, hn, hel⟩ := DataW.trod_struct Try.underlying43 h
  match xs, hn with
  | [y0, y1], _ =>
    have g0 : DataW.trod enc Try.prog W b1 sp hd m' 41 [c0] = some y0 := by simpa [cellsW] using hel 0 _ rfl
    have g1 : DataW.trod enc Try.prog W b1 sp hd m' 41 [c1] = some y1 := by simpa [cellsW] using hel 1 _ rfl
    obtain ⟨a0, e0, _, w0⟩ := DataW.trod_int Try.underlying41 g0
    obtain ⟨a1, e1, _, w1⟩ := DataW.trod_int Try.underlying41 g1
    simp at e0 e1
    exact ⟨a0, a1, e0, e1, wf_u64 w0, wf_u64 w1⟩
theorem open_ext (hv : Value.okWide Try.prog W .any base 43 v) (h : DataW.Trod enc Try.prog W b1 sp hd 43 v d p) : ∃ x0 x1 : Int, v = .agg #[.int .u64 x0, .int .u64 x1] ∧ U64 x0 ∧ U64 x1 := by
  obtain ⟨cs, rfl, hsz, _⟩ : ∃ cs, v = .agg cs ∧ cs.size = Try.prog.cellsOf 43 ∧ Row.okWide Try.prog W .any base 43 cs := by
    simpa [Value.okWide, Try.underlying43] using hv
  rw [cellsOfE] at hsz
  obtain ⟨c0, c1, rfl⟩ := array2 hsz
  obtain ⟨fuel, hf⟩ := h
  obtain ⟨a0, a1, rfl, rfl, u0, u1⟩ := trod_ext (by simpa [Value.cells] using hf)
  exact ⟨a0, a1, rfl, u0, u1⟩
end

end Go.Proofs.Ytombcjdhjcmhhaa
