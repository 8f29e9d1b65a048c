/- The frames of the extension's laws: elements and arrays of elements that come in are opened; nothing that is read has changed behind the call. -/
import Derived.Test.YtbjeicbphkglfaaRows
import Derived.Test.YtbjeicbphkglfaaFe
import Derived.WalkKit
import Derived.ProofKit
import Derived.OpenShut
import Derived.ChangeOld
import Derived.Below
import Derived.Lib.SmallJoins
namespace Go.Proofs.Ytbjeicbphkglfaa
open Go.ChangeShapes Go.WideShapes Go.ChangeAt Go.RowKit Go.Joins Gold

theorem own : ownKnob Try.prog.godebug = none := by kernel_rfl
theorem laidOut : laidOutB Try.prog = true := by kernel_rfl
theorem cellsW : Try.prog.cellsOf 22 = 1 := by kernel_rfl
theorem cellsE : Try.prog.cellsOf 24 = 2 := by kernel_rfl

theorem wf_u64 {n : Int} (h : (Lit.int .u64 n).wf = true) : U64 n := by
  have := bounds_u64 h
  unfold U64
  omega
theorem array6 {α : Type} {cs : Array α} (h : cs.size = 6) : ∃ c0 c1 c2 c3 c4 c5, cs = #[c0, c1, c2, c3, c4, c5] := by
  obtain ⟨l⟩ := cs
  match l, h with
  | [a, b, c, d, e, f], _ => exact ⟨a, b, c, d, e, f, rfl⟩
section
variable {H : Type} {enc : TypeId × Value → H} {W : World} {base : Nat} {sp : Nat → Bool} {b1 : Nat} {hd : Bool} {v : Value} {d : DataW H} {p : List MemPlace}

theorem trod_ext {m : Nat} {c0 c1 : Value} {y : DataW H × List MemPlace} (h : DataW.trod enc Try.prog W b1 sp hd m 24 [c0, c1] = some y) : ∃ a0 a1 : Int, c0 = .int .u64 a0 ∧ c1 = .int .u64 a1 ∧ U64 a0 ∧ U64 a1 := by
  obtain ⟨xs, m', _, _, _, hn, hel⟩ := DataW.trod_struct Try.underlying24 h
  match xs, hn with
  | [y0, y1], _ =>
    have g0 : DataW.trod enc Try.prog W b1 sp hd m' 22 [c0] = some y0 := by simpa [cellsW] using hel 0 _ rfl
    have g1 : DataW.trod enc Try.prog W b1 sp hd m' 22 [c1] = some y1 := by simpa [cellsW] using hel 1 _ rfl
    obtain ⟨a0, e0, _, w0⟩ := DataW.trod_int Try.underlying22 g0
    obtain ⟨a1, e1, _, w1⟩ := DataW.trod_int Try.underlying22 g1
    simp at e0 e1
    exact ⟨a0, a1, e0, e1, wf_u64 w0, wf_u64 w1⟩
theorem open_ext (hv : Value.okWide Try.prog W .any base 24 v) (h : DataW.Trod enc Try.prog W b1 sp hd 24 v d p) : ∃ x0 x1 : Int, v = .agg #[.int .u64 x0, .int .u64 x1] ∧ U64 x0 ∧ U64 x1 := by
  obtain ⟨cs, rfl, hsz, _⟩ : ∃ cs, v = .agg cs ∧ cs.size = Try.prog.cellsOf 24 ∧ Row.okWide Try.prog W .any base 24 cs := by
    simpa [Value.okWide, Try.underlying24] using hv
  rw [cellsE] at hsz
  obtain ⟨c0, c1, rfl⟩ := array2 hsz
  obtain ⟨fuel, hf⟩ := h
  obtain ⟨a0, a1, rfl, rfl, u0, u1⟩ := trod_ext (by simpa [Value.cells] using hf)
  exact ⟨a0, a1, rfl, u0, u1⟩
theorem cellsE2 : Try.prog.cellsOf 25 = 4 := by kernel_rfl
theorem open_ext2 (hv : Value.okWide Try.prog W .any base 25 v) (h : DataW.Trod enc Try.prog W b1 sp hd 25 v d p) : ∃ x0 x1 x2 x3 : Int, v = .agg #[.int .u64 x0, .int .u64 x1, .int .u64 x2, .int .u64 x3] ∧ U64 x0 ∧ U64 x1 ∧ U64 x2 ∧ U64 x3 := by
  obtain ⟨cs, rfl, hsz, _⟩ : ∃ cs, v = .agg cs ∧ cs.size = Try.prog.cellsOf 25 ∧ Row.okWide Try.prog W .any base 25 cs := by
    simpa [Value.okWide, Try.underlying25] using hv
  rw [cellsE2] at hsz
  obtain ⟨c0, c1, c2, c3, rfl⟩ := array4 hsz
  obtain ⟨fuel, hf⟩ := h
  obtain ⟨xs, m, _, _, _, hn, hel⟩ := DataW.trod_array Try.underlying25 hf
  rw [cellsE] at hel
  match xs, hn with
  | [y0, y1], _ =>
    obtain ⟨a0, a1, rfl, rfl, u0, u1⟩ := trod_ext (y := y0) (m := m) (c0 := c0) (c1 := c1) (by simpa [Value.cells] using hel 0 (by omega))
    obtain ⟨a2, a3, rfl, rfl, u2, u3⟩ := trod_ext (y := y1) (m := m) (c0 := c2) (c1 := c3) (by simpa [Value.cells] using hel 1 (by omega))
    exact ⟨a0, a1, a2, a3, rfl, u0, u1, u2, u3⟩
theorem cellsE3 : Try.prog.cellsOf 37 = 6 := by kernel_rfl
theorem open_ext3 (hv : Value.okWide Try.prog W .any base 37 v) (h : DataW.Trod enc Try.prog W b1 sp hd 37 v d p) : ∃ x0 x1 x2 x3 x4 x5 : Int, v = .agg #[.int .u64 x0, .int .u64 x1, .int .u64 x2, .int .u64 x3, .int .u64 x4, .int .u64 x5] ∧ U64 x0 ∧ U64 x1 ∧ U64 x2 ∧ U64 x3 ∧ U64 x4 ∧ U64 x5 := by
  obtain ⟨cs, rfl, hsz, _⟩ : ∃ cs, v = .agg cs ∧ cs.size = Try.prog.cellsOf 37 ∧ Row.okWide Try.prog W .any base 37 cs := by
    simpa [Value.okWide, Try.underlying37] using hv
  rw [cellsE3] at hsz
  obtain ⟨c0, c1, c2, c3, c4, c5, rfl⟩ := array6 hsz
  obtain ⟨fuel, hf⟩ := h
  obtain ⟨xs, m, _, _, _, hn, hel⟩ := DataW.trod_array Try.underlying37 hf
  rw [cellsE] at hel
  match xs, hn with
  | [y0, y1, y2], _ =>
    obtain ⟨a0, a1, rfl, rfl, u0, u1⟩ := trod_ext (y := y0) (m := m) (c0 := c0) (c1 := c1) (by simpa [Value.cells] using hel 0 (by omega))
    obtain ⟨a2, a3, rfl, rfl, u2, u3⟩ := trod_ext (y := y1) (m := m) (c0 := c2) (c1 := c3) (by simpa [Value.cells] using hel 1 (by omega))
    obtain ⟨a4, a5, rfl, rfl, u4, u5⟩ := trod_ext (y := y2) (m := m) (c0 := c4) (c1 := c5) (by simpa [Value.cells] using hel 2 (by omega))
    exact ⟨a0, a1, a2, a3, a4, a5, rfl, u0, u1, u2, u3, u4, u5⟩
theorem cellsI : Try.prog.cellsOf 21 = 1 := by kernel_rfl
theorem cellsI2 : Try.prog.cellsOf 44 = 2 := by kernel_rfl
theorem open_int32s (hv : Value.okWide Try.prog W .any base 44 v) (h : DataW.Trod enc Try.prog W b1 sp hd 44 v d p) : ∃ x0 x1 : Int, v = .agg #[.int .i32 x0, .int .i32 x1] ∧ (-2147483648 ≤ x0 ∧ x0 < 2147483648) ∧ (-2147483648 ≤ x1 ∧ x1 < 2147483648) := by
  obtain ⟨cs, rfl, hsz, _⟩ : ∃ cs, v = .agg cs ∧ cs.size = Try.prog.cellsOf 44 ∧ Row.okWide Try.prog W .any base 44 cs := by
    simpa [Value.okWide, Try.underlying44] using hv
  rw [cellsI2] at hsz
  obtain ⟨c0, c1, rfl⟩ := array2 hsz
  obtain ⟨fuel, hf⟩ := h
  obtain ⟨xs, m, _, _, _, hn, hel⟩ := DataW.trod_array Try.underlying44 hf
  rw [cellsI] at hel
  match xs, hn with
  | [y0, y1], _ =>
    have g0 : DataW.trod enc Try.prog W b1 sp hd m 21 [c0] = some y0 := by simpa [Value.cells] using hel 0 (by omega)
    have g1 : DataW.trod enc Try.prog W b1 sp hd m 21 [c1] = some y1 := by simpa [Value.cells] using hel 1 (by omega)
    obtain ⟨a0, e0, _, w0⟩ := DataW.trod_int Try.underlying21 g0
    obtain ⟨a1, e1, _, w1⟩ := DataW.trod_int Try.underlying21 g1
    simp at e0 e1
    subst e0 e1
    have h0 := bounds_i32 w0
    have h1 := bounds_i32 w1
    exact ⟨a0, a1, rfl, ⟨by omega, by omega⟩, ⟨by omega, by omega⟩⟩
end

end Go.Proofs.Ytbjeicbphkglfaa
