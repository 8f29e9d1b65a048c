/- Several texts in one: Yv. -/
import Derived.Test.YtbcgfjlbjfkfmaaDoorRows
import Derived.Test.YtbcgfjlbjfkfmaaDoorTie
import Derived.ProofKit
import Derived.OpenShut
import Derived.ChangeOld
import Derived.ChangeSlices
import Derived.ChangeArms
import Derived.Below
import Derived.Lib.SmallJoins
import Derived.Lib.LaidTab
import Derived.LaidMore
import Derived.Deep.Slices
import Derived.Test.YtbcgfjlbjfkfmaaDoorH03
namespace Go.Proofs.YtbcgfjlbjfkfmaaDoor
set_option linter.unusedVariables false
set_option linter.unusedSimpArgs false
set_option linter.unusedSectionVars false
set_option maxRecDepth 8000
open Go.ChangeShapes Go.WideShapes Go.ChangeAt Go.RowKit Go.Joins Go.Deep Go.Proofs.YtbcgfjlbjfkfmaaDoor.K
theorem own : ownKnob Tryd.prog.godebug = none := by kernel_rfl
theorem laidOut : laidOutB Tryd.prog = true := by kernel_rfl
section
variable {H : Type} {enc : TypeId × Value → H} {W : World} {base : Nat} {sp : Nat → Bool} {b1 : Nat} {hd : Bool} {v : Value} {d : DataW H} {p : List MemPlace}
theorem cells13I : Tryd.prog.cellsOf 3 = 1 := by kernel_rfl
theorem cells13S : Tryd.prog.cellsOf 9 = 1 := by kernel_rfl
theorem cells13C : Tryd.prog.cellsOf 62 = 2 := by kernel_rfl
theorem cells13T : Tryd.prog.cellsOf 63 = 8 := by kernel_rfl
theorem cells13R : Tryd.prog.cellsOf 26 = 4 := by kernel_rfl
theorem open13_reading (hv : Value.okWide Tryd.prog W .any base 26 v) (h : DataW.Trod enc Tryd.prog W b1 sp hd 26 v d p) : ∃ a b k q : Int, v = .agg #[.int .i64 a, .int .i64 b, .int .i64 k, .int .i64 q] := by
  obtain ⟨cs, rfl, hsz, _⟩ : ∃ cs, v = .agg cs ∧ cs.size = Tryd.prog.cellsOf 26 ∧ Row.okWide Tryd.prog W .any base 26 cs := by
    simpa [Value.okWide, Tryd.underlying26] using hv
  rw [cells13R] at hsz
  obtain ⟨c0, c1, c2, c3, rfl⟩ : ∃ c0 c1 c2 c3, cs = #[c0, c1, c2, c3] := by
    match cs, hsz with
    | ⟨[c0, c1, c2, c3]⟩, _ => exact ⟨c0, c1, c2, c3, rfl⟩
  obtain ⟨fuel, hf⟩ := h
  obtain ⟨ys, m', _, _, _, hn, hel⟩ := DataW.trod_struct Tryd.underlying26 (show DataW.trod enc Tryd.prog W b1 sp hd fuel 26 [c0, c1, c2, c3] = some (d, p) by simpa [Value.cells] using hf)
  match ys, hn with
  | [y0, y1, y2, y3], _ =>
    have g0 : DataW.trod enc Tryd.prog W b1 sp hd m' 3 [c0] = some y0 := by simpa [cells13I] using hel 0 _ rfl
    have g1 : DataW.trod enc Tryd.prog W b1 sp hd m' 3 [c1] = some y1 := by simpa [cells13I] using hel 1 _ rfl
    have g2 : DataW.trod enc Tryd.prog W b1 sp hd m' 3 [c2] = some y2 := by simpa [cells13I] using hel 2 _ rfl
    have g3 : DataW.trod enc Tryd.prog W b1 sp hd m' 3 [c3] = some y3 := by simpa [cells13I] using hel 3 _ rfl
    obtain ⟨a0, e0, _, _⟩ := DataW.trod_int Tryd.underlying3 g0
    obtain ⟨a1, e1, _, _⟩ := DataW.trod_int Tryd.underlying3 g1
    obtain ⟨a2, e2, _, _⟩ := DataW.trod_int Tryd.underlying3 g2
    obtain ⟨a3, e3, _, _⟩ := DataW.trod_int Tryd.underlying3 g3
    simp at e0 e1 e2 e3
    subst e0 e1 e2 e3
    exact ⟨a0, a1, a2, a3, rfl⟩
theorem trod13_col {fuel : Nat} {c0 c1 : Value} {s : List UInt8} {z : Int} {q : List MemPlace} (h : DataW.trod enc Tryd.prog W b1 sp hd fuel 62 [c0, c1] = some (.agg [.lit (.string s), .lit (.int .i64 z)], q)) : c0 = .string (sB s) ∧ c1 = .int .i64 z := by
  obtain ⟨ys, m', _, hx, _, hn, hel⟩ := DataW.trod_struct Tryd.underlying62 h
  match ys, hn with
  | [y0, y1], _ =>
    have g0 : DataW.trod enc Tryd.prog W b1 sp hd m' 9 [c0] = some y0 := by simpa [cells13S] using hel 0 _ rfl
    have g1 : DataW.trod enc Tryd.prog W b1 sp hd m' 3 [c1] = some y1 := by simpa [cells13I] using hel 1 _ rfl
    obtain ⟨b0, e0, x0, _⟩ := DataW.trod_string Tryd.underlying9 g0
    obtain ⟨a1, e1, x1, _⟩ := DataW.trod_int Tryd.underlying3 g1
    subst x0
    have hx' := congrArg Prod.fst hx
    simp [x1] at hx' e0 e1
    obtain ⟨rfl, rfl⟩ := hx'
    subst e0 e1
    exact ⟨by rw [sB_of], rfl⟩
end
def laid13 : List (String × DataW Unit) := [("attestor/query.columns", Rows.laid_attestor_query_columns)]
theorem of_laid13 {W : World} (h : laidMetH Tryd.prog laid13 W) : Gc W := by
  rw [MakeChecks.laidMetH_plain _ _ _ (by kernel_rfl)] at h
  obtain ⟨ps, ⟨g', t', cs, fuel, p, q, hg', ht', hvar, hd, _, _⟩, _⟩ := h
  have g1 : Tryd.prog.globalNamed "attestor/query.columns" = some 0 := by kernel_rfl
  obtain rfl := Option.some.inj (g1.symm.trans hg')
  have t1 : (Tryd.prog.globals[0]?).map (·.type) = some 63 := by kernel_rfl
  obtain rfl := Option.some.inj (t1.symm.trans ht')
  obtain ⟨xs, m, _, hx, hl, hn, hel⟩ := DataW.trod_array Tryd.underlying63 hd
  rw [cells13T] at hl
  rw [cells13C] at hel
  have hx' := congrArg Prod.fst hx
  match cs, hl, xs, hn with
  | ⟨[c0, c1, c2, c3, c4, c5, c6, c7]⟩, _, [y0, y1, y2, y3], _ =>
    simp [Rows.laid_attestor_query_columns] at hx'
    obtain ⟨h0, h1, h2, h3⟩ := hx'
    have k0 := hel 0 (by omega)
    have k1 := hel 1 (by omega)
    have k2 := hel 2 (by omega)
    have k3 := hel 3 (by omega)
    simp at k0 k1 k2 k3
    obtain ⟨e0, e1⟩ := trod13_col (q := y0.2) (by rw [k0]; rw [h0])
    obtain ⟨e2, e3⟩ := trod13_col (q := y1.2) (by rw [k1]; rw [h1])
    obtain ⟨e4, e5⟩ := trod13_col (q := y2.2) (by rw [k2]; rw [h2])
    obtain ⟨e6, e7⟩ := trod13_col (q := y3.2) (by rw [k3]; rw [h3])
    subst e0 e1 e2 e3 e4 e5 e6 e7
    intro j v hv
    rw [Nat.zero_add]
    have hc := World.var?_cell g1 hvar j
    rw [hc]
    simpa [Qu.nameN] using hv
theorem door_met13 (os : Os) (args : Array Value) : laidMetH Tryd.prog laid13 ((World.doorLaid Tryd.prog 400 os).forCall (fun _ _ => 0) ⟨#[], args, []⟩).memory :=
  laidMetH_of_parts3 (fuel := 8) (laidMet_of_run' 8 (by kernel_rfl) (by kernel_rfl)) (by kernel_rfl) (by kernel_rfl)
end Go.Proofs.YtbcgfjlbjfkfmaaDoor

