/- The frames of laws over words: slices and pairs of words that come in are opened. -/
import Derived.Test.YtihneehceclffaaRows
import Derived.Test.YtihneehceclffaaNsl
import Derived.ProofKit
import Derived.OpenShut
import Derived.ChangeOld
import Derived.ChangeSlices
import Derived.Below
import Derived.Lib.SmallJoins
namespace Go.Proofs.Ytihneehceclffaa
open Go.ChangeShapes Go.WideShapes Go.ChangeAt Go.RowKit Go.Joins Gold

theorem own : ownKnob Try.prog.godebug = none := by kernel_rfl
theorem laidOut : laidOutB Try.prog = true := by kernel_rfl
theorem cellsW : Try.prog.cellsOf 34 = 1 := by kernel_rfl
theorem wf_u64 {n : Int} (h : (Lit.int .u64 n).wf = true) : U64 n := by
  have := bounds_u64 h
  unfold U64
  omega
section
variable {H : Type} {enc : TypeId × Value → H} {W : World} {base : Nat} {sp : Nat → Bool} {b1 : Nat} {hd : Bool} {v : Value} {d : DataW H} {p : List MemPlace}
theorem open_words (hv : Value.okWide Try.prog W .any base 22 v) (h : DataW.Trod enc Try.prog W b1 sp hd 22 v d p) : ∃ (A : Option Addr) (n c : Nat) (zs : List Int), v = .slice A n c ∧ Su W A n c zs ∧ ∀ z ∈ zs, U64 z := by
  obtain ⟨A, n, c, rfl⟩ : ∃ A n c, v = .slice A n c := okWide_slice Try.underlying22 hv
  obtain ⟨fuel, hf⟩ := h
  rcases open_ints Try.underlying22 Try.underlying34 cellsW (show DataW.trod enc Try.prog W b1 sp hd fuel 22 [.slice A n c] = some (d, p) from by simpa [Value.cells] using hf) with ⟨hcs, _⟩ | ⟨a, len, cap, zs, hcs, _, hl, hm, hlen, _, hcell, hwf⟩
  · injection hcs with hcs
    injection hcs with e1 e2 e3
    subst e1 e2 e3
    exact ⟨none, 0, 0, [], rfl, ⟨rfl, Nat.le_refl _, Nat.zero_le _, fun _ => rfl, fun i p hp => by simp at hp⟩, fun p hp => by cases hp⟩
  · injection hcs with hcs
    injection hcs with e1 e2 e3
    subst e1 e2 e3
    unfold maxLen at hm
    have hnl : n ≤ zs.length := by rw [hlen]; split <;> omega
    refine ⟨some a, n, c, zs.take n, rfl, ⟨by rw [List.length_take]; omega, hl, by omega, (fun e => by cases e), fun i z hz => ⟨a, rfl, ?_⟩⟩, fun z hz => wf_u64 (hwf z (List.mem_of_mem_take hz))⟩
    have hi := (List.getElem?_eq_some_iff.1 hz).1
    rw [List.length_take] at hi
    rw [List.getElem?_take_of_lt (by omega)] at hz
    have h1 := hcell i (by omega)
    rw [List.getD_eq_getElem?_getD, hz] at h1
    exact h1
theorem cellsP2 : Try.prog.cellsOf 35 = 2 := by kernel_rfl
theorem open_two64 (hv : Value.okWide Try.prog W .any base 35 v) (h : DataW.Trod enc Try.prog W b1 sp hd 35 v d p) : ∃ x0 x1 : Int, v = .agg #[.int .u64 x0, .int .u64 x1] ∧ U64 x0 ∧ U64 x1 := by
  obtain ⟨cs, rfl, hsz, _⟩ : ∃ cs, v = .agg cs ∧ cs.size = Try.prog.cellsOf 35 ∧ Row.okWide Try.prog W .any base 35 cs := by
    simpa [Value.okWide, Try.underlying35] using hv
  rw [cellsP2] at hsz
  obtain ⟨c0, c1, rfl⟩ := array2 hsz
  obtain ⟨fuel, hf⟩ := h
  obtain ⟨xs, m, _, _, _, hn, hel⟩ := DataW.trod_array Try.underlying35 hf
  rw [cellsW] at hel
  match xs, hn with
  | [y0, y1], _ =>
    have g0 : DataW.trod enc Try.prog W b1 sp hd m 34 [c0] = some y0 := by simpa [Value.cells] using hel 0 (by omega)
    have g1 : DataW.trod enc Try.prog W b1 sp hd m 34 [c1] = some y1 := by simpa [Value.cells] using hel 1 (by omega)
    obtain ⟨a0, e0, _, w0⟩ := DataW.trod_int Try.underlying34 g0
    obtain ⟨a1, e1, _, w1⟩ := DataW.trod_int Try.underlying34 g1
    simp at e0 e1
    subst e0 e1
    exact ⟨a0, a1, rfl, wf_u64 w0, wf_u64 w1⟩
theorem cellsB : Try.prog.cellsOf 5 = 1 := by kernel_rfl
theorem cellsB2 : Try.prog.cellsOf 42 = 2 := by kernel_rfl
theorem open_two8 (hv : Value.okWide Try.prog W .any base 42 v) (h : DataW.Trod enc Try.prog W b1 sp hd 42 v d p) : ∃ x0 x1 : Int, v = .agg #[.int .u8 x0, .int .u8 x1] ∧ (0 ≤ x0 ∧ x0 ≤ 255) ∧ (0 ≤ x1 ∧ x1 ≤ 255) := by
  obtain ⟨cs, rfl, hsz, _⟩ : ∃ cs, v = .agg cs ∧ cs.size = Try.prog.cellsOf 42 ∧ Row.okWide Try.prog W .any base 42 cs := by
    simpa [Value.okWide, Try.underlying42] using hv
  rw [cellsB2] at hsz
  obtain ⟨c0, c1, rfl⟩ := array2 hsz
  obtain ⟨fuel, hf⟩ := h
  obtain ⟨xs, m, _, _, _, hn, hel⟩ := DataW.trod_array Try.underlying42 hf
  rw [cellsB] at hel
  match xs, hn with
  | [y0, y1], _ =>
    have g0 : DataW.trod enc Try.prog W b1 sp hd m 5 [c0] = some y0 := by simpa [Value.cells] using hel 0 (by omega)
    have g1 : DataW.trod enc Try.prog W b1 sp hd m 5 [c1] = some y1 := by simpa [Value.cells] using hel 1 (by omega)
    obtain ⟨a0, e0, _, w0⟩ := DataW.trod_int Try.underlying5 g0
    obtain ⟨a1, e1, _, w1⟩ := DataW.trod_int Try.underlying5 g1
    simp at e0 e1
    subst e0 e1
    exact ⟨a0, a1, rfl, bounds_u8 w0, bounds_u8 w1⟩
end
end Go.Proofs.Ytihneehceclffaa
