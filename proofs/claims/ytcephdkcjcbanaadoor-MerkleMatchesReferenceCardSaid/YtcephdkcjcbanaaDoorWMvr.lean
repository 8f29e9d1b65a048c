/- Frames of the two laws that compare with the reference: indices, leaves, openings and memberships that come in are opened. -/
import Derived.Test.YtcephdkcjcbanaaDoorH23
namespace Go.Proofs.YtcephdkcjcbanaaDoor
set_option maxRecDepth 8000
set_option linter.unusedVariables false
set_option linter.unusedSimpArgs false
open Go.ChangeShapes Go.WideShapes Go.ChangeAt Go.RowKit Go.Joins Go.Deep
section
variable {H : Type} {enc : TypeId × Value → H} {W : World} {base : Nat} {sp : Nat → Bool} {b1 : Nat} {hd : Bool} {v : Value} {d : DataW H} {p : List MemPlace}
theorem cellsIn8 : Tryd.prog.cellsOf 3 = 1 := by kernel_rfl
theorem trod_idx8 {m : Nat} {c0 : Value} {y : DataW H × List MemPlace} (h : DataW.trod enc Tryd.prog W b1 sp hd m 26 [c0] = some y) : ∃ (A : Option Addr) (n c : Nat) (zs : List Int), c0 = .slice A n c ∧ Ib W A n c zs := by
  obtain ⟨d, p⟩ := y
  rcases open_slice Tryd.underlying26 h with ⟨hcs, _⟩ | ⟨a, len, cap, m', n', D, Pl, hcs, _, hl, hm, hmm, _, hi⟩
  · injection hcs with hcs
    subst hcs
    exact ⟨none, 0, 0, [], rfl, Ib.nil_ _⟩
  · injection hcs with hcs
    subst hcs
    unfold maxLen at hm
    have hC : ∀ i, i < len → ∃ z : Int, W.cell? (a.add i) = some (.int .i64 z) := fun i hin => by
      obtain ⟨cs', hc, ht⟩ := hi i (by rw [hmm]; split <;> omega)
      rw [cellsIn8] at hc
      obtain ⟨_, hcl, hat⟩ := World.cells?_some hc
      match cs', hcl with
      | [c0], _ =>
        obtain ⟨z, e, _, _⟩ := DataW.trod_int Tryd.underlying3 ht
        simp at e
        subst e
        have h0 := hat 0 (by omega)
        simp only [Nat.mul_one] at h0
        exact ⟨z, h0⟩
    obtain ⟨zs, hpl, hpp⟩ := list_of8 len _ hC
    exact ⟨some a, len, cap, zs, rfl, hpl.symm, hl, by omega, (fun e => by cases e), fun i z hz => ⟨a, rfl, hpp i z hz⟩⟩
theorem open_idx8 (hv : Value.okWide Tryd.prog W .any base 26 v) (h : DataW.Trod enc Tryd.prog W b1 sp hd 26 v d p) : ∃ (A : Option Addr) (n c : Nat) (zs : List Int), v = .slice A n c ∧ Ib W A n c zs := by
  obtain ⟨A, n, c, rfl⟩ : ∃ A n c, v = .slice A n c := okWide_slice Tryd.underlying26 hv
  obtain ⟨fuel, hf⟩ := h
  exact (trod_idx8 (y := (d, p)) (show DataW.trod enc Tryd.prog W b1 sp hd fuel 26 [.slice A n c] = some (d, p) from by simpa [Value.cells] using hf))
end
end Go.Proofs.YtcephdkcjcbanaaDoor
