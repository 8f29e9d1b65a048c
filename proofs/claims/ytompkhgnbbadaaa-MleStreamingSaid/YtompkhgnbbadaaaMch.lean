/- Slices of changes that come in: opened, and what they read as. -/
import Derived.Test.YtompkhgnbbadaaaMfr
namespace Go.Proofs.Ytompkhgnbbadaaa
open Go.ChangeShapes Go.WideShapes Go.ChangeAt Go.RowKit Go.Joins Go.Deep Gold
/-- change i lies at a -/
def AtC (w : World) (a : Addr) (i : Nat) (q : Int × Int × Int) : Prop := w.cell? (a.add (i * 3)) = some (.int .u8 q.1) ∧ w.cell? ⟨(a.add (i * 3)).block, (a.add (i * 3)).off + 1, none⟩ = some (.int .u64 q.2.1) ∧ w.cell? ⟨(a.add (i * 3)).block, (a.add (i * 3)).off + 2, none⟩ = some (.int .u64 q.2.2)
def SrC (w : World) (A : Option Addr) (n c : Nat) (qs : List (Int × Int × Int)) : Prop := n = qs.length ∧ n ≤ c ∧ c ≤ 9223372036854775807 ∧ ∀ i q, qs[i]? = some q → ∃ ad, A = some ad ∧ AtC w ad i q
def NumC (qs : List (Int × Int × Int)) : Prop := ∀ q, q ∈ qs → (0 ≤ q.1 ∧ q.1 ≤ 255) ∧ U64 q.2.1 ∧ U64 q.2.2
theorem SrC.keep {w w' : World} {A : Option Addr} {n c : Nat} {qs : List (Int × Int × Int)} (h : SrC w A n c qs) (hb : Below w.heap.size w w') : SrC w' A n c qs := ⟨h.1, h.2.1, h.2.2.1, fun i q hq => by
  obtain ⟨ad, e, h0, h1, h2⟩ := h.2.2.2 i q hq
  exact ⟨ad, e, cell_keep h0 hb, cell_keep h1 hb, cell_keep h2 hb⟩⟩
section
variable {H : Type} {enc : TypeId × Value → H} {W : World} {base : Nat} {sp : Nat → Bool} {b1 : Nat} {hd : Bool} {v : Value} {d : DataW H} {p : List MemPlace}
theorem cellsCh : Try.prog.cellsOf 53 = 3 := by kernel_rfl
theorem trod_change {m : Nat} {c0 c1 c2 : Value} {y : DataW H × List MemPlace} (h : DataW.trod enc Try.prog W b1 sp hd m 53 [c0, c1, c2] = some y) : ∃ a0 a1 a2 : Int, c0 = .int .u8 a0 ∧ c1 = .int .u64 a1 ∧ c2 = .int .u64 a2 ∧ (0 ≤ a0 ∧ a0 ≤ 255) ∧ U64 a1 ∧ U64 a2 := by
  obtain ⟨xs, m', _, _, _, hn, hel⟩ := DataW.trod_struct Try.underlying53 h
  match xs, hn with
  | [y0, y1], _ =>
    have g0 : DataW.trod enc Try.prog W b1 sp hd m' 5 [c0] = some y0 := by simpa [cellsU8, cellsOfE] using hel 0 _ rfl
    have g1 : DataW.trod enc Try.prog W b1 sp hd m' 27 [c1, c2] = some y1 := by simpa [cellsU8, cellsOfE] using hel 1 _ rfl
    obtain ⟨a0, e0, _, w0⟩ := DataW.trod_int Try.underlying5 g0
    obtain ⟨a1, a2, rfl, rfl, u1, u2⟩ := trod_ext g1
    simp at e0
    subst e0
    exact ⟨a0, a1, a2, rfl, rfl, rfl, bounds_u8 w0, u1, u2⟩
theorem open_changes (hv : Value.okWide Try.prog W .any base 51 v) (h : DataW.Trod enc Try.prog W b1 sp hd 51 v d p) : ∃ (A : Option Addr) (n c : Nat) (ps : List (Int × Int × Int)), v = .slice A n c ∧ SrC W A n c ps ∧ NumC ps := by
  obtain ⟨A, n, c, rfl⟩ : ∃ A n c, v = .slice A n c := okWide_slice Try.underlying51 hv
  obtain ⟨fuel, hf⟩ := h
  rcases open_slice Try.underlying51 (show DataW.trod enc Try.prog W b1 sp hd fuel 51 [.slice A n c] = some (d, p) from by simpa [Value.cells] using hf) with ⟨hcs, _⟩ | ⟨a, len, cap, m, n', D, Pl, hcs, _, hl, hm, hmm, _, hi⟩
  · injection hcs with hcs
    injection hcs with e1 e2 e3
    subst e1 e2 e3
    exact ⟨none, 0, 0, [], rfl, ⟨rfl, Nat.le_refl _, Nat.zero_le _, fun i p hp => by simp at hp⟩, fun p hp => by cases hp⟩
  · injection hcs with hcs
    injection hcs with e1 e2 e3
    subst e1 e2 e3
    unfold maxLen at hm
    have hC : ∀ i, i < n → ∃ q : Int × Int × Int, AtC W a i q ∧ (0 ≤ q.1 ∧ q.1 ≤ 255) ∧ U64 q.2.1 ∧ U64 q.2.2 := fun i hin => by
      obtain ⟨cs', hc, ht⟩ := hi i (by rw [hmm]; split <;> omega)
      rw [cellsCh] at hc
      obtain ⟨_, hcl, hat⟩ := World.cells?_some hc
      match cs', hcl with
      | [c0, c1, c2], _ =>
        obtain ⟨a0, a1, a2, rfl, rfl, rfl, u0, u1, u2⟩ := trod_change ht
        have h0 := hat 0 (by omega)
        have h1 := hat 1 (by omega)
        have h2 := hat 2 (by omega)
        refine ⟨(a0, a1, a2), ⟨?_, ?_, ?_⟩, u0, u1, u2⟩
        · exact h0
        · have e : (a.add (i * 3)).add 1 = ⟨(a.add (i * 3)).block, (a.add (i * 3)).off + 1, none⟩ := by
            unfold Addr.add
            simp
          rw [← e]
          exact h1
        · have e : (a.add (i * 3)).add 2 = ⟨(a.add (i * 3)).block, (a.add (i * 3)).off + 2, none⟩ := by
            unfold Addr.add
            simp
          rw [← e]
          exact h2
    obtain ⟨ps, hpl, hpp⟩ := list_of n _ hC
    refine ⟨some a, n, c, ps, rfl, ⟨by simp [hpl], hl, by omega, fun i q hq => ⟨a, rfl, (hpp i q hq).1⟩⟩, fun q hq => ?_⟩
    obtain ⟨i, hi'⟩ := List.getElem?_of_mem hq
    exact (hpp i q hi').2
end
end Go.Proofs.Ytompkhgnbbadaaa
