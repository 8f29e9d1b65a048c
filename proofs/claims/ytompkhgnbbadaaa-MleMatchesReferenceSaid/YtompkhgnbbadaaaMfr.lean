/- The frames of the laws of package mle: queries, slices and changes that come in are opened. -/
import Derived.Test.YtompkhgnbbadaaaPolP
namespace Go.Proofs.Ytompkhgnbbadaaa
open Go.ChangeShapes Go.WideShapes Go.ChangeAt Go.RowKit Go.Joins Go.Deep Gold
section
variable {H : Type} {enc : TypeId × Value → H} {W : World} {base : Nat} {sp : Nat → Bool} {b1 : Nat} {hd : Bool} {v : Value} {d : DataW H} {p : List MemPlace}
theorem trod_exts {m : Nat} {c0 : Value} {y : DataW H × List MemPlace} (h : DataW.trod enc Try.prog W b1 sp hd m 22 [c0] = some y) : ∃ (A : Option Addr) (n c : Nat) (ps : List (Int × Int)), c0 = .slice A n c ∧ Sr W A n c ps ∧ Nums ps := by
  obtain ⟨d, p⟩ := y
  rcases open_slice Try.underlying22 h with ⟨hcs, _⟩ | ⟨a, len, cap, m', n', D, Pl, hcs, _, hl, hm, hmm, _, hi⟩
  · injection hcs with hcs
    subst hcs
    exact ⟨none, 0, 0, [], rfl, ⟨rfl, Nat.le_refl _, Nat.zero_le _, fun _ => rfl, fun i p hp => by simp at hp⟩, fun p hp => by cases hp⟩
  · injection hcs with hcs
    subst hcs
    unfold maxLen at hm
    have hC : ∀ i, i < len → ∃ q : Int × Int, AtV W a i (.int .u64 q.1, .int .u64 q.2) ∧ U64 q.1 ∧ U64 q.2 := fun i hin => by
      obtain ⟨cs', hc, ht⟩ := hi i (by rw [hmm]; split <;> omega)
      rw [cellsOfE] at hc
      obtain ⟨_, hcl, hat⟩ := World.cells?_some hc
      match cs', hcl with
      | [c0, c1], _ =>
        obtain ⟨a0, a1, rfl, rfl, u0, u1⟩ := trod_ext ht
        have h0 := hat 0 (by omega)
        have h1 := hat 1 (by omega)
        refine ⟨(a0, a1), ⟨?_, ?_⟩, u0, u1⟩
        · exact h0
        · have e : (a.add (i * 2)).add 1 = ⟨(a.add (i * 2)).block, (a.add (i * 2)).off + 1, none⟩ := by
            unfold Addr.add
            simp
          rw [← e]
          exact h1
    obtain ⟨ps, hpl, hpp⟩ := list_of len _ hC
    refine ⟨some a, len, cap, ps, rfl, ⟨by simp [hpl], hl, by omega, (fun e => by cases e), fun i q hq => ?_⟩, fun q hq => ?_⟩
    · rw [List.getElem?_map] at hq
      cases hx : ps[i]? with
      | none => rw [hx] at hq; cases hq
      | some x =>
        rw [hx] at hq
        injection hq with hq
        subst hq
        exact ⟨a, rfl, (hpp i x hx).1⟩
    · obtain ⟨i, hi'⟩ := List.getElem?_of_mem hq
      exact (hpp i q hi').2
theorem cellsQ : Try.prog.cellsOf 24 = 4 := by kernel_rfl
theorem cellsS : Try.prog.cellsOf 22 = 1 := by kernel_rfl
theorem cellsU8 : Try.prog.cellsOf 5 = 1 := by kernel_rfl
theorem open_query (hv : Value.okWide Try.prog W .any base 24 v) (h : DataW.Trod enc Try.prog W b1 sp hd 24 v d p) :
    ∃ (A : Option Addr) (n c : Nat) (ts : List (Int × Int)) (B : Option Addr) (m e : Nat) (us : List (Int × Int)) (C : Option Addr) (k f : Nat) (vs : List (Int × Int)) (N : Int),
      v = .agg #[.slice A n c, .slice B m e, .slice C k f, .int .u8 N] ∧ Sr W A n c ts ∧ Sr W B m e us ∧ Sr W C k f vs ∧ Nums ts ∧ Nums us ∧ Nums vs ∧ (0 ≤ N ∧ N ≤ 255) := by
  obtain ⟨cs, rfl, hsz, _⟩ : ∃ cs, v = .agg cs ∧ cs.size = Try.prog.cellsOf 24 ∧ Row.okWide Try.prog W .any base 24 cs := by
    simpa [Value.okWide, Try.underlying24] using hv
  rw [cellsQ] at hsz
  obtain ⟨c0, c1, c2, c3, rfl⟩ := array4 hsz
  obtain ⟨fuel, hf⟩ := h
  obtain ⟨xs, m', _, _, _, hn, hel⟩ := DataW.trod_struct Try.underlying24 (show DataW.trod enc Try.prog W b1 sp hd fuel 24 [c0, c1, c2, c3] = some (d, p) by simpa [Value.cells] using hf)
  match xs, hn with
  | [y0, y1, y2, y3], _ =>
    have g0 : DataW.trod enc Try.prog W b1 sp hd m' 22 [c0] = some y0 := by simpa [cellsS, cellsU8] using hel 0 _ rfl
    have g1 : DataW.trod enc Try.prog W b1 sp hd m' 22 [c1] = some y1 := by simpa [cellsS, cellsU8] using hel 1 _ rfl
    have g2 : DataW.trod enc Try.prog W b1 sp hd m' 22 [c2] = some y2 := by simpa [cellsS, cellsU8] using hel 2 _ rfl
    have g3 : DataW.trod enc Try.prog W b1 sp hd m' 5 [c3] = some y3 := by simpa [cellsS, cellsU8] using hel 3 _ rfl
    obtain ⟨A, n, c, ts, rfl, s0, u0⟩ := trod_exts g0
    obtain ⟨B, m, e, us, rfl, s1, u1⟩ := trod_exts g1
    obtain ⟨C, k, f, vs, rfl, s2, u2⟩ := trod_exts g2
    obtain ⟨a3, e3, _, w3⟩ := DataW.trod_int Try.underlying5 g3
    simp at e3
    subst e3
    exact ⟨A, n, c, ts, B, m, e, us, C, k, f, vs, a3, rfl, s0, s1, s2, u0, u1, u2, bounds_u8 w3⟩
end
end Go.Proofs.Ytompkhgnbbadaaa
