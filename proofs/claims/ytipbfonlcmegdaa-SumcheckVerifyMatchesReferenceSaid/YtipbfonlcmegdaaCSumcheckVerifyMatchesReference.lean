/- SumcheckVerifyMatchesReference: for every input the law returns true: Verify answers as the reference does; no condition. -/
import Derived.Test.YtipbfonlcmegdaaGe
import Derived.Test.YtipbfonlcmegdaaPolP
namespace Go.Proofs.Ytipbfonlcmegdaa
set_option maxRecDepth 8000
open Go.ChangeShapes Go.WideShapes Go.ChangeAt Go.RowKit Go.Joins Go.Deep Gold
section
variable {H : Type} {enc : TypeId × Value → H} {W : World} {base : Nat} {sp : Nat → Bool} {b1 : Nat} {hd : Bool} {v : Value} {d : DataW H} {p : List MemPlace}
theorem trod_exts {m : Nat} {c0 : Value} {y : DataW H × List MemPlace} (h : DataW.trod enc Try.prog W b1 sp hd m 22 [c0] = some y) : ∃ (A : Option Addr) (n c : Nat) (ps : List (Int × Int)), c0 = .slice A n c ∧ Sr W A n c ps ∧ Nums ps := by
  obtain ⟨d, p⟩ := y
  rcases open_slice Try.underlying22 h with ⟨hcs, _⟩ | ⟨a, len, cap, m', n', D, Pl, hcs, _, hl, hm, hmm, _, hi⟩
  · injection hcs with hcs
    subst hcs
    exact ⟨none, 0, 0, [], rfl, ⟨rfl, Nat.le_refl _, Nat.zero_le _, fun _ => rfl, fun i p hp => by simp at hp⟩, fun p hp => by cases hp⟩
  · injection hcs with hcs
    subst hcs
    unfold maxLen at hm
    have hC : ∀ i, i < len → ∃ q : Int × Int, AtV W a i (.int .u64 q.1, .int .u64 q.2) ∧ U64 q.1 ∧ U64 q.2 := fun i hin => by
      obtain ⟨cs', hc, ht⟩ := hi i (by rw [hmm]; split <;> omega)
      rw [cellsOfE] at hc
      obtain ⟨_, hcl, hat⟩ := World.cells?_some hc
      match cs', hcl with
      | [c0, c1], _ =>
        obtain ⟨a0, a1, rfl, rfl, u0, u1⟩ := trod_ext ht
        have h0 := hat 0 (by omega)
        have h1 := hat 1 (by omega)
        refine ⟨(a0, a1), ⟨?_, ?_⟩, u0, u1⟩
        · exact h0
        · have e : (a.add (i * 2)).add 1 = ⟨(a.add (i * 2)).block, (a.add (i * 2)).off + 1, none⟩ := by
            unfold Addr.add
            simp
          rw [← e]
          exact h1
    obtain ⟨ps, hpl, hpp⟩ := list_of len _ hC
    refine ⟨some a, len, cap, ps, rfl, ⟨by simp [hpl], hl, by omega, (fun e => by cases e), fun i q hq => ?_⟩, fun q hq => ?_⟩
    · rw [List.getElem?_map] at hq
      cases hx : ps[i]? with
      | none => rw [hx] at hq; cases hq
      | some x =>
        rw [hx] at hq
        injection hq with hq
        subst hq
        exact ⟨a, rfl, (hpp i x hx).1⟩
    · obtain ⟨i, hi'⟩ := List.getElem?_of_mem hq
      exact (hpp i q hi').2
theorem cellsS : Try.prog.cellsOf 22 = 1 := by kernel_rfl
theorem cellsI : Try.prog.cellsOf 3 = 1 := by kernel_rfl
theorem cellsK : Try.prog.cellsOf 59 = 2 := by kernel_rfl
theorem trod_rows {m : Nat} {c0 : Value} {y : DataW H × List MemPlace} (h : DataW.trod enc Try.prog W b1 sp hd m 40 [c0] = some y) : ∃ (A : Option Addr) (n c : Nat) (Qs : List (List (Int × Int))), c0 = .slice A n c ∧ SW W A n c Qs ∧ ∀ q ∈ Qs, Nums q := by
  obtain ⟨d, p⟩ := y
  rcases open_slice Try.underlying40 h with ⟨hcs, _⟩ | ⟨a, len, cap, m', n', D, Pl, hcs, _, hl, hm, hmm, _, hi⟩
  · injection hcs with hcs
    subst hcs
    exact ⟨none, 0, 0, [], rfl, SlS.nil _, fun p hp => by cases hp⟩
  · injection hcs with hcs
    subst hcs
    unfold maxLen at hm
    have hC : ∀ i, i < len → ∃ q : List (Int × Int), (∃ B m d, W.cell? (a.add i) = some (.slice B m d) ∧ Sr W B m d q) ∧ Nums q := fun i hin => by
      obtain ⟨cs', hc, ht⟩ := hi i (by rw [hmm]; split <;> omega)
      rw [cellsS] at hc
      obtain ⟨_, hcl, hat⟩ := World.cells?_some hc
      match cs', hcl with
      | [c0], _ =>
        obtain ⟨B, m, d, ps, rfl, hs, hn⟩ := trod_exts ht
        have h0 := hat 0 (by omega)
        simp only [Nat.mul_one] at h0
        exact ⟨ps, ⟨B, m, d, h0, hs⟩, hn⟩
    obtain ⟨Qs, hpl, hpp⟩ := list_of len _ hC
    refine ⟨some a, len, cap, Qs, rfl, ⟨by simp [hpl], hl, by omega, fun i q hq => ?_⟩, fun q hq => ?_⟩
    · rw [List.getElem?_map] at hq
      cases hx : Qs[i]? with
      | none => rw [hx] at hq; cases hq
      | some x =>
        rw [hx] at hq
        injection hq with hq
        subst hq
        obtain ⟨⟨B, m, d, k1, k2⟩, _⟩ := hpp i x hx
        exact ⟨a, B, m, d, rfl, k1, k2⟩
    · obtain ⟨i, hi'⟩ := List.getElem?_of_mem hq
      exact (hpp i q hi').2
theorem open_rows (hv : Value.okWide Try.prog W .any base 40 v) (h : DataW.Trod enc Try.prog W b1 sp hd 40 v d p) : ∃ (A : Option Addr) (n c : Nat) (Qs : List (List (Int × Int))), v = .slice A n c ∧ SW W A n c Qs ∧ ∀ q ∈ Qs, Nums q := by
  obtain ⟨A, n, c, rfl⟩ : ∃ A n c, v = .slice A n c := okWide_slice Try.underlying40 hv
  obtain ⟨fuel, hf⟩ := h
  exact trod_rows (show DataW.trod enc Try.prog W b1 sp hd fuel 40 [.slice A n c] = some (d, p) by simpa [Value.cells] using hf)
theorem open_coins (hv : Value.okWide Try.prog W .any base 59 v) (h : DataW.Trod enc Try.prog W b1 sp hd 59 v d p) :
    ∃ (A : Option Addr) (n c : Nat) (ts : List (Int × Int)) (D : Int), v = .agg #[.slice A n c, .int .i64 D] ∧ Sr W A n c ts ∧ Nums ts := by
  obtain ⟨cs, rfl, hsz, _⟩ : ∃ cs, v = .agg cs ∧ cs.size = Try.prog.cellsOf 59 ∧ Row.okWide Try.prog W .any base 59 cs := by
    simpa [Value.okWide, Try.underlying59] using hv
  rw [cellsK] at hsz
  obtain ⟨c0, c1, rfl⟩ : ∃ c0 c1, cs = #[c0, c1] := by
    match cs, hsz with
    | ⟨[c0, c1]⟩, _ => exact ⟨c0, c1, rfl⟩
  obtain ⟨fuel, hf⟩ := h
  obtain ⟨xs, m', _, _, _, hn, hel⟩ := DataW.trod_struct Try.underlying59 (show DataW.trod enc Try.prog W b1 sp hd fuel 59 [c0, c1] = some (d, p) by simpa [Value.cells] using hf)
  match xs, hn with
  | [y0, y1], _ =>
    have g0 : DataW.trod enc Try.prog W b1 sp hd m' 22 [c0] = some y0 := by simpa [cellsS, cellsI] using hel 0 _ rfl
    have g1 : DataW.trod enc Try.prog W b1 sp hd m' 3 [c1] = some y1 := by simpa [cellsS, cellsI] using hel 1 _ rfl
    obtain ⟨A, n, c, ts, rfl, s0, u0⟩ := trod_exts g0
    obtain ⟨a1, e1, _, _⟩ := DataW.trod_int Try.underlying3 g1
    simp at e1
    subst e1
    exact ⟨A, n, c, ts, a1, rfl, s0, u0⟩
end
end Go.Proofs.Ytipbfonlcmegdaa

namespace Go.Proofs.Ytipbfonlcmegdaa
open Go.ChangeShapes Go.WideShapes Go.ChangeAt Go.RowKit Gold

set_option maxRecDepth 100000 in
theorem sumcheckVerifyMatchesReference_lifted (os : Os) (started : os.Started) (H : Type) (enc : TypeId × Value → H) :
    ReturnsInHanded {} Try.checked os 5 .any (Rows.sumcheckVerifyMatchesReferenceSpec.pre6 enc Try.prog Try.f5 Rows.sumcheckVerifyMatchesReferenceRow.domain false) (Rows.sumcheckVerifyMatchesReferenceSpec.post enc Try.prog Try.f5 false true false false) := by
  refine returnsInHanded_of_change (C := Try.checked) own started (by kernel_rfl) Try.func5
    (ChangeSpec.witness6 (enc := enc) (C := Try.checked) false ⟨#[], #[.agg #[.int .u64 0, .int .u64 0], .slice none 0 0, .agg #[.slice none 0 0, .int .i64 0]], []⟩ 8 (by kernel_rfl) (by kernel_rfl) (by kernel_rfl) (by kernel_rfl)) ?_
  intro W base args ds gs before hval0 hW _ _
  have hval : ∀ (j : Nat) t v, Try.f5.params[j]? = some t → args[j]? = some v → Value.okWide Try.prog W .any base t v := hval0
  have hW' := hW
  obtain ⟨p, q, hA0, hV, rfl, _, _⟩ := hW
  have hA : DataW.TrodAll enc Try.prog W 0 (fun _ => true) true Try.f5.params.toList args.toList ds p := hA0
  rw [Try.params5] at hA hval
  obtain ⟨v0, v1, v2, d0, d1, d2, p0, p1, p2, rfl, rfl, rfl, h0, h1, h2⟩ := trodAll_three hA
  obtain ⟨rfl, rfl⟩ := trodVars_none hV
  have lt0 : ∀ x ∈ p0, x.block < W.heap.size := by obtain ⟨m, hm⟩ := h0; exact DataW.trod_lt m _ _ _ hm
  obtain ⟨x0_0, x0_1, rfl, u0_0, u0_1⟩ := open_ext (hval 0 27 v0 rfl rfl) h0
  have lt1 : ∀ x ∈ p1, x.block < W.heap.size := by obtain ⟨m, hm⟩ := h1; exact DataW.trod_lt m _ _ _ hm
  obtain ⟨A1, n1, c1, Qs1, rfl, s1, u1⟩ := open_rows (hval 1 40 v1 rfl rfl) h1
  have lt2 : ∀ x ∈ p2, x.block < W.heap.size := by obtain ⟨m, hm⟩ := h2; exact DataW.trod_lt m _ _ _ hm
  obtain ⟨A2, n2, c2, ts2, D2, rfl, s2, u2⟩ := open_coins (hval 2 59 v2 rfl rfl) h2
  clear hA0 hval0
  simp only [List.append_nil] at hW'
  refine (sumcheckVerifyMatchesReference_any x0_0 x0_1 A1 n1 c1 Qs1 A2 n2 c2 ts2 D2 W u0_0 u0_1 s1 u1 s2 u2).mono fun e W' ⟨he, bel⟩ => ?_
  subst he
  exact ⟨_, rfl, _, _, _, [], _, [], hW', trodAll_mk1 (shut_bool Try.underlying4 _), (trodAll_cons_mk (Below.trod laidOut (by kernel_rfl) (of_decide_eq_true (by kernel_rfl)) h0 bel lt0) (trodAll_cons_mk (Below.trod laidOut (by kernel_rfl) (of_decide_eq_true (by kernel_rfl)) h1 bel lt1) (trodAll_cons_mk (Below.trod laidOut (by kernel_rfl) (of_decide_eq_true (by kernel_rfl)) h2 bel lt2) trodAll_mk0))), rfl, bel.frame _, fun h => by cases h⟩

/-- The given statement. -/
theorem sumcheckVerifyMatchesReference_holds : Rows.SumcheckVerifyMatchesReferenceSaid :=
  OpenClaim.holds_of_wide 5 Try.f5 rfl rfl rfl rfl rfl rfl rfl ⟨rfl, rfl, rfl, rfl, rfl⟩ rfl rfl rfl rfl rfl (by kernel_rfl) Try.func5 (by kernel_rfl)
    (of_decide_eq_true (by kernel_rfl)) (by unfold Func.isWrapper; first | (rw [if_pos (by decide +kernel)]; kernel_rfl) | (rw [if_neg (by decide +kernel)]; exact ⟨rfl, rfl⟩))
    (fun os started H enc _ => sumcheckVerifyMatchesReference_lifted os started H enc)
end Go.Proofs.Ytipbfonlcmegdaa
