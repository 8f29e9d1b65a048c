/- MleLinear: for every input the law returns true: the value is linear in the table; no condition. -/
import Derived.Test.YtipbfonlcmegdaaMll
import Derived.Test.YtipbfonlcmegdaaPolP
namespace Go.Proofs.Ytipbfonlcmegdaa
set_option maxRecDepth 8000
open Go.ChangeShapes Go.WideShapes Go.ChangeAt Go.RowKit Go.Joins Go.Deep Gold
section
variable {H : Type} {enc : TypeId × Value → H} {W : World} {base : Nat} {sp : Nat → Bool} {b1 : Nat} {hd : Bool} {v : Value} {d : DataW H} {p : List MemPlace}
theorem trod_exts {m : Nat} {c0 : Value} {y : DataW H × List MemPlace} (h : DataW.trod enc Try.prog W b1 sp hd m 22 [c0] = some y) : ∃ (A : Option Addr) (n c : Nat) (ps : List (Int × Int)), c0 = .slice A n c ∧ Sr W A n c ps ∧ Nums ps := by
  obtain ⟨d, p⟩ := y
  rcases open_slice Try.underlying22 h with ⟨hcs, _⟩ | ⟨a, len, cap, m', n', D, Pl, hcs, _, hl, hm, hmm, _, hi⟩
  · injection hcs with hcs
    subst hcs
    exact ⟨none, 0, 0, [], rfl, ⟨rfl, Nat.le_refl _, Nat.zero_le _, fun _ => rfl, fun i p hp => by simp at hp⟩, fun p hp => by cases hp⟩
  · injection hcs with hcs
    subst hcs
    unfold maxLen at hm
    have hC : ∀ i, i < len → ∃ q : Int × Int, AtV W a i (.int .u64 q.1, .int .u64 q.2) ∧ U64 q.1 ∧ U64 q.2 := fun i hin => by
      obtain ⟨cs', hc, ht⟩ := hi i (by rw [hmm]; split <;> omega)
      rw [cellsOfE] at hc
      obtain ⟨_, hcl, hat⟩ := World.cells?_some hc
      match cs', hcl with
      | [c0, c1], _ =>
        obtain ⟨a0, a1, rfl, rfl, u0, u1⟩ := trod_ext ht
        have h0 := hat 0 (by omega)
        have h1 := hat 1 (by omega)
        refine ⟨(a0, a1), ⟨?_, ?_⟩, u0, u1⟩
        · exact h0
        · have e : (a.add (i * 2)).add 1 = ⟨(a.add (i * 2)).block, (a.add (i * 2)).off + 1, none⟩ := by
            unfold Addr.add
            simp
          rw [← e]
          exact h1
    obtain ⟨ps, hpl, hpp⟩ := list_of len _ hC
    refine ⟨some a, len, cap, ps, rfl, ⟨by simp [hpl], hl, by omega, (fun e => by cases e), fun i q hq => ?_⟩, fun q hq => ?_⟩
    · rw [List.getElem?_map] at hq
      cases hx : ps[i]? with
      | none => rw [hx] at hq; cases hq
      | some x =>
        rw [hx] at hq
        injection hq with hq
        subst hq
        exact ⟨a, rfl, (hpp i x hx).1⟩
    · obtain ⟨i, hi'⟩ := List.getElem?_of_mem hq
      exact (hpp i q hi').2
theorem cellsQ : Try.prog.cellsOf 24 = 4 := by kernel_rfl
theorem cellsS : Try.prog.cellsOf 22 = 1 := by kernel_rfl
theorem cellsU8 : Try.prog.cellsOf 5 = 1 := by kernel_rfl
theorem open_query (hv : Value.okWide Try.prog W .any base 24 v) (h : DataW.Trod enc Try.prog W b1 sp hd 24 v d p) :
    ∃ (A : Option Addr) (n c : Nat) (ts : List (Int × Int)) (B : Option Addr) (m e : Nat) (us : List (Int × Int)) (C : Option Addr) (k f : Nat) (vs : List (Int × Int)) (N : Int),
      v = .agg #[.slice A n c, .slice B m e, .slice C k f, .int .u8 N] ∧ Sr W A n c ts ∧ Sr W B m e us ∧ Sr W C k f vs ∧ Nums ts ∧ Nums us ∧ Nums vs ∧ (0 ≤ N ∧ N ≤ 255) := by
  obtain ⟨cs, rfl, hsz, _⟩ : ∃ cs, v = .agg cs ∧ cs.size = Try.prog.cellsOf 24 ∧ Row.okWide Try.prog W .any base 24 cs := by
    simpa [Value.okWide, Try.underlying24] using hv
  rw [cellsQ] at hsz
  obtain ⟨c0, c1, c2, c3, rfl⟩ := array4 hsz
  obtain ⟨fuel, hf⟩ := h
  obtain ⟨xs, m', _, _, _, hn, hel⟩ := DataW.trod_struct Try.underlying24 (show DataW.trod enc Try.prog W b1 sp hd fuel 24 [c0, c1, c2, c3] = some (d, p) by simpa [Value.cells] using hf)
  match xs, hn with
  | [y0, y1, y2, y3], _ =>
    have g0 : DataW.trod enc Try.prog W b1 sp hd m' 22 [c0] = some y0 := by simpa [cellsS, cellsU8] using hel 0 _ rfl
    have g1 : DataW.trod enc Try.prog W b1 sp hd m' 22 [c1] = some y1 := by simpa [cellsS, cellsU8] using hel 1 _ rfl
    have g2 : DataW.trod enc Try.prog W b1 sp hd m' 22 [c2] = some y2 := by simpa [cellsS, cellsU8] using hel 2 _ rfl
    have g3 : DataW.trod enc Try.prog W b1 sp hd m' 5 [c3] = some y3 := by simpa [cellsS, cellsU8] using hel 3 _ rfl
    obtain ⟨A, n, c, ts, rfl, s0, u0⟩ := trod_exts g0
    obtain ⟨B, m, e, us, rfl, s1, u1⟩ := trod_exts g1
    obtain ⟨C, k, f, vs, rfl, s2, u2⟩ := trod_exts g2
    obtain ⟨a3, e3, _, w3⟩ := DataW.trod_int Try.underlying5 g3
    simp at e3
    subst e3
    exact ⟨A, n, c, ts, B, m, e, us, C, k, f, vs, a3, rfl, s0, s1, s2, u0, u1, u2, bounds_u8 w3⟩
end
end Go.Proofs.Ytipbfonlcmegdaa

namespace Go.Proofs.Ytipbfonlcmegdaa
open Go.ChangeShapes Go.WideShapes Go.ChangeAt Go.RowKit Gold

set_option maxRecDepth 100000 in
theorem mleLinear_lifted (os : Os) (started : os.Started) (H : Type) (enc : TypeId × Value → H) :
    ReturnsInHanded {} Try.checked os 3 .any (Rows.mleLinearSpec.pre6 enc Try.prog Try.f3 Rows.mleLinearRow.domain false) (Rows.mleLinearSpec.post enc Try.prog Try.f3 false true false false) := by
  refine returnsInHanded_of_change (C := Try.checked) own started (by kernel_rfl) Try.func3
    (ChangeSpec.witness6 (enc := enc) (C := Try.checked) false ⟨#[], #[.agg #[.slice none 0 0, .slice none 0 0, .slice none 0 0, .int .u8 0], .slice none 0 0, .agg #[.int .u64 0, .int .u64 0]], []⟩ 8 (by kernel_rfl) (by kernel_rfl) (by kernel_rfl) (by kernel_rfl)) ?_
  intro W base args ds gs before hval0 hW _ _
  have hval : ∀ (j : Nat) t v, Try.f3.params[j]? = some t → args[j]? = some v → Value.okWide Try.prog W .any base t v := hval0
  have hW' := hW
  obtain ⟨p, q, hA0, hV, rfl, _, _⟩ := hW
  have hA : DataW.TrodAll enc Try.prog W 0 (fun _ => true) true Try.f3.params.toList args.toList ds p := hA0
  rw [Try.params3] at hA hval
  obtain ⟨v0, v1, v2, d0, d1, d2, p0, p1, p2, rfl, rfl, rfl, h0, h1, h2⟩ := trodAll_three hA
  obtain ⟨rfl, rfl⟩ := trodVars_none hV
  have lt0 : ∀ x ∈ p0, x.block < W.heap.size := by obtain ⟨m, hm⟩ := h0; exact DataW.trod_lt m _ _ _ hm
  obtain ⟨A0, n0, c0, ts0, B0, m0, e0, us0, C0, k0, f0, vs0, N0, rfl, s0, r0, q0, u0, w0, z0, b0⟩ := open_query (hval 0 24 v0 rfl rfl) h0
  have lt1 : ∀ x ∈ p1, x.block < W.heap.size := by obtain ⟨m, hm⟩ := h1; exact DataW.trod_lt m _ _ _ hm
  obtain ⟨A1, n1, c1, pp1, rfl, s1, u1⟩ := open_exts (hval 1 22 v1 rfl rfl) h1
  have lt2 : ∀ x ∈ p2, x.block < W.heap.size := by obtain ⟨m, hm⟩ := h2; exact DataW.trod_lt m _ _ _ hm
  obtain ⟨x2_0, x2_1, rfl, u2_0, u2_1⟩ := open_ext (hval 2 27 v2 rfl rfl) h2
  clear hA0 hval0
  simp only [List.append_nil] at hW'
  refine (mleLinear_any A0 n0 c0 ts0 B0 m0 e0 us0 C0 k0 f0 vs0 N0 A1 n1 c1 pp1 x2_0 x2_1 W s0 r0 q0 u0 w0 z0 b0 s1 u1 u2_0 u2_1).mono fun e W' ⟨he, bel⟩ => ?_
  subst he
  exact ⟨_, rfl, _, _, _, [], _, [], hW', trodAll_mk1 (shut_bool Try.underlying4 _), (trodAll_cons_mk (Below.trod laidOut (by kernel_rfl) (of_decide_eq_true (by kernel_rfl)) h0 bel lt0) (trodAll_cons_mk (Below.trod laidOut (by kernel_rfl) (of_decide_eq_true (by kernel_rfl)) h1 bel lt1) (trodAll_cons_mk (Below.trod laidOut (by kernel_rfl) (of_decide_eq_true (by kernel_rfl)) h2 bel lt2) trodAll_mk0))), rfl, bel.frame _, fun h => by cases h⟩

/-- The given statement. -/
theorem mleLinear_holds : Rows.MleLinearSaid :=
  OpenClaim.holds_of_wide 3 Try.f3 rfl rfl rfl rfl rfl rfl rfl ⟨rfl, rfl, rfl, rfl, rfl⟩ rfl rfl rfl rfl rfl (by kernel_rfl) Try.func3 (by kernel_rfl)
    (of_decide_eq_true (by kernel_rfl)) (by unfold Func.isWrapper; first | (rw [if_pos (by decide +kernel)]; kernel_rfl) | (rw [if_neg (by decide +kernel)]; exact ⟨rfl, rfl⟩))
    (fun os started H enc _ => mleLinear_lifted os started H enc)
end Go.Proofs.Ytipbfonlcmegdaa
