/- Several texts in one: Yad, Yar. -/
import Derived.Test.YtlicfidcfhbmpaaDoorTw13
import Derived.Test.YtlicfidcfhbmpaaDoorTw21
set_option linter.unusedVariables false
set_option linter.unusedSimpArgs false
set_option linter.unusedSectionVars false
namespace Go.Proofs.YtlicfidcfhbmpaaDoor.K
set_option maxRecDepth 8000
open Go.ChangeShapes Go.WideShapes Go.ChangeAt Go.RowKit Go.Joins Go.Deep
theorem list_ofK {α : Type} (n : Nat) (P : Nat → α → Prop) (h : ∀ i, i < n → ∃ x, P i x) : ∃ l : List α, l.length = n ∧ ∀ i x, l[i]? = some x → P i x := by
 induction n with
 | zero => exact ⟨[], rfl, fun i x hx => by simp at hx⟩
 | succ n ih =>
  obtain ⟨l, hl, hp⟩ := ih fun i hi => h i (by omega)
  obtain ⟨x, hx⟩ := h n (Nat.lt_succ_self n)
  refine ⟨l ++ [x], by simp [hl], fun i y hy => ?_⟩
  by_cases hi : i < l.length
  ·rw [List.getElem?_append_left hi] at hy
   exact hp i y hy
  ·rw [List.getElem?_append_right (by omega)] at hy
   have e : i = n := by
    have := (List.getElem?_eq_some_iff.1 hy).1
    simp at this
    omega
   subst e
   rw [hl, Nat.sub_self] at hy
   simp at hy
   subst hy
   exact hx
section
variable {α : Type} {E : α → List Value} {k : Nat} [hE : Enc E k] {P : Program} {H : Type} {enc : TypeId × Value → H} {W : World} {b1 : Nat} {sp : Nat → Bool} {hd : Bool} {t e : TypeId}
/-- a slice that comes in, its elements opened -/
theorem open_seq (p : α → Prop) (hu : P.underlying t = some (.slice e)) (hc : P.cellsOf e = k) (hel : ∀ m cs y, cs.length = k → DataW.trod enc P W b1 sp hd m e cs = some y → ∃ x, cs = E x ∧ p x) {m : Nat} {cs : List Value} {y : DataW H × List MemPlace} (h : DataW.trod enc P W b1 sp hd m t cs = some y) :
  ∃ A n c xs, cs = [.slice A n c] ∧ Sg E k W A n c xs ∧ ∀ x ∈ xs, p x := by
 have hk := hE.pos
 rcases open_slice hu h with ⟨hcs, _⟩ | ⟨a, len, cap, m', n', D, Pl, hcs, _, hl, hm, hmm, _, hi⟩
 ·exact ⟨none, 0, 0, [], hcs, Sg.nil_ _, fun x hx => by cases hx⟩
 ·unfold maxLen at hm
  have hC : ∀ i, i < len → ∃ x, p x ∧ ∀ j v, (E x)[j]? = some v → W.cell? ((a.add (i * k)).add j) = some v := fun i hin => by
   obtain ⟨cs', hc2, ht⟩ := hi i (by rw [hmm]; split <;> omega)
   rw [hc] at hc2
   obtain ⟨_, hcl, hat⟩ := World.cells?_some hc2
   obtain ⟨x, hx, hpx⟩ := hel _ _ _ hcl ht
   subst hx
   exact ⟨x, hpx, fun j v hv => (hat j (by rw [← hE.len x]; exact (List.getElem?_eq_some_iff.1 hv).1)).trans hv⟩
  obtain ⟨xs, hxl, hxx⟩ := list_ofK len _ hC
  refine ⟨some a, len, cap, xs, hcs, ⟨hxl, hl, by omega, fun e => (by cases e), fun i x hx => ?_⟩, fun x hx => ?_⟩
  ·have hil := (List.getElem?_eq_some_iff.1 hx).1
   obtain ⟨b, off, s⟩ := a
   obtain ⟨x0, hx0⟩ : ∃ x0, xs[0]? = some x0 := ⟨_, List.getElem?_eq_getElem (by omega)⟩
   obtain ⟨v0, hv0⟩ : ∃ v0, (E x0)[0]? = some v0 := ⟨_, List.getElem?_eq_getElem (by rw [hE.len]; exact hk)⟩
   have h0 := (hxx 0 x0 hx0).2 0 v0 hv0
   rw [Nat.zero_mul] at h0
   have hs : s = none := by
    cases s with
    | none => rfl
    | some q =>
     simp only [Addr.add, if_true, World.cell?] at h0
     split at h0 <;> simp at h0
   subst hs
   refine ⟨b, off, rfl, fun j v hv => ?_⟩
   have h1 := (hxx i x hx).2 j v hv
   rw [Addr.add_mid, Addr.add_mid] at h1
   exact h1
  ·obtain ⟨i, hi'⟩ := List.getElem?_of_mem hx
   exact (hxx i x hi').1
end
end Go.Proofs.YtlicfidcfhbmpaaDoor.K
namespace Go.Proofs.YtlicfidcfhbmpaaDoor
open Go.ChangeShapes Go.WideShapes Go.ChangeAt Go.RowKit Go.Joins Go.Deep Go.Proofs.YtlicfidcfhbmpaaDoor.K
section
variable {H : Type} {enc : TypeId × Value → H} {W : World} {base : Nat} {sp : Nat → Bool} {b1 : Nat} {hd : Bool} {v : Value} {d : DataW H} {p : List MemPlace}
theorem cells13D : Tryd.prog.cellsOf 46 = 3 := by kernel_rfl
set_option maxRecDepth 100000 in
theorem trod13_cond {m : Nat} {cs : List Value} {y : DataW H × List MemPlace} (hl : cs.length = 3) (h : DataW.trod enc Tryd.prog W b1 sp hd m 46 cs = some y) : ∃ x : Qu.Ci, cs = ciC x := by
 obtain ⟨ys, m', _, _, _, hn, hel⟩ := DataW.trod_struct Tryd.underlying46 h
 match cs, hl, ys, hn with
 | [c0, c1, c2], _, [y0, y1, y2], _ =>
  have g0 : DataW.trod enc Tryd.prog W b1 sp hd m' 3 [c0] = some y0 := by simpa [cells13I] using hel 0 _ rfl
  have g1 : DataW.trod enc Tryd.prog W b1 sp hd m' 3 [c1] = some y1 := by simpa [cells13I] using hel 1 _ rfl
  have g2 : DataW.trod enc Tryd.prog W b1 sp hd m' 3 [c2] = some y2 := by simpa [cells13I] using hel 2 _ rfl
  obtain ⟨a0, e0, _, _⟩ := DataW.trod_int Tryd.underlying3 g0
  obtain ⟨a1, e1, _, _⟩ := DataW.trod_int Tryd.underlying3 g1
  obtain ⟨a2, e2, _, _⟩ := DataW.trod_int Tryd.underlying3 g2
  simp at e0 e1 e2
  subst e0 e1 e2
  exact ⟨⟨a0, a1, a2⟩, rfl⟩
theorem cells13F : Tryd.prog.cellsOf 28 = 1 := by kernel_rfl
set_option maxRecDepth 100000 in
theorem trod13_filter {m : Nat} {cs : List Value} {y : DataW H × List MemPlace} (h : DataW.trod enc Tryd.prog W b1 sp hd m 28 cs = some y) : ∃ x : Hd, cs = hdC x ∧ ∃ xs, Sg ciC 3 W x.A x.n x.c xs := by
 obtain ⟨A, n, c, xs, e, hs, _⟩ := open_seq (E := ciC) (fun _ => True) Tryd.underlying28 cells13D (fun m cs y hl hy => by obtain ⟨x, e⟩ := trod13_cond hl hy; exact ⟨x, e, trivial⟩) h
 exact ⟨Hd.mk A n c, e, xs, hs⟩
set_option maxRecDepth 100000 in
theorem all13 : ∀ (hs : List Hd), (∀ h ∈ hs, ∃ xs, Sg ciC 3 W h.A h.n h.c xs) → ∃ fs : List (List Qu.Ci), hs.length = fs.length ∧ ∀ (i : Nat) (h : Hd) (xs : List Qu.Ci), hs[i]? = some h → fs[i]? = some xs → Sg ciC 3 W h.A h.n h.c xs
 | [], _ => ⟨[], rfl, fun i h xs hi => by simp at hi⟩
 | h :: hs, hh => by
  obtain ⟨xs, hx⟩ := hh h (List.mem_cons_self ..)
  obtain ⟨fs, hl, hf⟩ := all13 hs fun q hq => hh q (List.mem_cons_of_mem _ hq)
  refine ⟨xs :: fs, by simp [hl], fun i q ys hi hy => ?_⟩
  cases i with
  | zero =>
   simp at hi hy
   subst hi hy
   exact hx
  | succ i => exact hf i q ys (by simpa using hi) (by simpa using hy)
set_option maxRecDepth 100000 in
theorem trod13_filters {m : Nat} {c0 : Value} {y : DataW H × List MemPlace} (h : DataW.trod enc Tryd.prog W b1 sp hd m 22 [c0] = some y) : ∃ (A : Option Addr) (n c : Nat) (hs : List Hd) (fs : List (List Qu.Ci)), c0 = .slice A n c ∧ FsR W A n c hs fs := by
 obtain ⟨A, n, c, hs, e, hh, hp⟩ := open_seq (E := hdC) (fun x => ∃ xs, Sg ciC 3 W x.A x.n x.c xs) Tryd.underlying22 cells13F (fun m cs y _ hy => trod13_filter hy) h
 simp only [List.cons.injEq, and_true] at e
 obtain ⟨fs, hl, hf⟩ := all13 hs hp
 exact ⟨A, n, c, hs, fs, e, ⟨hh, hl, hf⟩⟩
theorem cells13Q : Tryd.prog.cellsOf 24 = 4 := by kernel_rfl
theorem cells13G : Tryd.prog.cellsOf 22 = 1 := by kernel_rfl
set_option maxRecDepth 100000 in
theorem open13_query (hv : Value.okWide Tryd.prog W .any base 24 v) (h : DataW.Trod enc Tryd.prog W b1 sp hd 24 v d p) : ∃ (a b k : Int) (A : Option Addr) (n c : Nat) (hs : List Hd) (fs : List (List Qu.Ci)), v = .agg #[.int .i64 a, .int .i64 b, .int .i64 k, .slice A n c] ∧ FsR W A n c hs fs := by
 obtain ⟨cs, rfl, hsz, _⟩ : ∃ cs, v = .agg cs ∧ cs.size = Tryd.prog.cellsOf 24 ∧ Row.okWide Tryd.prog W .any base 24 cs := by
  simpa [Value.okWide, Tryd.underlying24] using hv
 rw [cells13Q] at hsz
 obtain ⟨c0, c1, c2, c3, rfl⟩ : ∃ c0 c1 c2 c3, cs = #[c0, c1, c2, c3] := by
  match cs, hsz with
  | ⟨[c0, c1, c2, c3]⟩, _ => exact ⟨c0, c1, c2, c3, rfl⟩
 obtain ⟨fuel, hf⟩ := h
 obtain ⟨ys, m', _, _, _, hn, hel⟩ := DataW.trod_struct Tryd.underlying24 (show DataW.trod enc Tryd.prog W b1 sp hd fuel 24 [c0, c1, c2, c3] = some (d, p) by simpa [Value.cells] using hf)
 match ys, hn with
 | [y0, y1, y2, y3], _ =>
  have g0 : DataW.trod enc Tryd.prog W b1 sp hd m' 3 [c0] = some y0 := by simpa [cells13I] using hel 0 _ rfl
  have g1 : DataW.trod enc Tryd.prog W b1 sp hd m' 3 [c1] = some y1 := by simpa [cells13I] using hel 1 _ rfl
  have g2 : DataW.trod enc Tryd.prog W b1 sp hd m' 3 [c2] = some y2 := by simpa [cells13I] using hel 2 _ rfl
  have g3 : DataW.trod enc Tryd.prog W b1 sp hd m' 22 [c3] = some y3 := by simpa [cells13G] using hel 3 _ rfl
  obtain ⟨a0, e0, _, _⟩ := DataW.trod_int Tryd.underlying3 g0
  obtain ⟨a1, e1, _, _⟩ := DataW.trod_int Tryd.underlying3 g1
  obtain ⟨a2, e2, _, _⟩ := DataW.trod_int Tryd.underlying3 g2
  obtain ⟨A, n, c, hs, fs, rfl, hF⟩ := trod13_filters g3
  simp at e0 e1 e2
  subst e0 e1 e2
  exact ⟨a0, a1, a2, A, n, c, hs, fs, rfl, hF⟩
end
end Go.Proofs.YtlicfidcfhbmpaaDoor

namespace Go.Proofs.YtlicfidcfhbmpaaDoor
set_option maxRecDepth 8000
open Go.ChangeShapes Go.WideShapes Go.ChangeAt Go.RowKit Go.Joins Go.Deep Go.Proofs.YtlicfidcfhbmpaaDoor.K
section
variable {H : Type} {enc : TypeId × Value → H} {W : World} {base : Nat} {sp : Nat → Bool} {b1 : Nat} {hd : Bool} {v : Value} {d : DataW H} {p : List MemPlace}
theorem cells13B : Tryd.prog.cellsOf 5 = 1 := by kernel_rfl
theorem trod13_u8 {m : Nat} {cs : List Value} {y : DataW H × List MemPlace} (h : DataW.trod enc Tryd.prog W b1 sp hd m 5 cs = some y) : ∃ x : Nat, cs = byC x ∧ x < 256 := by
 obtain ⟨a, e, _, w⟩ := DataW.trod_int Tryd.underlying5 h
 have hb := bounds_u8 w
 exact ⟨a.toNat, by rw [e]; simp only [byC]; rw [Int.toNat_of_nonneg hb.1], by omega⟩
theorem trod13_three {m : Nat} {cs : List Value} {y : DataW H × List MemPlace} (hl : cs.length = 3) (h : DataW.trod enc Tryd.prog W b1 sp hd m 40 cs = some y) : ∃ x y z : Nat, cs = [.int .u8 (x : Int), .int .u8 (y : Int), .int .u8 (z : Int)] ∧ x < 256 ∧ y < 256 ∧ z < 256 := by
 obtain ⟨xs, m', _, _, _, hn, hel⟩ := DataW.trod_array Tryd.underlying40 h
 rw [cells13B] at hel
 match cs, hl, xs, hn with
 | [c0, c1, c2], _, [y0, y1, y2], _ =>
  have g0 : DataW.trod enc Tryd.prog W b1 sp hd m' 5 [c0] = some y0 := by simpa using hel 0 (by omega)
  have g1 : DataW.trod enc Tryd.prog W b1 sp hd m' 5 [c1] = some y1 := by simpa using hel 1 (by omega)
  have g2 : DataW.trod enc Tryd.prog W b1 sp hd m' 5 [c2] = some y2 := by simpa using hel 2 (by omega)
  obtain ⟨x0, e0, h0⟩ := trod13_u8 g0
  obtain ⟨x1, e1, h1⟩ := trod13_u8 g1
  obtain ⟨x2, e2, h2⟩ := trod13_u8 g2
  simp only [byC, List.cons.injEq, and_true] at e0 e1 e2
  subst e0 e1 e2
  exact ⟨x0, x1, x2, rfl, h0, h1, h2⟩
theorem cells13W3 : Tryd.prog.cellsOf 40 = 3 := by kernel_rfl
theorem open13_three (hv : Value.okWide Tryd.prog W .any base 40 v) (h : DataW.Trod enc Tryd.prog W b1 sp hd 40 v d p) : ∃ x y z : Nat, v = .agg #[.int .u8 (x : Int), .int .u8 (y : Int), .int .u8 (z : Int)] ∧ x < 256 ∧ y < 256 ∧ z < 256 := by
 obtain ⟨cs, rfl, hsz, _⟩ : ∃ cs, v = .agg cs ∧ cs.size = Tryd.prog.cellsOf 40 ∧ Row.okWide Tryd.prog W .any base 40 cs := by
  simpa [Value.okWide, Tryd.underlying40] using hv
 rw [cells13W3] at hsz
 obtain ⟨fuel, hf⟩ := h
 obtain ⟨x, y, z, e, h0⟩ := trod13_three (by simpa using hsz) (show DataW.trod enc Tryd.prog W b1 sp hd fuel 40 cs.toList = some (d, p) by simpa [Value.cells] using hf)
 exact ⟨x, y, z, by rw [← Array.toArray_toList (xs := cs), e], h0⟩
end
end Go.Proofs.YtlicfidcfhbmpaaDoor

