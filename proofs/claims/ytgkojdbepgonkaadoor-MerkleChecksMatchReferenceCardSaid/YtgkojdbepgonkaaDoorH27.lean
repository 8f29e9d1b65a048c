/- Several texts in one: Mwa. -/
import Derived.Test.YtgkojdbepgonkaaDoorH26
/- Frames of MerkleChecksMatchReference: leaves, openings and memberships that come in are opened; a leaf is at most as long as the form's own reach says. -/
namespace Go.Proofs.YtgkojdbepgonkaaDoor
set_option maxRecDepth 8000
set_option linter.unusedVariables false
set_option linter.unusedSimpArgs false
open Go.ChangeShapes Go.WideShapes Go.ChangeAt Go.RowKit Go.Joins Go.Deep
section
variable {H : Type} {enc : TypeId × Value → H} {W : World} {base : Nat} {sp : Nat → Bool} {b1 : Nat} {hd : Bool} {v : Value} {d : DataW H} {p : List MemPlace}
theorem cellsDg : Tryd.prog.cellsOf 34 = 32 := by kernel_rfl
theorem cellsDs : Tryd.prog.cellsOf 26 = 1 := by kernel_rfl
theorem cellsIs8 : Tryd.prog.cellsOf 22 = 1 := by kernel_rfl
theorem cellsPP8 : Tryd.prog.cellsOf 23 = 1 := by kernel_rfl
theorem cellsLv : Tryd.prog.cellsOf 25 = 2 := by kernel_rfl
theorem cellsOp : Tryd.prog.cellsOf 28 = 1 := by kernel_rfl
theorem cellsMb : Tryd.prog.cellsOf 31 = 4 := by kernel_rfl
theorem trod_dig {m : Nat} {cs : List Value} {y : DataW H × List MemPlace} (h : DataW.trod enc Tryd.prog W b1 sp hd m 34 cs = some y) : ∃ bs : List Nat, cs = celB bs ∧ bs.length = 32 ∧ ∀ x ∈ bs, x < 256 := by
  obtain ⟨xs, m', _, _, hl, hn, hel⟩ := DataW.trod_array Tryd.underlying34 h
  rw [cellsDg] at hl
  rw [cellsB] at hel
  have hC : ∀ i, i < 32 → ∃ z : Nat, cs[i]? = some (.int .u8 (z : Int)) ∧ z < 256 := fun i hi => by
    have h1 := hel i hi
    have hx : xs[i]? = some (xs[i]'(by omega)) := List.getElem?_eq_getElem _
    rw [hx, Nat.mul_one] at h1
    have hc : (cs.drop i).take 1 = [cs[i]'(by omega)] := by
      rw [List.drop_eq_getElem_cons (by omega)]; rfl
    rw [hc] at h1
    obtain ⟨z, e, _, wf⟩ := DataW.trod_int Tryd.underlying5 h1
    simp at e
    have hb := bounds_u8 wf
    refine ⟨z.toNat, ?_, by omega⟩
    rw [List.getElem?_eq_getElem (by omega), e, Int.toNat_of_nonneg hb.1]
  obtain ⟨bs, hbl, hbb⟩ := list_of8 32 _ hC
  refine ⟨bs, ?_, hbl, fun x hx => ?_⟩
  · refine List.ext_getElem? fun i => ?_
    by_cases hi : i < 32
    · obtain ⟨b, hb⟩ : ∃ b, bs[i]? = some b := ⟨_, List.getElem?_eq_getElem (by omega)⟩
      rw [(hbb i b hb).1, celB_get hb]
    · rw [List.getElem?_eq_none (by omega), List.getElem?_eq_none (by rw [celB_length]; omega)]
  · obtain ⟨i, hi⟩ := List.getElem?_of_mem hx
    exact (hbb i x hi).2
theorem cell_spot {w : World} {a : Addr} {v : Value} (h : w.cell? a = some v) : a.spot = none := by
  unfold World.cell? at h
  split at h
  · split at h
    · cases h
    · rename_i hs
      cases hsp : a.spot with
      | none => rfl
      | some x => rw [hsp] at hs; exact absurd rfl hs
  · cases h
theorem trod_digs {m : Nat} {c0 : Value} {y : DataW H × List MemPlace} (h : DataW.trod enc Tryd.prog W b1 sp hd m 26 [c0] = some y) : ∃ (A : Option Addr) (n c : Nat) (Ds : List (List Nat)), c0 = .slice A n c ∧ Db W A n c Ds := by
  obtain ⟨d, p⟩ := y
  rcases open_slice Tryd.underlying26 h with ⟨hcs, _⟩ | ⟨a, len, cap, m', n', D, Pl, hcs, _, hl, hm, hmm, hsp, hi⟩
  · injection hcs with hcs
    subst hcs
    exact ⟨none, 0, 0, [], rfl, rfl, Nat.le_refl _, Nat.zero_le _, fun _ => rfl, fun d hd => (by cases hd), fun i z hz => by cases i <;> cases hz⟩
  · injection hcs with hcs
    subst hcs
    unfold maxLen at hm
    have ha : 0 < len → a = ⟨a.block, a.off, none⟩ := fun h0 => by
      obtain ⟨cs', hc, ht⟩ := hi 0 (by rw [hmm]; split <;> omega)
      rw [cellsDg] at hc
      obtain ⟨_, hcl, hat⟩ := World.cells?_some hc
      have h1 := hat 0 (by omega)
      rw [List.getElem?_eq_getElem (by omega)] at h1
      have h2 := cell_spot h1
      have h3 : ((a.add (0 * 32)).add 0) = a := by simp [Addr.add]
      rw [h3] at h2
      cases a
      simp at h2
      subst h2
      rfl
    have hC : ∀ i, i < len → ∃ q : List Nat, (q.length = 32 ∧ ∀ x ∈ q, x < 256) ∧ W.rangeAt a.block (a.off + 32 * i) (celB q) := fun i hin => by
      obtain ⟨cs', hc, ht⟩ := hi i (by rw [hmm]; split <;> omega)
      rw [cellsDg] at hc
      obtain ⟨_, hcl, hat⟩ := World.cells?_some hc
      obtain ⟨bs, rfl, hbl, hbb⟩ := trod_dig ht
      refine ⟨bs, ⟨hbl, hbb⟩, fun j v hj => ?_⟩
      have hj32 : j < 32 := by
        have := (List.getElem?_eq_some_iff.1 hj).1
        rw [celB_length] at this
        omega
      have h1 := hat j hj32
      rw [hj, ha (by omega), Addr.add_mid, Addr.add_mid] at h1
      rw [← h1]
      congr 2
      omega
    obtain ⟨Qs, hpl, hpp⟩ := list_of8 len _ hC
    refine ⟨some a, len, cap, Qs, rfl, hpl.symm, hl, by omega, (fun e => by cases e), fun q hq => ?_, fun i q hq => ?_⟩
    · obtain ⟨i, hi2⟩ := List.getElem?_of_mem hq
      exact (hpp i q hi2).1
    · have := (List.getElem?_eq_some_iff.1 hq).1
      exact ⟨a.block, a.off, by rw [← ha (by omega)], (hpp i q hq).2⟩
theorem weights_all {P : Program} {e : TypeId} {x : DataW H} {n : Nat} : ∀ (l : List (DataW H)), x ∈ l → n ∈ x.weights P e → n ∈ DataW.weightsAll P e l
  | [], h, _ => by cases h
  | y :: l, h, hn => by
    simp only [DataW.weightsAll, List.mem_append]
    rcases List.mem_cons.1 h with h | h
    · subst h; exact Or.inl hn
    · exact Or.inr (weights_all l h hn)
theorem bytesU8 : Tryd.prog.bytesOf 5 = 1 := by kernel_rfl
theorem bytes_w {fuel : Nat} {A : Option Addr} {n c : Nat} {y : DataW H × List MemPlace} (h : DataW.trod enc Tryd.prog W b1 sp hd fuel 29 [.slice A n c] = some y) : n = 0 ∨ ∃ wt ∈ y.1.weights Tryd.prog 29, n ≤ wt := by
  rcases open_slice Tryd.underlying29 h with ⟨hcs, _⟩ | ⟨a, len, cap, m', n', D, Pl, hcs, _, hl, hm, hmm, hsp, hi⟩
  · injection hcs with hcs
    injection hcs with _ hn _
    exact Or.inl hn
  · injection hcs with hcs
    injection hcs with _ hn _
    subst hn
    rw [hsp]
    refine Or.inr ⟨_, by simp only [DataW.weights, Tryd.underlying29]; exact List.mem_cons_self .., ?_⟩
    rw [bytesU8, List.length_map, List.length_range]
    omega
theorem trod_bytess_w {m : Nat} {c0 : Value} {y : DataW H × List MemPlace} (h : DataW.trod enc Tryd.prog W b1 sp hd m 23 [c0] = some y) : ∃ (A : Option Addr) (n c : Nat) (Ps : List (List Nat)), c0 = .slice A n c ∧ Pb W A n c Ps ∧ ∀ q ∈ Ps, q.length = 0 ∨ ∃ wt ∈ y.1.weights Tryd.prog 23, q.length ≤ wt := by
  rcases open_slice Tryd.underlying23 h with ⟨hcs, _⟩ | ⟨a, len, cap, m', n', D, Pl, hcs, _, hl, hm, hmm, hx, hi⟩
  · injection hcs with hcs
    subst hcs
    exact ⟨none, 0, 0, [], rfl, ⟨rfl, Nat.le_refl _, Nat.zero_le _, fun _ => rfl, fun i p hp => by simp at hp⟩, fun q hq => by cases hq⟩
  · injection hcs with hcs
    subst hcs
    unfold maxLen at hm
    have hC : ∀ i, i < len → ∃ q : List Nat, (∃ B m d, W.cell? (a.add i) = some (.slice B m d) ∧ Sb W B m d q) ∧ (q.length = 0 ∨ ∃ wt ∈ (D i).weights Tryd.prog 29, q.length ≤ wt) := fun i hin => by
      obtain ⟨cs', hc, ht⟩ := hi i (by rw [hmm]; split <;> omega)
      rw [cellsP1] at hc
      obtain ⟨_, hcl, hat⟩ := World.cells?_some hc
      match cs', hcl with
      | [c0], _ =>
        obtain ⟨B, m, d, ps, e, hs⟩ := bytes_of_trod ht
        injection e with e
        subst e
        have h0 := hat 0 (by omega)
        simp only [Nat.mul_one] at h0
        refine ⟨ps, ⟨B, m, d, h0, hs⟩, ?_⟩
        rw [← hs.len]
        exact bytes_w ht
    obtain ⟨Qs, hpl, hpp⟩ := list_of8 len _ hC
    refine ⟨some a, len, cap, Qs, rfl, ⟨hpl.symm, hl, by omega, (fun e => by cases e), fun i q hq => ?_⟩, fun q hq => ?_⟩
    · obtain ⟨⟨B, m, d, k1, k2⟩, _⟩ := hpp i q hq
      exact ⟨a, B, m, d, rfl, k1, k2⟩
    · obtain ⟨i, hi2⟩ := List.getElem?_of_mem hq
      rcases (hpp i q hi2).2 with h0 | ⟨wt, hw, hle⟩
      · exact Or.inl h0
      · refine Or.inr ⟨wt, ?_, hle⟩
        rw [hx]
        simp only [DataW.weights, Tryd.underlying23]
        refine List.mem_cons_of_mem _ (List.mem_append_left _ (weights_all _ ?_ hw))
        have := (List.getElem?_eq_some_iff.1 hi2).1
        exact List.mem_map_of_mem (List.mem_range.2 (by omega))
theorem open_leaves8 (hv : Value.okWide Tryd.prog W .any base 25 v) (h : DataW.Trod enc Tryd.prog W b1 sp hd 25 v d p) :
    ∃ (A : Option Addr) (n c : Nat) (is : List Int) (B : Option Addr) (m e : Nat) (bs : List (List Nat)), v = .agg #[.slice A n c, .slice B m e] ∧ Ib W A n c is ∧ Pb W B m e bs ∧ ∀ q ∈ bs, q.length = 0 ∨ ∃ wt ∈ d.weights Tryd.prog 25, q.length ≤ wt := by
  obtain ⟨cs, rfl, hsz, _⟩ : ∃ cs, v = .agg cs ∧ cs.size = Tryd.prog.cellsOf 25 ∧ Row.okWide Tryd.prog W .any base 25 cs := by
    simpa [Value.okWide, Tryd.underlying25] using hv
  rw [cellsLv] at hsz
  obtain ⟨c0, c1, rfl⟩ := array2 hsz
  obtain ⟨fuel, hf⟩ := h
  obtain ⟨xs, m', _, hx, _, hn, hel⟩ := DataW.trod_struct Tryd.underlying25 (show DataW.trod enc Tryd.prog W b1 sp hd fuel 25 [c0, c1] = some (d, p) by simpa [Value.cells] using hf)
  match xs, hn with
  | [y0, y1], _ =>
    have g0 : DataW.trod enc Tryd.prog W b1 sp hd m' 22 [c0] = some y0 := by simpa [cellsIs8, cellsPP8] using hel 0 _ rfl
    have g1 : DataW.trod enc Tryd.prog W b1 sp hd m' 23 [c1] = some y1 := by simpa [cellsIs8, cellsPP8] using hel 1 _ rfl
    obtain ⟨A, n, c, is, rfl, s0⟩ := trod_idx8 g0
    obtain ⟨B, m, e, bs, rfl, s1, hw⟩ := trod_bytess_w g1
    refine ⟨A, n, c, is, B, m, e, bs, rfl, s0, s1, fun q hq => ?_⟩
    rcases hw q hq with h0 | ⟨wt, hm, hle⟩
    · exact Or.inl h0
    · refine Or.inr ⟨wt, ?_, hle⟩
      have hd := congrArg Prod.fst hx
      simp only [List.map_cons, List.map_nil] at hd
      rw [hd]
      simp only [DataW.weights, Tryd.underlying25, List.map_cons, List.map_nil, DataW.weightsEach, List.mem_append]
      exact Or.inr (Or.inl hm)
theorem open_opening8 (hv : Value.okWide Tryd.prog W .any base 28 v) (h : DataW.Trod enc Tryd.prog W b1 sp hd 28 v d p) :
    ∃ (A : Option Addr) (n c : Nat) (ns : List (List Nat)), v = .agg #[.slice A n c] ∧ Db W A n c ns := by
  obtain ⟨cs, rfl, hsz, _⟩ : ∃ cs, v = .agg cs ∧ cs.size = Tryd.prog.cellsOf 28 ∧ Row.okWide Tryd.prog W .any base 28 cs := by
    simpa [Value.okWide, Tryd.underlying28] using hv
  rw [cellsOp] at hsz
  obtain ⟨c0, rfl⟩ : ∃ c0, cs = #[c0] := by
    refine ⟨cs[0]'(by omega), Array.ext (by simp [hsz]) fun i h1 h2 => ?_⟩
    obtain rfl : i = 0 := by simp at h2; omega
    rfl
  obtain ⟨fuel, hf⟩ := h
  obtain ⟨xs, m', _, hx, _, hn, hel⟩ := DataW.trod_struct Tryd.underlying28 (show DataW.trod enc Tryd.prog W b1 sp hd fuel 28 [c0] = some (d, p) by simpa [Value.cells] using hf)
  match xs, hn with
  | [y0], _ =>
    have g0 : DataW.trod enc Tryd.prog W b1 sp hd m' 26 [c0] = some y0 := by simpa [cellsDs] using hel 0 _ rfl
    obtain ⟨A, n, c, ns, rfl, s0⟩ := trod_digs g0
    exact ⟨A, n, c, ns, rfl, s0⟩
theorem open_member8 (hv : Value.okWide Tryd.prog W .any base 31 v) (h : DataW.Trod enc Tryd.prog W b1 sp hd 31 v d p) :
    ∃ (cnt ix : Int) (A : Option Addr) (n c : Nat) (b : List Nat) (B : Option Addr) (m e : Nat) (ns : List (List Nat)), v = .agg #[.int .i64 cnt, .int .i64 ix, .slice A n c, .slice B m e] ∧ (-9223372036854775808 ≤ cnt ∧ cnt ≤ 9223372036854775807) ∧ Sb W A n c b ∧ Db W B m e ns := by
  obtain ⟨cs, rfl, hsz, _⟩ : ∃ cs, v = .agg cs ∧ cs.size = Tryd.prog.cellsOf 31 ∧ Row.okWide Tryd.prog W .any base 31 cs := by
    simpa [Value.okWide, Tryd.underlying31] using hv
  rw [cellsMb] at hsz
  obtain ⟨c0, c1, c2, c3, rfl⟩ : ∃ c0 c1 c2 c3, cs = #[c0, c1, c2, c3] := by
    refine ⟨cs[0]'(by omega), cs[1]'(by omega), cs[2]'(by omega), cs[3]'(by omega), Array.ext (by simp [hsz]) fun i h1 h2 => ?_⟩
    have h3 : i < 4 := by simpa using h2
    match i, h3 with
    | 0, _ => rfl
    | 1, _ => rfl
    | 2, _ => rfl
    | 3, _ => rfl
  obtain ⟨fuel, hf⟩ := h
  obtain ⟨xs, m', _, hx, _, hn, hel⟩ := DataW.trod_struct Tryd.underlying31 (show DataW.trod enc Tryd.prog W b1 sp hd fuel 31 [c0, c1, c2, c3] = some (d, p) by simpa [Value.cells] using hf)
  match xs, hn with
  | [y0, y1, y2, y3], _ =>
    have g0 : DataW.trod enc Tryd.prog W b1 sp hd m' 3 [c0] = some y0 := by simpa [cellsIn8, cellsP1, cellsDs] using hel 0 _ rfl
    have g1 : DataW.trod enc Tryd.prog W b1 sp hd m' 3 [c1] = some y1 := by simpa [cellsIn8, cellsP1, cellsDs] using hel 1 _ rfl
    have g2 : DataW.trod enc Tryd.prog W b1 sp hd m' 29 [c2] = some y2 := by simpa [cellsIn8, cellsP1, cellsDs] using hel 2 _ rfl
    have g3 : DataW.trod enc Tryd.prog W b1 sp hd m' 26 [c3] = some y3 := by simpa [cellsIn8, cellsP1, cellsDs] using hel 3 _ rfl
    obtain ⟨z0, e0, _, w0⟩ := DataW.trod_int Tryd.underlying3 g0
    obtain ⟨z1, e1, _, w1⟩ := DataW.trod_int Tryd.underlying3 g1
    simp at e0 e1
    subst e0 e1
    obtain ⟨A, n, c, b, e2, s2⟩ := bytes_of_trod (d := y2.1) (p := y2.2) g2
    injection e2 with e2
    subst e2
    obtain ⟨B, m, e, ns, rfl, s3⟩ := trod_digs g3
    exact ⟨z0, z1, A, n, c, b, B, m, e, ns, rfl, bounds_i64 w0, s2, s3⟩
end
end Go.Proofs.YtgkojdbepgonkaaDoor
