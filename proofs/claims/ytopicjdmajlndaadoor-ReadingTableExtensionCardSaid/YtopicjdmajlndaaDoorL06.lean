/- Several texts in one: Qg, Qh, Qi. -/
import Derived.Test.YtopicjdmajlndaaDoorL05
namespace Go.Proofs.YtopicjdmajlndaaDoor
set_option linter.unusedVariables false
set_option linter.unusedSimpArgs false
set_option linter.unusedSectionVars false
set_option maxRecDepth 8000
open Go.RowKit Go.Proofs.YtopicjdmajlndaaDoor.K
def mkH (n b : Nat) : Hd := ⟨some ⟨b, 0, none⟩, n, n⟩
/-- blocks of the call's own that hold columns -/
structure RowsU (w : World) (t : TypeId) (base : Nat) (bs : List Nat) (xss : List (List Nat)) : Prop where
  len : bs.length = xss.length
  ge : ∀ b ∈ bs, base ≤ b
  nd : bs.Nodup
  row : ∀ (i b : Nat) (xs : List Nat), bs[i]? = some b → xss[i]? = some xs → RowG wdC w b t xs
section
variable {w w' : World} {t : TypeId} {base : Nat} {bs : List Nat} {xss : List (List Nat)}
theorem RowsU.keep (h : RowsU w t base bs xss) (hb : Below w.heap.size w w') : RowsU w' t base bs xss := ⟨h.len, h.ge, h.nd, fun i b xs hi hx => (h.row i b xs hi hx).keep hb⟩
theorem RowsU.far (h : RowsU w t base bs xss) {g : Nat} (hg : g ∉ bs) (hfar : ∀ k o, k ≠ g → w.heap[k]? = some o → w'.heap[k]? = some o) : RowsU w' t base bs xss :=
  ⟨h.len, h.ge, h.nd, fun i b xs hi hx => hfar b _ (fun e => hg (by rw [← e]; exact List.mem_of_getElem? hi)) (h.row i b xs hi hx)⟩
theorem RowsU.lt (h : RowsU w t base bs xss) : ∀ b ∈ bs, b < w.heap.size := fun b hb => by
  obtain ⟨i, hi, rfl⟩ := List.mem_iff_getElem.1 hb
  exact (h.row i _ _ (List.getElem?_eq_getElem hi) (List.getElem?_eq_getElem (by rw [← h.len]; exact hi))).lt
theorem RowsU.push (h : RowsU w t base bs xss) {b : Nat} {xs : List Nat} (hr : RowG wdC w b t xs) (hge : base ≤ b) (hn : b ∉ bs) : RowsU w t base (bs ++ [b]) (xss ++ [xs]) :=
  ⟨by simp [h.len], fun c hc => by rcases List.mem_append.1 hc with hc | hc; exact h.ge c hc; rw [List.mem_singleton] at hc; subst hc; exact hge,
    List.nodup_append.2 ⟨h.nd, by simp, fun a ha c hc e => by rw [List.mem_singleton] at hc; subst hc e; exact hn ha⟩, fun i c ys hi hx => by
    rw [List.getElem?_append] at hi hx
    rw [h.len] at hi
    split at hi
    · next hlt => rw [if_pos hlt] at hx; exact h.row i c ys hi hx
    · next hlt =>
      rw [if_neg hlt] at hx
      have h0 : i - xss.length = 0 := by have := (List.getElem?_eq_some_iff.1 hi).1; simp at this; omega
      rw [h0] at hi hx
      simp at hi hx
      subst hi hx
      exact hr⟩
theorem RowsU.nil : RowsU w t base [] [] := ⟨rfl, fun b hb => (by cases hb), List.nodup_nil, fun i b xs h => (by simp at h)⟩
theorem RowsU.store (h : RowsU w t base bs xss) {c b : Nat} {ys : List Nat} (hc : bs[c]? = some b) (hr : RowG wdC w' b t ys) (hfar : ∀ k o, k ≠ b → w.heap[k]? = some o → w'.heap[k]? = some o) : RowsU w' t base bs (xss.set c ys) :=
  ⟨by simp [h.len], h.ge, h.nd, fun i d xs hi hx => by
    by_cases e : i = c
    · subst e
      rw [hc] at hi
      injection hi with hi
      subst hi
      rw [List.getElem?_set_self (by rw [← h.len]; exact (List.getElem?_eq_some_iff.1 hc).1)] at hx
      injection hx with hx
      subst hx
      exact hr
    · rw [List.getElem?_set_ne (Ne.symm e)] at hx
      refine hfar d _ (fun e2 => e ?_) (h.row i d xs hi hx)
      subst e2
      obtain ⟨h1, h2⟩ := List.getElem?_eq_some_iff.1 hi
      obtain ⟨h3, h4⟩ := List.getElem?_eq_some_iff.1 hc
      exact (List.getElem_inj h.nd).1 (h2.trans h4.symm)⟩
end
/-- columns that are read -/
structure Cols (w : World) (A : Option Addr) (n c : Nat) (hs : List Hd) (xss : List (List Nat)) : Prop where
  head : Sg hdC 1 w A n c hs
  len : hs.length = xss.length
  row : ∀ (i : Nat) (h : Hd) (xs : List Nat), hs[i]? = some h → xss[i]? = some xs → Sg wdC 1 w h.A h.n h.c xs
theorem Cols.keep {w w' : World} {A : Option Addr} {n c : Nat} {hs : List Hd} {xss : List (List Nat)} (h : Cols w A n c hs xss) (hb : Below w.heap.size w w') : Cols w' A n c hs xss :=
  ⟨h.head.keep hb, h.len, fun i d xs hi hx => (h.row i d xs hi hx).keep hb⟩
theorem Cols.n_eq {w : World} {A : Option Addr} {n c : Nat} {hs : List Hd} {xss : List (List Nat)} (h : Cols w A n c hs xss) : n = xss.length := by rw [← h.len, h.head.len]
theorem RowsU.cols {w : World} {t t2 : TypeId} {base N g : Nat} {bs : List Nat} {xss : List (List Nat)} (h : RowsU w t base bs xss) (hg : RowG hdC w g t2 (bs.map (mkH N))) (hN : ∀ xs ∈ xss, xs.length = N) (hN2 : N ≤ 9223372036854775807) (hb2 : xss.length ≤ 9223372036854775807) :
    Cols w (some ⟨g, 0, none⟩) xss.length xss.length (bs.map (mkH N)) xss :=
  ⟨RowG.sg hg (by simp [h.len]) (Nat.le_refl _) hb2, by simp [h.len], fun i d xs hi hx => by
    rw [List.getElem?_map] at hi
    cases hb : bs[i]? with
    | none => rw [hb] at hi; cases hi
    | some b =>
      rw [hb] at hi
      injection hi with hi
      subst hi
      exact RowG.sg (h.row i b xs hb hx) (hN xs (List.mem_of_getElem? hx)) (Nat.le_refl _) hN2⟩
theorem set_fill {α : Type} (l : List α) (x z : α) (m : Nat) : (l ++ List.replicate (m + 1) z).set l.length x = (l ++ [x]) ++ List.replicate m z := by
  rw [List.set_append_right _ _ (Nat.le_refl _), Nat.sub_self, List.replicate_succ, List.set_cons_zero, List.append_assoc]
  rfl
theorem get_fill {α : Type} (l : List α) (z : α) (m i : Nat) (hi : i = l.length) (hm : 0 < m) : (l ++ List.replicate m z)[i]? = some z := by
  subst hi
  rw [List.getElem?_append_right (Nat.le_refl _), Nat.sub_self, List.getElem?_replicate, if_pos hm]
theorem take_map_succ {α β : Type} {f : α → β} {l : List α} {i : Nat} {x : α} (h : l[i]? = some x) : (l.take (i + 1)).map f = (l.take i).map f ++ [f x] := by
  obtain ⟨hi, rfl⟩ := List.getElem?_eq_some_iff.1 h
  rw [List.take_succ_eq_append_getElem hi, List.map_append]
  rfl
theorem set_tab {f : Nat → Nat} {m j : Nat} (v : Nat) : ((List.range m).map f).set j v = (List.range m).map fun q => if q = j then v else f q := by
  apply List.ext_getElem?
  intro i
  rw [List.getElem?_set]
  simp only [List.length_map, List.length_range, List.getElem?_map]
  by_cases e : j = i
  · subst e
    by_cases h : j < m
    · simp [h]
    · simp [h]
  · rw [if_neg e]
    by_cases h : i < m
    · simp [h, Ne.symm e]
    · simp [h]
theorem fl_append {α : Type} (E : α → List Value) (xs ys : List α) : fl E (xs ++ ys) = fl E xs ++ fl E ys := List.flatMap_append ..
theorem fl_set1 {α : Type} (E : α → List Value) (f : α → Value) [hE : Enc E 1] (xs : List α) (i : Nat) (x : α) (h : ∀ x, E x = [f x] := by intro x; rfl) : fl E (xs.set i x) = (fl E xs).set i (f x) := by
  induction xs generalizing i with
  | nil => simp
  | cons a xs ih =>
    cases i with
    | zero => simp [h]
    | succ i =>
      simp only [fl, List.set_cons_succ, List.flatMap_cons, h, List.singleton_append] at ih ⊢
      rw [ih]
theorem own_rowkeep {w w' : World} {base b : Nat} {e u : TypeId} {size n : Nat} {v : Value} {cs : List Value} {ds : Array Value} (h : w.ownsRow base e size v n cs) (hg : w.grownBy w' v.ownBlock) (hb : w.heap[b]? = some (.cells ds u (0, 0))) (hne : u ≠ e) : w'.heap[b]? = some (.cells ds u (0, 0)) :=
  (hg.block b (xp_lt hb) (fun he => by
    rcases h.2 with ⟨rfl, _⟩ | ⟨g, cap, cur, rfl, hbs, hgg, _⟩
    · cases he
    · simp only [Value.ownBlock] at he
      injection he with he
      subst he
      rw [hgg] at hb
      injection hb with hb
      injection hb with _ hb2
      exact hne hb2.symm)).trans hb
theorem own_farB {w w' : World} {base b : Nat} {e : TypeId} {size n : Nat} {v : Value} {cs : List Value} (h : w.ownsRow base e size v n cs) (hb : b < base) (hfar : ∀ k o, k ≠ b → w.heap[k]? = some o → w'.heap[k]? = some o) : w'.ownsRow base e size v n cs := by
  refine ⟨h.1, ?_⟩
  rcases h.2 with hn | ⟨g, cap, cur, rfl, hbs, hgg, rest⟩
  · exact .inl hn
  · exact .inr ⟨g, cap, cur, rfl, hbs, hfar g _ (by omega) hgg, rest⟩
end Go.Proofs.YtopicjdmajlndaaDoor

namespace Go.Proofs.YtopicjdmajlndaaDoor
set_option linter.unusedVariables false
set_option linter.unusedSimpArgs false
set_option linter.unusedSectionVars false
set_option maxRecDepth 8000
open Go.RowKit Go.Proofs.YtopicjdmajlndaaDoor.K
attribute [local irreducible] wpList wpQuiet
set_option maxRecDepth 100000 in
set_option maxHeartbeats 8000000 in
theorem copied_any (A : Option Addr) (n c : Nat) (rs : List Rd) (B : Option Addr) (m d : Nat) (gs : List Bool) (N : Nat) (hN : N ≤ 1000000) (hn : n ≤ N) (hm : m ≤ N) (w : World) (hL : Sg rdC 4 w A n c rs) (hG : Sg boC 1 w B m d gs) :
    Calls Tryd.prog 42 #[.agg #[.slice A n c, .slice B m d], .int .i64 (N : Int)] w fun e w' => ∃ b1 b2, e = .returned (.agg #[.slice (some ⟨b1, 0, none⟩) N N, .slice (some ⟨b2, 0, none⟩) N N]) ∧ RowG rdC w' b1 24 (rs ++ List.replicate (N - n) (Rd.mk 0 0 0 0)) ∧ RowG boC w' b2 4 (gs ++ List.replicate (N - m) false) ∧ w.heap.size ≤ b1 ∧ w.heap.size ≤ b2 ∧ Below w.heap.size w w' := by
  have HL := Lib.hid hL
  have HG := Lib.hid hG
  have hln := hL.len
  have hgn := hG.len
  clear hL hG
  go_enter Tryd.func42, Tryd.ntmps42
  go_upto_region 1 with fail
  refine wp_named2 (fun V1 hb g0 g1 hlt => ?_)
  have B0 := Lib.hid hb
  have Fv0_2 : Hid (V1.heap[w.heap.size]? = some (.cells #[.slice A n c, .slice B m d] 30 (0, 0))) := Lib.hid (g0)
  have Fv1_4 : Hid (V1.heap[(w.heap.size + 1)]? = some (.cells #[.slice none 0 0, .slice none 0 0] 30 (0, 0))) := Lib.hid (g1)
  have Nb0_1 : Hid (w.heap.size ≠ (w.heap.size + 1)) := Lib.hid (by omega)
  have Gb0 : Hid (w.heap.size ≤ w.heap.size) := Lib.hid (by omega)
  have Gb1 : Hid (w.heap.size ≤ (w.heap.size + 1)) := Lib.hid (by omega)
  clear hb g0 g1 hlt
  have Lt0 : Hid (w.heap.size < V1.heap.size) := Lib.hid (xp_lt Fv0_2.out)
  have Lt1 : Hid ((w.heap.size + 1) < V1.heap.size) := Lib.hid (xp_lt Fv1_4.out)
  refine wp_floatP [0, 1, 2, 3, 4, 5, 6] (l' := [_, _, _, _, _, _, _]) (by kernel_rfl) (lexOK_of (by kernel_rfl) (by kernel_rfl)) (ordOK_of (by kernel_rfl) (by kernel_rfl)) rfl rfl ?_
  simp only [List.getElem_toArray, List.getElem_cons_succ, List.getElem_cons_zero]
  intro V2 hb hSW
  have B1 := Lib.hid hb
  have HF2 := Lib.hid hSW
  clear hb hSW
  refine wpF_seg 1 (by kernel_rfl) ?_
  simp only [List.take_succ_cons, List.take_zero, List.drop_succ_cons, List.drop_zero]
  refine wpQuiet_val (by kernel_rfl) (.int .i64 (N : Int)) (fun v hv => rfl) ?_
  simp only [Act.put, List.setIfInBounds_toArray, List.set_cons_zero, List.set_cons_succ]
  refine wpQuiet_nil ?_
  refine wpF_make (.cells ((List.replicate N (Rd.mk 0 0 0 0)).flatMap rdC).toArray 24, fun b => .slice (some ⟨b, 0, none⟩) N N) (by kernel_rfl) (by kernel_rfl) (by kernel_rfl) (fun V => xg_make (E := rdC) (bytes := 32) (.agg #[.int .i64 0, .int .i64 0, .int .i64 0, .int .i64 0]) (Rd.mk 0 0 0 0) N .i64 Tryd.underlying27 (by kernel_rfl) rfl (by omega) (by omega) rfl rfl rfl) (fun g7 V3 hb h0 hbz => ?_)
  have Ge2 : Hid (V1.heap.size ≤ g7) := Lib.hid hbz
  have B2 := Lib.hid hb
  have HF3 := Lib.hid (HF2.out.ext hb)
  have Fv3_7 : Hid (RowG rdC V3 g7 24 (List.replicate N (Rd.mk 0 0 0 0))) := Lib.hid (h0)
  have N4 : Hid (w.heap.size ≠ g7) := Lib.hid (Nat.ne_of_lt (Nat.lt_of_lt_of_le (xp_lt Fv0_2.out) hbz))
  have N5 : Hid ((w.heap.size + 1) ≠ g7) := Lib.hid (Nat.ne_of_lt (Nat.lt_of_lt_of_le (xp_lt Fv1_4.out) hbz))
  clear hb h0 hbz
  simp only [ptr, Act.put, List.setIfInBounds_toArray, List.set_cons_zero, List.set_cons_succ]
  refine wpF_seg 1 (by kernel_rfl) ?_
  simp only [List.take_succ_cons, List.take_zero, List.drop_succ_cons, List.drop_zero]
  refine wpQuiet_val (by kernel_rfl) (.int .i64 (N : Int)) (fun v hv => rfl) ?_
  simp only [Act.put, List.setIfInBounds_toArray, List.set_cons_zero, List.set_cons_succ]
  refine wpQuiet_nil ?_
  refine wpF_make (.cells ((List.replicate N false).flatMap boC).toArray 4, fun b => .slice (some ⟨b, 0, none⟩) N N) (by kernel_rfl) (by kernel_rfl) (by kernel_rfl) (fun V => xg_make (E := boC) (bytes := 1) (.bool false) false N .i64 Tryd.underlying28 (by kernel_rfl) rfl (by omega) (by omega) rfl rfl rfl) (fun g9 V4 hb h0 hbz => ?_)
  have Ge6 : Hid (V1.heap.size ≤ g9) := Lib.hid hbz
  have B3 := Lib.hid hb
  have HF4 := Lib.hid (HF3.out.ext hb)
  have Fv7_9 : Hid (RowG boC V4 g9 4 (List.replicate N false)) := Lib.hid (h0)
  have N8 : Hid (w.heap.size ≠ g9) := Lib.hid (Nat.ne_of_lt (Nat.lt_of_lt_of_le (xp_lt Fv0_2.out) hbz))
  have N9 : Hid ((w.heap.size + 1) ≠ g9) := Lib.hid (Nat.ne_of_lt (Nat.lt_of_lt_of_le (xp_lt Fv1_4.out) hbz))
  have N10 : Hid (g7 ≠ g9) := Lib.hid (ne_types (Fv3_7.out.keep B3.out) Fv7_9.out (by decide))
  clear hb h0 hbz
  simp only [ptr, Act.put, List.setIfInBounds_toArray, List.set_cons_zero, List.set_cons_succ]
  refine wpF_seg 1 (by kernel_rfl) ?_
  simp only [List.take_succ_cons, List.take_zero, List.drop_succ_cons, List.drop_zero]
  refine wpQuiet_val (by kernel_rfl) (.agg #[.slice (some ⟨g7, 0, none⟩) N N, .slice (some ⟨g9, 0, none⟩) N N]) (fun v hv => (by unfold execOp; go_simp)) ?_
  simp only [Act.put, List.setIfInBounds_toArray, List.set_cons_zero, List.set_cons_succ]
  refine wpQuiet_nil ?_
  refine wpF_make (.cells #[.slice none 0 0, .slice none 0 0] 30, fun b => ptr b) (by kernel_rfl) (by kernel_rfl) (by kernel_rfl) (fun V => xo_alloc #[.slice none 0 0, .slice none 0 0] (by kernel_rfl) rfl) (fun b5 V5 hb h0 hbz => ?_)
  have Ge11 : Hid (V1.heap.size ≤ b5) := Lib.hid hbz
  have B4 := Lib.hid hb
  have HF5 := Lib.hid (HF4.out.ext hb)
  have Fv12_5 : Hid (V5.heap[b5]? = some (.cells #[.slice none 0 0, .slice none 0 0] 30 (0, 0))) := Lib.hid (h0)
  have N13 : Hid (w.heap.size ≠ b5) := Lib.hid (Nat.ne_of_lt (Nat.lt_of_lt_of_le (xp_lt Fv0_2.out) hbz))
  have N14 : Hid ((w.heap.size + 1) ≠ b5) := Lib.hid (Nat.ne_of_lt (Nat.lt_of_lt_of_le (xp_lt Fv1_4.out) hbz))
  have C3_5 := Lib.hid (bel_step B3.out B4.out)
  have N15 : Hid (g7 ≠ b5) := Lib.hid (ne_types (Fv3_7.out.keep C3_5.out) Fv12_5.out (by decide))
  have N16 : Hid (g9 ≠ b5) := Lib.hid (ne_types (Fv7_9.out.keep B4.out) Fv12_5.out (by decide))
  clear hb h0
  simp only [ptr, Act.put, List.setIfInBounds_toArray, List.set_cons_zero, List.set_cons_succ]
  refine wpF_last (fun V => V.setRow b5 #[.slice (some ⟨g7, 0, none⟩) N N, .slice (some ⟨g9, 0, none⟩) N N]) (by kernel_rfl) (by kernel_rfl) (by kernel_rfl) (fun V hV => xo_storeW (x := .tmp 5) (y := .tmp 10) b5 #[.slice none 0 0, .slice none 0 0] #[.slice (some ⟨g7, 0, none⟩) N N, .slice (some ⟨g9, 0, none⟩) N N] (heap_keep Fv12_5.out hV) (by kernel_rfl) rfl (by simp [Value.oneCell']) rfl rfl rfl) (fun V hV => ⟨⟨_, bel_setRow (HF5.out.ext hV).below hbz _⟩, rfl⟩) (fun V hV X5 hX => ?_)
  have hU : Below V1.heap.size V1 X5 := (bel_setRow (HF5.out.ext hV).below hbz _).trans (hX.mono (bel_setRow (HF5.out.ext hV).below hbz #[.slice (some ⟨g7, 0, none⟩) N N, .slice (some ⟨g9, 0, none⟩) N N]).size)
  have YFv12_5 : X5.heap[b5]? = some (.cells #[.slice (some ⟨g7, 0, none⟩) N N, .slice (some ⟨g9, 0, none⟩) N N] 30 (0, 0)) := heap_keep (setRow_heap V b5 _ #[.slice (some ⟨g7, 0, none⟩) N N, .slice (some ⟨g9, 0, none⟩) N N] _ _ (heap_keep Fv12_5.out hV)) hX
  have YFv3_7 : RowG rdC X5 g7 24 (List.replicate N (Rd.mk 0 0 0 0)) := heap_keep (heap_farRow (heap_keep (Fv3_7.out.keep C3_5.out) hV) N15.out #[.slice (some ⟨g7, 0, none⟩) N N, .slice (some ⟨g9, 0, none⟩) N N]) hX
  have YFv7_9 : RowG boC X5 g9 4 (List.replicate N false) := heap_keep (heap_farRow (heap_keep (Fv7_9.out.keep B4.out) hV) N16.out #[.slice (some ⟨g7, 0, none⟩) N N, .slice (some ⟨g9, 0, none⟩) N N]) hX
  clear hV hX hbz
  clear HF2
  clear HF3
  clear HF4
  clear HF5
  have hbr := hU
  clear B1
  have B1 := Lib.hid hbr
  clear hbr
  clear hU
  clear Fv3_7
  have Fv3_7 : Hid (RowG rdC X5 g7 24 (List.replicate N (Rd.mk 0 0 0 0))) := Lib.hid YFv3_7
  clear YFv3_7
  clear Fv7_9
  have Fv7_9 : Hid (RowG boC X5 g9 4 (List.replicate N false)) := Lib.hid YFv7_9
  clear YFv7_9
  clear Fv12_5
  have Fv12_5 : Hid (X5.heap[b5]? = some (.cells #[.slice (some ⟨g7, 0, none⟩) N N, .slice (some ⟨g9, 0, none⟩) N N] 30 (0, 0))) := Lib.hid YFv12_5
  clear YFv12_5
  simp only [Act.put, List.setIfInBounds_toArray, List.set_cons_zero, List.set_cons_succ]
  go_upto_region 2 with fail
  refine wp_region_lit ?_
  refine wpList_run (by kernel_rfl) (.pointer (some ⟨b5, 0, none⟩)) X5 (xo_fld0 0 b5 0 (by kernel_rfl) rfl rfl) ?_
  simp only [Act.put, List.setIfInBounds_toArray, List.set_cons_zero, List.set_cons_succ]
  refine wpList_run (by kernel_rfl) (.slice (some ⟨g7, 0, none⟩) N N) X5 (xo_load1 ⟨b5, 0, none⟩ _ (cells_at Fv12_5.out 0 rfl) Tryd.underlying27 rfl rfl rfl) ?_
  simp only [Act.put, List.setIfInBounds_toArray, List.set_cons_zero, List.set_cons_succ]
  refine wpList_run (by kernel_rfl) (.pointer (some ⟨w.heap.size, 0, none⟩)) X5 (xo_fld0 0 w.heap.size 0 (by kernel_rfl) rfl rfl) ?_
  simp only [Act.put, List.setIfInBounds_toArray, List.set_cons_zero, List.set_cons_succ]
  refine wpList_run (by kernel_rfl) (.slice A n c) X5 (xo_load1 ⟨w.heap.size, 0, none⟩ _ (cells_at (heap_keep Fv0_2.out B1.out) 0 rfl) Tryd.underlying27 rfl rfl rfl) ?_
  simp only [Act.put, List.setIfInBounds_toArray, List.set_cons_zero, List.set_cons_succ]
  have C0_2 := Lib.hid (bel_step B0.out B1.out)
  refine wpList_rowV (.int .i64 ((n : Nat) : Int)) g7 _ _ 24 (by kernel_rfl) (RowG.h Fv3_7.out) (xg_copy (dl := N) Fv3_7.out (List.length_replicate ..).symm (HL.out.keep C0_2.out) (by omega) Tryd.underlying27 (by kernel_rfl) rfl rfl rfl) ?_
  intro X2_17 h1 hfar hbel hsz
  have YFv7_9 : RowG boC X2_17 g9 4 (List.replicate N false) := hfar _ _ (Ne.symm N10.out) Fv7_9.out
  have YFv12_5 : X2_17.heap[b5]? = some (.cells #[.slice (some ⟨g7, 0, none⟩) N N, .slice (some ⟨g9, 0, none⟩) N N] 30 (0, 0)) := hfar _ _ (Ne.symm N15.out) Fv12_5.out
  have hbr := hbel _ _ Ge2.out B1.out
  clear B1
  have B1 := Lib.hid hbr
  clear hbr
  clear Fv7_9
  have Fv7_9 : Hid (RowG boC X2_17 g9 4 (List.replicate N false)) := Lib.hid YFv7_9
  clear YFv7_9
  clear Fv12_5
  have Fv12_5 : Hid (X2_17.heap[b5]? = some (.cells #[.slice (some ⟨g7, 0, none⟩) N N, .slice (some ⟨g9, 0, none⟩) N N] 30 (0, 0))) := Lib.hid YFv12_5
  clear YFv12_5
  clear Fv3_7
  have Fv3_7 : Hid (RowG rdC X2_17 g7 24 (rs ++ (List.replicate N (Rd.mk 0 0 0 0)).drop n)) := Lib.hid (h1)
  have HszX2_17 := Lib.hid hsz
  clear h1 hfar hbel hsz
  simp only [ptr, Act.put, List.setIfInBounds_toArray, List.set_cons_zero, List.set_cons_succ]
  refine wpList_nil ?_
  go_upto_region 3 with fail
  refine wp_region_lit ?_
  refine wpList_run (by kernel_rfl) (.pointer (some ⟨b5, 1, none⟩)) X2_17 (xo_fld0 1 b5 1 (by kernel_rfl) rfl rfl) ?_
  simp only [Act.put, List.setIfInBounds_toArray, List.set_cons_zero, List.set_cons_succ]
  refine wpList_run (by kernel_rfl) (.slice (some ⟨g9, 0, none⟩) N N) X2_17 (xo_load1 ⟨b5, 1, none⟩ _ (cells_at Fv12_5.out 1 rfl) Tryd.underlying28 rfl rfl rfl) ?_
  simp only [Act.put, List.setIfInBounds_toArray, List.set_cons_zero, List.set_cons_succ]
  refine wpList_run (by kernel_rfl) (.pointer (some ⟨w.heap.size, 1, none⟩)) X2_17 (xo_fld0 1 w.heap.size 1 (by kernel_rfl) rfl rfl) ?_
  simp only [Act.put, List.setIfInBounds_toArray, List.set_cons_zero, List.set_cons_succ]
  refine wpList_run (by kernel_rfl) (.slice B m d) X2_17 (xo_load1 ⟨w.heap.size, 1, none⟩ _ (cells_at (heap_keep Fv0_2.out B1.out) 1 rfl) Tryd.underlying28 rfl rfl rfl) ?_
  simp only [Act.put, List.setIfInBounds_toArray, List.set_cons_zero, List.set_cons_succ]
  have C0_2 := Lib.hid (bel_step B0.out B1.out)
  refine wpList_rowV (.int .i64 ((m : Nat) : Int)) g9 _ _ 4 (by kernel_rfl) (RowG.h Fv7_9.out) (xg_copy (dl := N) Fv7_9.out (List.length_replicate ..).symm (HG.out.keep C0_2.out) (by omega) Tryd.underlying28 (by kernel_rfl) rfl rfl rfl) ?_
  intro X2_18 h1 hfar hbel hsz
  have YFv3_7 : RowG rdC X2_18 g7 24 (rs ++ (List.replicate N (Rd.mk 0 0 0 0)).drop n) := hfar _ _ N10.out Fv3_7.out
  have YFv12_5 : X2_18.heap[b5]? = some (.cells #[.slice (some ⟨g7, 0, none⟩) N N, .slice (some ⟨g9, 0, none⟩) N N] 30 (0, 0)) := hfar _ _ (Ne.symm N16.out) Fv12_5.out
  have hbr := hbel _ _ Ge6.out B1.out
  clear B1
  have B1 := Lib.hid hbr
  clear hbr
  clear Fv3_7
  have Fv3_7 : Hid (RowG rdC X2_18 g7 24 (rs ++ (List.replicate N (Rd.mk 0 0 0 0)).drop n)) := Lib.hid YFv3_7
  clear YFv3_7
  clear Fv12_5
  have Fv12_5 : Hid (X2_18.heap[b5]? = some (.cells #[.slice (some ⟨g7, 0, none⟩) N N, .slice (some ⟨g9, 0, none⟩) N N] 30 (0, 0))) := Lib.hid YFv12_5
  clear YFv12_5
  clear Fv7_9
  have Fv7_9 : Hid (RowG boC X2_18 g9 4 (gs ++ (List.replicate N false).drop m)) := Lib.hid (h1)
  have HszX2_18 := Lib.hid hsz
  clear h1 hfar hbel hsz
  simp only [ptr, Act.put, List.setIfInBounds_toArray, List.set_cons_zero, List.set_cons_succ]
  refine wpList_nil ?_
  go_upto_region 4 with fail
  refine wp_region_lit ?_
  refine wpList_run (by kernel_rfl) (.agg #[.slice (some ⟨g7, 0, none⟩) N N, .slice (some ⟨g9, 0, none⟩) N N]) X2_18 (xo_loadW b5 _ Fv12_5.out Tryd.underlying30 rfl (by kernel_rfl) rfl rfl) ?_
  simp only [Act.put, List.setIfInBounds_toArray, List.set_cons_zero, List.set_cons_succ]
  refine wpList_storeW (w.heap.size + 1) #[.slice none 0 0, .slice none 0 0] #[.slice (some ⟨g7, 0, none⟩) N N, .slice (some ⟨g9, 0, none⟩) N N] 30 (by kernel_rfl) (heap_keep Fv1_4.out B1.out) (xo_storeW (w.heap.size + 1) #[.slice none 0 0, .slice none 0 0] #[.slice (some ⟨g7, 0, none⟩) N N, .slice (some ⟨g9, 0, none⟩) N N] (heap_keep Fv1_4.out B1.out) (by kernel_rfl) rfl (by simp [Value.oneCell']) rfl rfl rfl) ?_
  intro X2_19 h1 hfar hbel hsz
  have YFv0_2 : X2_19.heap[w.heap.size]? = some (.cells #[.slice A n c, .slice B m d] 30 (0, 0)) := hfar _ _ Nb0_1.out (heap_keep Fv0_2.out B1.out)
  have YFv3_7 : RowG rdC X2_19 g7 24 (rs ++ (List.replicate N (Rd.mk 0 0 0 0)).drop n) := hfar _ _ (Ne.symm N5.out) Fv3_7.out
  have YFv7_9 : RowG boC X2_19 g9 4 (gs ++ (List.replicate N false).drop m) := hfar _ _ (Ne.symm N9.out) Fv7_9.out
  have YFv12_5 : X2_19.heap[b5]? = some (.cells #[.slice (some ⟨g7, 0, none⟩) N N, .slice (some ⟨g9, 0, none⟩) N N] 30 (0, 0)) := hfar _ _ (Ne.symm N14.out) Fv12_5.out
  have Gs20 : Hid (w.heap.size ≤ g7) := Lib.hid (Nat.le_trans B0.out.size Ge2.out)
  have Gs21 : Hid (w.heap.size ≤ g9) := Lib.hid (Nat.le_trans B0.out.size Ge6.out)
  have Gs22 : Hid (w.heap.size ≤ b5) := Lib.hid (Nat.le_trans B0.out.size Ge11.out)
  have C0_2 := Lib.hid (bel_step B0.out B1.out)
  have hbr := hbel _ _ Gb1.out C0_2.out
  clear B0
  have B0 := Lib.hid hbr
  clear hbr
  clear Fv0_2
  have Fv0_2 : Hid (X2_19.heap[w.heap.size]? = some (.cells #[.slice A n c, .slice B m d] 30 (0, 0))) := Lib.hid YFv0_2
  clear YFv0_2
  clear Fv3_7
  have Fv3_7 : Hid (RowG rdC X2_19 g7 24 (rs ++ (List.replicate N (Rd.mk 0 0 0 0)).drop n)) := Lib.hid YFv3_7
  clear YFv3_7
  clear Fv7_9
  have Fv7_9 : Hid (RowG boC X2_19 g9 4 (gs ++ (List.replicate N false).drop m)) := Lib.hid YFv7_9
  clear YFv7_9
  clear Fv12_5
  have Fv12_5 : Hid (X2_19.heap[b5]? = some (.cells #[.slice (some ⟨g7, 0, none⟩) N N, .slice (some ⟨g9, 0, none⟩) N N] 30 (0, 0))) := Lib.hid YFv12_5
  clear YFv12_5
  clear Fv1_4
  have Fv1_4 : Hid (X2_19.heap[(w.heap.size + 1)]? = some (.cells #[.slice (some ⟨g7, 0, none⟩) N N, .slice (some ⟨g9, 0, none⟩) N N] 30 (0, 0))) := Lib.hid (h1)
  have HszX2_19 := Lib.hid hsz
  clear h1 hfar hbel hsz
  simp only [ptr, Act.put, List.setIfInBounds_toArray, List.set_cons_zero, List.set_cons_succ]
  refine wpList_nil ?_
  go_wp2_with fail
  refine bodyPost_ret (v := .agg #[.slice (some ⟨g7, 0, none⟩) N N, .slice (some ⟨g9, 0, none⟩) N N]) ?_ rfl ⟨g7, g9, rfl, (by have h := Fv3_7.out; rw [List.drop_replicate] at h; exact h), (by have h := Fv7_9.out; rw [List.drop_replicate] at h; exact h), Gs20.out, Gs21.out, B0.out⟩
  exact results_cell_row rfl _ _ (w.heap.size + 1) 30 _ (0, 0) _ rfl Fv1_4.out Tryd.underlying30 rfl (by kernel_rfl)
set_option maxRecDepth 100000 in
set_option maxHeartbeats 8000000 in
theorem rowWidth_any (n : Nat) (hn : n ≤ 128) (w : World) : Calls Tryd.prog 51 #[.int .i64 (n : Int)] w fun e w' => e = .returned (.int .i64 ((widthN n 7 1 : Nat) : Int)) ∧ Below w.heap.size w w' := by
  go_enter Tryd.func51, Tryd.ntmps51
  go_upto_region 1 with fail
  refine wp_region_lit ?_
  refine wpList_run (by kernel_rfl) (.int .i64 1) w rfl ?_
  simp only [Act.put, List.setIfInBounds_toArray, List.set_cons_zero, List.set_cons_succ]
  refine wpList_nil ?_
  go_wp2_with fail
  go_loopw [3] (fun p wr => ∃ f v : Nat, p = .int .i64 v ∧ n ≤ v * 2 ^ f ∧ 1 ≤ v ∧ v ≤ 256 ∧ widthN n f v = widthN n 7 1 ∧ Below w.heap.size w wr) (fun p _ => 128 - (intOf p).toNat)
  case atStart => exact ⟨7, 1, rfl, by omega, by omega, by omega, rfl, Below.refl _ _⟩
  case round =>
    obtain ⟨wo, rfl⟩ : ∃ wo : World, wo = wr := ⟨_, rfl⟩
    obtain ⟨f, v, rfl, hf, hv1, hv2, he, hb0⟩ := hrel
    have HE := Lib.hid he
    have B0 := Lib.hid (Below.refl w.heap.size w)
    have hbr := hb0
    clear B0
    have B0 := Lib.hid hbr
    clear hbr
    clear hb0 he
    by_cases hlt : v < n
    · have hlti : (v : Int) < (n : Int) := by omega
      go_upto_region 2 with fail
      refine wp_region_lit ?_
      refine wpList_run (by kernel_rfl) (.int .i64 (v : Int)) wo rfl ?_
      simp only [Act.put, List.setIfInBounds_toArray, List.set_cons_zero, List.set_cons_succ]
      refine wpList_run (by kernel_rfl) (.int .i64 (n : Int)) wo rfl ?_
      simp only [Act.put, List.setIfInBounds_toArray, List.set_cons_zero, List.set_cons_succ]
      refine wpList_run (by kernel_rfl) (.bool true) wo (xo_lssT .i64 (v : Int) (n : Int) (by omega) rfl rfl rfl) ?_
      simp only [Act.put, List.setIfInBounds_toArray, List.set_cons_zero, List.set_cons_succ]
      refine wpList_nil ?_
      go_upto_region 3 with fail
      refine wp_region_lit ?_
      refine wpList_run (by kernel_rfl) (.int .i64 (v : Int)) wo rfl ?_
      simp only [Act.put, List.setIfInBounds_toArray, List.set_cons_zero, List.set_cons_succ]
      refine wpList_run (by kernel_rfl) (.int .i64 ((2 * v : Nat) : Int)) wo (xo_mulI (v : Int) 2 ((2 * v : Nat) : Int) (by omega) (by omega) (by omega) rfl rfl rfl) ?_
      simp only [Act.put, List.setIfInBounds_toArray, List.set_cons_zero, List.set_cons_succ]
      refine wpList_run (by kernel_rfl) (.int .i64 ((2 * v : Nat) : Int)) wo rfl ?_
      simp only [Act.put, List.setIfInBounds_toArray, List.set_cons_zero, List.set_cons_succ]
      refine wpList_nil ?_
      go_wp2_with fail
      go_roundw
      case rel => cases f with
      | zero => exact absurd hf (by rw [Nat.pow_zero]; omega)
      | succ f => exact ⟨f, 2 * v, rfl, (by rw [Nat.pow_succ] at hf; have e : 2 * v * 2 ^ f = v * (2 ^ f * 2) := (by rw [Nat.mul_comm 2 v, Nat.mul_assoc, Nat.mul_comm 2]); omega), by omega, by omega, by rw [← HE.out, widthN, if_pos hlt], B0.out⟩
      case measure => simp [intOf]; omega
    · have hlti : ¬ (v : Int) < (n : Int) := by omega
      have e2 : widthN n 7 1 = v := by rw [← HE.out]; cases f with | zero => rfl | succ f => rw [widthN, if_neg hlt]
      go_upto_region 2 with fail
      refine wp_region_lit ?_
      refine wpList_run (by kernel_rfl) (.int .i64 (v : Int)) wo rfl ?_
      simp only [Act.put, List.setIfInBounds_toArray, List.set_cons_zero, List.set_cons_succ]
      refine wpList_run (by kernel_rfl) (.int .i64 (n : Int)) wo rfl ?_
      simp only [Act.put, List.setIfInBounds_toArray, List.set_cons_zero, List.set_cons_succ]
      refine wpList_run (by kernel_rfl) (.bool false) wo (xo_lssF .i64 (v : Int) (n : Int) (by omega) rfl rfl rfl) ?_
      simp only [Act.put, List.setIfInBounds_toArray, List.set_cons_zero, List.set_cons_succ]
      refine wpList_nil ?_
      go_upto_region 4 with fail
      refine wp_region_lit ?_
      refine wpList_run (by kernel_rfl) (.int .i64 (v : Int)) wo rfl ?_
      simp only [Act.put, List.setIfInBounds_toArray, List.set_cons_zero, List.set_cons_succ]
      refine wpList_run (by kernel_rfl) (.int .i64 (v : Int)) wo rfl ?_
      simp only [Act.put, List.setIfInBounds_toArray, List.set_cons_zero, List.set_cons_succ]
      refine wpList_nil ?_
      go_wp2_with fail
      go_ret
      exact ⟨by first | rfl | (rw [e2]), B0.out⟩
set_option maxRecDepth 100000 in
set_option maxHeartbeats 8000000 in
theorem bitColumn_any (A : Option Addr) (n c : Nat) (xs : List Nat) (k : Nat) (hk : k < 64) (hn : n ≤ 1000000) (hw : ∀ x ∈ xs, x < 18446744073709551616) (w : World) (h : Sg wdC 1 w A n c xs) :
    Calls Tryd.prog 49 #[.slice A n c, .int .i64 (k : Int)] w fun e w' => ∃ b, e = .returned (.slice (some ⟨b, 0, none⟩) n n) ∧ RowG wdC w' b 50 (bitN xs k) ∧ w.heap.size ≤ b ∧ Below w.heap.size w w' := by
  have HX := Lib.hid h
  have hln := h.len
  clear h
  go_enter Tryd.func49, Tryd.ntmps49
  go_upto_region 1 with fail
  refine wp_region_lit ?_
  refine wpList_run (by kernel_rfl) (.slice A n c) w rfl ?_
  simp only [Act.put, List.setIfInBounds_toArray, List.set_cons_zero, List.set_cons_succ]
  refine wpList_run (by kernel_rfl) (.int .i64 (n : Int)) w (xo_len A n c Tryd.underlying48 rfl rfl) ?_
  simp only [Act.put, List.setIfInBounds_toArray, List.set_cons_zero, List.set_cons_succ]
  refine wpList_mk (by kernel_rfl) ((List.replicate n 0).flatMap wdC).toArray 50 n n (xg_make (E := wdC) (bytes := 8) (.int .u64 0) 0 n .i64 Tryd.underlying48 (by kernel_rfl) rfl (by omega) (by omega) rfl rfl rfl) ?_
  intro g10 V1 hge h0 hb
  have Ge0 : Hid (w.heap.size ≤ g10) := Lib.hid hge
  have B0 := Lib.hid hb
  have Fv1_10 : Hid (RowG wdC V1 g10 50 (List.replicate n 0)) := Lib.hid (h0)
  have Lt2 : Hid (g10 < V1.heap.size) := Lib.hid (xp_lt Fv1_10.out)
  clear hge h0 hb
  simp only [ptr, Act.put, List.setIfInBounds_toArray, List.set_cons_zero, List.set_cons_succ]
  refine wpList_run (by kernel_rfl) (.slice (some ⟨g10, 0, none⟩) n n) V1 rfl ?_
  simp only [Act.put, List.setIfInBounds_toArray, List.set_cons_zero, List.set_cons_succ]
  refine wpList_nil ?_
  go_upto_region 2 with fail
  refine wp_region_lit ?_
  refine wpList_run (by kernel_rfl) (.slice A n c) V1 rfl ?_
  simp only [Act.put, List.setIfInBounds_toArray, List.set_cons_zero, List.set_cons_succ]
  refine wpList_run (by kernel_rfl) (.int .i64 (n : Int)) V1 (xo_len A n c Tryd.underlying48 rfl rfl) ?_
  simp only [Act.put, List.setIfInBounds_toArray, List.set_cons_zero, List.set_cons_succ]
  refine wpList_run (by kernel_rfl) (.int .i64 0) V1 rfl ?_
  simp only [Act.put, List.setIfInBounds_toArray, List.set_cons_zero, List.set_cons_succ]
  refine wpList_nil ?_
  have O0 := Fv1_10.out
  have B00 := B0.out
  have GE : Hid (w.heap.size ≤ g10) := Lib.hid Ge0.out
  go_wp2_with fail
  go_loopw [13] (fun p wr => ∃ i : Nat, i ≤ n ∧ p = .int .i64 i ∧ RowG wdC wr g10 50 ((xs.take i).map (fun x => x / 2 ^ k % 2) ++ List.replicate (n - i) 0) ∧ Below w.heap.size w wr) (fun p _ => n - (intOf p).toNat)
  case atStart => exact ⟨0, Nat.zero_le _, rfl, O0, B00⟩
  case round =>
    clear O0 B00
    obtain ⟨wo, rfl⟩ : ∃ wo : World, wo = wr := ⟨_, rfl⟩
    obtain ⟨i, hi, rfl, hrow, hb0⟩ := hrel
    have hbr := hb0
    clear B0
    have B0 := Lib.hid hbr
    clear hbr
    clear Fv1_10
    have Fv1_10 : Hid (RowG wdC wo g10 50 ((xs.take i).map (fun x => x / 2 ^ k % 2) ++ List.replicate (n - i) 0)) := Lib.hid (hrow)
    clear hb0 hrow
    by_cases hlt : i < n
    · have hlti : (i : Int) < (n : Int) := by omega
      obtain ⟨x, hx⟩ : ∃ x, xs[i]? = some x := ⟨_, List.getElem?_eq_getElem (by omega)⟩
      have hx64 := hw x (List.mem_of_getElem? hx)
      have HE := Lib.hid hx
      have HT := Lib.hid (take_map_succ (f := fun x => x / 2 ^ k % 2) hx)
      have HR := Lib.hid (get_fill ((xs.take i).map (fun x => x / 2 ^ k % 2)) (0 : Nat) (n - i) i (by rw [List.length_map, List.length_take]; omega) (by omega))
      clear hx
      have hq : x / 2 ^ k ≤ x := Nat.div_le_self _ _
      go_upto_region 3 with fail
      refine wp_region_lit ?_
      refine wpList_run (by kernel_rfl) (.bool true) wo (xo_lssT .i64 (i : Int) (n : Int) (by omega) rfl rfl rfl) ?_
      simp only [Act.put, List.setIfInBounds_toArray, List.set_cons_zero, List.set_cons_succ]
      refine wpList_nil ?_
      go_upto_region 4 with fail
      refine wp_region_lit ?_
      refine wpList_run (by kernel_rfl) (.int .i64 (i : Int)) wo rfl ?_
      simp only [Act.put, List.setIfInBounds_toArray, List.set_cons_zero, List.set_cons_succ]
      refine wpList_run (by kernel_rfl) (.pointer (some (gad A (i * 1)))) wo (xg_idx .i64 (HX.out.keep B0.out) HE.out Tryd.underlying48 (by kernel_rfl) rfl rfl rfl) ?_
      simp only [Act.put, List.setIfInBounds_toArray, List.set_cons_zero, List.set_cons_succ]
      refine wpList_run (by kernel_rfl) (.int .u64 (x : Int)) wo (xg_load1 (E := wdC) (i := i) (j := 0) (HX.out.keep B0.out) HE.out rfl rfl Tryd.underlying50 rfl rfl rfl) ?_
      simp only [Act.put, List.setIfInBounds_toArray, List.set_cons_zero, List.set_cons_succ]
      refine wpList_run (by kernel_rfl) (.int .i64 (i : Int)) wo rfl ?_
      simp only [Act.put, List.setIfInBounds_toArray, List.set_cons_zero, List.set_cons_succ]
      refine wpList_run (by kernel_rfl) (.int .u64 (x : Int)) wo rfl ?_
      simp only [Act.put, List.setIfInBounds_toArray, List.set_cons_zero, List.set_cons_succ]
      refine wpList_nil ?_
      go_upto_region 5 with fail
      refine wp_region_lit ?_
      refine wpList_run (by kernel_rfl) (.slice (some ⟨g10, 0, none⟩) n n) wo rfl ?_
      simp only [Act.put, List.setIfInBounds_toArray, List.set_cons_zero, List.set_cons_succ]
      refine wpList_run (by kernel_rfl) (.int .i64 (i : Int)) wo rfl ?_
      simp only [Act.put, List.setIfInBounds_toArray, List.set_cons_zero, List.set_cons_succ]
      refine wpList_run (by kernel_rfl) (.int .u64 (x : Int)) wo rfl ?_
      simp only [Act.put, List.setIfInBounds_toArray, List.set_cons_zero, List.set_cons_succ]
      refine wpList_run (by kernel_rfl) (.int .i64 (k : Int)) wo rfl ?_
      simp only [Act.put, List.setIfInBounds_toArray, List.set_cons_zero, List.set_cons_succ]
      refine wpList_run (by kernel_rfl) (.int .u64 ((x / 2 ^ k : Nat) : Int)) wo (xo_shrN .u64 .i64 x k (x / 2 ^ k) (by show k < 64; omega) rfl rfl rfl rfl) ?_
      simp only [Act.put, List.setIfInBounds_toArray, List.set_cons_zero, List.set_cons_succ]
      refine wpList_run (by kernel_rfl) (.int .u64 (((x / 2 ^ k) % 2 : Nat) : Int)) wo (xo_and .u64 (x / 2 ^ k) 1 ((x / 2 ^ k) % 2) (by show _ < 2 ^ 64; omega) (by show _ < 2 ^ 64; omega) (Nat.and_two_pow_sub_one_eq_mod (x / 2 ^ k) 1) (by rw [IntKind.wrap_u64]; omega) rfl rfl rfl) ?_
      simp only [Act.put, List.setIfInBounds_toArray, List.set_cons_zero, List.set_cons_succ]
      refine wpList_run (by kernel_rfl) (.pointer (some (gad (some ⟨g10, 0, none⟩) (i * 1)))) wo (xg_idx .i64 (RowG.sg Fv1_10.out (by rw [List.length_append, List.length_map, List.length_take, List.length_replicate, hln]; omega) (Nat.le_refl _) (by omega)) HR.out Tryd.underlying48 (by kernel_rfl) rfl rfl rfl) ?_
      simp only [Act.put, List.setIfInBounds_toArray, List.set_cons_zero, List.set_cons_succ]
      refine wpList_storeW g10 _ _ 50 (by kernel_rfl) (RowG.h Fv1_10.out) (xg_store Fv1_10.out (List.getElem?_eq_some_iff.1 HR.out).1 ((x / 2 ^ k) % 2) (by kernel_rfl) rfl rfl rfl) ?_
      intro X1_4 h1 hfar hbel hsz
      have hbr := hbel _ _ GE.out B0.out
      clear B0
      have B0 := Lib.hid hbr
      clear hbr
      clear Fv1_10
      have Fv1_10 : Hid (RowG wdC X1_4 g10 50 (((xs.take i).map (fun x => x / 2 ^ k % 2) ++ List.replicate (n - i) 0).set i ((x / 2 ^ k) % 2))) := Lib.hid (h1)
      have HszX1_4 := Lib.hid hsz
      clear h1 hfar hbel hsz
      simp only [ptr, Act.put, List.setIfInBounds_toArray, List.set_cons_zero, List.set_cons_succ]
      refine wpList_nil ?_
      have hown : RowG wdC X1_4 g10 50 ((xs.take (i + 1)).map (fun x => x / 2 ^ k % 2) ++ List.replicate (n - (i + 1)) 0) := by
        have h0 := Fv1_10.out
        have e : n - i = (n - (i + 1)) + 1 := by omega
        have hl2 : ((xs.take i).map (fun x => x / 2 ^ k % 2)).length = i := by rw [List.length_map, List.length_take]; omega
        have h2 := set_fill ((xs.take i).map (fun x => x / 2 ^ k % 2)) (x / 2 ^ k % 2) 0 (n - (i + 1))
        rw [hl2] at h2
        rw [e, h2] at h0
        rw [HT.out]
        exact h0
      go_wp2_with fail
      go_roundw
      case rel => exact ⟨i + 1, by omega, by go_num, hown, B0.out⟩
      case measure => simp [intOf]; omega
    · obtain rfl : i = n := by omega
      have hown : RowG wdC wo g10 50 (bitN xs k) := by
        have h0 := Fv1_10.out
        rw [Nat.sub_self, List.replicate_zero, List.append_nil, List.take_of_length_le (by omega)] at h0
        exact h0
      go_wp2_with fail
      go_ret
      exact ⟨g10, rfl, hown, GE.out, B0.out⟩
end Go.Proofs.YtopicjdmajlndaaDoor

namespace Go.Proofs.YtopicjdmajlndaaDoor
set_option linter.unusedVariables false
set_option linter.unusedSimpArgs false
set_option linter.unusedSectionVars false
set_option maxRecDepth 8000
open Go.RowKit Go.Proofs.YtopicjdmajlndaaDoor.K
attribute [local irreducible] wpList wpQuiet
set_option maxRecDepth 100000 in
set_option maxHeartbeats 8000000 in
theorem rreading_any (x y z : Nat) (hx : x < 256) (hy : y < 256) (hz : z < 256) (w : World) : Calls Tryd.prog 25 #[.agg #[.int .u8 (x : Int), .int .u8 (y : Int), .int .u8 (z : Int)]] w fun e w' => e = .returned (.agg (rdC (decR x y z)).toArray) ∧ Below w.heap.size w w' := by
  go_enter Tryd.func25, Tryd.ntmps25
  go_upto_region 1 with fail
  refine wp_named2 (fun V1 hb g0 g1 hlt => ?_)
  have B0 := Lib.hid hb
  have Fv0_1 : Hid (V1.heap[w.heap.size]? = some (.cells #[.int .u8 (x : Int), .int .u8 (y : Int), .int .u8 (z : Int)] 44 (0, 0))) := Lib.hid (g0)
  have Fv1_2 : Hid (V1.heap[(w.heap.size + 1)]? = some (.cells #[.int .i64 0, .int .i64 0, .int .i64 0, .int .i64 0] 24 (0, 0))) := Lib.hid (g1)
  have Nb0_1 : Hid (w.heap.size ≠ (w.heap.size + 1)) := Lib.hid (by omega)
  have Gb0 : Hid (w.heap.size ≤ w.heap.size) := Lib.hid (by omega)
  have Gb1 : Hid (w.heap.size ≤ (w.heap.size + 1)) := Lib.hid (by omega)
  clear hb g0 g1 hlt
  have Lt0 : Hid (w.heap.size < V1.heap.size) := Lib.hid (xp_lt Fv0_1.out)
  have Lt1 : Hid ((w.heap.size + 1) < V1.heap.size) := Lib.hid (xp_lt Fv1_2.out)
  refine wp_region_lit ?_
  refine wpList_run (by kernel_rfl) (.pointer (some ⟨w.heap.size, 0, none⟩)) V1 (by unfold execOp; go_simp) ?_
  simp only [Act.put, List.setIfInBounds_toArray, List.set_cons_zero, List.set_cons_succ]
  refine wpList_run (by kernel_rfl) (.int .u8 (x : Int)) V1 (xo_load1 ⟨w.heap.size, 0, none⟩ _ (cells_at Fv0_1.out 0 rfl) Tryd.underlying5 rfl rfl rfl) ?_
  simp only [Act.put, List.setIfInBounds_toArray, List.set_cons_zero, List.set_cons_succ]
  refine wpList_run (by kernel_rfl) (.pointer (some ⟨w.heap.size, 1, none⟩)) V1 (by unfold execOp; go_simp) ?_
  simp only [Act.put, List.setIfInBounds_toArray, List.set_cons_zero, List.set_cons_succ]
  refine wpList_run (by kernel_rfl) (.int .u8 (y : Int)) V1 (xo_load1 ⟨w.heap.size, 1, none⟩ _ (cells_at Fv0_1.out 1 rfl) Tryd.underlying5 rfl rfl rfl) ?_
  simp only [Act.put, List.setIfInBounds_toArray, List.set_cons_zero, List.set_cons_succ]
  refine wpList_run (by kernel_rfl) (.pointer (some ⟨w.heap.size, 2, none⟩)) V1 (by unfold execOp; go_simp) ?_
  simp only [Act.put, List.setIfInBounds_toArray, List.set_cons_zero, List.set_cons_succ]
  refine wpList_run (by kernel_rfl) (.int .u8 (z : Int)) V1 (xo_load1 ⟨w.heap.size, 2, none⟩ _ (cells_at Fv0_1.out 2 rfl) Tryd.underlying5 rfl rfl rfl) ?_
  simp only [Act.put, List.setIfInBounds_toArray, List.set_cons_zero, List.set_cons_succ]
  refine wpList_mk (by kernel_rfl) ([x, y, z].flatMap byC).toArray 5 3 3 (xg_lit (E := byC) (bytes := 1) (.int .u8 0) [.tmp 7, .tmp 9, .tmp 11] [x, y, z] 3 Tryd.underlying25 (by kernel_rfl) rfl (by decide) (by decide) rfl rfl) ?_
  intro g12 V2 hge h0 hb
  have N2_0 : Hid (w.heap.size ≠ g12) := Lib.hid (xp_lt0 Fv0_1.out hge)
  have N3_1 : Hid ((w.heap.size + 1) ≠ g12) := Lib.hid (xp_lt0 Fv1_2.out hge)
  have Ge4 : Hid (V1.heap.size ≤ g12) := Lib.hid hge
  have B1 := Lib.hid hb
  have Fv5_12 : Hid (RowG byC V2 g12 5 ([x, y, z])) := Lib.hid (h0)
  have Lt6 : Hid (g12 < V2.heap.size) := Lib.hid (xp_lt Fv5_12.out)
  clear hge h0 hb
  simp only [ptr, Act.put, List.setIfInBounds_toArray, List.set_cons_zero, List.set_cons_succ]
  refine wpList_call (by kernel_rfl) 24 Tryd.func24 (by kernel_rfl) (by kernel_rfl) _ _ #[.slice (some ⟨g12, 0, none⟩) 3 3] rfl (by kernel_rfl) ?_
  refine (rdecode_yes (some ⟨g12, 0, none⟩) 3 x y z hx hy hz V2 (RowG.sg Fv5_12.out (show ([x, y, z]).length = 3 from rfl) (Nat.le_refl _) (by omega))).mono ?_
  rintro e V3 ⟨rfl, hb⟩
  have B2 := Lib.hid hb
  clear hb 
  refine ⟨_, rfl, ?_⟩
  simp only [Act.put, List.setIfInBounds_toArray, List.set_cons_zero, List.set_cons_succ]
  refine wpList_run (by kernel_rfl) (.tuple #[.agg #[.int .i64 ((x % 16 : Nat) : Int), .int .i64 (y : Int), .int .i64 ((x / 16 : Nat) : Int), .int .i64 (z : Int)], .int .i64 0]) V3 rfl ?_
  simp only [Act.put, List.setIfInBounds_toArray, List.set_cons_zero, List.set_cons_succ]
  refine wpList_run (by kernel_rfl) (.agg #[.int .i64 ((x % 16 : Nat) : Int), .int .i64 (y : Int), .int .i64 ((x / 16 : Nat) : Int), .int .i64 (z : Int)]) V3 rfl ?_
  simp only [Act.put, List.setIfInBounds_toArray, List.set_cons_zero, List.set_cons_succ]
  refine wpList_run (by kernel_rfl) (.int .i64 0) V3 rfl ?_
  simp only [Act.put, List.setIfInBounds_toArray, List.set_cons_zero, List.set_cons_succ]
  refine wpList_new #[.int .i64 0, .int .i64 0, .int .i64 0, .int .i64 0] 24 (by kernel_rfl) (xo_alloc #[.int .i64 0, .int .i64 0, .int .i64 0, .int .i64 0] (by kernel_rfl) rfl) ?_
  intro b3 V4 hge h0 hb
  have C1_3 := Lib.hid (bel_step B1.out B2.out)
  have N7_0 : Hid (w.heap.size ≠ b3) := Lib.hid (xp_lt0 (heap_keep Fv0_1.out C1_3.out) hge)
  have N8_1 : Hid ((w.heap.size + 1) ≠ b3) := Lib.hid (xp_lt0 (heap_keep Fv1_2.out C1_3.out) hge)
  have N9_2 : Hid (g12 ≠ b3) := Lib.hid (xp_lt0 (Fv5_12.out.keep B2.out) hge)
  have Ge10 : Hid (V3.heap.size ≤ b3) := Lib.hid hge
  have B3 := Lib.hid hb
  have Fv11_3 : Hid (V4.heap[b3]? = some (.cells #[.int .i64 0, .int .i64 0, .int .i64 0, .int .i64 0] 24 (0, 0))) := Lib.hid (h0)
  have Lt12 : Hid (b3 < V4.heap.size) := Lib.hid (xp_lt Fv11_3.out)
  clear hge h0 hb
  simp only [ptr, Act.put, List.setIfInBounds_toArray, List.set_cons_zero, List.set_cons_succ]
  refine wpList_storeW b3 #[.int .i64 0, .int .i64 0, .int .i64 0, .int .i64 0] #[.int .i64 ((x % 16 : Nat) : Int), .int .i64 (y : Int), .int .i64 ((x / 16 : Nat) : Int), .int .i64 (z : Int)] 24 (by kernel_rfl) Fv11_3.out (xo_storeW b3 #[.int .i64 0, .int .i64 0, .int .i64 0, .int .i64 0] #[.int .i64 ((x % 16 : Nat) : Int), .int .i64 (y : Int), .int .i64 ((x / 16 : Nat) : Int), .int .i64 (z : Int)] Fv11_3.out (by kernel_rfl) rfl (by simp [Value.oneCell']) rfl rfl rfl) ?_
  intro X4_13 h1 hfar hbel hsz
  have hbr := hbel _ _ Ge10.out B3.out
  clear B3
  have B3 := Lib.hid hbr
  clear hbr
  clear Fv11_3
  have Fv11_3 : Hid (X4_13.heap[b3]? = some (.cells #[.int .i64 ((x % 16 : Nat) : Int), .int .i64 (y : Int), .int .i64 ((x / 16 : Nat) : Int), .int .i64 (z : Int)] 24 (0, 0))) := Lib.hid (h1)
  have HszX4_13 := Lib.hid hsz
  clear h1 hfar hbel hsz
  simp only [ptr, Act.put, List.setIfInBounds_toArray, List.set_cons_zero, List.set_cons_succ]
  refine wpList_run (by kernel_rfl) (.int .i64 0) X4_13 rfl ?_
  simp only [Act.put, List.setIfInBounds_toArray, List.set_cons_zero, List.set_cons_succ]
  refine wpList_nil ?_
  go_upto_region 2 with fail
  refine wp_region_lit ?_
  refine wpList_run (by kernel_rfl) (.agg #[.int .i64 ((x % 16 : Nat) : Int), .int .i64 (y : Int), .int .i64 ((x / 16 : Nat) : Int), .int .i64 (z : Int)]) X4_13 (xo_loadW b3 _ Fv11_3.out Tryd.underlying24 rfl (by kernel_rfl) rfl rfl) ?_
  simp only [Act.put, List.setIfInBounds_toArray, List.set_cons_zero, List.set_cons_succ]
  have C1_4 := Lib.hid (bel_step C1_3.out B3.out)
  refine wpList_storeW (w.heap.size + 1) #[.int .i64 0, .int .i64 0, .int .i64 0, .int .i64 0] #[.int .i64 ((x % 16 : Nat) : Int), .int .i64 (y : Int), .int .i64 ((x / 16 : Nat) : Int), .int .i64 (z : Int)] 24 (by kernel_rfl) (heap_keep Fv1_2.out C1_4.out) (xo_storeW (w.heap.size + 1) #[.int .i64 0, .int .i64 0, .int .i64 0, .int .i64 0] #[.int .i64 ((x % 16 : Nat) : Int), .int .i64 (y : Int), .int .i64 ((x / 16 : Nat) : Int), .int .i64 (z : Int)] (heap_keep Fv1_2.out C1_4.out) (by kernel_rfl) rfl (by simp [Value.oneCell']) rfl rfl rfl) ?_
  intro X4_14 h1 hfar hbel hsz
  have YFv0_1 : X4_14.heap[w.heap.size]? = some (.cells #[.int .u8 (x : Int), .int .u8 (y : Int), .int .u8 (z : Int)] 44 (0, 0)) := hfar _ _ Nb0_1.out (heap_keep Fv0_1.out C1_4.out)
  have C2_4 := Lib.hid (bel_step B2.out B3.out)
  have YFv5_12 : RowG byC X4_14 g12 5 ([x, y, z]) := hfar _ _ (Ne.symm N3_1.out) (Fv5_12.out.keep C2_4.out)
  have YFv11_3 : X4_14.heap[b3]? = some (.cells #[.int .i64 ((x % 16 : Nat) : Int), .int .i64 (y : Int), .int .i64 ((x / 16 : Nat) : Int), .int .i64 (z : Int)] 24 (0, 0)) := hfar _ _ (Ne.symm N8_1.out) Fv11_3.out
  have Gs15 : Hid (w.heap.size ≤ g12) := Lib.hid (Nat.le_trans B0.out.size Ge4.out)
  have C0_2 := Lib.hid (bel_step B0.out B1.out)
  have C0_3 := Lib.hid (bel_step C0_2.out B2.out)
  have Gs16 : Hid (w.heap.size ≤ b3) := Lib.hid (Nat.le_trans C0_3.out.size Ge10.out)
  have C0_4 := Lib.hid (bel_step C0_3.out B3.out)
  have hbr := hbel _ _ Gb1.out C0_4.out
  clear B0
  have B0 := Lib.hid hbr
  clear hbr
  clear Fv0_1
  have Fv0_1 : Hid (X4_14.heap[w.heap.size]? = some (.cells #[.int .u8 (x : Int), .int .u8 (y : Int), .int .u8 (z : Int)] 44 (0, 0))) := Lib.hid YFv0_1
  clear YFv0_1
  clear Fv5_12
  have Fv5_12 : Hid (RowG byC X4_14 g12 5 ([x, y, z])) := Lib.hid YFv5_12
  clear YFv5_12
  clear Fv11_3
  have Fv11_3 : Hid (X4_14.heap[b3]? = some (.cells #[.int .i64 ((x % 16 : Nat) : Int), .int .i64 (y : Int), .int .i64 ((x / 16 : Nat) : Int), .int .i64 (z : Int)] 24 (0, 0))) := Lib.hid YFv11_3
  clear YFv11_3
  clear Fv1_2
  have Fv1_2 : Hid (X4_14.heap[(w.heap.size + 1)]? = some (.cells #[.int .i64 ((x % 16 : Nat) : Int), .int .i64 (y : Int), .int .i64 ((x / 16 : Nat) : Int), .int .i64 (z : Int)] 24 (0, 0))) := Lib.hid (h1)
  have HszX4_14 := Lib.hid hsz
  clear h1 hfar hbel hsz
  simp only [ptr, Act.put, List.setIfInBounds_toArray, List.set_cons_zero, List.set_cons_succ]
  refine wpList_nil ?_
  go_wp2_with fail
  refine bodyPost_ret (v := .agg #[.int .i64 ((x % 16 : Nat) : Int), .int .i64 (y : Int), .int .i64 ((x / 16 : Nat) : Int), .int .i64 (z : Int)]) ?_ rfl ⟨rfl, B0.out⟩
  exact results_cell_row rfl _ _ (w.heap.size + 1) 24 _ (0, 0) _ rfl Fv1_2.out Tryd.underlying24 rfl (by kernel_rfl)
set_option maxRecDepth 100000 in
set_option maxHeartbeats 8000000 in
theorem take_yes (A : Option Addr) (n c : Nat) (rs : List Rd) (B : Option Addr) (d : Nat) (gs : List Bool) (r : Rd) (hv : vR r = true) (hn : n < 65536) (w : World) (hL : Sg rdC 4 w A n c rs) (hG : Sg boC 1 w B n d gs) (hW : Gw w) : Calls Tryd.prog 12 #[.agg #[.slice A n c, .slice B n d], .agg #[.int .i64 r.who, .int .i64 r.when_, .int .i64 r.kind, .int .i64 r.value]] w fun e w' => ∃ A2 c2 B2 d2, e = .returned (.tuple #[.agg #[.slice A2 (n + 1) c2, .slice B2 (n + 1) d2], .int .i64 0]) ∧ Sg rdC 4 w' A2 (n + 1) c2 (rs ++ [r]) ∧ Sg boC 1 w' B2 (n + 1) d2 (gs ++ [false]) ∧ Below w.heap.size w w' := by
  have HL := Lib.hid hL
  have HG := Lib.hid hG
  have hln := hL.len
  have hgn := hG.len
  clear hL hG
  have HW := Lib.hid hW
  clear hW
  obtain ⟨b, hb⟩ : ∃ b, b = true := ⟨_, rfl⟩
  subst hb
  go_enter Tryd.func12, Tryd.ntmps12
  go_upto_region 1 with fail
  refine wp_named3 (fun V1 hb g0 g1 g2 hlt => ?_)
  have B0 := Lib.hid hb
  have Fv0_2 : Hid (V1.heap[w.heap.size]? = some (.cells #[.slice A n c, .slice B n d] 30 (0, 0))) := Lib.hid (g0)
  have Fv1_3 : Hid (V1.heap[(w.heap.size + 1)]? = some (.cells #[.int .i64 r.who, .int .i64 r.when_, .int .i64 r.kind, .int .i64 r.value] 24 (0, 0))) := Lib.hid (g1)
  have Fv2_4 : Hid (V1.heap[(w.heap.size + 1 + 1)]? = some (.cells #[.slice none 0 0, .slice none 0 0] 30 (0, 0))) := Lib.hid (g2)
  have Nb0_1 : Hid (w.heap.size ≠ (w.heap.size + 1)) := Lib.hid (by omega)
  have Nb0_2 : Hid (w.heap.size ≠ (w.heap.size + 1 + 1)) := Lib.hid (by omega)
  have Nb1_2 : Hid ((w.heap.size + 1) ≠ (w.heap.size + 1 + 1)) := Lib.hid (by omega)
  have Gb0 : Hid (w.heap.size ≤ w.heap.size) := Lib.hid (by omega)
  have Gb1 : Hid (w.heap.size ≤ (w.heap.size + 1)) := Lib.hid (by omega)
  have Gb2 : Hid (w.heap.size ≤ (w.heap.size + 1 + 1)) := Lib.hid (by omega)
  clear hb g0 g1 g2 hlt
  have Lt0 : Hid (w.heap.size < V1.heap.size) := Lib.hid (xp_lt Fv0_2.out)
  have Lt1 : Hid ((w.heap.size + 1) < V1.heap.size) := Lib.hid (xp_lt Fv1_3.out)
  have Lt2 : Hid ((w.heap.size + 1 + 1) < V1.heap.size) := Lib.hid (xp_lt Fv2_4.out)
  refine wp_region_lit ?_
  refine wpList_run (by kernel_rfl) (.agg #[.int .i64 r.who, .int .i64 r.when_, .int .i64 r.kind, .int .i64 r.value]) V1 (xo_loadW (w.heap.size + 1) _ Fv1_3.out Tryd.underlying24 rfl (by kernel_rfl) rfl rfl) ?_
  simp only [Act.put, List.setIfInBounds_toArray, List.set_cons_zero, List.set_cons_succ]
  refine wpList_call (by kernel_rfl) 17 Tryd.func17 (by kernel_rfl) (by kernel_rfl) _ _ #[.agg #[.int .i64 r.who, .int .i64 r.when_, .int .i64 r.kind, .int .i64 r.value]] rfl (by kernel_rfl) ?_
  refine (valid_as r true hv V1 (HW.out.keep B0.out)).mono ?_
  rintro e V2 ⟨rfl, hb⟩
  have B1 := Lib.hid hb
  clear hb 
  refine ⟨_, rfl, ?_⟩
  simp only [Act.put, List.setIfInBounds_toArray, List.set_cons_zero, List.set_cons_succ]
  refine wpList_run (by kernel_rfl) (.bool false) V2 rfl ?_
  simp only [Act.put, List.setIfInBounds_toArray, List.set_cons_zero, List.set_cons_succ]
  refine wpList_nil ?_
  have hni : ¬ (n : Int) ≥ 65536 := by omega
  go_upto_region 3 with fail
  refine wp_region_lit ?_
  refine wpList_run (by kernel_rfl) (.pointer (some ⟨w.heap.size, 0, none⟩)) V2 (xo_fld0 0 w.heap.size 0 (by kernel_rfl) rfl rfl) ?_
  simp only [Act.put, List.setIfInBounds_toArray, List.set_cons_zero, List.set_cons_succ]
  refine wpList_run (by kernel_rfl) (.slice A n c) V2 (xo_load1 ⟨w.heap.size, 0, none⟩ _ (cells_at (heap_keep Fv0_2.out B1.out) 0 rfl) Tryd.underlying27 rfl rfl rfl) ?_
  simp only [Act.put, List.setIfInBounds_toArray, List.set_cons_zero, List.set_cons_succ]
  refine wpList_run (by kernel_rfl) (.int .i64 (n : Int)) V2 (xo_len A n c Tryd.underlying27 rfl rfl) ?_
  simp only [Act.put, List.setIfInBounds_toArray, List.set_cons_zero, List.set_cons_succ]
  refine wpList_run (by kernel_rfl) (.int .i64 (n : Int)) V2 rfl ?_
  simp only [Act.put, List.setIfInBounds_toArray, List.set_cons_zero, List.set_cons_succ]
  refine wpList_nil ?_
  go_upto_region 4 with fail
  refine wp_region_lit ?_
  refine wpList_run (by kernel_rfl) (.int .i64 (n : Int)) V2 rfl ?_
  simp only [Act.put, List.setIfInBounds_toArray, List.set_cons_zero, List.set_cons_succ]
  refine wpList_run (by kernel_rfl) (.bool false) V2 (xo_geqF .i64 (n : Int) 65536 (by omega) rfl rfl rfl) ?_
  simp only [Act.put, List.setIfInBounds_toArray, List.set_cons_zero, List.set_cons_succ]
  refine wpList_nil ?_
  go_upto_region 6 with fail
  refine wp_region_lit ?_
  refine wpList_run (by kernel_rfl) (.agg #[.slice A n c, .slice B n d]) V2 (xo_loadW w.heap.size _ (heap_keep Fv0_2.out B1.out) Tryd.underlying30 rfl (by kernel_rfl) rfl rfl) ?_
  simp only [Act.put, List.setIfInBounds_toArray, List.set_cons_zero, List.set_cons_succ]
  refine wpList_run (by kernel_rfl) (.int .i64 (n : Int)) V2 rfl ?_
  simp only [Act.put, List.setIfInBounds_toArray, List.set_cons_zero, List.set_cons_succ]
  refine wpList_run (by kernel_rfl) (.int .i64 ((n + 1 : Nat) : Int)) V2 (xo_addI (n : Int) 1 ((n + 1 : Nat) : Int) (by omega) (by omega) (by omega) rfl rfl rfl) ?_
  simp only [Act.put, List.setIfInBounds_toArray, List.set_cons_zero, List.set_cons_succ]
  have C0_2 := Lib.hid (bel_step B0.out B1.out)
  refine wpList_call (by kernel_rfl) 42 Tryd.func42 (by kernel_rfl) (by kernel_rfl) _ _ #[.agg #[.slice A n c, .slice B n d], .int .i64 ((n + 1 : Nat) : Int)] rfl (by kernel_rfl) ?_
  refine (copied_any A n c rs B n d gs (n + 1) (by omega) (by omega) (by omega) V2 (HL.out.keep C0_2.out) (HG.out.keep C0_2.out)).mono ?_
  rintro e V3 ⟨p3, q3, rfl, hr1, hr2, hg1, hg2, hb⟩
  have N4 : Hid (w.heap.size ≠ p3) := Lib.hid (Nat.ne_of_lt (Nat.lt_of_lt_of_le (xp_lt (heap_keep Fv0_2.out B1.out)) hg1))
  have N5 : Hid ((w.heap.size + 1) ≠ p3) := Lib.hid (Nat.ne_of_lt (Nat.lt_of_lt_of_le (xp_lt (heap_keep Fv1_3.out B1.out)) hg1))
  have N6 : Hid ((w.heap.size + 1 + 1) ≠ p3) := Lib.hid (Nat.ne_of_lt (Nat.lt_of_lt_of_le (xp_lt (heap_keep Fv2_4.out B1.out)) hg1))
  have Ge7 : Hid (V2.heap.size ≤ p3) := Lib.hid hg1
  have N8 : Hid (w.heap.size ≠ q3) := Lib.hid (Nat.ne_of_lt (Nat.lt_of_lt_of_le (xp_lt (heap_keep Fv0_2.out B1.out)) hg2))
  have N9 : Hid ((w.heap.size + 1) ≠ q3) := Lib.hid (Nat.ne_of_lt (Nat.lt_of_lt_of_le (xp_lt (heap_keep Fv1_3.out B1.out)) hg2))
  have N10 : Hid ((w.heap.size + 1 + 1) ≠ q3) := Lib.hid (Nat.ne_of_lt (Nat.lt_of_lt_of_le (xp_lt (heap_keep Fv2_4.out B1.out)) hg2))
  have Ge11 : Hid (V2.heap.size ≤ q3) := Lib.hid hg2
  have B2 := Lib.hid hb
  have Fv12_c : Hid (RowG rdC V3 p3 24 (rs ++ List.replicate (n + 1 - n) (Rd.mk 0 0 0 0))) := Lib.hid hr1
  have Lt13 : Hid (p3 < V3.heap.size) := Lib.hid (xp_lt Fv12_c.out)
  have Fv14_c : Hid (RowG boC V3 q3 4 (gs ++ List.replicate (n + 1 - n) false)) := Lib.hid hr2
  have Lt15 : Hid (q3 < V3.heap.size) := Lib.hid (xp_lt Fv14_c.out)
  have N16 : Hid (p3 ≠ q3) := Lib.hid (ne_types Fv12_c.out Fv14_c.out (by decide))
  clear hb hr1 hg1 hr2 hg2 
  refine ⟨_, rfl, ?_⟩
  simp only [Act.put, List.setIfInBounds_toArray, List.set_cons_zero, List.set_cons_succ]
  refine wpList_new #[.slice none 0 0, .slice none 0 0] 30 (by kernel_rfl) (xo_alloc #[.slice none 0 0, .slice none 0 0] (by kernel_rfl) rfl) ?_
  intro b7 V4 hge h0 hb
  have C1_3 := Lib.hid (bel_step B1.out B2.out)
  have N17_0 : Hid (w.heap.size ≠ b7) := Lib.hid (xp_lt0 (heap_keep Fv0_2.out C1_3.out) hge)
  have N18_1 : Hid ((w.heap.size + 1) ≠ b7) := Lib.hid (xp_lt0 (heap_keep Fv1_3.out C1_3.out) hge)
  have N19_2 : Hid ((w.heap.size + 1 + 1) ≠ b7) := Lib.hid (xp_lt0 (heap_keep Fv2_4.out C1_3.out) hge)
  have N20_3 : Hid (p3 ≠ b7) := Lib.hid (xp_lt0 Fv12_c.out hge)
  have N21_4 : Hid (q3 ≠ b7) := Lib.hid (xp_lt0 Fv14_c.out hge)
  have Ge22 : Hid (V3.heap.size ≤ b7) := Lib.hid hge
  have B3 := Lib.hid hb
  have Fv23_7 : Hid (V4.heap[b7]? = some (.cells #[.slice none 0 0, .slice none 0 0] 30 (0, 0))) := Lib.hid (h0)
  have Lt24 : Hid (b7 < V4.heap.size) := Lib.hid (xp_lt Fv23_7.out)
  clear hge h0 hb
  simp only [ptr, Act.put, List.setIfInBounds_toArray, List.set_cons_zero, List.set_cons_succ]
  refine wpList_storeW b7 #[.slice none 0 0, .slice none 0 0] #[.slice (some ⟨p3, 0, none⟩) (n + 1) (n + 1), .slice (some ⟨q3, 0, none⟩) (n + 1) (n + 1)] 30 (by kernel_rfl) Fv23_7.out (xo_storeW b7 #[.slice none 0 0, .slice none 0 0] #[.slice (some ⟨p3, 0, none⟩) (n + 1) (n + 1), .slice (some ⟨q3, 0, none⟩) (n + 1) (n + 1)] Fv23_7.out (by kernel_rfl) rfl (by simp [Value.oneCell']) rfl rfl rfl) ?_
  intro X4_25 h1 hfar hbel hsz
  have hbr := hbel _ _ Ge22.out B3.out
  clear B3
  have B3 := Lib.hid hbr
  clear hbr
  clear Fv23_7
  have Fv23_7 : Hid (X4_25.heap[b7]? = some (.cells #[.slice (some ⟨p3, 0, none⟩) (n + 1) (n + 1), .slice (some ⟨q3, 0, none⟩) (n + 1) (n + 1)] 30 (0, 0))) := Lib.hid (h1)
  have HszX4_25 := Lib.hid hsz
  clear h1 hfar hbel hsz
  simp only [ptr, Act.put, List.setIfInBounds_toArray, List.set_cons_zero, List.set_cons_succ]
  refine wpList_nil ?_
  have HE := Lib.hid (get_fill rs (Rd.mk 0 0 0 0) (n + 1 - n) n (by omega) (by omega))
  go_upto_region 7 with fail
  refine wp_region_lit ?_
  refine wpList_run (by kernel_rfl) (.pointer (some ⟨b7, 0, none⟩)) X4_25 (xo_fld0 0 b7 0 (by kernel_rfl) rfl rfl) ?_
  simp only [Act.put, List.setIfInBounds_toArray, List.set_cons_zero, List.set_cons_succ]
  refine wpList_run (by kernel_rfl) (.slice (some ⟨p3, 0, none⟩) (n + 1) (n + 1)) X4_25 (xo_load1 ⟨b7, 0, none⟩ _ (cells_at Fv23_7.out 0 rfl) Tryd.underlying27 rfl rfl rfl) ?_
  simp only [Act.put, List.setIfInBounds_toArray, List.set_cons_zero, List.set_cons_succ]
  refine wpList_run (by kernel_rfl) (.int .i64 (n : Int)) X4_25 rfl ?_
  simp only [Act.put, List.setIfInBounds_toArray, List.set_cons_zero, List.set_cons_succ]
  have C1_4 := Lib.hid (bel_step C1_3.out B3.out)
  refine wpList_run (by kernel_rfl) (.agg #[.int .i64 r.who, .int .i64 r.when_, .int .i64 r.kind, .int .i64 r.value]) X4_25 (xo_loadW (w.heap.size + 1) _ (heap_keep Fv1_3.out C1_4.out) Tryd.underlying24 rfl (by kernel_rfl) rfl rfl) ?_
  simp only [Act.put, List.setIfInBounds_toArray, List.set_cons_zero, List.set_cons_succ]
  refine wpList_run (by kernel_rfl) (.pointer (some (gad (some ⟨p3, 0, none⟩) (n * 4)))) X4_25 (xg_idx .i64 (RowG.sg (Fv12_c.out.keep B3.out) (by rw [List.length_append, List.length_replicate, hln]; omega) (Nat.le_refl _) (by omega)) HE.out Tryd.underlying27 (by kernel_rfl) rfl rfl rfl) ?_
  simp only [Act.put, List.setIfInBounds_toArray, List.set_cons_zero, List.set_cons_succ]
  refine wpList_storeW p3 _ _ 24 (by kernel_rfl) (RowG.h (Fv12_c.out.keep B3.out)) (xg_store (Fv12_c.out.keep B3.out) (List.getElem?_eq_some_iff.1 HE.out).1 r (by kernel_rfl) rfl rfl rfl) ?_
  intro X4_26 h1 hfar hbel hsz
  have YFv14_c : RowG boC X4_26 q3 4 (gs ++ List.replicate (n + 1 - n) false) := hfar _ _ (Ne.symm N16.out) (Fv14_c.out.keep B3.out)
  have YFv23_7 : X4_26.heap[b7]? = some (.cells #[.slice (some ⟨p3, 0, none⟩) (n + 1) (n + 1), .slice (some ⟨q3, 0, none⟩) (n + 1) (n + 1)] 30 (0, 0)) := hfar _ _ (Ne.symm N20_3.out) Fv23_7.out
  have Gs27 : Hid (V2.heap.size ≤ b7) := Lib.hid (Nat.le_trans B2.out.size Ge22.out)
  have C2_4 := Lib.hid (bel_step B2.out B3.out)
  have hbr := hbel _ _ Ge7.out C2_4.out
  clear B2
  have B2 := Lib.hid hbr
  clear hbr
  clear Fv14_c
  have Fv14_c : Hid (RowG boC X4_26 q3 4 (gs ++ List.replicate (n + 1 - n) false)) := Lib.hid YFv14_c
  clear YFv14_c
  clear Fv23_7
  have Fv23_7 : Hid (X4_26.heap[b7]? = some (.cells #[.slice (some ⟨p3, 0, none⟩) (n + 1) (n + 1), .slice (some ⟨q3, 0, none⟩) (n + 1) (n + 1)] 30 (0, 0))) := Lib.hid YFv23_7
  clear YFv23_7
  clear Fv12_c
  have Fv12_c : Hid (RowG rdC X4_26 p3 24 ((rs ++ List.replicate (n + 1 - n) (Rd.mk 0 0 0 0)).set n r)) := Lib.hid (h1)
  have HszX4_26 := Lib.hid hsz
  clear h1 hfar hbel hsz
  simp only [ptr, Act.put, List.setIfInBounds_toArray, List.set_cons_zero, List.set_cons_succ]
  refine wpList_nil ?_
  go_upto_region 8 with fail
  refine wp_region_lit ?_
  refine wpList_run (by kernel_rfl) (.agg #[.slice (some ⟨p3, 0, none⟩) (n + 1) (n + 1), .slice (some ⟨q3, 0, none⟩) (n + 1) (n + 1)]) X4_26 (xo_loadW b7 _ Fv23_7.out Tryd.underlying30 rfl (by kernel_rfl) rfl rfl) ?_
  simp only [Act.put, List.setIfInBounds_toArray, List.set_cons_zero, List.set_cons_succ]
  have C1_3 := Lib.hid (bel_step B1.out B2.out)
  refine wpList_storeW (w.heap.size + 1 + 1) #[.slice none 0 0, .slice none 0 0] #[.slice (some ⟨p3, 0, none⟩) (n + 1) (n + 1), .slice (some ⟨q3, 0, none⟩) (n + 1) (n + 1)] 30 (by kernel_rfl) (heap_keep Fv2_4.out C1_3.out) (xo_storeW (w.heap.size + 1 + 1) #[.slice none 0 0, .slice none 0 0] #[.slice (some ⟨p3, 0, none⟩) (n + 1) (n + 1), .slice (some ⟨q3, 0, none⟩) (n + 1) (n + 1)] (heap_keep Fv2_4.out C1_3.out) (by kernel_rfl) rfl (by simp [Value.oneCell']) rfl rfl rfl) ?_
  intro X3_28 h1 hfar hbel hsz
  have YFv0_2 : X3_28.heap[w.heap.size]? = some (.cells #[.slice A n c, .slice B n d] 30 (0, 0)) := hfar _ _ Nb0_2.out (heap_keep Fv0_2.out C1_3.out)
  have YFv1_3 : X3_28.heap[(w.heap.size + 1)]? = some (.cells #[.int .i64 r.who, .int .i64 r.when_, .int .i64 r.kind, .int .i64 r.value] 24 (0, 0)) := hfar _ _ Nb1_2.out (heap_keep Fv1_3.out C1_3.out)
  have YFv12_c : RowG rdC X3_28 p3 24 ((rs ++ List.replicate (n + 1 - n) (Rd.mk 0 0 0 0)).set n r) := hfar _ _ (Ne.symm N6.out) Fv12_c.out
  have YFv14_c : RowG boC X3_28 q3 4 (gs ++ List.replicate (n + 1 - n) false) := hfar _ _ (Ne.symm N10.out) Fv14_c.out
  have YFv23_7 : X3_28.heap[b7]? = some (.cells #[.slice (some ⟨p3, 0, none⟩) (n + 1) (n + 1), .slice (some ⟨q3, 0, none⟩) (n + 1) (n + 1)] 30 (0, 0)) := hfar _ _ (Ne.symm N19_2.out) Fv23_7.out
  have Gs29 : Hid (w.heap.size ≤ p3) := Lib.hid (Nat.le_trans C0_2.out.size Ge7.out)
  have Gs30 : Hid (w.heap.size ≤ q3) := Lib.hid (Nat.le_trans C0_2.out.size Ge11.out)
  have Gs31 : Hid (w.heap.size ≤ b7) := Lib.hid (Nat.le_trans C0_2.out.size Gs27.out)
  have C0_3 := Lib.hid (bel_step C0_2.out B2.out)
  have hbr := hbel _ _ Gb2.out C0_3.out
  clear B0
  have B0 := Lib.hid hbr
  clear hbr
  clear Fv0_2
  have Fv0_2 : Hid (X3_28.heap[w.heap.size]? = some (.cells #[.slice A n c, .slice B n d] 30 (0, 0))) := Lib.hid YFv0_2
  clear YFv0_2
  clear Fv1_3
  have Fv1_3 : Hid (X3_28.heap[(w.heap.size + 1)]? = some (.cells #[.int .i64 r.who, .int .i64 r.when_, .int .i64 r.kind, .int .i64 r.value] 24 (0, 0))) := Lib.hid YFv1_3
  clear YFv1_3
  clear Fv12_c
  have Fv12_c : Hid (RowG rdC X3_28 p3 24 ((rs ++ List.replicate (n + 1 - n) (Rd.mk 0 0 0 0)).set n r)) := Lib.hid YFv12_c
  clear YFv12_c
  clear Fv14_c
  have Fv14_c : Hid (RowG boC X3_28 q3 4 (gs ++ List.replicate (n + 1 - n) false)) := Lib.hid YFv14_c
  clear YFv14_c
  clear Fv23_7
  have Fv23_7 : Hid (X3_28.heap[b7]? = some (.cells #[.slice (some ⟨p3, 0, none⟩) (n + 1) (n + 1), .slice (some ⟨q3, 0, none⟩) (n + 1) (n + 1)] 30 (0, 0))) := Lib.hid YFv23_7
  clear YFv23_7
  clear Fv2_4
  have Fv2_4 : Hid (X3_28.heap[(w.heap.size + 1 + 1)]? = some (.cells #[.slice (some ⟨p3, 0, none⟩) (n + 1) (n + 1), .slice (some ⟨q3, 0, none⟩) (n + 1) (n + 1)] 30 (0, 0))) := Lib.hid (h1)
  have HszX3_28 := Lib.hid hsz
  clear h1 hfar hbel hsz
  simp only [ptr, Act.put, List.setIfInBounds_toArray, List.set_cons_zero, List.set_cons_succ]
  refine wpList_run (by kernel_rfl) (.int .i64 0) X3_28 rfl ?_
  simp only [Act.put, List.setIfInBounds_toArray, List.set_cons_zero, List.set_cons_succ]
  refine wpList_nil ?_
  have e1 : n + 1 - n = 0 + 1 := by omega
  have hp : RowG rdC X3_28 p3 24 (rs ++ [r]) := by
    have h0 := Fv12_c.out
    have h2 := set_fill rs r (Rd.mk 0 0 0 0) 0
    rw [hln] at h2
    rw [e1, h2] at h0
    simpa using h0
  have hq : RowG boC X3_28 q3 4 (gs ++ [false]) := by
    have h0 := Fv14_c.out
    rw [e1] at h0
    exact h0
  go_wp2_with fail
  refine bodyPost_ret (v := .tuple #[.agg #[.slice (some ⟨p3, 0, none⟩) (n + 1) (n + 1), .slice (some ⟨q3, 0, none⟩) (n + 1) (n + 1)], .int .i64 0]) ?_ rfl ⟨_, _, _, _, rfl, RowG.sg hp (by rw [List.length_append, hln]; rfl) (Nat.le_refl _) (by omega), RowG.sg hq (by rw [List.length_append, hgn]; rfl) (Nat.le_refl _) (by omega), B0.out⟩
  exact results_row_tmp rfl _ _ (w.heap.size + 1 + 1) 30 _ (0, 0) _ _ rfl rfl Fv2_4.out Tryd.underlying30 rfl (by kernel_rfl)
set_option maxRecDepth 100000 in
set_option maxHeartbeats 8000000 in
theorem take_no (A : Option Addr) (n c : Nat) (rs : List Rd) (B : Option Addr) (d : Nat) (gs : List Bool) (r : Rd) (hv : vR r = false) (w : World) (hL : Sg rdC 4 w A n c rs) (hG : Sg boC 1 w B n d gs) (hW : Gw w) : Calls Tryd.prog 12 #[.agg #[.slice A n c, .slice B n d], .agg #[.int .i64 r.who, .int .i64 r.when_, .int .i64 r.kind, .int .i64 r.value]] w fun e w' => e = .returned (.tuple #[.agg #[.slice none 0 0, .slice none 0 0], .int .i64 1]) ∧ Below w.heap.size w w' := by
  have HL := Lib.hid hL
  have HG := Lib.hid hG
  have hln := hL.len
  have hgn := hG.len
  clear hL hG
  have HW := Lib.hid hW
  clear hW
  obtain ⟨b, hb⟩ : ∃ b, b = false := ⟨_, rfl⟩
  subst hb
  go_enter Tryd.func12, Tryd.ntmps12
  go_upto_region 1 with fail
  refine wp_named3 (fun V1 hb g0 g1 g2 hlt => ?_)
  have B0 := Lib.hid hb
  have Fv0_2 : Hid (V1.heap[w.heap.size]? = some (.cells #[.slice A n c, .slice B n d] 30 (0, 0))) := Lib.hid (g0)
  have Fv1_3 : Hid (V1.heap[(w.heap.size + 1)]? = some (.cells #[.int .i64 r.who, .int .i64 r.when_, .int .i64 r.kind, .int .i64 r.value] 24 (0, 0))) := Lib.hid (g1)
  have Fv2_4 : Hid (V1.heap[(w.heap.size + 1 + 1)]? = some (.cells #[.slice none 0 0, .slice none 0 0] 30 (0, 0))) := Lib.hid (g2)
  have Nb0_1 : Hid (w.heap.size ≠ (w.heap.size + 1)) := Lib.hid (by omega)
  have Nb0_2 : Hid (w.heap.size ≠ (w.heap.size + 1 + 1)) := Lib.hid (by omega)
  have Nb1_2 : Hid ((w.heap.size + 1) ≠ (w.heap.size + 1 + 1)) := Lib.hid (by omega)
  have Gb0 : Hid (w.heap.size ≤ w.heap.size) := Lib.hid (by omega)
  have Gb1 : Hid (w.heap.size ≤ (w.heap.size + 1)) := Lib.hid (by omega)
  have Gb2 : Hid (w.heap.size ≤ (w.heap.size + 1 + 1)) := Lib.hid (by omega)
  clear hb g0 g1 g2 hlt
  have Lt0 : Hid (w.heap.size < V1.heap.size) := Lib.hid (xp_lt Fv0_2.out)
  have Lt1 : Hid ((w.heap.size + 1) < V1.heap.size) := Lib.hid (xp_lt Fv1_3.out)
  have Lt2 : Hid ((w.heap.size + 1 + 1) < V1.heap.size) := Lib.hid (xp_lt Fv2_4.out)
  refine wp_region_lit ?_
  refine wpList_run (by kernel_rfl) (.agg #[.int .i64 r.who, .int .i64 r.when_, .int .i64 r.kind, .int .i64 r.value]) V1 (xo_loadW (w.heap.size + 1) _ Fv1_3.out Tryd.underlying24 rfl (by kernel_rfl) rfl rfl) ?_
  simp only [Act.put, List.setIfInBounds_toArray, List.set_cons_zero, List.set_cons_succ]
  refine wpList_call (by kernel_rfl) 17 Tryd.func17 (by kernel_rfl) (by kernel_rfl) _ _ #[.agg #[.int .i64 r.who, .int .i64 r.when_, .int .i64 r.kind, .int .i64 r.value]] rfl (by kernel_rfl) ?_
  refine (valid_as r false hv V1 (HW.out.keep B0.out)).mono ?_
  rintro e V2 ⟨rfl, hb⟩
  have B1 := Lib.hid hb
  clear hb 
  refine ⟨_, rfl, ?_⟩
  simp only [Act.put, List.setIfInBounds_toArray, List.set_cons_zero, List.set_cons_succ]
  refine wpList_run (by kernel_rfl) (.bool true) V2 rfl ?_
  simp only [Act.put, List.setIfInBounds_toArray, List.set_cons_zero, List.set_cons_succ]
  refine wpList_nil ?_
  go_upto_region 2 with fail
  refine wp_region_lit ?_
  refine wpList_run (by kernel_rfl) (.agg #[.slice none 0 0, .slice none 0 0]) V2 (by unfold execOp; go_simp) ?_
  simp only [Act.put, List.setIfInBounds_toArray, List.set_cons_zero, List.set_cons_succ]
  refine wpList_storeW (w.heap.size + 1 + 1) #[.slice none 0 0, .slice none 0 0] #[.slice none 0 0, .slice none 0 0] 30 (by kernel_rfl) (heap_keep Fv2_4.out B1.out) (xo_storeW (w.heap.size + 1 + 1) #[.slice none 0 0, .slice none 0 0] #[.slice none 0 0, .slice none 0 0] (heap_keep Fv2_4.out B1.out) (by kernel_rfl) rfl (by simp [Value.oneCell']) rfl rfl rfl) ?_
  intro X2_3 h1 hfar hbel hsz
  have YFv0_2 : X2_3.heap[w.heap.size]? = some (.cells #[.slice A n c, .slice B n d] 30 (0, 0)) := hfar _ _ Nb0_2.out (heap_keep Fv0_2.out B1.out)
  have YFv1_3 : X2_3.heap[(w.heap.size + 1)]? = some (.cells #[.int .i64 r.who, .int .i64 r.when_, .int .i64 r.kind, .int .i64 r.value] 24 (0, 0)) := hfar _ _ Nb1_2.out (heap_keep Fv1_3.out B1.out)
  have C0_2 := Lib.hid (bel_step B0.out B1.out)
  have hbr := hbel _ _ Gb2.out C0_2.out
  clear B0
  have B0 := Lib.hid hbr
  clear hbr
  clear Fv0_2
  have Fv0_2 : Hid (X2_3.heap[w.heap.size]? = some (.cells #[.slice A n c, .slice B n d] 30 (0, 0))) := Lib.hid YFv0_2
  clear YFv0_2
  clear Fv1_3
  have Fv1_3 : Hid (X2_3.heap[(w.heap.size + 1)]? = some (.cells #[.int .i64 r.who, .int .i64 r.when_, .int .i64 r.kind, .int .i64 r.value] 24 (0, 0))) := Lib.hid YFv1_3
  clear YFv1_3
  clear Fv2_4
  have Fv2_4 : Hid (X2_3.heap[(w.heap.size + 1 + 1)]? = some (.cells #[.slice none 0 0, .slice none 0 0] 30 (0, 0))) := Lib.hid (h1)
  have HszX2_3 := Lib.hid hsz
  clear h1 hfar hbel hsz
  simp only [ptr, Act.put, List.setIfInBounds_toArray, List.set_cons_zero, List.set_cons_succ]
  refine wpList_run (by kernel_rfl) (.int .i64 1) X2_3 rfl ?_
  simp only [Act.put, List.setIfInBounds_toArray, List.set_cons_zero, List.set_cons_succ]
  refine wpList_nil ?_
  go_wp2_with fail
  refine bodyPost_ret (v := .tuple #[.agg #[.slice none 0 0, .slice none 0 0], .int .i64 1]) ?_ rfl ⟨rfl, B0.out⟩
  exact results_row_tmp rfl _ _ (w.heap.size + 1 + 1) 30 _ (0, 0) _ _ rfl rfl Fv2_4.out Tryd.underlying30 rfl (by kernel_rfl)
set_option maxRecDepth 100000 in
set_option maxHeartbeats 8000000 in
theorem rtake_yes (A : Option Addr) (n c : Nat) (rs : List Rd) (B : Option Addr) (d : Nat) (gs : List Bool) (r : Rd) (hv : vR r = true) (hn : n < 65536) (w : World) (hL : Sg rdC 4 w A n c rs) (hG : Sg boC 1 w B n d gs) : Calls Tryd.prog 13 #[.agg #[.slice A n c, .slice B n d], .agg #[.int .i64 r.who, .int .i64 r.when_, .int .i64 r.kind, .int .i64 r.value]] w fun e w' => ∃ A2 c2 B2 d2, e = .returned (.tuple #[.agg #[.slice A2 (n + 1) c2, .slice B2 (n + 1) d2], .int .i64 0]) ∧ Sg rdC 4 w' A2 (n + 1) c2 (rs ++ [r]) ∧ Sg boC 1 w' B2 (n + 1) d2 (gs ++ [false]) ∧ Below w.heap.size w w' := by
  have HL := Lib.hid hL
  have HG := Lib.hid hG
  have hln := hL.len
  have hgn := hG.len
  clear hL hG
  go_enter Tryd.func13, Tryd.ntmps13
  go_upto_region 1 with fail
  refine wp_named3 (fun V1 hb g0 g1 g2 hlt => ?_)
  have B0 := Lib.hid hb
  have Fv0_2 : Hid (V1.heap[w.heap.size]? = some (.cells #[.slice A n c, .slice B n d] 30 (0, 0))) := Lib.hid (g0)
  have Fv1_3 : Hid (V1.heap[(w.heap.size + 1)]? = some (.cells #[.int .i64 r.who, .int .i64 r.when_, .int .i64 r.kind, .int .i64 r.value] 24 (0, 0))) := Lib.hid (g1)
  have Fv2_4 : Hid (V1.heap[(w.heap.size + 1 + 1)]? = some (.cells #[.slice none 0 0, .slice none 0 0] 30 (0, 0))) := Lib.hid (g2)
  have Nb0_1 : Hid (w.heap.size ≠ (w.heap.size + 1)) := Lib.hid (by omega)
  have Nb0_2 : Hid (w.heap.size ≠ (w.heap.size + 1 + 1)) := Lib.hid (by omega)
  have Nb1_2 : Hid ((w.heap.size + 1) ≠ (w.heap.size + 1 + 1)) := Lib.hid (by omega)
  have Gb0 : Hid (w.heap.size ≤ w.heap.size) := Lib.hid (by omega)
  have Gb1 : Hid (w.heap.size ≤ (w.heap.size + 1)) := Lib.hid (by omega)
  have Gb2 : Hid (w.heap.size ≤ (w.heap.size + 1 + 1)) := Lib.hid (by omega)
  clear hb g0 g1 g2 hlt
  have Lt0 : Hid (w.heap.size < V1.heap.size) := Lib.hid (xp_lt Fv0_2.out)
  have Lt1 : Hid ((w.heap.size + 1) < V1.heap.size) := Lib.hid (xp_lt Fv1_3.out)
  have Lt2 : Hid ((w.heap.size + 1 + 1) < V1.heap.size) := Lib.hid (xp_lt Fv2_4.out)
  refine wp_region_lit ?_
  refine wpList_run (by kernel_rfl) (.agg #[.int .i64 r.who, .int .i64 r.when_, .int .i64 r.kind, .int .i64 r.value]) V1 (xo_loadW (w.heap.size + 1) _ Fv1_3.out Tryd.underlying24 rfl (by kernel_rfl) rfl rfl) ?_
  simp only [Act.put, List.setIfInBounds_toArray, List.set_cons_zero, List.set_cons_succ]
  refine wpList_call (by kernel_rfl) 18 Tryd.func18 (by kernel_rfl) (by kernel_rfl) _ _ #[.agg #[.int .i64 r.who, .int .i64 r.when_, .int .i64 r.kind, .int .i64 r.value]] rfl (by kernel_rfl) ?_
  refine (rvalid_as r true hv V1).mono ?_
  rintro e V2 ⟨rfl, hb⟩
  have B1 := Lib.hid hb
  clear hb 
  refine ⟨_, rfl, ?_⟩
  simp only [Act.put, List.setIfInBounds_toArray, List.set_cons_zero, List.set_cons_succ]
  refine wpList_run (by kernel_rfl) (.bool false) V2 rfl ?_
  simp only [Act.put, List.setIfInBounds_toArray, List.set_cons_zero, List.set_cons_succ]
  refine wpList_nil ?_
  have hni : ¬ (n : Int) ≥ 65536 := by omega
  go_upto_region 3 with fail
  refine wp_region_lit ?_
  refine wpList_run (by kernel_rfl) (.pointer (some ⟨w.heap.size, 0, none⟩)) V2 (xo_fld0 0 w.heap.size 0 (by kernel_rfl) rfl rfl) ?_
  simp only [Act.put, List.setIfInBounds_toArray, List.set_cons_zero, List.set_cons_succ]
  refine wpList_run (by kernel_rfl) (.slice A n c) V2 (xo_load1 ⟨w.heap.size, 0, none⟩ _ (cells_at (heap_keep Fv0_2.out B1.out) 0 rfl) Tryd.underlying27 rfl rfl rfl) ?_
  simp only [Act.put, List.setIfInBounds_toArray, List.set_cons_zero, List.set_cons_succ]
  refine wpList_run (by kernel_rfl) (.int .i64 (n : Int)) V2 (xo_len A n c Tryd.underlying27 rfl rfl) ?_
  simp only [Act.put, List.setIfInBounds_toArray, List.set_cons_zero, List.set_cons_succ]
  refine wpList_run (by kernel_rfl) (.bool false) V2 (xo_geqF .i64 (n : Int) 65536 (by omega) rfl rfl rfl) ?_
  simp only [Act.put, List.setIfInBounds_toArray, List.set_cons_zero, List.set_cons_succ]
  refine wpList_nil ?_
  go_upto_region 5 with fail
  refine wp_region_lit ?_
  refine wpList_mk (by kernel_rfl) #[] 24 0 0 (xo_empty (size := 4) Tryd.underlying27 (by kernel_rfl) rfl V2) ?_
  intro g17 V3 hge h0 hb
  have hge2 := Nat.le_trans (Below.refl V2.heap.size V2).size hge
  have B2 := Lib.hid hb
  have Ow17 : Hid (V3.ownsRow V2.heap.size 24 4 (.slice (some ⟨g17, 0, none⟩) 0 0) 0 (fl rdC [])) := Lib.hid (own_new h0 hge2)
  clear hge hge2 h0 hb
  simp only [ptr, Act.put, List.setIfInBounds_toArray, List.set_cons_zero, List.set_cons_succ]
  refine wpList_run (by kernel_rfl) (.pointer (some ⟨w.heap.size, 0, none⟩)) V3 (xo_fld0 0 w.heap.size 0 (by kernel_rfl) rfl rfl) ?_
  simp only [Act.put, List.setIfInBounds_toArray, List.set_cons_zero, List.set_cons_succ]
  have C1_3 := Lib.hid (bel_step B1.out B2.out)
  refine wpList_run (by kernel_rfl) (.slice A n c) V3 (xo_load1 ⟨w.heap.size, 0, none⟩ _ (cells_at (heap_keep Fv0_2.out C1_3.out) 0 rfl) Tryd.underlying27 rfl rfl rfl) ?_
  simp only [Act.put, List.setIfInBounds_toArray, List.set_cons_zero, List.set_cons_succ]
  have C0_2 := Lib.hid (bel_step B0.out B1.out)
  have C0_3 := Lib.hid (bel_step C0_2.out B2.out)
  refine wpList_app2 (size := 4) (by kernel_rfl) (.tmp 17) (.tmp 19) 27 rfl (.agg #[.int .i64 0, .int .i64 0, .int .i64 0, .int .i64 0]) 32 Tryd.underlying27 (by kernel_rfl) rfl (by decide) rfl Ow17.out A n c (fl rdC rs) rfl (HL.out.keep C0_3.out).src (by unfold maxLen; omega) (by omega) B2.out.size ?_
  intro v20 X3_3 ho hb1 hg hloc
  have hox : X3_3.ownsRow V2.heap.size 24 4 v20 n (fl rdC rs) := by first | exact ho | simpa using ho
  have hbr := B2.out.trans hb1
  clear B2
  have B2 := Lib.hid hbr
  clear hbr
  have Ow20_4 := Lib.hid hox
  clear ho hox hb1 hg hloc
  simp only [ptr, Act.put, List.setIfInBounds_toArray, List.set_cons_zero, List.set_cons_succ]
  refine wpList_run (by kernel_rfl) (v20) X3_3 rfl ?_
  simp only [Act.put, List.setIfInBounds_toArray, List.set_cons_zero, List.set_cons_succ]
  refine wpList_nil ?_
  go_upto_region 6 with fail
  refine wp_region_lit ?_
  refine wpList_mk (by kernel_rfl) #[] 4 0 0 (xo_empty (size := 1) Tryd.underlying28 (by kernel_rfl) rfl X3_3) ?_
  intro g21 V4 hge h0 hb
  have Ap5 : Hid (ApartV (v20) (.slice (some ⟨g21, 0, none⟩) 0 0)) := Lib.hid (ApartV.new Ow20_4.out hge)
  have hge2 := Nat.le_trans B2.out.size hge
  have B3 := Lib.hid hb
  have Ow21 : Hid (V4.ownsRow V2.heap.size 4 1 (.slice (some ⟨g21, 0, none⟩) 0 0) 0 (fl boC [])) := Lib.hid (own_new h0 hge2)
  clear hge hge2 h0 hb
  simp only [ptr, Act.put, List.setIfInBounds_toArray, List.set_cons_zero, List.set_cons_succ]
  refine wpList_run (by kernel_rfl) (.pointer (some ⟨w.heap.size, 1, none⟩)) V4 (xo_fld0 1 w.heap.size 1 (by kernel_rfl) rfl rfl) ?_
  simp only [Act.put, List.setIfInBounds_toArray, List.set_cons_zero, List.set_cons_succ]
  have C1_3 := Lib.hid (bel_step B1.out B2.out)
  have C1_4 := Lib.hid (bel_step C1_3.out B3.out)
  refine wpList_run (by kernel_rfl) (.slice B n d) V4 (xo_load1 ⟨w.heap.size, 1, none⟩ _ (cells_at (heap_keep Fv0_2.out C1_4.out) 1 rfl) Tryd.underlying28 rfl rfl rfl) ?_
  simp only [Act.put, List.setIfInBounds_toArray, List.set_cons_zero, List.set_cons_succ]
  have C0_3 := Lib.hid (bel_step C0_2.out B2.out)
  have C0_4 := Lib.hid (bel_step C0_3.out B3.out)
  have C2_4 := Lib.hid (bel_step B2.out B3.out)
  refine wpList_app2 (size := 1) (by kernel_rfl) (.tmp 21) (.tmp 23) 28 rfl (.bool false) 1 Tryd.underlying28 (by kernel_rfl) rfl (by decide) rfl Ow21.out B n d (fl boC gs) rfl (HG.out.keep C0_4.out).src (by unfold maxLen; omega) (by omega) C2_4.out.size ?_
  intro v24 X4_6 ho hb1 hg hloc
  have hox : X4_6.ownsRow V2.heap.size 4 1 v24 n (fl boC gs) := by first | exact ho | simpa using ho
  have hzOw20_4 := own_other (own_keep Ow20_4.out B3.out) hg Ap5.out.symm
  have hpOw20_4 := ApartV.grow Ap5.out.symm hloc (own_keep Ow20_4.out B3.out)
  have hbr := C2_4.out.trans hb1
  clear B2
  have B2 := Lib.hid hbr
  clear hbr
  have Ow24_7 := Lib.hid hox
  clear Ow20_4
  have Ow20_4 := Lib.hid hzOw20_4
  have Ap8 := Lib.hid hpOw20_4
  clear hzOw20_4 hpOw20_4
  clear ho hox hb1 hg hloc
  simp only [ptr, Act.put, List.setIfInBounds_toArray, List.set_cons_zero, List.set_cons_succ]
  refine wpList_run (by kernel_rfl) (v24) X4_6 rfl ?_
  simp only [Act.put, List.setIfInBounds_toArray, List.set_cons_zero, List.set_cons_succ]
  refine wpList_nil ?_
  go_upto_region 7 with fail
  refine wp_region_lit ?_
  refine wpList_run (by kernel_rfl) (v20) X4_6 rfl ?_
  simp only [Act.put, List.setIfInBounds_toArray, List.set_cons_zero, List.set_cons_succ]
  have C1_3 := Lib.hid (bel_step B1.out B2.out)
  refine wpList_run (by kernel_rfl) (.agg #[.int .i64 r.who, .int .i64 r.when_, .int .i64 r.kind, .int .i64 r.value]) X4_6 (xo_loadW (w.heap.size + 1) _ (heap_keep Fv1_3.out C1_3.out) Tryd.underlying24 rfl (by kernel_rfl) rfl rfl) ?_
  simp only [Act.put, List.setIfInBounds_toArray, List.set_cons_zero, List.set_cons_succ]
  refine wpList_mk (by kernel_rfl) ([r].flatMap rdC).toArray 24 1 1 (xg_lit (E := rdC) (bytes := 32) (.agg #[.int .i64 0, .int .i64 0, .int .i64 0, .int .i64 0]) [.tmp 26] [r] 1 Tryd.underlying27 (by kernel_rfl) rfl (by decide) (by decide) rfl rfl) ?_
  intro g27 V4 hge h0 hb
  have N9_0 : Hid (w.heap.size ≠ g27) := Lib.hid (xp_lt0 (heap_keep Fv0_2.out C1_3.out) hge)
  have N10_1 : Hid ((w.heap.size + 1) ≠ g27) := Lib.hid (xp_lt0 (heap_keep Fv1_3.out C1_3.out) hge)
  have N11_2 : Hid ((w.heap.size + 1 + 1) ≠ g27) := Lib.hid (xp_lt0 (heap_keep Fv2_4.out C1_3.out) hge)
  have Ge12 : Hid (X4_6.heap.size ≤ g27) := Lib.hid hge
  have B3 := Lib.hid hb
  have Fv13_27 : Hid (RowG rdC V4 g27 24 ([r])) := Lib.hid (h0)
  have Lt14 : Hid (g27 < V4.heap.size) := Lib.hid (xp_lt Fv13_27.out)
  clear hge h0 hb
  simp only [ptr, Act.put, List.setIfInBounds_toArray, List.set_cons_zero, List.set_cons_succ]
  have C2_4 := Lib.hid (bel_step B2.out B3.out)
  refine wpList_app2 (size := 4) (by kernel_rfl) (.tmp 25) (.tmp 27) 27 rfl (.agg #[.int .i64 0, .int .i64 0, .int .i64 0, .int .i64 0]) 32 Tryd.underlying27 (by kernel_rfl) rfl (by decide) rfl (own_keep Ow20_4.out B3.out) (some ⟨g27, 0, none⟩) 1 1 (fl rdC ([r])) rfl (RowG.sg Fv13_27.out (show ([r]).length = 1 from rfl) (Nat.le_refl _) (by omega)).src (by unfold maxLen; omega) (by omega) C2_4.out.size ?_
  intro v28 X4_15 ho hb1 hg hloc
  have hox : X4_15.ownsRow V2.heap.size 24 4 v28 (n + 1) (fl rdC (rs ++ ([r]))) := by rw [fl_append]; exact ho
  have hzOw24_7 := own_other (own_keep Ow24_7.out B3.out) hg Ap8.out.symm
  have hpOw24_7 := ApartV.grow Ap8.out.symm hloc (own_keep Ow24_7.out B3.out)
  have hbr := C2_4.out.trans hb1
  clear B2
  have B2 := Lib.hid hbr
  clear hbr
  have Ow28_16 := Lib.hid hox
  clear Ow24_7
  have Ow24_7 := Lib.hid hzOw24_7
  have Ap17 := Lib.hid hpOw24_7
  clear hzOw24_7 hpOw24_7
  clear ho hox hb1 hg hloc
  simp only [ptr, Act.put, List.setIfInBounds_toArray, List.set_cons_zero, List.set_cons_succ]
  refine wpList_run (by kernel_rfl) (v24) X4_15 rfl ?_
  simp only [Act.put, List.setIfInBounds_toArray, List.set_cons_zero, List.set_cons_succ]
  refine wpList_mk (by kernel_rfl) ([false].flatMap boC).toArray 4 1 1 (xg_lit (E := boC) (bytes := 1) (.bool false) [.const (.bool false)] [false] 1 Tryd.underlying28 (by kernel_rfl) rfl (by decide) (by decide) rfl rfl) ?_
  intro g30 V4 hge h0 hb
  have C1_3 := Lib.hid (bel_step B1.out B2.out)
  have N18_0 : Hid (w.heap.size ≠ g30) := Lib.hid (xp_lt0 (heap_keep Fv0_2.out C1_3.out) hge)
  have N19_1 : Hid ((w.heap.size + 1) ≠ g30) := Lib.hid (xp_lt0 (heap_keep Fv1_3.out C1_3.out) hge)
  have N20_2 : Hid ((w.heap.size + 1 + 1) ≠ g30) := Lib.hid (xp_lt0 (heap_keep Fv2_4.out C1_3.out) hge)
  have Ge21 : Hid (X4_15.heap.size ≤ g30) := Lib.hid hge
  have B3 := Lib.hid hb
  have Fv22_30 : Hid (RowG boC V4 g30 4 ([false])) := Lib.hid (h0)
  have Lt23 : Hid (g30 < V4.heap.size) := Lib.hid (xp_lt Fv22_30.out)
  clear hge h0 hb
  simp only [ptr, Act.put, List.setIfInBounds_toArray, List.set_cons_zero, List.set_cons_succ]
  have C2_4 := Lib.hid (bel_step B2.out B3.out)
  refine wpList_app2 (size := 1) (by kernel_rfl) (.tmp 29) (.tmp 30) 28 rfl (.bool false) 1 Tryd.underlying28 (by kernel_rfl) rfl (by decide) rfl (own_keep Ow24_7.out B3.out) (some ⟨g30, 0, none⟩) 1 1 (fl boC ([false])) rfl (RowG.sg Fv22_30.out (show ([false]).length = 1 from rfl) (Nat.le_refl _) (by omega)).src (by unfold maxLen; omega) (by omega) C2_4.out.size ?_
  intro v31 X4_24 ho hb1 hg hloc
  have hox : X4_24.ownsRow V2.heap.size 4 1 v31 (n + 1) (fl boC (gs ++ ([false]))) := by rw [fl_append]; exact ho
  have hzOw28_16 := own_other (own_keep Ow28_16.out B3.out) hg Ap17.out.symm
  have hpOw28_16 := ApartV.grow Ap17.out.symm hloc (own_keep Ow28_16.out B3.out)
  have hbr := C2_4.out.trans hb1
  clear B2
  have B2 := Lib.hid hbr
  clear hbr
  have Ow31_25 := Lib.hid hox
  clear Ow28_16
  have Ow28_16 := Lib.hid hzOw28_16
  have Ap26 := Lib.hid hpOw28_16
  clear hzOw28_16 hpOw28_16
  clear ho hox hb1 hg hloc
  simp only [ptr, Act.put, List.setIfInBounds_toArray, List.set_cons_zero, List.set_cons_succ]
  obtain ⟨A27, c27, rfl⟩ := own_form Ow28_16.out
  obtain ⟨A28, c28, rfl⟩ := own_form Ow31_25.out
  refine wpList_run (by kernel_rfl) (.agg #[.slice A27 (n + 1) c27, .slice A28 (n + 1) c28]) X4_24 (by unfold execOp; go_simp) ?_
  simp only [Act.put, List.setIfInBounds_toArray, List.set_cons_zero, List.set_cons_succ]
  have C1_3 := Lib.hid (bel_step B1.out B2.out)
  refine wpList_storeW (w.heap.size + 1 + 1) #[.slice none 0 0, .slice none 0 0] #[.slice A27 (n + 1) c27, .slice A28 (n + 1) c28] 30 (by kernel_rfl) (heap_keep Fv2_4.out C1_3.out) (xo_storeW (w.heap.size + 1 + 1) #[.slice none 0 0, .slice none 0 0] #[.slice A27 (n + 1) c27, .slice A28 (n + 1) c28] (heap_keep Fv2_4.out C1_3.out) (by kernel_rfl) rfl (by simp [Value.oneCell']) rfl rfl rfl) ?_
  intro X3_29 h1 hfar hbel hsz
  have YOw28_16 : X3_29.ownsRow V2.heap.size 24 4 (.slice A27 (n + 1) c27) (n + 1) (fl rdC (rs ++ ([r]))) := own_farB Ow28_16.out (Nat.lt_of_lt_of_le Lt2.out B1.out.size) hfar
  have YOw31_25 : X3_29.ownsRow V2.heap.size 4 1 (.slice A28 (n + 1) c28) (n + 1) (fl boC (gs ++ ([false]))) := own_farB Ow31_25.out (Nat.lt_of_lt_of_le Lt2.out B1.out.size) hfar
  have YFv0_2 : X3_29.heap[w.heap.size]? = some (.cells #[.slice A n c, .slice B n d] 30 (0, 0)) := hfar _ _ Nb0_2.out (heap_keep Fv0_2.out C1_3.out)
  have YFv1_3 : X3_29.heap[(w.heap.size + 1)]? = some (.cells #[.int .i64 r.who, .int .i64 r.when_, .int .i64 r.kind, .int .i64 r.value] 24 (0, 0)) := hfar _ _ Nb1_2.out (heap_keep Fv1_3.out C1_3.out)
  have C0_3 := Lib.hid (bel_step C0_2.out B2.out)
  have hbr := hbel _ _ Gb2.out C0_3.out
  clear B0
  have B0 := Lib.hid hbr
  clear hbr
  clear Fv0_2
  have Fv0_2 : Hid (X3_29.heap[w.heap.size]? = some (.cells #[.slice A n c, .slice B n d] 30 (0, 0))) := Lib.hid YFv0_2
  clear YFv0_2
  clear Fv1_3
  have Fv1_3 : Hid (X3_29.heap[(w.heap.size + 1)]? = some (.cells #[.int .i64 r.who, .int .i64 r.when_, .int .i64 r.kind, .int .i64 r.value] 24 (0, 0))) := Lib.hid YFv1_3
  clear YFv1_3
  clear Ow28_16
  have Ow28_16 := Lib.hid YOw28_16
  clear YOw28_16
  clear Ow31_25
  have Ow31_25 := Lib.hid YOw31_25
  clear YOw31_25
  clear Fv2_4
  have Fv2_4 : Hid (X3_29.heap[(w.heap.size + 1 + 1)]? = some (.cells #[.slice A27 (n + 1) c27, .slice A28 (n + 1) c28] 30 (0, 0))) := Lib.hid (h1)
  have HszX3_29 := Lib.hid hsz
  clear h1 hfar hbel hsz
  simp only [ptr, Act.put, List.setIfInBounds_toArray, List.set_cons_zero, List.set_cons_succ]
  refine wpList_run (by kernel_rfl) (.int .i64 0) X3_29 rfl ?_
  simp only [Act.put, List.setIfInBounds_toArray, List.set_cons_zero, List.set_cons_succ]
  refine wpList_nil ?_
  have ho1 := Ow28_16.out
  have ho2 := Ow31_25.out
  have hs1 := Sg.ownS ho1
  have hs2 := Sg.ownS ho2
  go_wp2_with fail
  refine bodyPost_ret (v := .tuple #[.agg #[.slice A27 (n + 1) c27, .slice A28 (n + 1) c28], .int .i64 0]) ?_ rfl ⟨_, _, _, _, rfl, hs1, hs2, B0.out⟩
  exact results_row_tmp rfl _ _ (w.heap.size + 1 + 1) 30 _ (0, 0) _ _ rfl rfl Fv2_4.out Tryd.underlying30 rfl (by kernel_rfl)
end Go.Proofs.YtopicjdmajlndaaDoor

