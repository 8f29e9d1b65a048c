/- Several texts in one: Mpa, Mpb, Mpd, Mpe, Mpf, Mpg, Mpj. -/
import Derived.Test.YtipbfonlcmegdaaMleM
import Derived.Test.YtipbfonlcmegdaaApp
import Derived.Test.YtipbfonlcmegdaaExtU
import Derived.Test.YtipbfonlcmegdaaNbit
import Derived.Test.YtipbfonlcmegdaaPolP
import Derived.Test.YtipbfonlcmegdaaLin
import Derived.Test.YtipbfonlcmegdaaExtT
import Derived.RangeFuncNested
import Derived.RangeFuncBound
import Derived.RangeFuncCalls
import Derived.RangeFuncLeaves
import Derived.RangeFuncBox
import Derived.Shelf.Abstract
import Derived.Shelf.RegionOpen
import Derived.OwnWalkIn
import Derived.TacticsInMore
import Derived.LoopNIn
import Derived.LoopIn
import Derived.Laws.EntriesVeiled
import Derived.Test.YtipbfonlcmegdaaLex
import Derived.Deep.QuietTactic
import Derived.BigQuiet
/- Contracts of package mle, its parts: one, between, agreement; a table at the head of a block; no conditions but that slices lie in memory as the package's own calls lay them. -/
namespace Go.Proofs.Ytipbfonlcmegdaa
set_option maxRecDepth 8000
open Go.RowKit Gold

theorem grown_of_below {w w' : World} {row : Option Nat} (h : Below w.heap.size w w') : w.grownBy w' row := ⟨h.os, h.tape, h.output, h.size, fun k hk _ => h.block k hk⟩
theorem grown_then {a b c : World} {row : Option Nat} (h : a.grownBy b row) (k : b.grownBy c row) : a.grownBy c row :=
  ⟨k.os.trans h.os, k.tape.trans h.tape, k.output.trans h.output, Nat.le_trans h.size k.size, fun i hi hn => (k.block i (Nat.lt_of_lt_of_le hi h.size) hn).trans (h.block i hi hn)⟩
theorem grown_cell (w : World) (g i : Nat) (v : Value) : w.grownBy (w.setCell ⟨g, i, none⟩ v) (some g) :=
  ⟨rfl, rfl, rfl, by simp [World.setCell], fun k _ hn => Below.heap_setCell _ _ _ _ (fun e => hn (by rw [e]))⟩
theorem grown_two {a b : World} {g : Nat} (h : a.grownBy b (some g)) (i j : Nat) (u v : Value) : a.grownBy ((b.setCell ⟨g, i, none⟩ u).setCell ⟨g, j, none⟩ v) (some g) := grown_then (grown_then h (grown_cell _ _ _ _)) (grown_cell _ _ _ _)
theorem below_of_grown {B g : Nat} {w w1 w2 : World} (h : Below B w w1) (k : w1.grownBy w2 (some g)) (hg : B ≤ g) (hB : B ≤ w1.heap.size) : Below B w w2 := h.trans (Below.grown (Below.refl B w1) k hB (fun q hq => by cases hq; exact hg))
theorem heap_other {w w' : World} {g b : Nat} {o : Obj} (h : w.heap[b]? = some o) (k : w.grownBy w' (some g)) (e : b ≠ g) : w'.heap[b]? = some o := (k.block b (Array.getElem?_eq_some_iff.1 h).1 (fun q => by cases q; exact e rfl)).trans h
theorem Two.other {w w' : World} {g b : Nat} {t : TypeId} {u v : Value} (h : Two w b t u v) (k : w.grownBy w' (some g)) (e : b ≠ g) : Two w' b t u v := heap_other h k e
theorem One.other {w w' : World} {g b : Nat} {t : TypeId} {u : Value} (h : One w b t u) (k : w.grownBy w' (some g)) (e : b ≠ g) : One w' b t u := heap_other h k e

/-- block g begins with the elements xs -/
def Tab (w : World) (g : Nat) (xs : List E2) : Prop := ∃ cur : List Value, w.heap[g]? = some (.cells cur.toArray 27 (0, 0)) ∧ cur.take (xs.length * 2) = cellsE xs
section
variable {w w' : World} {g : Nat} {xs : List E2}
theorem Tab.lt (h : Tab w g xs) : g < w.heap.size := by obtain ⟨cur, h1, _⟩ := h; exact (Array.getElem?_eq_some_iff.1 h1).1
theorem Tab.keep (h : Tab w g xs) (hb : Below w.heap.size w w') : Tab w' g xs := by obtain ⟨cur, h1, h2⟩ := h; exact ⟨cur, heap_keep h1 hb, h2⟩
theorem Tab.other {g' : Nat} (h : Tab w g xs) (k : w.grownBy w' (some g')) (e : g ≠ g') : Tab w' g xs := by obtain ⟨cur, h1, h2⟩ := h; exact ⟨cur, heap_other h1 k e, h2⟩
theorem Tab.far (h : Tab w g xs) {a : Addr} (x : Value) (e : g ≠ a.block) : Tab (w.setCell a x) g xs := by obtain ⟨cur, h1, h2⟩ := h; exact ⟨cur, (Below.heap_setCell w a x g e).trans h1, h2⟩
theorem Tab.of_row (h : Row w g xs) : Tab w g xs := ⟨cellsE xs, h, by rw [← cellsE_length]; exact List.take_length⟩
theorem Tab.at_ {i : Nat} {x : E2} (h : Tab w g xs) (hx : xs[i]? = some x) : w.cell? ⟨g, i * 2, none⟩ = some (.int .u64 (vF x.A)) ∧ w.cell? ⟨g, i * 2 + 1, none⟩ = some (.int .u64 (vF x.B)) := by
  obtain ⟨cur, h1, h2⟩ := h
  have hl := (List.getElem?_eq_some_iff.1 hx).1
  have key : ∀ k u, (cellsE xs)[k]? = some u → w.cell? ⟨g, k, none⟩ = some u := fun k u hu => by
    rw [← h2] at hu
    have hk := (List.getElem?_eq_some_iff.1 hu).1
    rw [List.getElem?_take_of_lt (by simp at hk; omega)] at hu
    simpa [World.cell?, h1] using hu
  exact ⟨key _ _ (cellsE_even hx), key _ _ (cellsE_odd hx)⟩
theorem Tab.free (h : Tab w g xs) (k : Nat) : w.frozen? ⟨g, k, none⟩ = false := by
  obtain ⟨cur, h1, _⟩ := h
  simp [World.frozen?, h1]
theorem Tab.set (h : Tab w g xs) (i : Nat) (x : E2) : Tab ((w.setCell ⟨g, i * 2, none⟩ (.int .u64 (vF x.A))).setCell ⟨g, i * 2 + 1, none⟩ (.int .u64 (vF x.B))) g (xs.set i x) := by
  obtain ⟨cur, h1, h2⟩ := h
  have k1 := heap_setCell_at (i := i * 2) h1 (.int .u64 (vF x.A))
  have k2 := heap_setCell_at (i := i * 2 + 1) k1 (.int .u64 (vF x.B))
  refine ⟨(cur.set (i * 2) (.int .u64 (vF x.A))).set (i * 2 + 1) (.int .u64 (vF x.B)), ?_, ?_⟩
  · rw [k2]; simp
  · rw [← cellsE_set, List.length_set, List.take_set, List.take_set, h2]
theorem Tab.take (h : Tab w g xs) (k : Nat) : Tab w g (xs.take k) := by
  obtain ⟨cur, h1, h2⟩ := h
  refine ⟨cur, h1, ?_⟩
  have e : cellsE (xs.take k) = (cellsE xs).take ((xs.take k).length * 2) := by
    have e1 : cellsE xs = cellsE (xs.take k) ++ cellsE (xs.drop k) := by rw [← cellsE_append, List.take_append_drop]
    rw [e1, ← cellsE_length, List.take_left]
  rw [e, ← h2, List.take_take]
  congr 1
  rw [List.length_take]
  omega
theorem Tab.cast {ys : List E2} (h : Tab w g xs) (e : xs = ys) : Tab w g ys := e ▸ h
theorem Tab.sl {n c : Nat} (h : Tab w g xs) (hn : n = xs.length) (hc : n ≤ c) (ht : c ≤ 9223372036854775807) : Sl w (some ⟨g, 0, none⟩) n c xs := by
  refine ⟨by simpa using hn, hc, ht, (fun e => by cases e), fun i p hp => ⟨_, rfl, ?_⟩⟩
  rw [List.getElem?_map] at hp
  cases hx : xs[i]? with
  | none => rw [hx] at hp; cases hp
  | some x =>
    rw [hx] at hp
    injection hp with hp
    subst hp
    obtain ⟨k1, k2⟩ := h.at_ hx
    unfold AtV
    rw [add_base]
    exact ⟨k1, k2⟩
end
/-- a slice of the call's own that is not empty -/
theorem OwE.tab {w : World} {base n : Nat} {v : Value} {xs : List E2} (h : OwE w base v n xs) (hn : 0 < n) : ∃ g c, v = .slice (some ⟨g, 0, none⟩) n c ∧ base ≤ g ∧ n ≤ c ∧ c ≤ 9223372036854775807 ∧ Tab w g xs := by
  have hl := h.len
  rcases h.2 with ⟨rfl, rfl⟩ | ⟨g, cap, cur, rfl, hb, hg, hc, hm, hs, ht⟩
  · omega
  · unfold maxLen at hm
    exact ⟨g, cap, rfl, hb, hc, by omega, cur.toList, by simpa using hg, by rw [← hl]; simpa using ht⟩

set_option maxHeartbeats 400000 in
theorem between_any (r : E2) (w : World) : Calls Try.prog 65 #[.agg #[.int .u64 (vF r.A), .int .u64 (vF r.B)]] w fun e w' => e = .returned (.func (.func 94) #[] #[.pointer (some ⟨w.heap.size, 0, none⟩)]) ∧ w' = w.alloc (.cells #[.int .u64 (vF r.A), .int .u64 (vF r.B)] 27) := by
  go_enter Try.func65, Try.ntmps65
  go_wp2
  go_ret
  exact ⟨rfl, rfl⟩
set_option maxHeartbeats 1000000 in
theorem between1_any (r x y : E2) (B : Nat) (w : World) (hB : Two w B 27 (.int .u64 (vF r.A)) (.int .u64 (vF r.B))) :
    Calls Try.prog 94 #[.agg #[.int .u64 (vF x.A), .int .u64 (vF x.B)], .agg #[.int .u64 (vF y.A), .int .u64 (vF y.B)], .pointer (some ⟨B, 0, none⟩)] w fun e w' => e = .returned (.agg #[.int .u64 (vF (btw r x y).A), .int .u64 (vF (btw r x y).B)]) ∧ Below w.heap.size w w' := by
  have HR := Lib.hid hB
  clear hB
  go_enter Try.func94, Try.ntmps94
  go_wp2_with fail
  refine wp_named3 (fun W hB g0 g1 g2 hz => ?_)
  have HB := Lib.hid hB
  have HRW := Lib.hid (HR.out.keep hB)
  have c20 := Two.c0 g2; have c21 := Two.c1 g2; have f20 := Two.f0 g2; have f21 := Two.f1 g2
  have l00 := Later.cell (Two.c0 g0); have l01 := Later.cell (Two.c1 g0); have l10 := Later.cell (Two.c0 g1); have l11 := Later.cell (Two.c1 g1)
  have l20 := Later.cell HRW.out.c0; have l21 := Later.cell HRW.out.c1
  clear hB g0 g1 g2
  refine wp_later_tail 7 (by kernel_rfl) (by kernel_rfl) ?_
  simp only [List.take_succ_cons, List.take_zero, List.drop_succ_cons, List.drop_zero]
  repeat (go_big_quiet_step (first
    | (go_at_call 86; with_reducible exact Calls.later (extSub_any y x _))
    | (go_at_call 15; with_reducible exact Calls.later (extMul_any r (y - x) _))
    | (go_at_call 14; with_reducible exact Calls.later (extAdd_any x (r * (y - x)) _))))
  refine wpQuiet_nil ?_
  intro X
  clear l00 l01 l10 l11 l20 l21
  have hb := X.below
  replace f20 := free_after hb c20 f20; replace f21 := free_after hb c21 f21; replace c20 := cell_after hb c20; replace c21 := cell_after hb c21
  replace HB := Lib.hid (HB.out.trans (hb.mono HB.out.size))
  clear hb
  go_wp2
  exact bodyPost_ret (v := .agg #[.int .u64 (vF (x + r * (y - x)).A), .int .u64 (vF (x + r * (y - x)).B)]) (by simp [results, Try.results94, go_sem, c20, c21]) rfl ⟨rfl, (HB.out.setCell (by simp; try omega) _).setCell (by simp; try omega) _⟩

set_option maxHeartbeats 400000 in
theorem mleOne_any (w : World) : Calls Try.prog 85 #[] w fun e w' => e = .returned (.agg #[.int .u64 (vF E2.one.A), .int .u64 (vF E2.one.B)]) ∧ Below w.heap.size w w' := by
  go_enter Try.func85, Try.ntmps85
  go_wp2_with fail
  refine calls_named1 (fun W hB g0 hz => ?_)
  have HB := Lib.hid hB
  have HT := Lib.hid (show Two W w.heap.size 27 (.int .u64 0) (.int .u64 0) from g0)
  clear hB g0
  refine (extFromBase_any 1 W).mono ?_
  rintro e W1 ⟨rfl, hb⟩
  have HT1 := Lib.hid (HT.out.keep hb)
  have HB1 := Lib.hid (below_step HB.out hb)
  clear hb HT HB
  have c0 := HT1.out.c0; have c1 := HT1.out.c1; have f0 := HT1.out.f0; have f1 := HT1.out.f1
  go_wp2
  exact bodyPost_ret (v := .agg #[.int .u64 (vF (E2.ofF 1).A), .int .u64 (vF (E2.ofF 1).B)]) (by simp [results, Try.results85, go_sem, c0, c1]) rfl ⟨rfl, (HB1.out.setCell (Nat.le_refl _) _).setCell (Nat.le_refl _) _⟩

set_option maxHeartbeats 1000000 in
theorem agreement_any (x y : E2) (w : World) :
    Calls Try.prog 89 #[.agg #[.int .u64 (vF x.A), .int .u64 (vF x.B)], .agg #[.int .u64 (vF y.A), .int .u64 (vF y.B)]] w fun e w' => e = .returned (.agg #[.int .u64 (vF (agr x y).A), .int .u64 (vF (agr x y).B)]) ∧ Below w.heap.size w w' := by
  go_enter Try.func89, Try.ntmps89
  go_wp2_with fail
  refine wp_named3 (fun W hB g0 g1 g2 hz => ?_)
  have HB := Lib.hid hB
  have c20 := Two.c0 g2; have c21 := Two.c1 g2; have f20 := Two.f0 g2; have f21 := Two.f1 g2
  have l00 := Later.cell (Two.c0 g0); have l01 := Later.cell (Two.c1 g0); have l10 := Later.cell (Two.c0 g1); have l11 := Later.cell (Two.c1 g1)
  clear hB g0 g1 g2
  refine wp_later_tail 11 (by kernel_rfl) (by kernel_rfl) ?_
  simp only [List.take_succ_cons, List.take_zero, List.drop_succ_cons, List.drop_zero]
  repeat (go_big_quiet_step (first
    | (go_at_call 85; with_reducible exact Calls.later (mleOne_any _))
    | (go_at_call 86; with_reducible exact Calls.later (extSub_any E2.one x _))
    | (go_at_call 86; with_reducible exact Calls.later (extSub_any E2.one y _))
    | (go_at_call 15; with_reducible exact Calls.later (extMul_any x y _))
    | (go_at_call 15; with_reducible exact Calls.later (extMul_any (E2.one - x) (E2.one - y) _))
    | (go_at_call 14; with_reducible exact Calls.later (extAdd_any (x * y) ((E2.one - x) * (E2.one - y)) _))))
  refine wpQuiet_nil ?_
  intro X
  clear l00 l01 l10 l11
  have hb := X.below
  replace f20 := free_after hb c20 f20; replace f21 := free_after hb c21 f21; replace c20 := cell_after hb c20; replace c21 := cell_after hb c21
  replace HB := Lib.hid (HB.out.trans (hb.mono HB.out.size))
  clear hb
  go_wp2
  exact bodyPost_ret (v := .agg #[.int .u64 (vF (agr x y).A), .int .u64 (vF (agr x y).B)]) (by simp [results, Try.results89, go_sem, c20, c21, agr]) rfl ⟨rfl, (HB.out.setCell (by simp; try omega) _).setCell (by simp; try omega) _⟩
set_option maxHeartbeats 1000000 in
theorem rFactor_any (x y : E2) (w : World) :
    Calls Try.prog 115 #[.agg #[.int .u64 (vF x.A), .int .u64 (vF x.B)], .agg #[.int .u64 (vF y.A), .int .u64 (vF y.B)]] w fun e w' => e = .returned (.agg #[.int .u64 (vF (agr x y).A), .int .u64 (vF (agr x y).B)]) ∧ Below w.heap.size w w' := by
  go_enter Try.func115, Try.ntmps115
  go_wp2_with fail
  refine calls_named3 (fun W hB g0 g1 g2 hz => ?_)
  have HB := Lib.hid hB
  have H0 := Lib.hid (show Two W w.heap.size 27 (.int .u64 (vF x.A)) (.int .u64 (vF x.B)) from g0)
  have H1 := Lib.hid (show Two W (w.heap.size + 1) 27 (.int .u64 (vF y.A)) (.int .u64 (vF y.B)) from g1)
  have H2 := Lib.hid (show Two W (w.heap.size + 1 + 1) 27 (.int .u64 0) (.int .u64 0) from g2)
  clear hB g0 g1 g2
  refine (rOne_any W).mono ?_
  rintro e W1 ⟨rfl, hb⟩
  replace HB := Lib.hid (below_step HB.out hb)
  replace H0 := Lib.hid (H0.out.keep hb)
  replace H1 := Lib.hid (H1.out.keep hb)
  replace H2 := Lib.hid (H2.out.keep hb)
  clear hb
  go_wp2_with fail
  refine wp_named1 (fun V hbV g3 hzV => ?_)
  replace HB := Lib.hid (below_step HB.out hbV)
  replace H0 := Lib.hid (H0.out.keep hbV)
  replace H1 := Lib.hid (H1.out.keep hbV)
  replace H2 := Lib.hid (H2.out.keep hbV)
  have H3 := Lib.hid (show Two V W1.heap.size 27 (.int .u64 (vF E2.one.A)) (.int .u64 (vF E2.one.B)) from g3)
  clear hbV g3
  have c20 := H2.out.c0; have c21 := H2.out.c1; have f20 := H2.out.f0; have f21 := H2.out.f1
  have l00 := Later.cell H0.out.c0; have l01 := Later.cell H0.out.c1; have l10 := Later.cell H1.out.c0; have l11 := Later.cell H1.out.c1; have l30 := Later.cell H3.out.c0; have l31 := Later.cell H3.out.c1
  refine wp_later_tail 11 (by kernel_rfl) (by kernel_rfl) ?_
  simp only [List.take_succ_cons, List.take_zero, List.drop_succ_cons, List.drop_zero]
  repeat (go_big_quiet_step (first
    | (go_at_call 39; with_reducible exact Calls.later (rSub_any E2.one x _))
    | (go_at_call 39; with_reducible exact Calls.later (rSub_any E2.one y _))
    | (go_at_call 46; with_reducible exact Calls.later (rMul_any x y _))
    | (go_at_call 46; with_reducible exact Calls.later (rMul_any (E2.one - x) (E2.one - y) _))
    | (go_at_call 43; with_reducible exact Calls.later (rAdd_any (x * y) ((E2.one - x) * (E2.one - y)) _))))
  refine wpQuiet_nil ?_
  intro X
  clear l00 l01 l10 l11 l30 l31
  have hb := X.below
  replace f20 := free_after hb c20 f20; replace f21 := free_after hb c21 f21; replace c20 := cell_after hb c20; replace c21 := cell_after hb c21
  replace HB := Lib.hid (HB.out.trans (hb.mono HB.out.size))
  clear hb
  go_wp2
  exact bodyPost_ret (v := .agg #[.int .u64 (vF (agr x y).A), .int .u64 (vF (agr x y).B)]) (by simp [results, Try.results115, go_sem, c20, c21, agr]) rfl ⟨rfl, (HB.out.setCell (by simp; try omega) _).setCell (by simp; try omega) _⟩

end Go.Proofs.Ytipbfonlcmegdaa

/- Contracts of package mle, folding: clone, fold, Bind, Eval; no conditions but that lengths are powers of two. Contracts of package mle: Bind and Eval; no conditions but that lengths are powers of two. -/
namespace Go.Proofs.Ytipbfonlcmegdaa
set_option maxRecDepth 8000
section
open Go.RowKit Gold

/-- the elements when k of them have been replaced -/
def foldAt (xs : List E2) (r : E2) (k : Nat) : List E2 := tabE xs.length fun i => if i < k then bndF (cfE xs) r i else cfE xs i
theorem foldAt_zero (xs : List E2) (r : E2) : foldAt xs r 0 = xs := by
  unfold foldAt
  rw [tabE_congr (g := cfE xs) fun i _ => if_neg (Nat.not_lt_zero _)]
  exact tabE_cfE xs
theorem foldAt_get {xs : List E2} {r : E2} {k i : Nat} (hi : i < xs.length) (hk : k ≤ i) : (foldAt xs r k)[i]? = some (cfE xs i) := by
  unfold foldAt
  rw [tabE_get _ hi, if_neg (by omega)]
theorem foldAt_step {xs : List E2} {r : E2} {k : Nat} (hk : k < xs.length) : (foldAt xs r k).set k (btw r (cfE xs (2 * k)) (cfE xs (2 * k + 1))) = foldAt xs r (k + 1) := by
  apply List.ext_getElem?
  intro i
  rw [List.getElem?_set]
  unfold foldAt
  rw [tabE_length]
  by_cases hi : i < xs.length
  · rw [tabE_get _ hi, tabE_get _ hi]
    by_cases e : k = i
    · subst e
      rw [if_pos rfl, if_pos hk, if_pos (by omega)]
      rfl
    · rw [if_neg e]
      by_cases h : i < k
      · rw [if_pos h, if_pos (by omega)]
      · rw [if_neg h, if_neg (by omega)]
  · rw [if_neg (by omega), List.getElem?_eq_none (by rw [tabE_length]; omega), List.getElem?_eq_none (by rw [tabE_length]; omega)]
theorem foldAt_end (xs : List E2) (r : E2) : (foldAt xs r (xs.length / 2)).take (xs.length / 2) = bndE xs r := by
  apply List.ext_getElem?
  intro i
  rw [List.getElem?_take]
  unfold bndE foldAt
  by_cases hi : i < xs.length / 2
  · rw [if_pos hi, tabE_get _ (by omega), tabE_get _ hi, if_pos hi]
  · rw [if_neg hi, List.getElem?_eq_none (by rw [tabE_length]; omega)]

set_option maxHeartbeats 2000000 in
theorem fold_any (r : E2) (B g n c : Nat) (xs : List E2) (w : World) (hT : Tab w g xs) (hR : Two w B 27 (.int .u64 (vF r.A)) (.int .u64 (vF r.B))) (hg : B ≠ g) (hn : n = xs.length) (hn1 : n ≤ 65536) (hc : n ≤ c) (ht : c ≤ 9223372036854775807) :
    Calls Try.prog 64 #[.slice (some ⟨g, 0, none⟩) n c, .func (.func 94) #[] #[.pointer (some ⟨B, 0, none⟩)]] w fun e w' => e = .returned (.slice (some ⟨g, 0, none⟩) ((n / 2 : Nat)) c) ∧ Tab w' g (bndE xs r) ∧ w.grownBy w' (some g) := by
  have HT0 := Lib.hid hT
  have HR0 := Lib.hid hR
  have HG := Lib.hid hg
  have HN := Lib.hid hn
  clear hT hR hg hn
  go_enter Try.func64, Try.ntmps64
  go_wp2_with fail
  go_loopw [14] (fun s wr => ∃ k : Nat, k ≤ n / 2 ∧ s = .int .i64 k ∧ Tab wr g (foldAt xs r k) ∧ w.grownBy wr (some g)) (fun s _ => n / 2 - (intOf s).toNat)
  case atStart => exact ⟨0, Nat.zero_le _, rfl, by rw [foldAt_zero]; exact HT0.out, grown_of_below (Below.refl _ _)⟩
  case round =>
    obtain ⟨k, hk, rfl, hT, hG⟩ := hrel
    have HT := Lib.hid hT
    have HK := Lib.hid hG
    clear hT hG
    by_cases hlt : k < n / 2
    · have hrw := HR0.out.other HK.out HG.out
      have hx := HT.out.at_ (foldAt_get (r := r) (k := k) (i := 2 * k) (by have := HN.out; omega) (by omega))
      have hy := HT.out.at_ (foldAt_get (r := r) (k := k) (i := 2 * k + 1) (by have := HN.out; omega) (by omega))
      generalize hxe : cfE xs (2 * k) = x at hx
      generalize hye : cfE xs (2 * k + 1) = y at hy
      have EX := Lib.hid hxe
      have EY := Lib.hid hye
      clear hxe hye
      have lx0 := Later.cell hx.1
      have lx1 := Later.cell hx.2
      have ly0 := Later.cell hy.1
      have ly1 := Later.cell hy.2
      have HRW := Lib.hid hrw
      clear hx hy hrw
      have i0 : (0 : Int) ≤ (k : Int) := by omega
      have i1 : 2 * (k : Int) < (n : Int) := by omega
      have i2 : 2 * (k : Int) + 1 < (n : Int) := by omega
      have i3 : (k : Int) < ((n / 2 : Nat) : Int) := by omega
      have i4 : (2 * (k : Int)).toNat = 2 * k := by omega
      have i5 : (2 * (k : Int) + 1).toNat = 2 * k + 1 := by omega
      go_wp2_with fail
      refine wp_later_tail 16 (by kernel_rfl) (by kernel_rfl) ?_
      simp only [List.take_succ_cons, List.take_zero, List.drop_succ_cons, List.drop_zero]
      repeat (go_big_quiet_step ((go_at_call 94; with_reducible exact Calls.later (between1_any r x y B _ (Later.two HRW.out _)))))
      refine wpQuiet_nil ?_
      intro X
      clear lx0 lx1 ly0 ly1
      have HTX := Lib.hid (HT.out.keep X.below)
      have HKX := Lib.hid (grown_then HK.out (grown_of_below (row := some g) X.below))
      have hz := HTX.out.at_ (foldAt_get (r := r) (k := k) (i := k) (by have := HN.out; omega) (Nat.le_refl _))
      have c0 := hz.1
      have c1 := hz.2
      have f0 := HTX.out.free (k * 2)
      have f1 := HTX.out.free (k * 2 + 1)
      clear hz
      go_wp2_with fail
      go_roundw
      case rel => exact ⟨k + 1, by omega, by go_num, by have := HTX.out.set k (btw r x y); rw [← EX.out, ← EY.out, foldAt_step (by have := HN.out; omega)] at this; rw [← EX.out, ← EY.out]; exact this, grown_two HKX.out _ _ _ _⟩
      case measure => simp [intOf]; omega
    · have hkn : k = n / 2 := by omega
      subst hkn
      go_wp2_with fail
      go_ret
      exact ⟨rfl, by have := HT.out.take (n / 2); rw [HN.out, foldAt_end] at this; exact this, HK.out⟩

set_option maxHeartbeats 1000000 in
theorem clone_any (A : Option Addr) (n c : Nat) (xs : List E2) (w : World) (h : Sl w A n c xs) (hn : n ≤ 65536) (h0 : 0 < n) :
    Calls Try.prog 63 #[.slice A n c] w fun e w' => ∃ g c', e = .returned (.slice (some ⟨g, 0, none⟩) n c') ∧ Tab w' g xs ∧ w.heap.size ≤ g ∧ n ≤ c' ∧ c' ≤ 9223372036854775807 ∧ Below w.heap.size w w' := by
  obtain ⟨x, hx⟩ := h.get h0
  obtain ⟨ad, rfl, _, _⟩ := h.at_ hx
  have HS := Lib.hid h
  clear h hx
  go_enter Try.func63, Try.ntmps63
  go_wp2_with (at_builtin; refine wpList_appendSl rfl (.const (.slice none 0 0)) (.tmp 3) rfl (w.heap.size) _ 0 [] rfl (World.ownsRow_nil w _ _ _) ad n c xs rfl HS.out (by omega) (Nat.le_refl _) ?_; intro v1 w1 hown1 hg1; have HO := Lib.hid hown1; have HB := Lib.hid (below_grown (w0 := w) (Below.refl _ _) hg1 (World.ownsRow_nil w w.heap.size 27 2) (Nat.le_refl _)); clear hown1 hg1)
  rw [Nat.zero_add] at HO
  obtain ⟨g, c', rfl, hg, hc, ht, hT⟩ := HO.out.tab h0
  go_ret
  exact ⟨g, c', rfl, hT, hg, hc, ht, HB.out⟩
end

section
open Go.RowKit Gold

set_option maxHeartbeats 2000000 in
theorem mleBind_any (A : Option Addr) (n c : Nat) (xs : List E2) (r : E2) (w : World) (h : Sl w A n c xs) (hn : n ≤ 65536) (h0 : 0 < n) :
    Calls Try.prog 51 #[.slice A n c, .agg #[.int .u64 (vF r.A), .int .u64 (vF r.B)]] w fun e w' => ∃ g c', e = .returned (.slice (some ⟨g, 0, none⟩) ((n / 2 : Nat)) c') ∧ Tab w' g (bndE xs r) ∧ w.heap.size ≤ g ∧ n / 2 ≤ c' ∧ c' ≤ 9223372036854775807 ∧ Below w.heap.size w w' := by
  have HS := Lib.hid h
  have HL := Lib.hid h.len
  clear h
  go_enter Try.func51, Try.ntmps51
  go_wp2_with fail
  refine wp_named1 (fun V hbV g0 hzV => ?_)
  have HY := Lib.hid (show Two V w.heap.size 27 (.int .u64 (vF r.A)) (.int .u64 (vF r.B)) from g0)
  have HSV := Lib.hid (HS.out.keep hbV)
  have HBV := Lib.hid hbV
  clear g0 hbV HS
  have l0 := LaterB.cell (B := w.heap.size + 1) HY.out.c0 (Nat.lt_succ_self _)
  have l1 := LaterB.cell (B := w.heap.size + 1) HY.out.c1 (Nat.lt_succ_self _)
  refine wp_heldB (w.heap.size + 1) (by kernel_rfl) (lexOK_of (by kernel_rfl) (by kernel_rfl)) (chainOK_of (by kernel_rfl)) (fun W hbW hSW => ?_)
  have HYW := Lib.hid (HY.out.keep hbW)
  have HSl := Lib.hid (HSV.out.keep hbW)
  have HBW := Lib.hid (below_step HBV.out hbW)
  have HSW := Lib.hid hSW
  clear hbW hSW
  refine wpHeld_seg 1 HSW.out (by kernel_rfl) ?_
  simp only [List.take_succ_cons, List.take_zero, List.drop_succ_cons, List.drop_zero]
  repeat (go_big_quiet_step (fail))
  refine wpQuiet_nil ?_
  refine wpHeld_call 63 Try.func63 (by kernel_rfl) (by kernel_rfl) _ _ #[.slice A n c] rfl (by kernel_rfl) (by kernel_rfl) ?_
  refine (clone_any A n c xs _ HSl.out hn h0).mono ?_
  rintro e W1 ⟨g, c', rfl, hT, hg, hc, ht, hb⟩
  have HT1 := Lib.hid hT
  have HY1 := Lib.hid (HYW.out.keep hb)
  have HB1 := Lib.hid (below_step HBW.out hb)
  have hz0 : w.heap.size + 1 ≤ W.heap.size := HYW.out.lt
  have hz1 : w.heap.size + 1 ≤ W1.heap.size := HY1.out.lt
  have hgb : w.heap.size + 1 ≤ g := Nat.le_trans hz0 hg
  have HS1 := Lib.hid (LaterB.step HSW.out (hb.mono hz0))
  clear hb hT hg
  refine ⟨_, rfl, HS1.out, ?_⟩
  simp only [Act.put, List.setIfInBounds_toArray, List.set_cons_zero, List.set_cons_succ]
  refine wpHeld_seg 1 HS1.out (by kernel_rfl) ?_
  simp only [List.take_succ_cons, List.take_zero, List.drop_succ_cons, List.drop_zero]
  repeat (go_big_quiet_step (fail))
  refine wpQuiet_nil ?_
  clear l0 l1
  refine wpHeld_call 65 Try.func65 (by kernel_rfl) (by kernel_rfl) _ _ #[.agg #[.int .u64 (vF r.A), .int .u64 (vF r.B)]] rfl (by kernel_rfl) (by kernel_rfl) ?_
  refine (between_any r _).mono ?_
  rintro e W2 ⟨rfl, rfl⟩
  have hb2 : Below W1.heap.size W1 (W1.alloc (.cells #[.int .u64 (vF r.A), .int .u64 (vF r.B)] 27)) := (Below.refl _ _).alloc (Nat.le_refl _) _
  have HT2 := Lib.hid (HT1.out.keep hb2)
  have HR2 := Lib.hid (Two.new W1 27 (.int .u64 (vF r.A)) (.int .u64 (vF r.B)))
  have HB2 := Lib.hid (below_step HB1.out hb2)
  have HS2 := Lib.hid (LaterB.step HS1.out (hb2.mono hz1))
  have hne : W1.heap.size ≠ g := Nat.ne_of_gt HT1.out.lt
  have hz2 : w.heap.size + 1 ≤ (W1.alloc (.cells #[.int .u64 (vF r.A), .int .u64 (vF r.B)] 27)).heap.size := Nat.le_trans hz1 hb2.size
  clear hb2
  refine ⟨_, rfl, HS2.out, ?_⟩
  simp only [Act.put, List.setIfInBounds_toArray, List.set_cons_zero, List.set_cons_succ]
  generalize W1.alloc (.cells #[.int .u64 (vF r.A), .int .u64 (vF r.B)] 27) = W2 at *
  refine wpHeld_call 64 Try.func64 (by kernel_rfl) (by kernel_rfl) _ _ #[.slice (some ⟨g, 0, none⟩) n c', .func (.func 94) #[] #[.pointer (some ⟨W1.heap.size, 0, none⟩)]] rfl (by kernel_rfl) (by kernel_rfl) ?_
  refine (fold_any r W1.heap.size g n c' xs W2 HT2.out HR2.out hne HL.out hn hc ht).mono ?_
  rintro e W3 ⟨rfl, hT3, hg3⟩
  have HT3 := Lib.hid hT3
  have HB3 := Lib.hid (below_of_grown HB2.out hg3 (by omega) (by omega))
  have HS3 := Lib.hid (LaterB.step HS2.out (Below.grown (Below.refl (w.heap.size + 1) _) hg3 hz2 (fun q hq => by cases hq; exact hgb)))
  clear hT3 hg3
  refine ⟨_, rfl, HS3.out, ?_⟩
  simp only [Act.put, List.setIfInBounds_toArray, List.set_cons_zero, List.set_cons_succ]
  refine wpHeld_seg 1 HS3.out (by kernel_rfl) ?_
  simp only [List.take_succ_cons, List.take_zero, List.drop_succ_cons, List.drop_zero]
  repeat (go_big_quiet_step (fail))
  refine wpQuiet_nil (wpHeld_nil ?_)
  go_wp2_with fail
  go_ret
  exact ⟨g, c', rfl, HT3.out, by omega, by omega, ht, HB3.out⟩

set_option maxHeartbeats 4000000 in
theorem mleEval_any (A : Option Addr) (n c : Nat) (xs : List E2) (B : Option Addr) (m d : Nat) (ps : List E2) (w : World) (h : Sl w A n c xs) (h' : Sl w B m d ps) (hn : n = 2 ^ m) (hm : m ≤ 16) :
    Calls Try.prog 16 #[.slice A n c, .slice B m d] w fun e w' => e = .returned (.agg #[.int .u64 (vF (mleE xs ps).A), .int .u64 (vF (mleE xs ps).B)]) ∧ Below w.heap.size w w' := by
  have hmd := h'.cap
  have hdt := h'.top
  have HS := Lib.hid h
  have HP := Lib.hid h'
  have h0 : 0 < n := by rw [hn]; exact Nat.two_pow_pos m
  have hn1 : n ≤ 65536 := by rw [hn]; exact Nat.pow_le_pow_right (n := 2) (by omega) hm
  have HN := Lib.hid hn
  clear h h' hn
  go_enter Try.func16, Try.ntmps16
  go_wp2_with fail
  refine calls_named1 (fun V hbV g0 hzV => ?_)
  have HZ := Lib.hid (show Two V w.heap.size 27 (.int .u64 0) (.int .u64 0) from g0)
  have HSV := Lib.hid (HS.out.keep hbV)
  have HBV := Lib.hid hbV
  clear g0 hbV HS
  refine (clone_any A n c xs _ HSV.out hn1 h0).mono ?_
  rintro e W1 ⟨g, c', rfl, hT, hg, hc, ht, hb⟩
  have HT1 := Lib.hid hT
  have HZ1 := Lib.hid (HZ.out.keep hb)
  have HB1 := Lib.hid (below_step HBV.out hb)
  have hgb : w.heap.size + 1 ≤ g := Nat.le_trans hzV hg
  have hl1 : xs.length = n := HSV.out.len.symm
  have hlp : ps.length = m := HP.out.len.symm
  have HLX := Lib.hid hl1
  have HLP := Lib.hid hlp
  clear hb hT hg HZ HBV HSV hl1 hlp
  go_wp2_with fail
  go_loopw [5, 12] (fun v s wr => ∃ (k N : Nat) (ys : List E2), k ≤ m ∧ s = .int .i64 k ∧ v = .slice (some ⟨g, 0, none⟩) N c' ∧ 0 < N ∧ N ≤ n ∧ N = 2 ^ (m - k) ∧ ys.length = N ∧ mleE ys (ps.drop k) = mleE xs ps ∧ Tab wr g ys ∧ Two wr w.heap.size 27 (.int .u64 0) (.int .u64 0) ∧ Below w.heap.size w wr) (fun _ s _ => m - (intOf s).toNat)
  case atStart => exact ⟨0, n, xs, Nat.zero_le _, rfl, rfl, h0, Nat.le_refl _, by rw [HN.out]; rfl, HLX.out, rfl, HT1.out, HZ1.out, HB1.out⟩
  case round =>
    clear HT1 HZ1 HB1
    obtain ⟨k, N, ys, hk, rfl, rfl, hN0, hNn, hN, hly, hv, hT, hz, hb⟩ := hrel
    have HT := Lib.hid hT
    have HZ := Lib.hid hz
    have HB := Lib.hid hb
    have HN2 := Lib.hid hN
    have HLY := Lib.hid hly
    have HV := Lib.hid hv
    clear hT hz hb hN hly hv
    by_cases hlt : k < m
    · obtain ⟨r, hr⟩ := HP.out.get hlt
      obtain ⟨ad, rfl, p0, p1⟩ := (HP.out.keep HB.out).at_ hr
      have HRr := Lib.hid hr
      clear hr
      go_wp2_with fail
      clear p0 p1
      refine calls_named1 (fun V2 hbV2 g2 hzV2 => ?_)
      have HT2 := Lib.hid (HT.out.keep hbV2)
      have HZ2 := Lib.hid (HZ.out.keep hbV2)
      have HB2 := Lib.hid (below_step HB.out hbV2)
      clear hbV2 g2 HT HZ HB
      refine (between_any r _).mono ?_
      rintro e W2 ⟨rfl, rfl⟩
      have hb2 : Below V2.heap.size V2 (V2.alloc (.cells #[.int .u64 (vF r.A), .int .u64 (vF r.B)] 27)) := (Below.refl _ _).alloc (Nat.le_refl _) _
      have HT3 := Lib.hid (HT2.out.keep hb2)
      have HZ3 := Lib.hid (HZ2.out.keep hb2)
      have HB3 := Lib.hid (below_step HB2.out hb2)
      have HR3 := Lib.hid (Two.new V2 27 (.int .u64 (vF r.A)) (.int .u64 (vF r.B)))
      have hne : V2.heap.size ≠ g := Nat.ne_of_gt HT2.out.lt
      clear hb2
      go_wp2_with fail
      refine (fold_any r V2.heap.size g N c' ys _ HT3.out HR3.out hne HLY.out.symm (by omega) (by omega) ht).mono ?_
      rintro e W4 ⟨rfl, hT4, hg4⟩
      have hne2 : w.heap.size ≠ g := by omega
      have HT4 := Lib.hid hT4
      have HZ4 := Lib.hid (HZ3.out.other hg4 hne2)
      have HB4 := Lib.hid (below_of_grown HB3.out hg4 (by omega) HB3.out.size)
      clear hT4 hg4
      go_wp2_with fail
      have hN3 : N / 2 = 2 ^ (m - (k + 1)) := by
        have := HN2.out
        rw [show m - k = m - (k + 1) + 1 by omega, Nat.pow_succ] at this
        omega
      have hdr : ps.drop k = r :: ps.drop (k + 1) := by
        obtain ⟨hl, he⟩ := List.getElem?_eq_some_iff.1 HRr.out
        rw [List.drop_eq_getElem_cons hl, he]
      have hmle : mleE (bndE ys r) (ps.drop (k + 1)) = mleE xs ps := by
        rw [mleE_cons (by rw [HLY.out, HN2.out, List.length_drop, HLP.out, show m - k = m - (k + 1) + 1 by omega]), ← hdr]
        exact HV.out
      have HN3 := Lib.hid hN3
      have HM3 := Lib.hid hmle
      clear hN3 hmle hdr
      go_roundw
      case rel => exact ⟨k + 1, N / 2, bndE ys r, by omega, by go_num, rfl, by rw [HN3.out]; exact Nat.two_pow_pos _, by omega, HN3.out, by rw [bndE_length, HLY.out], HM3.out, HT4.out, HZ4.out, HB4.out⟩
      case measure => simp [intOf]; omega
    · have hkm : k = m := by omega
      subst hkm
      have hN1 : N = 1 := by rw [HN2.out, Nat.sub_self]
      subst hN1
      obtain ⟨y, hy⟩ : ∃ y, ys[0]? = some y := ⟨ys[0]'(by have := HLY.out; omega), List.getElem?_eq_getElem _⟩
      have hval : mleE xs ps = y := by
        rw [← HV.out, List.drop_eq_nil_of_le (by have := HLP.out; omega), mleE_nil, cfE_some hy]
      have HVL := Lib.hid hval
      have t0 := (HT.out.at_ hy).1
      have t1 := (HT.out.at_ hy).2
      have z0 := HZ.out.c0
      have z1 := HZ.out.c1
      have e0 := HZ.out.f0
      have e1 := HZ.out.f1
      clear hval hy
      go_wp2_with fail
      exact bodyPost_ret (v := .agg #[.int .u64 (vF y.A), .int .u64 (vF y.B)]) (by simp [results, Try.results16, go_sem, z0, z1]) rfl ⟨by rw [HVL.out], (HB.out.setCell (Nat.le_refl _) _).setCell (Nat.le_refl _) _⟩
end

end Go.Proofs.Ytipbfonlcmegdaa

/- Contracts of package mle: variables, allValid, Valid, Lift, vertex; no conditions but lengths. -/
namespace Go.Proofs.Ytipbfonlcmegdaa
set_option maxRecDepth 8000
open Go.RowKit Gold

theorem int_pow_eq {n k : Nat} (h : n = 2 ^ k) : ((n : Int) == 2 ^ k) = true := by rw [beq_iff_eq, h, Int.natCast_pow]; rfl
theorem int_pow_ne {n k : Nat} (h : n ≠ 2 ^ k) : ((n : Int) == 2 ^ k) = false := by
  rw [beq_eq_false_iff_ne]
  intro e
  apply h
  have e2 : ((2 ^ k : Nat) : Int) = (2 : Int) ^ k := by rw [Int.natCast_pow]; rfl
  rw [← e2] at e
  exact Int.ofNat.inj e
theorem int_wpow_eq {n k : Nat} (hk : k ≤ 62) (h : n = 2 ^ k) : ((n : Int) == wrap64 (2 ^ k)) = true := by rw [wrap_pow2 hk, beq_iff_eq, h]
theorem int_wpow_ne {n k : Nat} (hk : k ≤ 62) (h : n ≠ 2 ^ k) : ((n : Int) == wrap64 (2 ^ k)) = false := by
  rw [wrap_pow2 hk, beq_eq_false_iff_ne]
  exact fun e => h (Int.ofNat.inj e)
set_option maxHeartbeats 1000000 in
theorem variables_yes (n K : Nat) (w : World) (hn : n = 2 ^ K) (hK : K ≤ 16) : Calls Try.prog 83 #[.int .i64 (n : Int)] w fun e w' => e = .returned (.tuple #[.int .i64 (K : Int), .bool true]) ∧ w' = w := by
  have HN := Lib.hid hn
  clear hn
  go_enter Try.func83, Try.ntmps83
  go_wp2_with fail
  go_loopw [5] (fun s wr => ∃ k : Nat, k ≤ K ∧ s = .int .i64 k ∧ wr = w) (fun s _ => 17 - (intOf s).toNat)
  case atStart => exact ⟨0, Nat.zero_le _, rfl, rfl⟩
  case round =>
    obtain ⟨k, hk, rfl, rfl⟩ := hrel
    have k17 : (k : Int) < 17 := by omega
    by_cases e : k = K
    · subst e
      have he := int_wpow_eq (by omega) HN.out
      go_wp2_with fail
      go_ret2
      exact ⟨rfl, rfl⟩
    · have he := int_wpow_ne (n := n) (k := k) (by omega) (fun h => e (pow2_inj (h.symm.trans HN.out)))
      go_wp2_with fail
      go_roundw
      case rel => exact ⟨k + 1, by omega, by go_num, trivial⟩
      case measure => simp [intOf]; omega
set_option maxHeartbeats 1000000 in
theorem variables_no (n : Nat) (w : World) (hn : ∀ K : Nat, K ≤ 16 → n ≠ 2 ^ K) : Calls Try.prog 83 #[.int .i64 (n : Int)] w fun e w' => e = .returned (.tuple #[.int .i64 0, .bool false]) ∧ w' = w := by
  have HN := Lib.hid hn
  clear hn
  go_enter Try.func83, Try.ntmps83
  go_wp2_with fail
  go_loopw [5] (fun s wr => ∃ k : Nat, k ≤ 17 ∧ s = .int .i64 k ∧ wr = w) (fun s _ => 17 - (intOf s).toNat)
  case atStart => exact ⟨0, Nat.zero_le _, rfl, rfl⟩
  case round =>
    obtain ⟨k, hk, rfl, rfl⟩ := hrel
    by_cases e : k < 17
    · have k17 : (k : Int) < 17 := by omega
      have he := int_wpow_ne (n := n) (k := k) (by omega) (HN.out k (by omega))
      go_wp2_with fail
      go_roundw
      case rel => exact ⟨k + 1, by omega, by go_num, trivial⟩
      case measure => simp [intOf]; omega
    · have hk17 : k = 17 := by omega
      subst hk17
      go_wp2_with fail
      go_ret2
      exact ⟨rfl, rfl⟩

/-- a slice value that reads as pairs of words -/
def SlW (w : World) (A : Option Addr) (n c : Nat) (qs : List (Int × Int)) : Prop := SlR w A n c (qs.map fun q => (.int .u64 q.1, .int .u64 q.2))
theorem SlW.len {w : World} {A : Option Addr} {n c : Nat} {qs : List (Int × Int)} (h : SlW w A n c qs) : n = qs.length := by simpa using SlR.len h
theorem SlW.keep {w w' : World} {A : Option Addr} {n c : Nat} {qs : List (Int × Int)} (h : SlW w A n c qs) (hb : Below w.heap.size w w') : SlW w' A n c qs := SlR.keep h hb
theorem SlW.get {w : World} {A : Option Addr} {n c i : Nat} {qs : List (Int × Int)} (h : SlW w A n c qs) (hi : i < n) : ∃ q, qs[i]? = some q := ⟨qs[i]'(by have := h.len; omega), List.getElem?_eq_getElem _⟩
theorem SlW.at_ {w : World} {A : Option Addr} {n c i : Nat} {qs : List (Int × Int)} {q : Int × Int} (h : SlW w A n c qs) (hq : qs[i]? = some q) : ∃ ad, A = some ad ∧ w.cell? (ad.add (i * 2)) = some (.int .u64 q.1) ∧ w.cell? ⟨(ad.add (i * 2)).block, (ad.add (i * 2)).off + 1, none⟩ = some (.int .u64 q.2) := by
  obtain ⟨ad, e, h1, h2⟩ := SlR.cells h i (.int .u64 q.1, .int .u64 q.2) (by simp [hq])
  exact ⟨ad, e, h1, h2⟩
theorem SlW.of {w : World} {A : Option Addr} {n c : Nat} {xs : List E2} (h : Sl w A n c xs) : SlW w A n c (xs.map fun x => (vF x.A, vF x.B)) := by
  unfold SlW
  rw [List.map_map]
  exact h
/-- are all pairs elements? -/
def allV (qs : List (Int × Int)) : Bool := qs.all fun q => evalid q.1 q.2
theorem allV_E2 (xs : List E2) : allV (xs.map fun x => (vF x.A, vF x.B)) = true := by
  unfold allV
  rw [List.all_eq_true]
  intro q hq
  rw [List.mem_map] at hq
  obtain ⟨x, _, rfl⟩ := hq
  exact evalid_E2 x
theorem allV_no {qs : List (Int × Int)} {i : Nat} {q : Int × Int} (h : qs[i]? = some q) (hv : evalid q.1 q.2 = false) : allV qs = false := by
  unfold allV
  rw [← Bool.not_eq_true, List.all_eq_true]
  intro hall
  rw [hall q (List.mem_of_getElem? h)] at hv
  cases hv

set_option maxHeartbeats 1000000 in
theorem allValid_any (A : Option Addr) (n c : Nat) (qs : List (Int × Int)) (w : World) (h : SlW w A n c qs) (hn : n ≤ 65536) :
    Calls Try.prog 84 #[.slice A n c] w fun e w' => e = .returned (.bool (allV qs)) ∧ Below w.heap.size w w' := by
  have HS := Lib.hid h
  have HL := Lib.hid h.len
  clear h
  go_enter Try.func84, Try.ntmps84
  go_wp2_with fail
  go_loopw [7] (fun s wr => ∃ k : Nat, k ≤ n ∧ s = .int .i64 k ∧ (∀ i q, i < k → qs[i]? = some q → evalid q.1 q.2 = true) ∧ Below w.heap.size w wr) (fun s _ => n - (intOf s).toNat)
  case atStart => exact ⟨0, Nat.zero_le _, rfl, fun i q hi => absurd hi (Nat.not_lt_zero _), Below.refl _ _⟩
  case round =>
    obtain ⟨k, hk, rfl, hall, hb⟩ := hrel
    have HA := Lib.hid hall
    have HB := Lib.hid hb
    clear hall hb
    by_cases hlt : k < n
    · obtain ⟨q, hq⟩ := HS.out.get hlt
      obtain ⟨ad, rfl, h0, h1⟩ := HS.out.at_ hq
      have k0 := cell_keep h0 HB.out
      have k1 := cell_keep h1 HB.out
      have HQ := Lib.hid hq
      clear hq h0 h1
      have hk1 : (k : Int) < (n : Int) := by omega
      go_wp2_with fail
      clear k0 k1
      refine calls_named1 (fun V hbV g0 hzV => ?_)
      have HBV := Lib.hid (below_step HB.out hbV)
      clear hbV g0
      refine (extValid_any q.1 q.2 _).mono ?_
      rintro e W1 ⟨rfl, hb⟩
      have HB1 := Lib.hid (below_step HBV.out hb)
      clear hb
      cases hv : evalid q.1 q.2 with
      | true =>
        have HV := Lib.hid hv
        clear hv
        go_wp2_with fail
        go_roundw
        case rel => exact ⟨k + 1, by omega, by go_num, fun i r hi hr => by
          by_cases e : i = k
          · subst e
            rw [HQ.out] at hr
            injection hr with hr
            subst hr
            exact HV.out
          · exact HA.out i r (by omega) hr, HB1.out⟩
        case measure => simp [intOf]; omega
      | false =>
        have HV := Lib.hid (allV_no HQ.out hv)
        clear hv
        go_wp2_with fail
        go_ret
        exact ⟨by rw [HV.out]; rfl, HB1.out⟩
    · have hkn : k = n := by omega
      subst hkn
      have HV := Lib.hid (show allV qs = true by
        unfold allV
        rw [List.all_eq_true]
        intro q hq
        obtain ⟨i, hi, he⟩ := List.getElem_of_mem hq
        exact HA.out i q (by rw [HL.out]; exact hi) (by rw [List.getElem?_eq_getElem hi, he]))
      go_wp2_with fail
      go_ret
      exact ⟨by rw [HV.out]; rfl, HB.out⟩

set_option maxHeartbeats 1000000 in
theorem mleValid_no (A : Option Addr) (n c : Nat) (w : World) (hn : ∀ K : Nat, K ≤ 16 → n ≠ 2 ^ K) :
    Calls Try.prog 49 #[.slice A n c] w fun e w' => e = .returned (.tuple #[.int .i64 0, .bool false]) ∧ Below w.heap.size w w' := by
  have HN := Lib.hid hn
  clear hn
  go_enter Try.func49, Try.ntmps49
  go_wp2_with fail
  refine (variables_no n w HN.out).mono ?_
  rintro e W1 ⟨rfl, rfl⟩
  go_wp2_with fail
  go_ret2
  exact ⟨rfl, Below.refl _ _⟩
set_option maxHeartbeats 1000000 in
theorem mleValid_yes (A : Option Addr) (n c K : Nat) (qs : List (Int × Int)) (w : World) (h : SlW w A n c qs) (hn : n = 2 ^ K) (hK : K ≤ 16) (hv : allV qs = true) :
    Calls Try.prog 49 #[.slice A n c] w fun e w' => e = .returned (.tuple #[.int .i64 (K : Int), .bool true]) ∧ Below w.heap.size w w' := by
  have HN := Lib.hid hn
  have HS := Lib.hid h
  have HV := Lib.hid hv
  clear hn h hv
  go_enter Try.func49, Try.ntmps49
  go_wp2_with fail
  refine (variables_yes n K w HN.out hK).mono ?_
  rintro e W1 ⟨rfl, rfl⟩
  go_wp2_with fail
  have hc := allValid_any A n c qs W1 HS.out (by rw [HN.out]; exact Nat.pow_le_pow_right (n := 2) (by omega) hK)
  rw [HV.out] at hc
  refine hc.mono ?_
  rintro e W2 ⟨rfl, hb⟩
  have HB := Lib.hid hb
  clear hb hc
  go_wp2_with fail
  go_ret2
  exact ⟨rfl, HB.out⟩
set_option maxHeartbeats 1000000 in
theorem mleValid_bad (A : Option Addr) (n c K : Nat) (qs : List (Int × Int)) (w : World) (h : SlW w A n c qs) (hn : n = 2 ^ K) (hK : K ≤ 16) (hv : allV qs = false) :
    Calls Try.prog 49 #[.slice A n c] w fun e w' => e = .returned (.tuple #[.int .i64 0, .bool false]) ∧ Below w.heap.size w w' := by
  have HN := Lib.hid hn
  have HS := Lib.hid h
  have HV := Lib.hid hv
  clear hn h hv
  go_enter Try.func49, Try.ntmps49
  go_wp2_with fail
  refine (variables_yes n K w HN.out hK).mono ?_
  rintro e W1 ⟨rfl, rfl⟩
  go_wp2_with fail
  have hc := allValid_any A n c qs W1 HS.out (by rw [HN.out]; exact Nat.pow_le_pow_right (n := 2) (by omega) hK)
  rw [HV.out] at hc
  refine hc.mono ?_
  rintro e W2 ⟨rfl, hb⟩
  have HB := Lib.hid hb
  clear hb hc
  go_wp2_with fail
  go_ret2
  exact ⟨rfl, HB.out⟩

set_option maxHeartbeats 1000000 in
theorem mleLift_any (A : Option Addr) (n c : Nat) (xs : List F) (w : World) (h : Sf w A n c xs) (hn : n ≤ 65536) :
    Calls Try.prog 57 #[.slice A n c] w fun e w' => ∃ g, e = .returned (.slice (some ⟨g, 0, none⟩) n n) ∧ Row w' g (xs.map E2.ofF) ∧ Below w.heap.size w w' := by
  have hmk := run_makeE n hn
  generalize hr0 : List.replicate n E2.zero = r0 at hmk
  have HR0 := Lib.hid hr0
  clear hr0
  have HS := Lib.hid h
  have HL := Lib.hid h.len
  clear h
  go_enter Try.func57, Try.ntmps57
  go_wp2_with fail
  clear hmk
  go_loopw [11] (fun s wr => ∃ k : Nat, k ≤ n ∧ s = .int .i64 k ∧ Row wr w.heap.size (tabE k (fun i => E2.ofF (cfF xs i)) ++ List.replicate (n - k) E2.zero) ∧ Below w.heap.size w wr) (fun s _ => n - (intOf s).toNat)
  case atStart => exact ⟨0, Nat.zero_le _, rfl, by rw [tab_start, HR0.out]; exact heap_new _ _, (Below.refl _ _).alloc (Nat.le_refl _) _⟩
  case round =>
    obtain ⟨k, hk, rfl, hr, hb⟩ := hrel
    have HR := Lib.hid hr
    have HB := Lib.hid hb
    clear hr hb
    by_cases hlt : k < n
    · obtain ⟨x, hx⟩ := HS.out.get hlt
      obtain ⟨ad, rfl, h0⟩ := HS.out.at_ hx
      have k0 := cell_keep h0 HB.out
      have HX := Lib.hid hx
      clear hx h0
      have hk1 : (k : Int) < (n : Int) := by omega
      have hk0 : (0 : Int) ≤ (k : Int) := by omega
      go_wp2_with fail
      refine (extFromBase_any x _).mono ?_
      rintro e W1 ⟨rfl, hb⟩
      have HR1 := Lib.hid (HR.out.keep hb)
      have HB1 := Lib.hid (below_step HB.out hb)
      clear hb k0
      have hz := HR1.out.at_ (tab_at (fun i => E2.ofF (cfF xs i)) hlt)
      have c0 := hz.1
      have c1 := hz.2
      have f0 := HR1.out.free (k * 2)
      have f1 := HR1.out.free (k * 2 + 1)
      clear hz
      go_wp2_with fail
      go_roundw
      case rel => exact ⟨k + 1, by omega, by go_num, by have := HR1.out.set k (E2.ofF x); rw [← cfF_some HX.out] at this ⊢; rw [← tab_step (n := n) (fun i => E2.ofF (cfF xs i)) hlt]; exact this, (HB1.out.setCell (Nat.le_refl _) _).setCell (Nat.le_refl _) _⟩
      case measure => simp [intOf]; omega
    · have hkn : k = n := by omega
      subst hkn
      go_wp2_with fail
      go_ret
      refine ⟨_, rfl, ?_, HB.out⟩
      have e : xs.map E2.ofF = tabE k (fun i => E2.ofF (cfF xs i)) := by
        rw [HL.out]
        apply List.ext_getElem?
        intro i
        by_cases hi : i < xs.length
        · rw [tabE_get _ hi, List.getElem?_map, List.getElem?_eq_getElem hi, cfF_some (List.getElem?_eq_getElem hi)]
          rfl
        · rw [List.getElem?_eq_none (by simpa using hi), List.getElem?_eq_none (by rw [tabE_length]; omega)]
      rw [e, ← tab_end k]
      exact HR.out

end Go.Proofs.Ytipbfonlcmegdaa

/- Contracts of package mle and of its reference: vertices; no conditions but lengths. -/
namespace Go.Proofs.Ytipbfonlcmegdaa
set_option maxRecDepth 8000
open Go.RowKit Gold

theorem shr_and (i k : Nat) (hi : i < 9223372036854775808) : bits .and .i64 ((i : Int) / 2 ^ k) 1 = ((i / 2 ^ k % 2 : Nat) : Int) := by
  have e : ((i : Int) / 2 ^ k) = ((i / 2 ^ k : Nat) : Int) := by rw [Int.natCast_ediv, Int.natCast_pow]; rfl
  have hl : i / 2 ^ k ≤ i := Nat.div_le_self _ _
  have h := bits_and_i64_nat (i / 2 ^ k) 1 (by omega) (by omega)
  rw [e, ← Nat.and_one_is_mod]
  exact h
theorem extFromBit (i k : Nat) (w : World) (hi : i ≤ 4611686018427387904) : Calls Try.prog 108 #[.int .i64 (bits .and .i64 ((i : Int) / 2 ^ k) 1)] w fun e w' => e = .returned (.agg #[.int .u64 (vF (bitE (i / 2 ^ k)).A), .int .u64 (vF (bitE (i / 2 ^ k)).B)]) ∧ Below w.heap.size w w' := by
  rw [shr_and i k (by omega)]
  exact extFromInt_any _ w (by omega) (by omega)
theorem rFromBit (i k : Nat) (w : World) (hi : i ≤ 4611686018427387904) : Calls Try.prog 47 #[.int .i64 (bits .and .i64 ((i : Int) / 2 ^ k) 1)] w fun e w' => e = .returned (.agg #[.int .u64 (vF (bitE (i / 2 ^ k)).A), .int .u64 (vF (bitE (i / 2 ^ k)).B)]) ∧ Below w.heap.size w w' := by
  rw [shr_and i k (by omega)]
  exact rFromInt_any _ w (by omega) (by omega)
set_option maxHeartbeats 1000000 in
theorem vertex_any (i n : Nat) (w : World) (hi : i ≤ 4611686018427387904) (hn : n ≤ 62) :
    Calls Try.prog 87 #[.int .i64 (i : Int), .int .i64 (n : Int)] w fun e w' => ∃ g, e = .returned (.slice (some ⟨g, 0, none⟩) n n) ∧ Row w' g (vtx i n) ∧ Below w.heap.size w w' := by
  have hmk := run_makeE n (by omega)
  generalize hr0 : List.replicate n E2.zero = r0 at hmk
  have HR0 := Lib.hid hr0
  clear hr0
  go_enter Try.func87, Try.ntmps87
  go_wp2_with fail
  clear hmk
  go_loopw [11] (fun s wr => ∃ k : Nat, k ≤ n ∧ s = .int .i64 k ∧ Row wr w.heap.size (tabE k (fun k => bitE (i / 2 ^ k)) ++ List.replicate (n - k) E2.zero) ∧ Below w.heap.size w wr) (fun s _ => n - (intOf s).toNat)
  case atStart => exact ⟨0, Nat.zero_le _, rfl, by rw [tab_start, HR0.out]; exact heap_new _ _, (Below.refl _ _).alloc (Nat.le_refl _) _⟩
  case round =>
    obtain ⟨k, hk, rfl, hr, hb⟩ := hrel
    have HR := Lib.hid hr
    have HB := Lib.hid hb
    clear hr hb
    by_cases hlt : k < n
    · have hk1 : (k : Int) < (n : Int) := by omega
      have hk0 : (0 : Int) ≤ (k : Int) := by omega
      go_wp2_with fail
      have hfb := extFromBit i k wr hi
      with_reducible refine hfb.mono ?_
      rintro e W1 ⟨rfl, hb⟩
      have HR1 := Lib.hid (HR.out.keep hb)
      have HB1 := Lib.hid (below_step HB.out hb)
      clear hb
      have hz := HR1.out.at_ (tab_at (fun k => bitE (i / 2 ^ k)) hlt)
      have c0 := hz.1
      have c1 := hz.2
      have f0 := HR1.out.free (k * 2)
      have f1 := HR1.out.free (k * 2 + 1)
      clear hz
      go_wp2_with fail
      go_roundw
      case rel => exact ⟨k + 1, by omega, by go_num, by have := HR1.out.set k (bitE (i / 2 ^ k)); rw [← tab_step (n := n) (fun k => bitE (i / 2 ^ k)) hlt]; exact this, (HB1.out.setCell (Nat.le_refl _) _).setCell (Nat.le_refl _) _⟩
      case measure => simp [intOf]; omega
    · have hkn : k = n := by omega
      subst hkn
      go_wp2_with fail
      go_ret
      exact ⟨_, rfl, by unfold vtx; rw [← tab_end k]; exact HR.out, HB.out⟩

set_option maxHeartbeats 1000000 in
theorem rVertex_any (i n : Nat) (w : World) (hi : i ≤ 4611686018427387904) (hn : n ≤ 62) :
    Calls Try.prog 102 #[.int .i64 (i : Int), .int .i64 (n : Int)] w fun e w' => ∃ A c, e = .returned (.slice A n c) ∧ Sl w' A n c (vtx i n) ∧ Below w.heap.size w w' := by
  go_enter Try.func102, Try.ntmps102
  go_wp2_with fail
  go_loopw [5, 6] (fun v s wr => ∃ k : Nat, k ≤ n ∧ s = .int .i64 k ∧ OwE wr w.heap.size v k (tabE k fun k => bitE (i / 2 ^ k)) ∧ Below w.heap.size w wr) (fun _ s _ => n - (intOf s).toNat)
  case atStart => exact ⟨0, Nat.zero_le _, rfl, OwE.made w w.heap.size (Nat.le_refl _), (Below.refl _ _).alloc (Nat.le_refl _) _⟩
  case round =>
    obtain ⟨k, hk, rfl, ho, hb⟩ := hrel
    have HO := Lib.hid ho
    have HB := Lib.hid hb
    clear ho hb
    by_cases hlt : k < n
    · have hk1 : (k : Int) < (n : Int) := by omega
      have hk0 : (0 : Int) ≤ (k : Int) := by omega
      go_wp2_with fail
      have hfb := rFromBit i k wr hi
      with_reducible refine hfb.mono ?_
      rintro e W1 ⟨rfl, hb⟩
      have HO1 := Lib.hid (HO.out.keep hb)
      have HB1 := Lib.hid (below_step HB.out hb)
      clear hb
      go_wp2_with (at_builtin; refine wpList_appendE rfl (.tmp 13) (.tmp 19) rfl (w.heap.size) _ k _ rfl (HO1.out.keep ((Below.refl _ _).alloc (Nat.le_refl _) _)) W1.heap.size 1 (bitE (i / 2 ^ k)) rfl (Two.new W1 _ _ _) (by omega) (by have := HB1.out.size; simp; omega) ?_; intro v1 w1 hown1 hg1; have HO2 := Lib.hid hown1; have HB2 := Lib.hid (below_grown (w0 := w) (HB1.out.alloc HB1.out.size _) hg1 (HO1.out.keep ((Below.refl _ _).alloc (Nat.le_refl _) _)) (Nat.le_refl _)); clear hown1 hg1)
      go_roundw
      case rel => exact ⟨k + 1, by omega, by go_num, by rw [tabE_succ]; exact HO2.out, HB2.out⟩
      case measure => simp [intOf]; omega
    · have hkn : k = n := by omega
      subst hkn
      obtain ⟨A1, c1, rfl, hs1⟩ := HO.out.sl
      have HSQ := Lib.hid hs1
      clear hs1
      go_wp2_with fail
      go_ret
      exact ⟨A1, c1, rfl, HSQ.out, HB.out⟩

end Go.Proofs.Ytipbfonlcmegdaa

/- Contracts of package mle: the iterator over the coordinates of two points; no conditions but that its functions only add to memory. -/
namespace Go.Proofs.Ytipbfonlcmegdaa
set_option maxRecDepth 8000
open Go.RowKit Gold
open Go.Shelf
attribute [local go_sem] Oper.semAt_some

theorem zip_take_succ {α β γ : Type} {f : α → β → γ} {xs : List α} {ys : List β} {k : Nat} {x : α} {y : β} (hx : xs[k]? = some x) (hy : ys[k]? = some y) : List.zipWith f (xs.take (k + 1)) (ys.take (k + 1)) = List.zipWith f (xs.take k) (ys.take k) ++ [f x y] := by
  obtain ⟨h1, e1⟩ := List.getElem?_eq_some_iff.1 hx
  obtain ⟨h2, e2⟩ := List.getElem?_eq_some_iff.1 hy
  rw [List.take_succ_eq_append_getElem h1, List.take_succ_eq_append_getElem h2, List.zipWith_append (by simp; omega), e1, e2]
  rfl
/-- what the iterator reads: its boxes, in a world that has only added to w0 -/
def Boxes (w0 : World) (b1 b2 b3 : Nat) (u1 u2 u3 : Value) (X : World → Prop) (W : World) : Prop :=
  Below w0.heap.size w0 W ∧ One W b1 22 u1 ∧ One W b2 22 u2 ∧ One W b3 33 u3 ∧ X W
theorem Boxes.later {w0 W W' : World} {b1 b2 b3 : Nat} {u1 u2 u3 : Value} {X : World → Prop} (hX : ∀ W W', X W → Below W.heap.size W W' → X W') (h : Boxes w0 b1 b2 b3 u1 u2 u3 X W) (hb : Below W.heap.size W W') : Boxes w0 b1 b2 b3 u1 u2 u3 X W' :=
  ⟨below_step h.1 hb, h.2.1.keep hb, h.2.2.1.keep hb, h.2.2.2.1.keep hb, hX _ _ h.2.2.2.2 hb⟩
theorem boxes_put {w0 : World} {b1 b2 b3 : Nat} {u1 u2 u3 : Value} {X : World → Prop} {w : World} (hw : w0.heap.size ≤ w.heap.size) (hX : ∀ W W' (row : Option Nat), X W → W.grownBy W' row → (∀ r, row = some r → ∃ o : Obj, W.heap[r]? = some o ∧ o.isCells = false) → X W') (W : World) (l : Nat) (o o' : Obj) (hl : w.heap.size ≤ l) (h : W.heap[l]? = some o) (hc : o.isCells = false) (hk : o.isWalk = false) :
    Boxes w0 b1 b2 b3 u1 u2 u3 X W → Boxes w0 b1 b2 b3 u1 u2 u3 X (W.putObj l o') := by
  rintro ⟨hB, h1, h2, h3, hx⟩
  have hr : ∀ r, some l = some r → ∃ o : Obj, W.heap[r]? = some o ∧ o.isCells = false := fun r e => by cases e; exact ⟨o, h, hc⟩
  have key : ∀ {b : Nat} {t : TypeId} {u : Value}, One W b t u → One (W.putObj l o') b t u := fun {b t u} hb => (grownBy_keeps_cells (grownBy_putObj' W l o') hr hb rfl).trans hb
  exact ⟨hB.trans (belowK_b hw W l o o' hl h hc hk), key h1, key h2, key h3, hX _ _ _ hx (grownBy_putObj' W l o') hr⟩

set_option maxRecDepth 100000 in
set_option maxHeartbeats 4000000 in
theorem combine_agr (w0 : World) (A : Option Addr) (n c : Nat) (xs : List E2) (B : Option Addr) (m d : Nat) (ys : List E2) (hp : Sl w0 A n c xs) (hq : Sl w0 B m d ys) (hnm : n = m) (b1 b2 b3 : Nat) (w : World)
    (hG : Boxes w0 b1 b2 b3 (.slice A n c) (.slice B m d) (.func (.func 89) #[] #[]) (fun _ => True) w) :
    SeqStopsK Fence.wide 2 Try.prog 109 #[.pointer (some ⟨b1, 0, none⟩), .pointer (some ⟨b2, 0, none⟩), .pointer (some ⟨b3, 0, none⟩)] (fun x : E2 => #[.agg #[.int .u64 (vF x.A), .int .u64 (vF x.B)]])
      (fun W W' => Boxes w0 b1 b2 b3 (.slice A n c) (.slice B m d) (.func (.func 89) #[] #[]) (fun _ => True) W → Boxes w0 b1 b2 b3 (.slice A n c) (.slice B m d) (.func (.func 89) #[] #[]) (fun _ => True) W')
      (fun l => l = List.zipWith (agr) xs ys) (fun _ => True) n w := fun l J Jx W hW hJA _ hY h0 => by
  have HG := Lib.hid (hG.later (fun _ _ _ _ => trivial) hW)
  have hcap := hp.cap
  have htop := hp.top
  have HP := Lib.hid hp
  have HQ := Lib.hid hq
  have HJ := Lib.hid h0
  have HJA := Lib.hid hJA
  clear hG hp hq h0 hW hJA
  have c1 := HG.out.2.1.c
  have c2 := HG.out.2.2.1.c
  refine callsIn_of_wp Try.func109 rfl trivial ?_ rfl
  simp only [Try.ntmps109, List.size_toArray, List.length_cons, List.length_nil, Nat.reduceAdd, Nat.reduceSub, Array.replicate_succ, Array.replicate_zero, List.push_toArray, List.append_toArray, List.nil_append, List.cons_append]
  subst hnm
  gi_wp2
  clear c1 c2
  gi_loopw [11] (fun s wr => ∃ k : Nat, k ≤ n ∧ s = .int .i64 k ∧ J (List.zipWith (agr) (xs.take k) (ys.take k)) wr ∧ Boxes w0 b1 b2 b3 (.slice A n c) (.slice B n d) (.func (.func 89) #[] #[]) (fun _ => True) wr) (fun s _ => n - (intOf s).toNat)
  case atStart => exact ⟨0, Nat.zero_le _, rfl, HJ.out, HG.out⟩
  case round =>
    clear HG HJ
    obtain ⟨k, hk, rfl, hJ, hG⟩ := hrel
    have HJ := Lib.hid hJ
    have HG := Lib.hid hG
    clear hJ hG
    by_cases hlt : k < n
    · obtain ⟨x, hx⟩ := HP.out.get hlt
      obtain ⟨ad, rfl, p0, p1⟩ := (HP.out.keep HG.out.1).at_ hx
      obtain ⟨y, hy⟩ := HQ.out.get hlt
      obtain ⟨ad2, rfl, q0, q1⟩ := (HQ.out.keep HG.out.1).at_ hy
      have HX := Lib.hid hx
      have HYv := Lib.hid hy
      have l1 := Later.cell HG.out.2.1.c
      have l2 := Later.cell HG.out.2.2.1.c
      have l3 := Later.cell HG.out.2.2.2.1.c
      have l4 := Later.cell p0
      have l5 := Later.cell p1
      have l6 := Later.cell q0
      have l7 := Later.cell q1
      clear hx hy p0 p1 q0 q1
      have hk0 : (0 : Int) ≤ (k : Int) := by omega
      have hk1 : (k : Int) < (n : Int) := by omega
      gi_wp2
      refine wpIn_later_tail 11 rfl (by kernel_rfl) (by kernel_rfl) ?_
      simp only [List.take_succ_cons, List.take_zero, List.drop_succ_cons, List.drop_zero]
      repeat (gi_big_quiet_step (fail))
      refine BigFrame.wpQuietIn_want (fun _ _ _ _ => trivial) rfl (fun K hK => ?_)
      gi_big_quiet_op
      apply Exists.intro
      refine ⟨fun _ => ?_, ?_⟩
      · gi_at_call 89
        with_reducible exact CallsIn.later (callsIn_wide.2 (agreement_any x y _))
      apply hK
      refine wpQuietIn_nil ?_
      intro X
      clear l1 l2 l3 l4 l5 l6 l7
      have hJX := HJA.out (List.zipWith (agr) (xs.take k) (ys.take k)) wr X.at none HJ.out (grown_of_below X.below) (fun r e => by cases e)
      have HGX := Lib.hid (HG.out.later (fun _ _ _ _ => trivial) X.below)
      obtain ⟨fn, tmps, assign, body, hy, hR⟩ := hY (List.zipWith (agr) (xs.take k) (ys.take k)) (agr x y) X.at hJX (by simp; omega)
      gi_wp2
      refine hR.mono ?_
      rintro e W3 (⟨rfl, hJ3, hk3⟩ | ⟨rfl, hJx3⟩)
      · have HG3 := Lib.hid (hk3 HGX.out)
        clear hk3
        gi_wp2
        go_roundw
        case rel => exact ⟨k + 1, by omega, by go_num, by rw [zip_take_succ HX.out HYv.out]; exact hJ3, HG3.out⟩
        case measure => simp [intOf]; omega
      · gi_wp2
        refine bodyPost_ret (results_none rfl _ _ _) rfl ?_
        exact ⟨⟨_, rfl⟩, .inr ⟨_, trivial, hJx3⟩⟩
    · have hkn : k = n := by omega
      subst hkn
      gi_wp2
      go_end0
      exact ⟨⟨_, rfl⟩, .inl ⟨_, rfl, by have h := HJ.out; rw [List.take_of_length_le (by have := HP.out.len; omega), List.take_of_length_le (by have := HQ.out.len; omega)] at h; exact h⟩⟩

set_option maxRecDepth 100000 in
set_option maxHeartbeats 4000000 in
theorem combine_btw (w0 : World) (A : Option Addr) (n c : Nat) (xs : List E2) (B : Option Addr) (m d : Nat) (ys : List E2) (hp : Sl w0 A n c xs) (hq : Sl w0 B m d ys) (hnm : n = m) (b1 b2 b3 : Nat) (b4 : Nat) (r : E2) (w : World)
    (hG : Boxes w0 b1 b2 b3 (.slice A n c) (.slice B m d) (.func (.func 94) #[] #[.pointer (some ⟨b4, 0, none⟩)]) (fun W => Two W b4 27 (.int .u64 (vF r.A)) (.int .u64 (vF r.B))) w) :
    SeqStopsK Fence.wide 2 Try.prog 109 #[.pointer (some ⟨b1, 0, none⟩), .pointer (some ⟨b2, 0, none⟩), .pointer (some ⟨b3, 0, none⟩)] (fun x : E2 => #[.agg #[.int .u64 (vF x.A), .int .u64 (vF x.B)]])
      (fun W W' => Boxes w0 b1 b2 b3 (.slice A n c) (.slice B m d) (.func (.func 94) #[] #[.pointer (some ⟨b4, 0, none⟩)]) (fun W => Two W b4 27 (.int .u64 (vF r.A)) (.int .u64 (vF r.B))) W → Boxes w0 b1 b2 b3 (.slice A n c) (.slice B m d) (.func (.func 94) #[] #[.pointer (some ⟨b4, 0, none⟩)]) (fun W => Two W b4 27 (.int .u64 (vF r.A)) (.int .u64 (vF r.B))) W')
      (fun l => l = List.zipWith (btw r) xs ys) (fun _ => True) n w := fun l J Jx W hW hJA _ hY h0 => by
  have HG := Lib.hid (hG.later (fun _ _ h hb => Two.keep h hb) hW)
  have hcap := hp.cap
  have htop := hp.top
  have HP := Lib.hid hp
  have HQ := Lib.hid hq
  have HJ := Lib.hid h0
  have HJA := Lib.hid hJA
  clear hG hp hq h0 hW hJA
  have c1 := HG.out.2.1.c
  have c2 := HG.out.2.2.1.c
  refine callsIn_of_wp Try.func109 rfl trivial ?_ rfl
  simp only [Try.ntmps109, List.size_toArray, List.length_cons, List.length_nil, Nat.reduceAdd, Nat.reduceSub, Array.replicate_succ, Array.replicate_zero, List.push_toArray, List.append_toArray, List.nil_append, List.cons_append]
  subst hnm
  gi_wp2
  clear c1 c2
  gi_loopw [11] (fun s wr => ∃ k : Nat, k ≤ n ∧ s = .int .i64 k ∧ J (List.zipWith (btw r) (xs.take k) (ys.take k)) wr ∧ Boxes w0 b1 b2 b3 (.slice A n c) (.slice B n d) (.func (.func 94) #[] #[.pointer (some ⟨b4, 0, none⟩)]) (fun W => Two W b4 27 (.int .u64 (vF r.A)) (.int .u64 (vF r.B))) wr) (fun s _ => n - (intOf s).toNat)
  case atStart => exact ⟨0, Nat.zero_le _, rfl, HJ.out, HG.out⟩
  case round =>
    clear HG HJ
    obtain ⟨k, hk, rfl, hJ, hG⟩ := hrel
    have HJ := Lib.hid hJ
    have HG := Lib.hid hG
    clear hJ hG
    by_cases hlt : k < n
    · obtain ⟨x, hx⟩ := HP.out.get hlt
      obtain ⟨ad, rfl, p0, p1⟩ := (HP.out.keep HG.out.1).at_ hx
      obtain ⟨y, hy⟩ := HQ.out.get hlt
      obtain ⟨ad2, rfl, q0, q1⟩ := (HQ.out.keep HG.out.1).at_ hy
      have HX := Lib.hid hx
      have HYv := Lib.hid hy
      have l1 := Later.cell HG.out.2.1.c
      have l2 := Later.cell HG.out.2.2.1.c
      have l3 := Later.cell HG.out.2.2.2.1.c
      have l4 := Later.cell p0
      have l5 := Later.cell p1
      have l6 := Later.cell q0
      have l7 := Later.cell q1
      clear hx hy p0 p1 q0 q1
      have HXX := Lib.hid (show Two wr b4 27 (.int .u64 (vF r.A)) (.int .u64 (vF r.B)) from HG.out.2.2.2.2)
      have hk0 : (0 : Int) ≤ (k : Int) := by omega
      have hk1 : (k : Int) < (n : Int) := by omega
      gi_wp2
      refine wpIn_later_tail 11 rfl (by kernel_rfl) (by kernel_rfl) ?_
      simp only [List.take_succ_cons, List.take_zero, List.drop_succ_cons, List.drop_zero]
      repeat (gi_big_quiet_step (fail))
      refine BigFrame.wpQuietIn_want (fun _ _ _ _ => trivial) rfl (fun K hK => ?_)
      gi_big_quiet_op
      apply Exists.intro
      refine ⟨fun _ => ?_, ?_⟩
      · gi_at_call 94
        with_reducible exact CallsIn.later (callsIn_wide.2 (between1_any r x y b4 _ (Later.two HXX.out _)))
      apply hK
      refine wpQuietIn_nil ?_
      intro X
      clear l1 l2 l3 l4 l5 l6 l7
      have hJX := HJA.out (List.zipWith (btw r) (xs.take k) (ys.take k)) wr X.at none HJ.out (grown_of_below X.below) (fun r e => by cases e)
      have HGX := Lib.hid (HG.out.later (fun _ _ h hb => Two.keep h hb) X.below)
      obtain ⟨fn, tmps, assign, body, hy, hR⟩ := hY (List.zipWith (btw r) (xs.take k) (ys.take k)) (btw r x y) X.at hJX (by simp; omega)
      gi_wp2
      refine hR.mono ?_
      rintro e W3 (⟨rfl, hJ3, hk3⟩ | ⟨rfl, hJx3⟩)
      · have HG3 := Lib.hid (hk3 HGX.out)
        clear hk3
        gi_wp2
        go_roundw
        case rel => exact ⟨k + 1, by omega, by go_num, by rw [zip_take_succ HX.out HYv.out]; exact hJ3, HG3.out⟩
        case measure => simp [intOf]; omega
      · gi_wp2
        refine bodyPost_ret (results_none rfl _ _ _) rfl ?_
        exact ⟨⟨_, rfl⟩, .inr ⟨_, trivial, hJx3⟩⟩
    · have hkn : k = n := by omega
      subst hkn
      gi_wp2
      go_end0
      exact ⟨⟨_, rfl⟩, .inl ⟨_, rfl, by have h := HJ.out; rw [List.take_of_length_le (by have := HP.out.len; omega), List.take_of_length_le (by have := HQ.out.len; omega)] at h; exact h⟩⟩

end Go.Proofs.Ytipbfonlcmegdaa

/- Contracts of package mle: the equality polynomial; no conditions but lengths. Contracts of package mle: points of lines; no conditions but lengths. Contracts of package mle: the weights of indices, streaming; no conditions but lengths. -/
namespace Go.Proofs.Ytipbfonlcmegdaa
set_option maxRecDepth 8000
section
open Go.RowKit Gold
open Go.Shelf
attribute [local go_sem] Oper.semAt_some

set_option maxHeartbeats 400000 in
theorem combine_any (A : Option Addr) (n c : Nat) (B : Option Addr) (m d : Nat) (f : FuncId) (cap : Array Value) (w : World) :
    Calls Try.prog 88 #[.slice A n c, .slice B m d, .func (.func f) #[] cap] w fun e w' => e = .returned (.func (.func 109) #[] #[.pointer (some ⟨w.heap.size, 0, none⟩), .pointer (some ⟨w.heap.size + 1, 0, none⟩), .pointer (some ⟨w.heap.size + 1 + 1, 0, none⟩)])
      ∧ w' = ((w.alloc (.cells #[.slice A n c] 22)).alloc (.cells #[.slice B m d] 22)).alloc (.cells #[.func (.func f) #[] cap] 33) := by
  go_enter Try.func88, Try.ntmps88
  go_wp2
  go_ret
  exact ⟨rfl, rfl⟩
theorem one_at {W : World} {b : Nat} {t : TypeId} {u : Value} (e : b = W.heap.size) : One (W.alloc (.cells #[u] t)) b t u := e ▸ One.new W t u
theorem keepsOthers_of {W W1 : World} (hb : Below W.heap.size W W1) : KeepsOthers W W1 := ⟨hb.size, fun _ _ hk _ => heap_keep hk hb⟩
theorem own_two {β : Type} (b : Nat) (t : TypeId) (f g : β → Value) : Own (fun s W => Two W b t (f s) (g s)) := fun _ _ _ _ hs hg hr => (grownBy_keeps_cells hg hr hs rfl).trans hs
theorem own_one {β : Type} (b : Nat) (t : TypeId) (f : β → Value) : Own (fun s W => One W b t (f s)) := fun _ _ _ _ hs hg hr => (grownBy_keeps_cells hg hr hs rfl).trans hs
theorem own_both {β : Type} {I J : β → World → Prop} (h : Own I) (k : Own J) : Own (fun s W => I s W ∧ J s W) := fun s X Y row hs hg hr => ⟨h s X Y row hs.1 hg hr, k s X Y row hs.2 hg hr⟩
theorem wpIn_named {F : Fence} {m : Nat} {P : Program} {c : Code} {Q : Exit → Act → World → Prop} {a : Act} {w : World} (K : World → Prop) (hK : K w) (h : ∀ W, K W → c.wpIn F m P Q a W) : c.wpIn F m P Q a w := h w hK

/-- what the cells of Eq hold when the factors pre have come -/
def EqI (w : World) (b5 : Nat) (pre : List E2) (W : World) : Prop :=
  (Two W w.heap.size 27 (.int .u64 0) (.int .u64 0) ∧ Two W b5 27 (.int .u64 (vF (pre.foldl (· * ·) E2.one).A)) (.int .u64 (vF (pre.foldl (· * ·) E2.one).B))) ∧ Below w.heap.size w W
theorem EqI.own (w : World) (b5 B : Nat) (hB : w.heap.size ≤ B) : OwnFrom B (EqI w b5) :=
  OwnFrom.and (Own.from (own_both (own_two _ _ (fun _ => .int .u64 0) (fun _ => .int .u64 0)) (own_two _ _ _ _)) _) (ownFrom_below (Nat.le_refl _) hB)

set_option maxRecDepth 100000 in
set_option maxHeartbeats 4000000 in
theorem mleEq_any (A : Option Addr) (n c : Nat) (xs : List E2) (B : Option Addr) (m d : Nat) (ys : List E2) (w : World) (h : Sl w A n c xs) (h' : Sl w B m d ys) (hnm : n = m) :
    Calls Try.prog 54 #[.slice A n c, .slice B m d] w fun e w' => e = .returned (.agg #[.int .u64 (vF (eqE xs ys).A), .int .u64 (vF (eqE xs ys).B)]) ∧ Below w.heap.size w w' := by
  subst hnm
  have HX := Lib.hid h
  have HY := Lib.hid h'
  clear h h'
  refine (callsIn_wide (n := 3)).1 ?_
  refine callsIn_of_wp_marks Try.func54 rfl trivial ?_ rfl
  simp only [Try.ntmps54, List.size_toArray, List.length_cons, List.length_nil, Nat.reduceAdd, Nat.reduceSub, Array.replicate_succ, Array.replicate_zero, List.push_toArray, List.append_toArray, List.nil_append, List.cons_append]
  gi_wp2_with (first
    | (refine ⟨trivial, ?_⟩; gi_at_call 85; refine (callsIn_wide.2 (mleOne_any _)).mono ?_; rintro e W1 ⟨rfl, hb1⟩; have HB1 := Lib.hid (below_step ((Below.refl _ w).alloc (Nat.le_refl _) _) hb1); have HZ1 := Lib.hid ((Two.new w 27 (.int .u64 0) (.int .u64 0)).keep hb1); clear hb1)
    | (refine ⟨trivial, ?_⟩; gi_at_call 88; refine (callsIn_wide.2 (combine_any _ _ _ _ _ _ _ _ _)).mono ?_; rintro e W2 ⟨rfl, rfl⟩))
  have hz1 : w.heap.size + 1 ≤ W1.heap.size := HZ1.out.lt
  refine wpIn_named (fun W => EqI w W1.heap.size [] W ∧ Boxes w (W1.heap.size + 1) (W1.heap.size + 1 + 1) (W1.heap.size + 1 + 1 + 1) (.slice A n c) (.slice B n d) (.func (.func 89) #[] #[]) (fun _ => True) W ∧ W1.heap.size + 1 + 1 + 1 < W.heap.size)
    ⟨⟨⟨(((HZ1.out.alloc _).alloc _).alloc _).alloc _, (((Two.new W1 _ _ _).alloc _).alloc _).alloc _⟩, (((HB1.out.alloc (by omega) _).alloc (by simp; omega) _).alloc (by simp; omega) _).alloc (by simp; omega) _⟩,
      ⟨(((HB1.out.alloc (by omega) _).alloc (by simp; omega) _).alloc (by simp; omega) _).alloc (by simp; omega) _, ((one_at (by simp)).alloc _).alloc _, (one_at (by simp)).alloc _, one_at (by simp), trivial⟩, by simp⟩ ?_
  rintro W ⟨hI, hG, hsz⟩
  have HI := Lib.hid hI
  have HG := Lib.hid hG
  clear hI hG HZ1 HB1
  generalize hb5 : W1.heap.size = b5 at *
  clear hb5
  have hwW : w.heap.size ≤ W.heap.size := by omega
  refine wpIn_rangeFunc_ownH rfl (by omega) (gf := 109) (lb := #[.pointer (some ⟨b5 + 1, 0, none⟩), .pointer (some ⟨b5 + 1 + 1, 0, none⟩), .pointer (some ⟨b5 + 1 + 1 + 1, 0, none⟩)]) rfl trivial (enters_of Try.func109 (by kernel_rfl) rfl)
    (combine_agr w A n c xs B n d ys HX.out HY.out rfl (b5 + 1) (b5 + 1 + 1) (b5 + 1 + 1 + 1) W HG.out) (fun h k g => k (h g)) (boxes_put (w := W) hwW (fun _ _ _ _ _ _ => trivial)) (Below.refl _ _) (fun _ => rfl)
    (EqI w b5) (fun _ _ _ => False) (EqI.own w b5 _ hwW) (fun _ _ _ _ _ hs _ _ => hs) HI.out
    (fun x a' W' => ∃ b6, a' = { tmps := #[.slice A n c, .slice B n d, undef, undef, .pointer (some ⟨w.heap.size, 0, none⟩), .pointer (some ⟨b5, 0, none⟩), .pointer (some ⟨b6, 0, none⟩), .agg #[.int .u64 (vF E2.one.A), .int .u64 (vF E2.one.B)], .slice A n c, .slice B n d, .func (.func 109) #[] #[.pointer (some ⟨b5 + 1, 0, none⟩), .pointer (some ⟨b5 + 1 + 1, 0, none⟩), .pointer (some ⟨b5 + 1 + 1 + 1, 0, none⟩)], .agg #[.int .u64 (vF x.A), .int .u64 (vF x.B)], undef, undef, undef, undef], defers := [] } ∧ Two W' b6 27 (.int .u64 (vF x.A)) (.int .u64 (vF x.B))) ?_ ?assign ?body ?done ?stop
  case assign =>
    intro l pre x V K hI hK
    gi_wp2
    exact hK _ _ ((KeepsOthers.alloc V _).from _) (fun h => h.later (fun _ _ _ _ => trivial) ((Below.refl _ _).alloc (Nat.le_refl _) _)) ⟨⟨hI.1.1.alloc _, hI.1.2.alloc _⟩, hI.2.alloc hI.2.size _⟩ ⟨V.heap.size, rfl, Two.new V _ _ _⟩
  case body =>
    clear HI HG
    rintro l pre x a' Wb hl hr ⟨⟨h0, h5⟩, hB⟩ ⟨b6, rfl, h6⟩ hlen
    have c50 := h5.c0
    have c51 := h5.c1
    have f50 := h5.f0
    have f51 := h5.f1
    have c60 := h6.c0
    have c61 := h6.c1
    have H0 := Lib.hid h0
    have H5 := Lib.hid h5
    have HB := Lib.hid hB
    clear h0 h5 h6 hB hl hr hlen
    generalize hq : pre.foldl (· * ·) E2.one = q at *
    have HQ := Lib.hid hq
    clear hq
    gi_wp2_with (refine ⟨trivial, ?_⟩; gi_at_call 15; ((with_reducible refine (CallsIn.inRound l (callsIn_wide.2 (extMul_any q x _))).mono ?_)); rintro e W3 ⟨rfl, hb⟩; replace f50 := free_after hb c50 f50; replace f51 := free_after hb c51 f51; replace c50 := cell_after hb c50; replace c51 := cell_after hb c51; have H03 := Lib.hid (H0.out.keep hb); have H53 := Lib.hid (H5.out.keep hb); have HB3 := Lib.hid (below_step HB.out hb); have HK3 := Lib.hid (keepsOthers_of hb); have HG3 := Lib.hid (fun (g : Boxes w (b5 + 1) (b5 + 1 + 1) (b5 + 1 + 1 + 1) (.slice A n c) (.slice B n d) (.func (.func 89) #[] #[]) (fun _ => True) Wb) => g.later (fun _ _ _ _ => trivial) hb); clear hb)
    refine ⟨(HK3.out.trans ((KeepsOthers.setCell _ _ _).trans (KeepsOthers.setCell _ _ _))).from _, fun g => ?_, ⟨(H03.out.far _ (by simp; omega)).far _ (by simp; omega), ?_⟩, (HB3.out.setCell (by simp; omega) _).setCell (by simp; omega) _⟩
    · have g3 := HG3.out g
      exact ⟨(g3.1.setCell (by simp; omega) _).setCell (by simp; omega) _, (g3.2.1.far _ (by simp)).far _ (by simp), (g3.2.2.1.far _ (by simp; omega)).far _ (by simp; omega), (g3.2.2.2.1.far _ (by simp; omega)).far _ (by simp; omega), trivial⟩
    · rw [List.foldl_append, HQ.out]
      exact (H53.out.set0 _).set1 _
  case done =>
    rintro D zs W2 hD hzs ⟨⟨h0, h5⟩, hB2⟩ hK
    rw [hzs] at h5
    replace h5 : Two W2 b5 27 (.int .u64 (vF (eqE xs ys).A)) (.int .u64 (vF (eqE xs ys).B)) := h5
    generalize hqe : eqE xs ys = q at *
    have HQ := Lib.hid hqe
    clear hqe
    have c50 := h5.c0
    have c51 := h5.c1
    have c00 := h0.c0
    have c01 := h0.c1
    have f00 := h0.f0
    have f01 := h0.f1
    have H0 := Lib.hid h0
    have HK := Lib.hid hK
    have HB := Lib.hid hB2
    have HD := Lib.hid hD
    clear HI HG h0 h5 hK hB2 hD hzs HX HY
    gi_wp2
    have k1 := (KeepsOthers.setCell W2 ⟨w.heap.size, 0, none⟩ (.int .u64 (vF q.A))).same D _ HK.out rfl
    have k2 := (KeepsOthers.setCell _ ⟨w.heap.size, 1, none⟩ (.int .u64 (vF q.B))).same D _ k1 rfl
    have T1 := (H0.out.set0 (.int .u64 (vF q.A))).set1 (.int .u64 (vF q.B))
    have T2 := (grownBy_keeps_cells (grownBy_putObj' _ D (.deferred none)) (fun r e => by cases e; exact ⟨_, k2, rfl⟩) T1 rfl).trans T1
    have r0 := Two.c0 T2
    have r1 := Two.c1 T2
    refine ⟨by simp, .inl ⟨_, _, rfl, run_takeDeferred k2, ?_⟩⟩
    refine ⟨.agg #[.int .u64 (vF q.A), .int .u64 (vF q.B)], by simp [results, Try.f54, go_sem, r0, r1], by rw [HQ.out], ?_⟩
    exact ((HB.out.setCell (Nat.le_refl _) _).setCell (Nat.le_refl _) _).trans (belowK_b (w := W) hwW _ D _ _ HD.out k2 rfl rfl)
  case stop =>
    rintro D c pre W _ _ h _
    exact h.elim
  · intro x a' s X Y row hs hg hr
    obtain ⟨b6, ha, ht⟩ := hs
    exact ⟨b6, ha, own_two b6 _ (fun _ : Unit => _) (fun _ => _) () X Y row ht hg (fun r e => (hr r e).2)⟩
end

section
open Go.RowKit Gold
open Go.Shelf
attribute [local go_sem] Oper.semAt_some

theorem below_grown0 {w0 w w' : World} (hb : Below w0.heap.size w0 w) (h : w.grownBy w' none) : Below w0.heap.size w0 w' := hb.trans (Below.grown (Below.refl _ w) h hb.size (fun q hq => by cases hq))
theorem two_at {W : World} {b : Nat} {t : TypeId} {u v : Value} (e : b = W.heap.size) : Two (W.alloc (.cells #[u, v] t)) b t u v := e ▸ Two.new W t u v
theorem cells_two {w : World} {g : Nat} {y : E2} {t : TypeId} (hy : Two w g t (.int .u64 (vF y.A)) (.int .u64 (vF y.B))) (j : Nat) (u : Value) (hj : [Value.int .u64 (vF y.A), Value.int .u64 (vF y.B)][j]? = some u) : w.cell? ((⟨g, 0, none⟩ : Addr).add j) = some u := by
  rw [add_base]
  match j, hj with
  | 0, hj => injection hj with hj; subst hj; exact hy.c0
  | 1, hj => injection hj with hj; subst hj; exact hy.c1
  | j + 2, hj => simp at hj
theorem cells_ones {y : E2} (u : Value) (hu : u ∈ [Value.int .u64 (vF y.A), Value.int .u64 (vF y.B)]) : u.oneCell' = true := by
  simp at hu
  rcases hu with rfl | rfl <;> rfl
/-- what the cells of Line hold when the coordinates pre have come -/
def LnI (w : World) (b7 g n : Nat) (pre : List E2) (W : World) : Prop :=
  (∃ v, Boxed W b7 22 v ∧ W.ownsRow (w.heap.size + 1) 27 2 v pre.length (cellsE pre) ∧ v = .slice (some ⟨g, 0, none⟩) pre.length n) ∧ Below w.heap.size w W
theorem LnI.own (w : World) (b7 g n B : Nat) (hB : w.heap.size ≤ B) : OwnFrom B (LnI w b7 g n) :=
  OwnFrom.and (Own.from (holdsRow_own _ _ _ _ _ List.length cellsE (fun s v => v = .slice (some ⟨g, 0, none⟩) s.length n)) _) (ownFrom_below (Nat.le_refl _) hB)

set_option maxRecDepth 100000 in
set_option maxHeartbeats 4000000 in
theorem mleLine_any (A : Option Addr) (n c : Nat) (xs : List E2) (B : Option Addr) (m d : Nat) (ys : List E2) (r : E2) (w : World) (h : Sl w A n c xs) (h' : Sl w B m d ys) (hnm : n = m) (hn : n ≤ 65536) :
    Calls Try.prog 56 #[.slice A n c, .slice B m d, .agg #[.int .u64 (vF r.A), .int .u64 (vF r.B)]] w fun e w' => ∃ A' c', e = .returned (.slice A' n c') ∧ Sl w' A' n c' (lineE xs ys r) ∧ Below w.heap.size w w' := by
  subst hnm
  have HX := Lib.hid h
  have HY := Lib.hid h'
  clear h h'
  obtain ⟨i, hi, hz, hs2, hb⟩ := info_parts ext_info
  refine (callsIn_wide (n := 3)).1 ?_
  refine callsIn_of_wp_marks Try.func56 rfl trivial ?_ rfl
  simp only [Try.ntmps56, List.size_toArray, List.length_cons, List.length_nil, Nat.reduceAdd, Nat.reduceSub, Array.replicate_succ, Array.replicate_zero, List.push_toArray, List.append_toArray, List.nil_append, List.cons_append]
  gi_wp2_with (first
    | (gi_at_make; refine wpListIn_make_own _ rfl (.const (.int .i64 0)) (.tmp 10) 22 rfl (w.heap.size + 1) 27 i (.agg #[.int .u64 0, .int .u64 0]) 2 Try.underlying22 hi hz hs2 .i64 .i64 (n : Int) n rfl rfl rfl (by rw [hb]; omega) (by unfold maxLen; omega) (by simp) ?_; intro V1 hown1 hg1; rw [World.size_alloc] at hown1; have HO1 := Lib.hid hown1; have HB1 := Lib.hid (below_grown0 (w0 := w) ((Below.refl _ _).alloc (Nat.le_refl _) _) hg1); have HR1 := Lib.hid (show Two V1 w.heap.size 27 (.int .u64 (vF r.A)) (.int .u64 (vF r.B)) from (hg1.block _ (by simp) (by simp)).trans (Two.new w 27 (.int .u64 (vF r.A)) (.int .u64 (vF r.B)))); have k0 := cell_alloc HR1.out.c0 (.cells #[.slice (some ⟨w.heap.size + 1, 0, none⟩) 0 n] 22); have k1 := cell_alloc HR1.out.c1 (.cells #[.slice (some ⟨w.heap.size + 1, 0, none⟩) 0 n] 22); clear hown1 hg1)
    | (refine ⟨trivial, ?_⟩; gi_at_call 65; refine (callsIn_wide.2 (between_any _ _)).mono ?_; rintro e W1 ⟨rfl, rfl⟩)
    | (refine ⟨trivial, ?_⟩; gi_at_call 88; refine (callsIn_wide.2 (combine_any _ _ _ _ _ _ _ _ _)).mono ?_; rintro e W2 ⟨rfl, rfl⟩))
  clear k0 k1
  have hgb : w.heap.size + 1 < V1.heap.size := (World.ownsRow.lt HO1.out _ (by simp [Value.ownBlock])).2
  refine wpIn_named (fun W => LnI w V1.heap.size (w.heap.size + 1) n [] W ∧ Boxes w (V1.heap.size + 1 + 1) (V1.heap.size + 1 + 1 + 1) (V1.heap.size + 1 + 1 + 1 + 1) (.slice A n c) (.slice B n d) (.func (.func 94) #[] #[.pointer (some ⟨V1.heap.size + 1, 0, none⟩)]) (fun W => Two W (V1.heap.size + 1) 27 (.int .u64 (vF r.A)) (.int .u64 (vF r.B))) W ∧ V1.heap.size + 1 + 1 + 1 + 1 < W.heap.size)
    ⟨⟨⟨_, ((((Boxed.new V1 22 (.slice (some ⟨w.heap.size + 1, 0, none⟩) 0 n)).alloc _).alloc _).alloc _).alloc _, ownsRow_keep HO1.out ((((((Below.refl _ _).alloc (Nat.le_refl _) _).alloc (by simp) _).alloc (by simp; omega) _).alloc (by simp; omega) _).alloc (by simp; omega) _), by simp⟩, (((((HB1.out.alloc (by omega) _).alloc (by simp; omega) _).alloc (by simp; omega) _).alloc (by simp; omega) _).alloc (by simp; omega) _)⟩,
      ⟨(((((HB1.out.alloc (by omega) _).alloc (by simp; omega) _).alloc (by simp; omega) _).alloc (by simp; omega) _).alloc (by simp; omega) _), ((one_at (by simp)).alloc _).alloc _, (one_at (by simp)).alloc _, one_at (by simp), (((two_at (by simp)).alloc _).alloc _).alloc _⟩, by simp⟩ ?_
  rintro W ⟨hI, hG, hsz⟩
  have HI := Lib.hid hI
  have HG := Lib.hid hG
  clear hI hG HO1 HB1 HR1
  generalize hb7 : V1.heap.size = b7 at *
  clear hb7
  have hwW : w.heap.size ≤ W.heap.size := by omega
  refine wpIn_rangeFunc_ownH rfl (by omega) (gf := 109) (lb := #[.pointer (some ⟨b7 + 1 + 1, 0, none⟩), .pointer (some ⟨b7 + 1 + 1 + 1, 0, none⟩), .pointer (some ⟨b7 + 1 + 1 + 1 + 1, 0, none⟩)]) rfl trivial (enters_of Try.func109 (by kernel_rfl) rfl)
    (combine_btw w A n c xs B n d ys HX.out HY.out rfl (b7 + 1 + 1) (b7 + 1 + 1 + 1) (b7 + 1 + 1 + 1 + 1) (b7 + 1) r W HG.out) (fun h k g => k (h g)) (boxes_put (w := W) hwW (fun X Y row hx hg hr => own_two (b7 + 1) _ (fun _ : Unit => _) (fun _ => _) () X Y row hx hg hr)) (Below.refl _ _) (fun _ => rfl)
    (LnI w b7 (w.heap.size + 1) n) (fun _ _ _ => False) (LnI.own w b7 _ n _ hwW) (fun _ _ _ _ _ hs _ _ => hs) HI.out
    (fun x a' W' => ∃ b8, a' = { tmps := #[.slice A n c, .slice B n d, .agg #[.int .u64 (vF r.A), .int .u64 (vF r.B)], undef, undef, .pointer (some ⟨w.heap.size, 0, none⟩), .slice none 0 0, .pointer (some ⟨b7, 0, none⟩), .pointer (some ⟨b8, 0, none⟩), .slice A n c, .int .i64 (n : Int), .slice (some ⟨w.heap.size + 1, 0, none⟩) 0 n, .slice A n c, .slice B n d, .agg #[.int .u64 (vF r.A), .int .u64 (vF r.B)], .func (.func 94) #[] #[.pointer (some ⟨b7 + 1, 0, none⟩)], .func (.func 109) #[] #[.pointer (some ⟨b7 + 1 + 1, 0, none⟩), .pointer (some ⟨b7 + 1 + 1 + 1, 0, none⟩), .pointer (some ⟨b7 + 1 + 1 + 1 + 1, 0, none⟩)], .agg #[.int .u64 (vF x.A), .int .u64 (vF x.B)], undef, undef, undef, undef, undef], defers := [] } ∧ Two W' b8 27 (.int .u64 (vF x.A)) (.int .u64 (vF x.B))) ?_ ?assign ?body ?done ?stop
  case assign =>
    intro l pre x V K hI hK
    gi_wp2
    obtain ⟨⟨v, h7, hO, hv⟩, hB⟩ := hI
    exact hK _ _ ((KeepsOthers.alloc V _).from _) (fun h => h.later (fun _ _ h hb => h.keep hb) ((Below.refl _ _).alloc (Nat.le_refl _) _)) ⟨⟨v, h7.alloc _, ownsRow_keep hO ((Below.refl _ _).alloc (Nat.le_refl _) _), hv⟩, hB.alloc hB.size _⟩ ⟨V.heap.size, rfl, Two.new V _ _ _⟩
  case body =>
    clear HI HG
    rintro l pre x a' Wb hl hr ⟨⟨v, h7, hO, rfl⟩, hB⟩ ⟨b8, rfl, h8⟩ hlen
    have c7 := Boxed.cell h7
    have c80 := h8.c0
    have c81 := h8.c1
    have H7 := Lib.hid h7
    have HO := Lib.hid hO
    have HB := Lib.hid hB
    have hlt7 := h7.lt
    clear h7 h8 hO hB hl hr
    gi_wp2_with (gi_at_builtin; refine wpListIn_append_fits _ rfl (.tmp 18) (.tmp 20) 22 rfl (w.heap.size + 1) 27 i 2 Try.underlying22 hi hs2 (w.heap.size + 1) pre.length n (cellsE pre) rfl (ownsRow_keep HO.out ((Below.refl _ _).alloc (Nat.le_refl _) _)) ⟨Wb.heap.size, 0, none⟩ 1 1 [.int .u64 (vF x.A), .int .u64 (vF x.B)] rfl rfl (cells_two (Two.new Wb _ _ _)) cells_ones (by omega) ?_; intro W2 hown2 hg2; have HO2 := Lib.hid hown2; have HG2 := Lib.hid hg2; have H72 := Lib.hid ((Boxed.alloc H7.out (.cells #[.int .u64 (vF x.A), .int .u64 (vF x.B)] 27)).kept hg2 (by simp; omega)); have c72 := Boxed.cell H72.out; have f72 := Boxed.frozen H72.out; clear hown2 hg2)
    refine ⟨(((KeepsOthers.alloc Wb _).from _).trans (KeepsFrom.of_grownBy HG2.out (fun j e => by cases e; omega))).trans ((KeepsOthers.setCell _ _ _).from _), fun g => ?_, ⟨⟨_, Boxed.set _ H72.out, ?_, by simp⟩, ?_⟩⟩
    · have g3 := g.later (fun _ _ h hb => h.keep hb) ((Below.refl _ _).alloc (Nat.le_refl _) (.cells #[.int .u64 (vF x.A), .int .u64 (vF x.B)] 27))
      exact ⟨(below_of_grown g3.1 HG2.out (by omega) g3.1.size).setCell (by simp; omega) _, (g3.2.1.other HG2.out (by omega)).far _ (by simp; omega), (g3.2.2.1.other HG2.out (by omega)).far _ (by simp; omega), (g3.2.2.2.1.other HG2.out (by omega)).far _ (by simp; omega), (Two.other g3.2.2.2.2 HG2.out (by omega)).far _ (by simp)⟩
    · rw [List.length_append, cellsE_append]
      exact ownsRow_setCell HO2.out _ (by simp [Value.ownBlock]; omega)
    · exact (below_of_grown (HB.out.alloc HB.out.size _) HG2.out (by omega) (by have := HB.out.size; simp; omega)).setCell (by simp; omega) _
  case done =>
    rintro D zs W2 hD hzs ⟨⟨v, h7, hO, rfl⟩, hB2⟩ hK
    have hzl : zs.length = n := by rw [hzs, List.length_zipWith, ← HX.out.len, ← HY.out.len, Nat.min_self]
    have HZ := Lib.hid (show zs = lineE xs ys r from hzs)
    have c7 := Boxed.cell h7
    have HO := Lib.hid hO
    have HK := Lib.hid hK
    have HB := Lib.hid hB2
    have HD := Lib.hid hD
    clear HI HG h7 hO hK hB2 hD hzs HX HY
    gi_wp2
    refine ⟨by simp, .inl ⟨_, _, rfl, run_takeDeferred HK.out, ?_⟩⟩
    refine ⟨.slice (some ⟨w.heap.size + 1, 0, none⟩) n n, by simp [results, Try.f56, go_sem], ?_⟩
    have hO3 := ownsRow_putObj HO.out (.deferred none) HK.out rfl
    refine ⟨_, n, rfl, ?_, HB.out.trans (belowK_b (w := W) hwW _ D _ _ HD.out HK.out rfl rfl)⟩
    have hs := OwE.sl' (xs := zs) hO3
    rw [hzl, HZ.out] at hs
    exact hs
  case stop =>
    rintro D c pre W _ _ h _
    exact h.elim
  · intro x a' s X Y row hs hg hr
    obtain ⟨b6, ha, ht⟩ := hs
    exact ⟨b6, ha, own_two b6 _ (fun _ : Unit => _) (fun _ => _) () X Y row ht hg (fun r e => (hr r e).2)⟩
end

section
open Go.RowKit Gold

set_option maxHeartbeats 1000000 in
theorem mleEqIndex_any (i : Nat) (B : Option Addr) (m d : Nat) (ps : List E2) (w : World) (h : Sl w B m d ps) (hi : i ≤ 4611686018427387904) (hm : m ≤ 16) :
    Calls Try.prog 53 #[.int .i64 (i : Int), .slice B m d] w fun e w' => e = .returned (.agg #[.int .u64 (vF (eqW i ps).A), .int .u64 (vF (eqW i ps).B)]) ∧ Below w.heap.size w w' := by
  have HP := Lib.hid h
  have HL := Lib.hid h.len
  clear h
  go_enter Try.func53, Try.ntmps53
  go_wp2_with fail
  refine calls_named1 (fun V hbV g0 hzV => ?_)
  have HZ := Lib.hid (show Two V w.heap.size 27 (.int .u64 0) (.int .u64 0) from g0)
  have HB := Lib.hid hbV
  clear g0 hbV
  refine (vertex_any i m V hi (by omega)).mono ?_
  rintro e W1 ⟨g, rfl, hr, hb⟩
  have HZ1 := Lib.hid (HZ.out.keep hb)
  have HB1 := Lib.hid (below_step HB.out hb)
  have HV1 := Lib.hid (hr.slc (n := m) (c := m) (vtx_length i m).symm (Nat.le_refl _) (by omega))
  clear hr hb HZ HB
  go_wp2_with fail
  refine (mleEq_any _ _ _ _ _ _ _ _ _ HV1.out (HP.out.keep HB1.out) rfl).mono ?_
  rintro e W2 ⟨rfl, hb⟩
  have HZ2 := Lib.hid (HZ1.out.keep hb)
  have HB2 := Lib.hid (below_step HB1.out hb)
  clear hb
  rw [eqE_vtx' ps i m HL.out.symm]
  have c0 := HZ2.out.c0
  have c1 := HZ2.out.c1
  have f0 := HZ2.out.f0
  have f1 := HZ2.out.f1
  go_wp2_with fail
  exact bodyPost_ret (v := .agg #[.int .u64 (vF (eqW i ps).A), .int .u64 (vF (eqW i ps).B)]) (by simp [results, Try.results53, go_sem, c0, c1]) rfl ⟨rfl, (HB2.out.setCell (Nat.le_refl _) _).setCell (Nat.le_refl _) _⟩

set_option maxHeartbeats 1000000 in
theorem mleAccumulate_any (v : E2) (i : Nat) (dl : E2) (B : Option Addr) (m d : Nat) (ps : List E2) (w : World) (h : Sl w B m d ps) (hi : i ≤ 4611686018427387904) (hm : m ≤ 16) :
    Calls Try.prog 55 #[.agg #[.int .u64 (vF v.A), .int .u64 (vF v.B)], .int .i64 (i : Int), .agg #[.int .u64 (vF dl.A), .int .u64 (vF dl.B)], .slice B m d] w fun e w' => e = .returned (.agg #[.int .u64 (vF (v + dl * eqW i ps).A), .int .u64 (vF (v + dl * eqW i ps).B)]) ∧ Below w.heap.size w w' := by
  have HP := Lib.hid h
  clear h
  go_enter Try.func55, Try.ntmps55
  go_wp2_with fail
  refine wp_named3 (fun W hB g0 g1 g2 hz => ?_)
  have HB := Lib.hid hB
  have c20 := Two.c0 g2; have c21 := Two.c1 g2; have f20 := Two.f0 g2; have f21 := Two.f1 g2
  have l00 := Later.cell (Two.c0 g0); have l01 := Later.cell (Two.c1 g0); have l10 := Later.cell (Two.c0 g1); have l11 := Later.cell (Two.c1 g1)
  clear hB g0 g1 g2
  refine wp_later_tail 7 (by kernel_rfl) (by kernel_rfl) ?_
  simp only [List.take_succ_cons, List.take_zero, List.drop_succ_cons, List.drop_zero]
  repeat (go_big_quiet_step (first
    | (go_at_call 53; with_reducible exact Calls.later (mleEqIndex_any i B m d ps _ ((HP.out.keep HB.out).keep (Later.below _)) hi hm))
    | (go_at_call 15; with_reducible exact Calls.later (extMul_any dl (eqW i ps) _))
    | (go_at_call 14; with_reducible exact Calls.later (extAdd_any v (dl * eqW i ps) _))))
  refine wpQuiet_nil ?_
  intro X
  clear l00 l01 l10 l11
  have hb := X.below
  replace f20 := free_after hb c20 f20; replace f21 := free_after hb c21 f21; replace c20 := cell_after hb c20; replace c21 := cell_after hb c21
  replace HB := Lib.hid (HB.out.trans (hb.mono HB.out.size))
  clear hb
  go_wp2
  exact bodyPost_ret (v := .agg #[.int .u64 (vF (v + dl * eqW i ps).A), .int .u64 (vF (v + dl * eqW i ps).B)]) (by simp [results, Try.results55, go_sem, c20, c21]) rfl ⟨rfl, (HB.out.setCell (by simp; try omega) _).setCell (by simp; try omega) _⟩
end

end Go.Proofs.Ytipbfonlcmegdaa

/- Contracts of package mle: the table of the weights; no conditions but lengths. -/
namespace Go.Proofs.Ytipbfonlcmegdaa
set_option maxRecDepth 8000
open Go.RowKit Gold

/-- the weights of the first k coordinates -/
def wtAt (ps : List E2) (k p : Nat) : E2 := if p < 2 ^ k then eqW p (ps.take k) else E2.zero
/-- under way: t of them have been split by coordinate k -/
def wtIn (ps : List E2) (k t p : Nat) : E2 := if p < t ∨ (2 ^ k ≤ p ∧ p < 2 ^ k + t) then eqW p (ps.take (k + 1)) else wtAt ps k p
theorem wtIn_zero (ps : List E2) (k p : Nat) : wtIn ps k 0 p = wtAt ps k p := by unfold wtIn; rw [if_neg (by omega)]
theorem wtIn_end (ps : List E2) (k p : Nat) : wtIn ps k (2 ^ k) p = wtAt ps (k + 1) p := by
  unfold wtIn wtAt
  by_cases h : p < 2 ^ (k + 1)
  · rw [if_pos h, if_pos (by rw [Nat.pow_succ] at h; omega)]
  · rw [if_neg h, if_neg (by rw [Nat.pow_succ] at h; omega), if_neg (by rw [Nat.pow_succ] at h; omega)]
theorem wtIn_low {ps : List E2} {k t : Nat} (h : t < 2 ^ k) : wtIn ps k t t = eqW t (ps.take k) := by
  unfold wtIn wtAt
  rw [if_neg (by omega), if_pos h]
theorem wtIn_step {ps : List E2} {k t N : Nat} {r : E2} (hr : ps[k]? = some r) (ht : t < 2 ^ k) :
    ((tabE N (wtIn ps k t)).set (2 ^ k + t) (eqW t (ps.take k) * r)).set t (eqW t (ps.take k) - eqW t (ps.take k) * r) = tabE N (wtIn ps k (t + 1)) := by
  obtain ⟨hl, he⟩ := List.getElem?_eq_some_iff.1 hr
  have htk : (ps.take k).length = k := by rw [List.length_take]; omega
  have hsn : ps.take (k + 1) = ps.take k ++ [r] := by rw [List.take_succ_eq_append_getElem hl, he]
  have h1 : eqW t (ps.take (k + 1)) = eqW t (ps.take k) - eqW t (ps.take k) * r := by rw [hsn, eqW_low (by rw [htk]; exact ht)]
  have h2 : eqW (2 ^ k + t) (ps.take (k + 1)) = eqW t (ps.take k) * r := by
    have := eqW_high (p := ps.take k) (r := r) (i := t) (by rw [htk]; exact ht)
    rw [htk, Nat.add_comm] at this
    rw [hsn, this]
  apply List.ext_getElem?
  intro p
  rw [List.getElem?_set, List.getElem?_set, List.length_set, tabE_length]
  by_cases hp : p < N
  · rw [tabE_get _ hp, tabE_get _ hp]
    by_cases e1 : t = p
    · subst e1
      rw [if_pos rfl, if_pos hp, ← h1]
      unfold wtIn
      rw [if_pos (Or.inl (Nat.lt_succ_self _))]
    · rw [if_neg e1]
      by_cases e2 : 2 ^ k + t = p
      · subst e2
        rw [if_pos rfl, if_pos hp, ← h2]
        unfold wtIn
        rw [if_pos (Or.inr (by omega))]
      · rw [if_neg e2]
        unfold wtIn
        by_cases c : p < t ∨ (2 ^ k ≤ p ∧ p < 2 ^ k + t)
        · rw [if_pos c, if_pos (by omega)]
        · rw [if_neg c, if_neg (by omega)]
  · rw [List.getElem?_eq_none (l := tabE N (wtIn ps k t)) (by rw [tabE_length]; omega), List.getElem?_eq_none (l := tabE N (wtIn ps k (t + 1))) (by rw [tabE_length]; omega)]
    by_cases e1 : t = p
    · rw [if_pos e1, if_neg (by omega)]
    · rw [if_neg e1]
      by_cases e2 : 2 ^ k + t = p
      · rw [if_pos e2, if_neg (by omega)]
      · rw [if_neg e2]
theorem wtAt_first {N : Nat} (ps : List E2) (hN : 0 < N) : (List.replicate N E2.zero).set 0 E2.one = tabE N (wtAt ps 0) := by
  apply List.ext_getElem?
  intro p
  rw [List.getElem?_set, List.length_replicate]
  by_cases hp : p < N
  · rw [tabE_get _ hp]
    unfold wtAt
    by_cases e : 0 = p
    · subst e
      rw [if_pos rfl, if_pos hN]
      rfl
    · rw [if_neg e, if_neg (by simp; omega), List.getElem?_replicate, if_pos hp]
  · rw [List.getElem?_eq_none (l := tabE N (wtAt ps 0)) (by rw [tabE_length]; omega)]
    by_cases e : 0 = p
    · omega
    · rw [if_neg e, List.getElem?_replicate, if_neg hp]
theorem wtAt_last {ps : List E2} {n : Nat} (h : ps.length = n) : tabE (2 ^ n) (wtAt ps n) = eqT ps := by
  unfold eqT
  rw [h]
  refine tabE_congr fun p hp => ?_
  unfold wtAt
  rw [if_pos hp, List.take_of_length_le (by omega)]

set_option maxHeartbeats 4000000 in
theorem mleEqTable_any (B : Option Addr) (n d : Nat) (ps : List E2) (w : World) (h : Sl w B n d ps) (hn : n ≤ 16) :
    Calls Try.prog 52 #[.slice B n d] w fun e w' => ∃ g N, e = .returned (.slice (some ⟨g, 0, none⟩) N N) ∧ N = 2 ^ n ∧ Row w' g (eqT ps) ∧ Below w.heap.size w w' := by
  have hcap := h.cap
  have htop := h.top
  have HP := Lib.hid h
  have HL := Lib.hid h.len
  clear h
  obtain ⟨N, hN⟩ : ∃ N, N = 2 ^ n := ⟨_, rfl⟩
  have hN0 : 0 < N := by rw [hN]; exact Nat.two_pow_pos n
  have hN1 : N ≤ 65536 := by rw [hN]; exact Nat.pow_le_pow_right (n := 2) (by omega) hn
  have hw : wrap64 (2 ^ n) = (N : Int) := by rw [hN]; exact wrap_pow2 (by omega)
  have HN := Lib.hid hN
  clear hN
  have hmk := run_makeE N hN1
  generalize hr0 : List.replicate N E2.zero = r0 at hmk
  have HR0 := Lib.hid hr0
  clear hr0
  go_enter Try.func52, Try.ntmps52
  go_wp2_with fail
  clear hmk hw
  refine (mleOne_any _).mono ?_
  rintro e W1 ⟨rfl, hb⟩
  have HR1 := Lib.hid (show Row W1 w.heap.size r0 from heap_keep (heap_new w _) hb)
  have HB1 := Lib.hid (below_step ((Below.refl _ w).alloc (Nat.le_refl _) _) hb)
  clear hb
  have hz := HR1.out.at_ (i := 0) (x := E2.zero) (by rw [← HR0.out, List.getElem?_replicate, if_pos hN0])
  have c0 := hz.1
  have c1 := hz.2
  simp only [Nat.zero_mul, Nat.zero_add] at c0 c1
  have f0 := HR1.out.free 0
  have f1 := HR1.out.free 1
  clear hz
  go_wp2_with fail
  clear c0 c1 f0 f1
  go_loopw [22] (fun s wr => ∃ k : Nat, k ≤ n ∧ s = .int .i64 k ∧ Row wr w.heap.size (tabE N (wtAt ps k)) ∧ Below w.heap.size w wr) (fun s _ => n - (intOf s).toNat)
  case atStart => exact ⟨0, Nat.zero_le _, rfl, by have := HR1.out.set 0 E2.one; simp only [Nat.zero_mul, Nat.zero_add] at this; rw [← HR0.out, wtAt_first ps hN0] at this; exact this, (HB1.out.setCell (Nat.le_refl _) _).setCell (Nat.le_refl _) _⟩
  case round =>
    clear HR1 HB1
    obtain ⟨k, hk, rfl, hr, hb⟩ := hrel
    have HR := Lib.hid hr
    have HB := Lib.hid hb
    clear hr hb
    by_cases hlt : k < n
    · obtain ⟨r, hr⟩ := HP.out.get hlt
      obtain ⟨ad, rfl, p0, p1⟩ := (HP.out.keep HB.out).at_ hr
      have HX := Lib.hid hr
      clear hr
      obtain ⟨M, hM⟩ : ∃ M, M = 2 ^ k := ⟨_, rfl⟩
      have hMw : wrap64 (2 ^ k) = (M : Int) := by rw [hM]; exact wrap_pow2 (by omega)
      have hM0 : 0 < M := by rw [hM]; exact Nat.two_pow_pos k
      have hMN : M + M ≤ N := by
        have h2 : 2 ^ (k + 1) ≤ 2 ^ n := Nat.pow_le_pow_right (by omega) (by omega)
        rw [Nat.pow_succ] at h2
        rw [hM, HN.out]
        omega
      have HM := Lib.hid hM
      clear hM
      have hk1 : (k : Int) < (n : Int) := by omega
      have hk0 : (0 : Int) ≤ (k : Int) := by omega
      go_wp2_with fail
      clear p0 p1
      refine wp_named1 (fun V hbV g0 hzV => ?_)
      have HT := Lib.hid (show Two V wr.heap.size 27 (.int .u64 (vF r.A)) (.int .u64 (vF r.B)) from g0)
      have HRV := Lib.hid (HR.out.keep hbV)
      have HBV := Lib.hid (below_step HB.out hbV)
      have hgr : w.heap.size < wr.heap.size := HR.out.lt
      clear hbV g0
      have i1 : (M : Int) ≤ (N : Int) := by omega
      refine wp_later_lex (by kernel_rfl) (lexOK_of (by kernel_rfl) (by kernel_rfl)) ?_
      repeat (go_big_quiet_step (fail))
      refine wpQuiet_nil ?_
      intro X
      have HTX := Lib.hid (HT.out.keep X.below)
      have HRX := Lib.hid (HRV.out.keep X.below)
      have HBX := Lib.hid (below_step HBV.out X.below)
      clear HT HRV HBV
      generalize X.at = V2 at *
      clear HR HB hMw
      generalize wr.heap.size = bt at *
      go_wp2_with fail
      go_loopw [37] (fun s w2 => ∃ t : Nat, t ≤ M ∧ s = .int .i64 t ∧ Row w2 w.heap.size (tabE N (wtIn ps k t)) ∧ Two w2 bt 27 (.int .u64 (vF r.A)) (.int .u64 (vF r.B)) ∧ Below w.heap.size w w2) (fun s _ => M - (intOf s).toNat)
      case atStart => exact ⟨0, Nat.zero_le _, rfl, by rw [tabE_congr fun p _ => wtIn_zero ps k p]; exact HRX.out, HTX.out, HBX.out⟩
      case round =>
        clear HRX HTX HBX
        obtain ⟨t, ht, rfl, hr, htw, hb⟩ := hrel
        have HR2 := Lib.hid hr
        have HT2 := Lib.hid htw
        have HB2 := Lib.hid hb
        clear hr htw hb
        by_cases hltt : t < M
        · have hc := HR2.out.at_ (tabE_get (i := t) (wtIn ps k t) (by omega))
          rw [wtIn_low (by rw [← HM.out]; exact hltt)] at hc
          generalize hq : eqW t (ps.take k) = q at hc
          have HQ := Lib.hid hq
          clear hq
          have c0 := hc.1
          have c1 := hc.2
          clear hc
          have j1 : (t : Int) < (M : Int) := by omega
          have j0 : (0 : Int) ≤ (t : Int) := by omega
          have j2 : (t : Int) < ((N - M : Nat) : Int) := by omega
          have k0 := cell_alloc HT2.out.c0 (.cells #[.int .u64 (vF q.A), .int .u64 (vF q.B)] 27)
          have k1 := cell_alloc HT2.out.c1 (.cells #[.int .u64 (vF q.A), .int .u64 (vF q.B)] 27)
          go_wp2_with fail
          clear k0 k1 c0 c1
          refine calls_named1 (fun V3 hbV g0 hzV3 => ?_)
          have HQ3 := Lib.hid (show Two V3 _ 27 (.int .u64 (vF q.A)) (.int .u64 (vF q.B)) from g0)
          have HR3 := Lib.hid (HR2.out.keep hbV)
          have HT3 := Lib.hid (HT2.out.keep hbV)
          have HB3 := Lib.hid (below_step HB2.out hbV)
          have hgq := HR2.out.lt
          clear hbV g0 HR2 HT2 HB2
          refine (extMul_any q r _).mono ?_
          rintro e W4 ⟨rfl, hb⟩
          have HQ4 := Lib.hid (HQ3.out.keep hb)
          have HR4 := Lib.hid (HR3.out.keep hb)
          have HT4 := Lib.hid (HT3.out.keep hb)
          have HB4 := Lib.hid (below_step HB3.out hb)
          clear hb HR3 HT3 HB3 HQ3
          generalize hy : q * r = y
          have HY := Lib.hid hy
          clear hy
          have ea : (M + t) * 2 = M * 2 + t * 2 := Nat.add_mul _ _ _
          have hz := HR4.out.at_ (tabE_get (i := M + t) (wtIn ps k t) (by omega))
          rw [ea] at hz
          have c0 := hz.1
          have c1 := hz.2
          have f0 := HR4.out.free (M * 2 + t * 2)
          have f1 := HR4.out.free (M * 2 + t * 2 + 1)
          clear hz
          go_wp2_with fail
          refine wp_named (fun W5 => Row W5 w.heap.size ((tabE N (wtIn ps k t)).set (M + t) y) ∧ Two W5 wr.heap.size 27 (.int .u64 (vF q.A)) (.int .u64 (vF q.B)) ∧ Two W5 bt 27 (.int .u64 (vF r.A)) (.int .u64 (vF r.B)) ∧ Below w.heap.size w W5)
            ⟨by have := HR4.out.set (M + t) y; rw [ea] at this; exact this, (HQ4.out.far _ (by simp; omega)).far _ (by simp; omega), (HT4.out.far _ (by simp; omega)).far _ (by simp; omega), (HB4.out.setCell (by simp) _).setCell (by simp) _⟩ ?_
          rintro W5 ⟨hr5, hq5, ht5, hb5⟩
          have HR5 := Lib.hid hr5
          have HT5 := Lib.hid ht5
          have HB5 := Lib.hid hb5
          clear c0 c1 f0 f1 HR4 HQ4 HT4 HB4 hr5 ht5 hb5
          have hz := HR5.out.at_ (i := M + t) (x := y) (by rw [List.getElem?_set, if_pos rfl, tabE_length, if_pos (by omega)])
          rw [ea] at hz
          have l0 := Later.cell hq5.c0
          have l1 := Later.cell hq5.c1
          have l2 := Later.cell hz.1
          have l3 := Later.cell hz.2
          clear hz hq5
          refine wp_later_tail 9 (by kernel_rfl) (by kernel_rfl) ?_
          simp only [List.take_succ_cons, List.take_zero, List.drop_succ_cons, List.drop_zero]
          repeat (go_big_quiet_step ((go_at_call 86; with_reducible exact Calls.later (extSub_any q y _))))
          refine wpQuiet_nil ?_
          intro X2
          clear l0 l1 l2 l3
          have HR6 := Lib.hid (HR5.out.keep X2.below)
          have HT6 := Lib.hid (HT5.out.keep X2.below)
          have HB6 := Lib.hid (below_step HB5.out X2.below)
          have hz := HR6.out.at_ (i := t) (x := wtIn ps k t t) (by rw [List.getElem?_set, if_neg (by omega)]; exact tabE_get _ (by omega))
          have c0 := hz.1
          have c1 := hz.2
          have f0 := HR6.out.free (t * 2)
          have f1 := HR6.out.free (t * 2 + 1)
          clear hz HR5 HT5 HB5
          go_wp2_with fail
          have HST := Lib.hid (show Row _ w.heap.size (tabE N (wtIn ps k (t + 1))) by
            have h1 := HR6.out.set t (q - y)
            have h2 := wtIn_step (N := N) HX.out (show t < 2 ^ k by rw [← HM.out]; exact hltt)
            rw [HQ.out, HY.out, ← HM.out] at h2
            rw [h2] at h1
            exact h1)
          go_roundw
          case rel => exact ⟨t + 1, by omega, by go_num, HST.out, (HT6.out.far _ (by simp; omega)).far _ (by simp; omega), (HB6.out.setCell (by simp) _).setCell (by simp) _⟩
          case measure => simp [intOf]; omega
        · have htm : t = M := by omega
          subst htm
          go_wp2_with fail
          go_roundw
          case rel => exact ⟨k + 1, by omega, by go_num, by have := HR2.out; rw [HM.out, tabE_congr fun p _ => wtIn_end ps k p] at this; exact this, HB2.out⟩
          case measure => simp [intOf]; omega
    · have hkn : k = n := by omega
      subst hkn
      go_wp2_with fail
      go_ret
      exact ⟨_, N, rfl, HN.out, by have := HR.out; rw [HN.out, wtAt_last HL.out.symm] at this; exact this, HB.out⟩

end Go.Proofs.Ytipbfonlcmegdaa
