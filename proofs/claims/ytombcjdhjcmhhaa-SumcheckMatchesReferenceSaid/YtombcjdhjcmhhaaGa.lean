/- Several texts in one: Mpa, Mpb, Mpd, Mpe, Mpf, Mpg, Mpj. -/
import Derived.Test.YtombcjdhjcmhhaaMleM
import Derived.Test.YtombcjdhjcmhhaaApp
import Derived.Test.YtombcjdhjcmhhaaExtU
import Derived.Test.YtombcjdhjcmhhaaNbit
import Derived.Test.YtombcjdhjcmhhaaPolP
import Derived.Test.YtombcjdhjcmhhaaLin
import Derived.Test.YtombcjdhjcmhhaaExtT
import Derived.RangeFuncNested
import Derived.RangeFuncBound
import Derived.RangeFuncCalls
import Derived.RangeFuncLeaves
import Derived.RangeFuncBox
import Derived.Shelf.Abstract
import Derived.Shelf.RegionOpen
import Derived.OwnWalkIn
import Derived.TacticsInMore
import Derived.LoopNIn
import Derived.LoopIn
import Derived.Laws.EntriesVeiled
import Derived.Test.YtombcjdhjcmhhaaLex
import Derived.Deep.QuietTactic
import Derived.BigQuiet
/- Contracts of package mle, its parts: one, between, agreement; a table at the head of a block; no conditions but that slices lie in memory as the package's own calls lay them. -/
namespace Go.Proofs.Ytombcjdhjcmhhaa
set_option maxRecDepth 8000
open Go.RowKit Gold

theorem grown_of_below {w w' : World} {row : Option Nat} (h : Below w.heap.size w w') : w.grownBy w' row := ⟨h.os, h.tape, h.output, h.size, fun k hk _ => h.block k hk⟩
theorem grown_then {a b c : World} {row : Option Nat} (h : a.grownBy b row) (k : b.grownBy c row) : a.grownBy c row :=
  ⟨k.os.trans h.os, k.tape.trans h.tape, k.output.trans h.output, Nat.le_trans h.size k.size, fun i hi hn => (k.block i (Nat.lt_of_lt_of_le hi h.size) hn).trans (h.block i hi hn)⟩
theorem grown_cell (w : World) (g i : Nat) (v : Value) : w.grownBy (w.setCell ⟨g, i, none⟩ v) (some g) :=
  ⟨rfl, rfl, rfl, by simp [World.setCell], fun k _ hn => Below.heap_setCell _ _ _ _ (fun e => hn (by rw [e]))⟩
theorem grown_two {a b : World} {g : Nat} (h : a.grownBy b (some g)) (i j : Nat) (u v : Value) : a.grownBy ((b.setCell ⟨g, i, none⟩ u).setCell ⟨g, j, none⟩ v) (some g) := grown_then (grown_then h (grown_cell _ _ _ _)) (grown_cell _ _ _ _)
theorem below_of_grown {B g : Nat} {w w1 w2 : World} (h : Below B w w1) (k : w1.grownBy w2 (some g)) (hg : B ≤ g) (hB : B ≤ w1.heap.size) : Below B w w2 := h.trans (Below.grown (Below.refl B w1) k hB (fun q hq => by cases hq; exact hg))
theorem heap_other {w w' : World} {g b : Nat} {o : Obj} (h : w.heap[b]? = some o) (k : w.grownBy w' (some g)) (e : b ≠ g) : w'.heap[b]? = some o := (k.block b (Array.getElem?_eq_some_iff.1 h).1 (fun q => by cases q; exact e rfl)).trans h
theorem Two.other {w w' : World} {g b : Nat} {t : TypeId} {u v : Value} (h : Two w b t u v) (k : w.grownBy w' (some g)) (e : b ≠ g) : Two w' b t u v := heap_other h k e
theorem One.other {w w' : World} {g b : Nat} {t : TypeId} {u : Value} (h : One w b t u) (k : w.grownBy w' (some g)) (e : b ≠ g) : One w' b t u := heap_other h k e

/-- block g begins with the elements xs -/
def Tab (w : World) (g : Nat) (xs : List E2) : Prop := ∃ cur : List Value, w.heap[g]? = some (.cells cur.toArray 43 (0, 0)) ∧ cur.take (xs.length * 2) = cellsE xs
section
variable {w w' : World} {g : Nat} {xs : List E2}
theorem Tab.lt (h : Tab w g xs) : g < w.heap.size := by obtain ⟨cur, h1, _⟩ := h; exact (Array.getElem?_eq_some_iff.1 h1).1
theorem Tab.keep (h : Tab w g xs) (hb : Below w.heap.size w w') : Tab w' g xs := by obtain ⟨cur, h1, h2⟩ := h; exact ⟨cur, heap_keep h1 hb, h2⟩
theorem Tab.other {g' : Nat} (h : Tab w g xs) (k : w.grownBy w' (some g')) (e : g ≠ g') : Tab w' g xs := by obtain ⟨cur, h1, h2⟩ := h; exact ⟨cur, heap_other h1 k e, h2⟩
theorem Tab.far (h : Tab w g xs) {a : Addr} (x : Value) (e : g ≠ a.block) : Tab (w.setCell a x) g xs := by obtain ⟨cur, h1, h2⟩ := h; exact ⟨cur, (Below.heap_setCell w a x g e).trans h1, h2⟩
theorem Tab.of_row (h : Row w g xs) : Tab w g xs := ⟨cellsE xs, h, by rw [← cellsE_length]; exact List.take_length⟩
theorem Tab.at_ {i : Nat} {x : E2} (h : Tab w g xs) (hx : xs[i]? = some x) : w.cell? ⟨g, i * 2, none⟩ = some (.int .u64 (vF x.A)) ∧ w.cell? ⟨g, i * 2 + 1, none⟩ = some (.int .u64 (vF x.B)) := by
  obtain ⟨cur, h1, h2⟩ := h
  have hl := (List.getElem?_eq_some_iff.1 hx).1
  have key : ∀ k u, (cellsE xs)[k]? = some u → w.cell? ⟨g, k, none⟩ = some u := fun k u hu => by
    rw [← h2] at hu
    have hk := (List.getElem?_eq_some_iff.1 hu).1
    rw [List.getElem?_take_of_lt (by simp at hk; omega)] at hu
    simpa [World.cell?, h1] using hu
  exact ⟨key _ _ (cellsE_even hx), key _ _ (cellsE_odd hx)⟩
theorem Tab.free (h : Tab w g xs) (k : Nat) : w.frozen? ⟨g, k, none⟩ = false := by
  obtain ⟨cur, h1, _⟩ := h
  simp [World.frozen?, h1]
theorem Tab.set (h : Tab w g xs) (i : Nat) (x : E2) : Tab ((w.setCell ⟨g, i * 2, none⟩ (.int .u64 (vF x.A))).setCell ⟨g, i * 2 + 1, none⟩ (.int .u64 (vF x.B))) g (xs.set i x) := by
  obtain ⟨cur, h1, h2⟩ := h
  have k1 := heap_setCell_at (i := i * 2) h1 (.int .u64 (vF x.A))
  have k2 := heap_setCell_at (i := i * 2 + 1) k1 (.int .u64 (vF x.B))
  refine ⟨(cur.set (i * 2) (.int .u64 (vF x.A))).set (i * 2 + 1) (.int .u64 (vF x.B)), ?_, ?_⟩
  · rw [k2]; simp
  · rw [← cellsE_set, List.length_set, List.take_set, List.take_set, h2]
theorem Tab.take (h : Tab w g xs) (k : Nat) : Tab w g (xs.take k) := by
  obtain ⟨cur, h1, h2⟩ := h
  refine ⟨cur, h1, ?_⟩
  have e : cellsE (xs.take k) = (cellsE xs).take ((xs.take k).length * 2) := by
    have e1 : cellsE xs = cellsE (xs.take k) ++ cellsE (xs.drop k) := by rw [← cellsE_append, List.take_append_drop]
    rw [e1, ← cellsE_length, List.take_left]
  rw [e, ← h2, List.take_take]
  congr 1
  rw [List.length_take]
  omega
theorem Tab.cast {ys : List E2} (h : Tab w g xs) (e : xs = ys) : Tab w g ys := e ▸ h
theorem Tab.sl {n c : Nat} (h : Tab w g xs) (hn : n = xs.length) (hc : n ≤ c) (ht : c ≤ 9223372036854775807) : Sl w (some ⟨g, 0, none⟩) n c xs := by
  refine ⟨by simpa using hn, hc, ht, (fun e => by cases e), fun i p hp => ⟨_, rfl, ?_⟩⟩
  rw [List.getElem?_map] at hp
  cases hx : xs[i]? with
  | none => rw [hx] at hp; cases hp
  | some x =>
    rw [hx] at hp
    injection hp with hp
    subst hp
    obtain ⟨k1, k2⟩ := h.at_ hx
    unfold AtV
    rw [add_base]
    exact ⟨k1, k2⟩
end
/-- a slice of the call's own that is not empty -/
theorem OwE.tab {w : World} {base n : Nat} {v : Value} {xs : List E2} (h : OwE w base v n xs) (hn : 0 < n) : ∃ g c, v = .slice (some ⟨g, 0, none⟩) n c ∧ base ≤ g ∧ n ≤ c ∧ c ≤ 9223372036854775807 ∧ Tab w g xs := by
  have hl := h.len
  rcases h.2 with ⟨rfl, rfl⟩ | ⟨g, cap, cur, rfl, hb, hg, hc, hm, hs, ht⟩
  · omega
  · unfold maxLen at hm
    exact ⟨g, cap, rfl, hb, hc, by omega, cur.toList, by simpa using hg, by rw [← hl]; simpa using ht⟩

set_option maxHeartbeats 400000 in
theorem between_any (r : E2) (w : World) : Calls Try.prog 82 #[.agg #[.int .u64 (vF r.A), .int .u64 (vF r.B)]] w fun e w' => e = .returned (.func (.func 93) #[] #[.pointer (some ⟨w.heap.size, 0, none⟩)]) ∧ w' = w.alloc (.cells #[.int .u64 (vF r.A), .int .u64 (vF r.B)] 43) := by
  go_enter Try.func82, Try.ntmps82
  go_wp2
  go_ret
  exact ⟨rfl, rfl⟩
set_option maxHeartbeats 1000000 in
theorem between1_any (r x y : E2) (B : Nat) (w : World) (hB : Two w B 43 (.int .u64 (vF r.A)) (.int .u64 (vF r.B))) :
    Calls Try.prog 93 #[.agg #[.int .u64 (vF x.A), .int .u64 (vF x.B)], .agg #[.int .u64 (vF y.A), .int .u64 (vF y.B)], .pointer (some ⟨B, 0, none⟩)] w fun e w' => e = .returned (.agg #[.int .u64 (vF (btw r x y).A), .int .u64 (vF (btw r x y).B)]) ∧ Below w.heap.size w w' := by
  have HR := Lib.hid hB
  clear hB
  go_enter Try.func93, Try.ntmps93
  go_wp2_with fail
  refine wp_named3 (fun W hB g0 g1 g2 hz => ?_)
  have HB := Lib.hid hB
  have HRW := Lib.hid (HR.out.keep hB)
  have c20 := Two.c0 g2; have c21 := Two.c1 g2; have f20 := Two.f0 g2; have f21 := Two.f1 g2
  have l00 := Later.cell (Two.c0 g0); have l01 := Later.cell (Two.c1 g0); have l10 := Later.cell (Two.c0 g1); have l11 := Later.cell (Two.c1 g1)
  have l20 := Later.cell HRW.out.c0; have l21 := Later.cell HRW.out.c1
  clear hB g0 g1 g2
  refine wp_later_tail 7 (by kernel_rfl) (by kernel_rfl) ?_
  simp only [List.take_succ_cons, List.take_zero, List.drop_succ_cons, List.drop_zero]
  repeat (go_big_quiet_step (first
    | (go_at_call 60; with_reducible exact Calls.later (extSub_any y x _))
    | (go_at_call 63; with_reducible exact Calls.later (extMul_any r (y - x) _))
    | (go_at_call 47; with_reducible exact Calls.later (extAdd_any x (r * (y - x)) _))))
  refine wpQuiet_nil ?_
  intro X
  clear l00 l01 l10 l11 l20 l21
  have hb := X.below
  replace f20 := free_after hb c20 f20; replace f21 := free_after hb c21 f21; replace c20 := cell_after hb c20; replace c21 := cell_after hb c21
  replace HB := Lib.hid (HB.out.trans (hb.mono HB.out.size))
  clear hb
  go_wp2
  exact bodyPost_ret (v := .agg #[.int .u64 (vF (x + r * (y - x)).A), .int .u64 (vF (x + r * (y - x)).B)]) (by simp [results, Try.results93, go_sem, c20, c21]) rfl ⟨rfl, (HB.out.setCell (by simp; try omega) _).setCell (by simp; try omega) _⟩


set_option maxHeartbeats 1000000 in
theorem rFactor_any (x y : E2) (w : World) :
    Calls Try.prog 87 #[.agg #[.int .u64 (vF x.A), .int .u64 (vF x.B)], .agg #[.int .u64 (vF y.A), .int .u64 (vF y.B)]] w fun e w' => e = .returned (.agg #[.int .u64 (vF (agr x y).A), .int .u64 (vF (agr x y).B)]) ∧ Below w.heap.size w w' := by
  go_enter Try.func87, Try.ntmps87
  go_wp2_with fail
  refine calls_named3 (fun W hB g0 g1 g2 hz => ?_)
  have HB := Lib.hid hB
  have H0 := Lib.hid (show Two W w.heap.size 43 (.int .u64 (vF x.A)) (.int .u64 (vF x.B)) from g0)
  have H1 := Lib.hid (show Two W (w.heap.size + 1) 43 (.int .u64 (vF y.A)) (.int .u64 (vF y.B)) from g1)
  have H2 := Lib.hid (show Two W (w.heap.size + 1 + 1) 43 (.int .u64 0) (.int .u64 0) from g2)
  clear hB g0 g1 g2
  refine (rOne_any W).mono ?_
  rintro e W1 ⟨rfl, hb⟩
  replace HB := Lib.hid (below_step HB.out hb)
  replace H0 := Lib.hid (H0.out.keep hb)
  replace H1 := Lib.hid (H1.out.keep hb)
  replace H2 := Lib.hid (H2.out.keep hb)
  clear hb
  go_wp2_with fail
  refine wp_named1 (fun V hbV g3 hzV => ?_)
  replace HB := Lib.hid (below_step HB.out hbV)
  replace H0 := Lib.hid (H0.out.keep hbV)
  replace H1 := Lib.hid (H1.out.keep hbV)
  replace H2 := Lib.hid (H2.out.keep hbV)
  have H3 := Lib.hid (show Two V W1.heap.size 43 (.int .u64 (vF E2.one.A)) (.int .u64 (vF E2.one.B)) from g3)
  clear hbV g3
  have c20 := H2.out.c0; have c21 := H2.out.c1; have f20 := H2.out.f0; have f21 := H2.out.f1
  have l00 := Later.cell H0.out.c0; have l01 := Later.cell H0.out.c1; have l10 := Later.cell H1.out.c0; have l11 := Later.cell H1.out.c1; have l30 := Later.cell H3.out.c0; have l31 := Later.cell H3.out.c1
  refine wp_later_tail 11 (by kernel_rfl) (by kernel_rfl) ?_
  simp only [List.take_succ_cons, List.take_zero, List.drop_succ_cons, List.drop_zero]
  repeat (go_big_quiet_step (first
    | (go_at_call 35; with_reducible exact Calls.later (rSub_any E2.one x _))
    | (go_at_call 35; with_reducible exact Calls.later (rSub_any E2.one y _))
    | (go_at_call 36; with_reducible exact Calls.later (rMul_any x y _))
    | (go_at_call 36; with_reducible exact Calls.later (rMul_any (E2.one - x) (E2.one - y) _))
    | (go_at_call 32; with_reducible exact Calls.later (rAdd_any (x * y) ((E2.one - x) * (E2.one - y)) _))))
  refine wpQuiet_nil ?_
  intro X
  clear l00 l01 l10 l11 l30 l31
  have hb := X.below
  replace f20 := free_after hb c20 f20; replace f21 := free_after hb c21 f21; replace c20 := cell_after hb c20; replace c21 := cell_after hb c21
  replace HB := Lib.hid (HB.out.trans (hb.mono HB.out.size))
  clear hb
  go_wp2
  exact bodyPost_ret (v := .agg #[.int .u64 (vF (agr x y).A), .int .u64 (vF (agr x y).B)]) (by simp [results, Try.results87, go_sem, c20, c21, agr]) rfl ⟨rfl, (HB.out.setCell (by simp; try omega) _).setCell (by simp; try omega) _⟩

end Go.Proofs.Ytombcjdhjcmhhaa

/- Contracts of package mle, folding: clone, fold, Bind, Eval; no conditions but that lengths are powers of two. Contracts of package mle: Bind and Eval; no conditions but that lengths are powers of two. -/
namespace Go.Proofs.Ytombcjdhjcmhhaa
set_option maxRecDepth 8000
section
open Go.RowKit Gold

/-- the elements when k of them have been replaced -/
def foldAt (xs : List E2) (r : E2) (k : Nat) : List E2 := tabE xs.length fun i => if i < k then bndF (cfE xs) r i else cfE xs i
theorem foldAt_zero (xs : List E2) (r : E2) : foldAt xs r 0 = xs := by
  unfold foldAt
  rw [tabE_congr (g := cfE xs) fun i _ => if_neg (Nat.not_lt_zero _)]
  exact tabE_cfE xs
theorem foldAt_get {xs : List E2} {r : E2} {k i : Nat} (hi : i < xs.length) (hk : k ≤ i) : (foldAt xs r k)[i]? = some (cfE xs i) := by
  unfold foldAt
  rw [tabE_get _ hi, if_neg (by omega)]
theorem foldAt_step {xs : List E2} {r : E2} {k : Nat} (hk : k < xs.length) : (foldAt xs r k).set k (btw r (cfE xs (2 * k)) (cfE xs (2 * k + 1))) = foldAt xs r (k + 1) := by
  apply List.ext_getElem?
  intro i
  rw [List.getElem?_set]
  unfold foldAt
  rw [tabE_length]
  by_cases hi : i < xs.length
  · rw [tabE_get _ hi, tabE_get _ hi]
    by_cases e : k = i
    · subst e
      rw [if_pos rfl, if_pos hk, if_pos (by omega)]
      rfl
    · rw [if_neg e]
      by_cases h : i < k
      · rw [if_pos h, if_pos (by omega)]
      · rw [if_neg h, if_neg (by omega)]
  · rw [if_neg (by omega), List.getElem?_eq_none (by rw [tabE_length]; omega), List.getElem?_eq_none (by rw [tabE_length]; omega)]
theorem foldAt_end (xs : List E2) (r : E2) : (foldAt xs r (xs.length / 2)).take (xs.length / 2) = bndE xs r := by
  apply List.ext_getElem?
  intro i
  rw [List.getElem?_take]
  unfold bndE foldAt
  by_cases hi : i < xs.length / 2
  · rw [if_pos hi, tabE_get _ (by omega), tabE_get _ hi, if_pos hi]
  · rw [if_neg hi, List.getElem?_eq_none (by rw [tabE_length]; omega)]

set_option maxHeartbeats 2000000 in
theorem fold_any (r : E2) (B g n c : Nat) (xs : List E2) (w : World) (hT : Tab w g xs) (hR : Two w B 43 (.int .u64 (vF r.A)) (.int .u64 (vF r.B))) (hg : B ≠ g) (hn : n = xs.length) (hn1 : n ≤ 65536) (hc : n ≤ c) (ht : c ≤ 9223372036854775807) :
    Calls Try.prog 80 #[.slice (some ⟨g, 0, none⟩) n c, .func (.func 93) #[] #[.pointer (some ⟨B, 0, none⟩)]] w fun e w' => e = .returned (.slice (some ⟨g, 0, none⟩) ((n / 2 : Nat)) c) ∧ Tab w' g (bndE xs r) ∧ w.grownBy w' (some g) := by
  have HT0 := Lib.hid hT
  have HR0 := Lib.hid hR
  have HG := Lib.hid hg
  have HN := Lib.hid hn
  clear hT hR hg hn
  go_enter Try.func80, Try.ntmps80
  go_wp2_with fail
  go_loopw [14] (fun s wr => ∃ k : Nat, k ≤ n / 2 ∧ s = .int .i64 k ∧ Tab wr g (foldAt xs r k) ∧ w.grownBy wr (some g)) (fun s _ => n / 2 - (intOf s).toNat)
  case atStart => exact ⟨0, Nat.zero_le _, rfl, by rw [foldAt_zero]; exact HT0.out, grown_of_below (Below.refl _ _)⟩
  case round =>
    obtain ⟨k, hk, rfl, hT, hG⟩ := hrel
    have HT := Lib.hid hT
    have HK := Lib.hid hG
    clear hT hG
    by_cases hlt : k < n / 2
    · have hrw := HR0.out.other HK.out HG.out
      have hx := HT.out.at_ (foldAt_get (r := r) (k := k) (i := 2 * k) (by have := HN.out; omega) (by omega))
      have hy := HT.out.at_ (foldAt_get (r := r) (k := k) (i := 2 * k + 1) (by have := HN.out; omega) (by omega))
      generalize hxe : cfE xs (2 * k) = x at hx
      generalize hye : cfE xs (2 * k + 1) = y at hy
      have EX := Lib.hid hxe
      have EY := Lib.hid hye
      clear hxe hye
      have lx0 := Later.cell hx.1
      have lx1 := Later.cell hx.2
      have ly0 := Later.cell hy.1
      have ly1 := Later.cell hy.2
      have HRW := Lib.hid hrw
      clear hx hy hrw
      have i0 : (0 : Int) ≤ (k : Int) := by omega
      have i1 : 2 * (k : Int) < (n : Int) := by omega
      have i2 : 2 * (k : Int) + 1 < (n : Int) := by omega
      have i3 : (k : Int) < ((n / 2 : Nat) : Int) := by omega
      have i4 : (2 * (k : Int)).toNat = 2 * k := by omega
      have i5 : (2 * (k : Int) + 1).toNat = 2 * k + 1 := by omega
      go_wp2_with fail
      refine wp_later_tail 16 (by kernel_rfl) (by kernel_rfl) ?_
      simp only [List.take_succ_cons, List.take_zero, List.drop_succ_cons, List.drop_zero]
      repeat (go_big_quiet_step ((go_at_call 93; with_reducible exact Calls.later (between1_any r x y B _ (Later.two HRW.out _)))))
      refine wpQuiet_nil ?_
      intro X
      clear lx0 lx1 ly0 ly1
      have HTX := Lib.hid (HT.out.keep X.below)
      have HKX := Lib.hid (grown_then HK.out (grown_of_below (row := some g) X.below))
      have hz := HTX.out.at_ (foldAt_get (r := r) (k := k) (i := k) (by have := HN.out; omega) (Nat.le_refl _))
      have c0 := hz.1
      have c1 := hz.2
      have f0 := HTX.out.free (k * 2)
      have f1 := HTX.out.free (k * 2 + 1)
      clear hz
      go_wp2_with fail
      go_roundw
      case rel => exact ⟨k + 1, by omega, by go_num, by have := HTX.out.set k (btw r x y); rw [← EX.out, ← EY.out, foldAt_step (by have := HN.out; omega)] at this; rw [← EX.out, ← EY.out]; exact this, grown_two HKX.out _ _ _ _⟩
      case measure => simp [intOf]; omega
    · have hkn : k = n / 2 := by omega
      subst hkn
      go_wp2_with fail
      go_ret
      exact ⟨rfl, by have := HT.out.take (n / 2); rw [HN.out, foldAt_end] at this; exact this, HK.out⟩

set_option maxHeartbeats 1000000 in
theorem clone_any (A : Option Addr) (n c : Nat) (xs : List E2) (w : World) (h : Sl w A n c xs) (hn : n ≤ 65536) (h0 : 0 < n) :
    Calls Try.prog 81 #[.slice A n c] w fun e w' => ∃ g c', e = .returned (.slice (some ⟨g, 0, none⟩) n c') ∧ Tab w' g xs ∧ w.heap.size ≤ g ∧ n ≤ c' ∧ c' ≤ 9223372036854775807 ∧ Below w.heap.size w w' := by
  obtain ⟨x, hx⟩ := h.get h0
  obtain ⟨ad, rfl, _, _⟩ := h.at_ hx
  have HS := Lib.hid h
  clear h hx
  go_enter Try.func81, Try.ntmps81
  go_wp2_with (at_builtin; refine wpList_appendSl rfl (.const (.slice none 0 0)) (.tmp 3) rfl (w.heap.size) _ 0 [] rfl (World.ownsRow_nil w _ _ _) ad n c xs rfl HS.out (by omega) (Nat.le_refl _) ?_; intro v1 w1 hown1 hg1; have HO := Lib.hid hown1; have HB := Lib.hid (below_grown (w0 := w) (Below.refl _ _) hg1 (World.ownsRow_nil w w.heap.size 43 2) (Nat.le_refl _)); clear hown1 hg1)
  rw [Nat.zero_add] at HO
  obtain ⟨g, c', rfl, hg, hc, ht, hT⟩ := HO.out.tab h0
  go_ret
  exact ⟨g, c', rfl, hT, hg, hc, ht, HB.out⟩
end

section
open Go.RowKit Gold

set_option maxHeartbeats 2000000 in
theorem mleBind_any (A : Option Addr) (n c : Nat) (xs : List E2) (r : E2) (w : World) (h : Sl w A n c xs) (hn : n ≤ 65536) (h0 : 0 < n) :
    Calls Try.prog 61 #[.slice A n c, .agg #[.int .u64 (vF r.A), .int .u64 (vF r.B)]] w fun e w' => ∃ g c', e = .returned (.slice (some ⟨g, 0, none⟩) ((n / 2 : Nat)) c') ∧ Tab w' g (bndE xs r) ∧ w.heap.size ≤ g ∧ n / 2 ≤ c' ∧ c' ≤ 9223372036854775807 ∧ Below w.heap.size w w' := by
  have HS := Lib.hid h
  have HL := Lib.hid h.len
  clear h
  go_enter Try.func61, Try.ntmps61
  go_wp2_with fail
  refine wp_named1 (fun V hbV g0 hzV => ?_)
  have HY := Lib.hid (show Two V w.heap.size 43 (.int .u64 (vF r.A)) (.int .u64 (vF r.B)) from g0)
  have HSV := Lib.hid (HS.out.keep hbV)
  have HBV := Lib.hid hbV
  clear g0 hbV HS
  have l0 := LaterB.cell (B := w.heap.size + 1) HY.out.c0 (Nat.lt_succ_self _)
  have l1 := LaterB.cell (B := w.heap.size + 1) HY.out.c1 (Nat.lt_succ_self _)
  refine wp_heldB (w.heap.size + 1) (by kernel_rfl) (lexOK_of (by kernel_rfl) (by kernel_rfl)) (chainOK_of (by kernel_rfl)) (fun W hbW hSW => ?_)
  have HYW := Lib.hid (HY.out.keep hbW)
  have HSl := Lib.hid (HSV.out.keep hbW)
  have HBW := Lib.hid (below_step HBV.out hbW)
  have HSW := Lib.hid hSW
  clear hbW hSW
  refine wpHeld_seg 1 HSW.out (by kernel_rfl) ?_
  simp only [List.take_succ_cons, List.take_zero, List.drop_succ_cons, List.drop_zero]
  repeat (go_big_quiet_step (fail))
  refine wpQuiet_nil ?_
  refine wpHeld_call 81 Try.func81 (by kernel_rfl) (by kernel_rfl) _ _ #[.slice A n c] rfl (by kernel_rfl) (by kernel_rfl) ?_
  refine (clone_any A n c xs _ HSl.out hn h0).mono ?_
  rintro e W1 ⟨g, c', rfl, hT, hg, hc, ht, hb⟩
  have HT1 := Lib.hid hT
  have HY1 := Lib.hid (HYW.out.keep hb)
  have HB1 := Lib.hid (below_step HBW.out hb)
  have hz0 : w.heap.size + 1 ≤ W.heap.size := HYW.out.lt
  have hz1 : w.heap.size + 1 ≤ W1.heap.size := HY1.out.lt
  have hgb : w.heap.size + 1 ≤ g := Nat.le_trans hz0 hg
  have HS1 := Lib.hid (LaterB.step HSW.out (hb.mono hz0))
  clear hb hT hg
  refine ⟨_, rfl, HS1.out, ?_⟩
  simp only [Act.put, List.setIfInBounds_toArray, List.set_cons_zero, List.set_cons_succ]
  refine wpHeld_seg 1 HS1.out (by kernel_rfl) ?_
  simp only [List.take_succ_cons, List.take_zero, List.drop_succ_cons, List.drop_zero]
  repeat (go_big_quiet_step (fail))
  refine wpQuiet_nil ?_
  clear l0 l1
  refine wpHeld_call 82 Try.func82 (by kernel_rfl) (by kernel_rfl) _ _ #[.agg #[.int .u64 (vF r.A), .int .u64 (vF r.B)]] rfl (by kernel_rfl) (by kernel_rfl) ?_
  refine (between_any r _).mono ?_
  rintro e W2 ⟨rfl, rfl⟩
  have hb2 : Below W1.heap.size W1 (W1.alloc (.cells #[.int .u64 (vF r.A), .int .u64 (vF r.B)] 43)) := (Below.refl _ _).alloc (Nat.le_refl _) _
  have HT2 := Lib.hid (HT1.out.keep hb2)
  have HR2 := Lib.hid (Two.new W1 43 (.int .u64 (vF r.A)) (.int .u64 (vF r.B)))
  have HB2 := Lib.hid (below_step HB1.out hb2)
  have HS2 := Lib.hid (LaterB.step HS1.out (hb2.mono hz1))
  have hne : W1.heap.size ≠ g := Nat.ne_of_gt HT1.out.lt
  have hz2 : w.heap.size + 1 ≤ (W1.alloc (.cells #[.int .u64 (vF r.A), .int .u64 (vF r.B)] 43)).heap.size := Nat.le_trans hz1 hb2.size
  clear hb2
  refine ⟨_, rfl, HS2.out, ?_⟩
  simp only [Act.put, List.setIfInBounds_toArray, List.set_cons_zero, List.set_cons_succ]
  generalize W1.alloc (.cells #[.int .u64 (vF r.A), .int .u64 (vF r.B)] 43) = W2 at *
  refine wpHeld_call 80 Try.func80 (by kernel_rfl) (by kernel_rfl) _ _ #[.slice (some ⟨g, 0, none⟩) n c', .func (.func 93) #[] #[.pointer (some ⟨W1.heap.size, 0, none⟩)]] rfl (by kernel_rfl) (by kernel_rfl) ?_
  refine (fold_any r W1.heap.size g n c' xs W2 HT2.out HR2.out hne HL.out hn hc ht).mono ?_
  rintro e W3 ⟨rfl, hT3, hg3⟩
  have HT3 := Lib.hid hT3
  have HB3 := Lib.hid (below_of_grown HB2.out hg3 (by omega) (by omega))
  have HS3 := Lib.hid (LaterB.step HS2.out (Below.grown (Below.refl (w.heap.size + 1) _) hg3 hz2 (fun q hq => by cases hq; exact hgb)))
  clear hT3 hg3
  refine ⟨_, rfl, HS3.out, ?_⟩
  simp only [Act.put, List.setIfInBounds_toArray, List.set_cons_zero, List.set_cons_succ]
  refine wpHeld_seg 1 HS3.out (by kernel_rfl) ?_
  simp only [List.take_succ_cons, List.take_zero, List.drop_succ_cons, List.drop_zero]
  repeat (go_big_quiet_step (fail))
  refine wpQuiet_nil (wpHeld_nil ?_)
  go_wp2_with fail
  go_ret
  exact ⟨g, c', rfl, HT3.out, by omega, by omega, ht, HB3.out⟩

end

end Go.Proofs.Ytombcjdhjcmhhaa

/- Contracts of package mle: variables, allValid, Valid, Lift, vertex; no conditions but lengths. -/
namespace Go.Proofs.Ytombcjdhjcmhhaa
set_option maxRecDepth 8000
open Go.RowKit Gold

theorem int_pow_eq {n k : Nat} (h : n = 2 ^ k) : ((n : Int) == 2 ^ k) = true := by rw [beq_iff_eq, h, Int.natCast_pow]; rfl
theorem int_pow_ne {n k : Nat} (h : n ≠ 2 ^ k) : ((n : Int) == 2 ^ k) = false := by
  rw [beq_eq_false_iff_ne]
  intro e
  apply h
  have e2 : ((2 ^ k : Nat) : Int) = (2 : Int) ^ k := by rw [Int.natCast_pow]; rfl
  rw [← e2] at e
  exact Int.ofNat.inj e
theorem int_wpow_eq {n k : Nat} (hk : k ≤ 62) (h : n = 2 ^ k) : ((n : Int) == wrap64 (2 ^ k)) = true := by rw [wrap_pow2 hk, beq_iff_eq, h]
theorem int_wpow_ne {n k : Nat} (hk : k ≤ 62) (h : n ≠ 2 ^ k) : ((n : Int) == wrap64 (2 ^ k)) = false := by
  rw [wrap_pow2 hk, beq_eq_false_iff_ne]
  exact fun e => h (Int.ofNat.inj e)
set_option maxHeartbeats 1000000 in
theorem variables_yes (n K : Nat) (w : World) (hn : n = 2 ^ K) (hK : K ≤ 16) : Calls Try.prog 77 #[.int .i64 (n : Int)] w fun e w' => e = .returned (.tuple #[.int .i64 (K : Int), .bool true]) ∧ w' = w := by
  have HN := Lib.hid hn
  clear hn
  go_enter Try.func77, Try.ntmps77
  go_wp2_with fail
  go_loopw [5] (fun s wr => ∃ k : Nat, k ≤ K ∧ s = .int .i64 k ∧ wr = w) (fun s _ => 17 - (intOf s).toNat)
  case atStart => exact ⟨0, Nat.zero_le _, rfl, rfl⟩
  case round =>
    obtain ⟨k, hk, rfl, rfl⟩ := hrel
    have k17 : (k : Int) < 17 := by omega
    by_cases e : k = K
    · subst e
      have he := int_wpow_eq (by omega) HN.out
      go_wp2_with fail
      go_ret2
      exact ⟨rfl, rfl⟩
    · have he := int_wpow_ne (n := n) (k := k) (by omega) (fun h => e (pow2_inj (h.symm.trans HN.out)))
      go_wp2_with fail
      go_roundw
      case rel => exact ⟨k + 1, by omega, by go_num, trivial⟩
      case measure => simp [intOf]; omega
set_option maxHeartbeats 1000000 in
theorem variables_no (n : Nat) (w : World) (hn : ∀ K : Nat, K ≤ 16 → n ≠ 2 ^ K) : Calls Try.prog 77 #[.int .i64 (n : Int)] w fun e w' => e = .returned (.tuple #[.int .i64 0, .bool false]) ∧ w' = w := by
  have HN := Lib.hid hn
  clear hn
  go_enter Try.func77, Try.ntmps77
  go_wp2_with fail
  go_loopw [5] (fun s wr => ∃ k : Nat, k ≤ 17 ∧ s = .int .i64 k ∧ wr = w) (fun s _ => 17 - (intOf s).toNat)
  case atStart => exact ⟨0, Nat.zero_le _, rfl, rfl⟩
  case round =>
    obtain ⟨k, hk, rfl, rfl⟩ := hrel
    by_cases e : k < 17
    · have k17 : (k : Int) < 17 := by omega
      have he := int_wpow_ne (n := n) (k := k) (by omega) (HN.out k (by omega))
      go_wp2_with fail
      go_roundw
      case rel => exact ⟨k + 1, by omega, by go_num, trivial⟩
      case measure => simp [intOf]; omega
    · have hk17 : k = 17 := by omega
      subst hk17
      go_wp2_with fail
      go_ret2
      exact ⟨rfl, rfl⟩

/-- a slice value that reads as pairs of words -/
def SlW (w : World) (A : Option Addr) (n c : Nat) (qs : List (Int × Int)) : Prop := SlR w A n c (qs.map fun q => (.int .u64 q.1, .int .u64 q.2))
theorem SlW.len {w : World} {A : Option Addr} {n c : Nat} {qs : List (Int × Int)} (h : SlW w A n c qs) : n = qs.length := by simpa using SlR.len h
theorem SlW.keep {w w' : World} {A : Option Addr} {n c : Nat} {qs : List (Int × Int)} (h : SlW w A n c qs) (hb : Below w.heap.size w w') : SlW w' A n c qs := SlR.keep h hb
theorem SlW.get {w : World} {A : Option Addr} {n c i : Nat} {qs : List (Int × Int)} (h : SlW w A n c qs) (hi : i < n) : ∃ q, qs[i]? = some q := ⟨qs[i]'(by have := h.len; omega), List.getElem?_eq_getElem _⟩
theorem SlW.at_ {w : World} {A : Option Addr} {n c i : Nat} {qs : List (Int × Int)} {q : Int × Int} (h : SlW w A n c qs) (hq : qs[i]? = some q) : ∃ ad, A = some ad ∧ w.cell? (ad.add (i * 2)) = some (.int .u64 q.1) ∧ w.cell? ⟨(ad.add (i * 2)).block, (ad.add (i * 2)).off + 1, none⟩ = some (.int .u64 q.2) := by
  obtain ⟨ad, e, h1, h2⟩ := SlR.cells h i (.int .u64 q.1, .int .u64 q.2) (by simp [hq])
  exact ⟨ad, e, h1, h2⟩
theorem SlW.of {w : World} {A : Option Addr} {n c : Nat} {xs : List E2} (h : Sl w A n c xs) : SlW w A n c (xs.map fun x => (vF x.A, vF x.B)) := by
  unfold SlW
  rw [List.map_map]
  exact h
/-- are all pairs elements? -/
def allV (qs : List (Int × Int)) : Bool := qs.all fun q => evalid q.1 q.2
theorem allV_E2 (xs : List E2) : allV (xs.map fun x => (vF x.A, vF x.B)) = true := by
  unfold allV
  rw [List.all_eq_true]
  intro q hq
  rw [List.mem_map] at hq
  obtain ⟨x, _, rfl⟩ := hq
  exact evalid_E2 x
theorem allV_no {qs : List (Int × Int)} {i : Nat} {q : Int × Int} (h : qs[i]? = some q) (hv : evalid q.1 q.2 = false) : allV qs = false := by
  unfold allV
  rw [← Bool.not_eq_true, List.all_eq_true]
  intro hall
  rw [hall q (List.mem_of_getElem? h)] at hv
  cases hv

set_option maxHeartbeats 1000000 in
theorem allValid_any (A : Option Addr) (n c : Nat) (qs : List (Int × Int)) (w : World) (h : SlW w A n c qs) (hn : n ≤ 65536) :
    Calls Try.prog 78 #[.slice A n c] w fun e w' => e = .returned (.bool (allV qs)) ∧ Below w.heap.size w w' := by
  have HS := Lib.hid h
  have HL := Lib.hid h.len
  clear h
  go_enter Try.func78, Try.ntmps78
  go_wp2_with fail
  go_loopw [7] (fun s wr => ∃ k : Nat, k ≤ n ∧ s = .int .i64 k ∧ (∀ i q, i < k → qs[i]? = some q → evalid q.1 q.2 = true) ∧ Below w.heap.size w wr) (fun s _ => n - (intOf s).toNat)
  case atStart => exact ⟨0, Nat.zero_le _, rfl, fun i q hi => absurd hi (Nat.not_lt_zero _), Below.refl _ _⟩
  case round =>
    obtain ⟨k, hk, rfl, hall, hb⟩ := hrel
    have HA := Lib.hid hall
    have HB := Lib.hid hb
    clear hall hb
    by_cases hlt : k < n
    · obtain ⟨q, hq⟩ := HS.out.get hlt
      obtain ⟨ad, rfl, h0, h1⟩ := HS.out.at_ hq
      have k0 := cell_keep h0 HB.out
      have k1 := cell_keep h1 HB.out
      have HQ := Lib.hid hq
      clear hq h0 h1
      have hk1 : (k : Int) < (n : Int) := by omega
      go_wp2_with fail
      clear k0 k1
      refine calls_named1 (fun V hbV g0 hzV => ?_)
      have HBV := Lib.hid (below_step HB.out hbV)
      clear hbV g0
      refine (extValid_any q.1 q.2 _).mono ?_
      rintro e W1 ⟨rfl, hb⟩
      have HB1 := Lib.hid (below_step HBV.out hb)
      clear hb
      cases hv : evalid q.1 q.2 with
      | true =>
        have HV := Lib.hid hv
        clear hv
        go_wp2_with fail
        go_roundw
        case rel => exact ⟨k + 1, by omega, by go_num, fun i r hi hr => by
          by_cases e : i = k
          · subst e
            rw [HQ.out] at hr
            injection hr with hr
            subst hr
            exact HV.out
          · exact HA.out i r (by omega) hr, HB1.out⟩
        case measure => simp [intOf]; omega
      | false =>
        have HV := Lib.hid (allV_no HQ.out hv)
        clear hv
        go_wp2_with fail
        go_ret
        exact ⟨by rw [HV.out]; rfl, HB1.out⟩
    · have hkn : k = n := by omega
      subst hkn
      have HV := Lib.hid (show allV qs = true by
        unfold allV
        rw [List.all_eq_true]
        intro q hq
        obtain ⟨i, hi, he⟩ := List.getElem_of_mem hq
        exact HA.out i q (by rw [HL.out]; exact hi) (by rw [List.getElem?_eq_getElem hi, he]))
      go_wp2_with fail
      go_ret
      exact ⟨by rw [HV.out]; rfl, HB.out⟩

set_option maxHeartbeats 1000000 in
theorem mleValid_no (A : Option Addr) (n c : Nat) (w : World) (hn : ∀ K : Nat, K ≤ 16 → n ≠ 2 ^ K) :
    Calls Try.prog 58 #[.slice A n c] w fun e w' => e = .returned (.tuple #[.int .i64 0, .bool false]) ∧ Below w.heap.size w w' := by
  have HN := Lib.hid hn
  clear hn
  go_enter Try.func58, Try.ntmps58
  go_wp2_with fail
  refine (variables_no n w HN.out).mono ?_
  rintro e W1 ⟨rfl, rfl⟩
  go_wp2_with fail
  go_ret2
  exact ⟨rfl, Below.refl _ _⟩
set_option maxHeartbeats 1000000 in
theorem mleValid_yes (A : Option Addr) (n c K : Nat) (qs : List (Int × Int)) (w : World) (h : SlW w A n c qs) (hn : n = 2 ^ K) (hK : K ≤ 16) (hv : allV qs = true) :
    Calls Try.prog 58 #[.slice A n c] w fun e w' => e = .returned (.tuple #[.int .i64 (K : Int), .bool true]) ∧ Below w.heap.size w w' := by
  have HN := Lib.hid hn
  have HS := Lib.hid h
  have HV := Lib.hid hv
  clear hn h hv
  go_enter Try.func58, Try.ntmps58
  go_wp2_with fail
  refine (variables_yes n K w HN.out hK).mono ?_
  rintro e W1 ⟨rfl, rfl⟩
  go_wp2_with fail
  have hc := allValid_any A n c qs W1 HS.out (by rw [HN.out]; exact Nat.pow_le_pow_right (n := 2) (by omega) hK)
  rw [HV.out] at hc
  refine hc.mono ?_
  rintro e W2 ⟨rfl, hb⟩
  have HB := Lib.hid hb
  clear hb hc
  go_wp2_with fail
  go_ret2
  exact ⟨rfl, HB.out⟩
set_option maxHeartbeats 1000000 in
theorem mleValid_bad (A : Option Addr) (n c K : Nat) (qs : List (Int × Int)) (w : World) (h : SlW w A n c qs) (hn : n = 2 ^ K) (hK : K ≤ 16) (hv : allV qs = false) :
    Calls Try.prog 58 #[.slice A n c] w fun e w' => e = .returned (.tuple #[.int .i64 0, .bool false]) ∧ Below w.heap.size w w' := by
  have HN := Lib.hid hn
  have HS := Lib.hid h
  have HV := Lib.hid hv
  clear hn h hv
  go_enter Try.func58, Try.ntmps58
  go_wp2_with fail
  refine (variables_yes n K w HN.out hK).mono ?_
  rintro e W1 ⟨rfl, rfl⟩
  go_wp2_with fail
  have hc := allValid_any A n c qs W1 HS.out (by rw [HN.out]; exact Nat.pow_le_pow_right (n := 2) (by omega) hK)
  rw [HV.out] at hc
  refine hc.mono ?_
  rintro e W2 ⟨rfl, hb⟩
  have HB := Lib.hid hb
  clear hb hc
  go_wp2_with fail
  go_ret2
  exact ⟨rfl, HB.out⟩


end Go.Proofs.Ytombcjdhjcmhhaa

/- Contracts of package mle and of its reference: vertices; no conditions but lengths. -/
namespace Go.Proofs.Ytombcjdhjcmhhaa
set_option maxRecDepth 8000
open Go.RowKit Gold

theorem shr_and (i k : Nat) (hi : i < 9223372036854775808) : bits .and .i64 ((i : Int) / 2 ^ k) 1 = ((i / 2 ^ k % 2 : Nat) : Int) := by
  have e : ((i : Int) / 2 ^ k) = ((i / 2 ^ k : Nat) : Int) := by rw [Int.natCast_ediv, Int.natCast_pow]; rfl
  have hl : i / 2 ^ k ≤ i := Nat.div_le_self _ _
  have h := bits_and_i64_nat (i / 2 ^ k) 1 (by omega) (by omega)
  rw [e, ← Nat.and_one_is_mod]
  exact h
theorem extFromBit (i k : Nat) (w : World) (hi : i ≤ 4611686018427387904) : Calls Try.prog 105 #[.int .i64 (bits .and .i64 ((i : Int) / 2 ^ k) 1)] w fun e w' => e = .returned (.agg #[.int .u64 (vF (bitE (i / 2 ^ k)).A), .int .u64 (vF (bitE (i / 2 ^ k)).B)]) ∧ Below w.heap.size w w' := by
  rw [shr_and i k (by omega)]
  exact extFromInt_any _ w (by omega) (by omega)
theorem rFromBit (i k : Nat) (w : World) (hi : i ≤ 4611686018427387904) : Calls Try.prog 37 #[.int .i64 (bits .and .i64 ((i : Int) / 2 ^ k) 1)] w fun e w' => e = .returned (.agg #[.int .u64 (vF (bitE (i / 2 ^ k)).A), .int .u64 (vF (bitE (i / 2 ^ k)).B)]) ∧ Below w.heap.size w w' := by
  rw [shr_and i k (by omega)]
  exact rFromInt_any _ w (by omega) (by omega)

set_option maxHeartbeats 1000000 in
theorem rVertex_any (i n : Nat) (w : World) (hi : i ≤ 4611686018427387904) (hn : n ≤ 62) :
    Calls Try.prog 68 #[.int .i64 (i : Int), .int .i64 (n : Int)] w fun e w' => ∃ A c, e = .returned (.slice A n c) ∧ Sl w' A n c (vtx i n) ∧ Below w.heap.size w w' := by
  go_enter Try.func68, Try.ntmps68
  go_wp2_with fail
  go_loopw [5, 6] (fun v s wr => ∃ k : Nat, k ≤ n ∧ s = .int .i64 k ∧ OwE wr w.heap.size v k (tabE k fun k => bitE (i / 2 ^ k)) ∧ Below w.heap.size w wr) (fun _ s _ => n - (intOf s).toNat)
  case atStart => exact ⟨0, Nat.zero_le _, rfl, OwE.made w w.heap.size (Nat.le_refl _), (Below.refl _ _).alloc (Nat.le_refl _) _⟩
  case round =>
    obtain ⟨k, hk, rfl, ho, hb⟩ := hrel
    have HO := Lib.hid ho
    have HB := Lib.hid hb
    clear ho hb
    by_cases hlt : k < n
    · have hk1 : (k : Int) < (n : Int) := by omega
      have hk0 : (0 : Int) ≤ (k : Int) := by omega
      go_wp2_with fail
      have hfb := rFromBit i k wr hi
      with_reducible refine hfb.mono ?_
      rintro e W1 ⟨rfl, hb⟩
      have HO1 := Lib.hid (HO.out.keep hb)
      have HB1 := Lib.hid (below_step HB.out hb)
      clear hb
      go_wp2_with (at_builtin; refine wpList_appendE rfl (.tmp 13) (.tmp 19) rfl (w.heap.size) _ k _ rfl (HO1.out.keep ((Below.refl _ _).alloc (Nat.le_refl _) _)) W1.heap.size 1 (bitE (i / 2 ^ k)) rfl (Two.new W1 _ _ _) (by omega) (by have := HB1.out.size; simp; omega) ?_; intro v1 w1 hown1 hg1; have HO2 := Lib.hid hown1; have HB2 := Lib.hid (below_grown (w0 := w) (HB1.out.alloc HB1.out.size _) hg1 (HO1.out.keep ((Below.refl _ _).alloc (Nat.le_refl _) _)) (Nat.le_refl _)); clear hown1 hg1)
      go_roundw
      case rel => exact ⟨k + 1, by omega, by go_num, by rw [tabE_succ]; exact HO2.out, HB2.out⟩
      case measure => simp [intOf]; omega
    · have hkn : k = n := by omega
      subst hkn
      obtain ⟨A1, c1, rfl, hs1⟩ := HO.out.sl
      have HSQ := Lib.hid hs1
      clear hs1
      go_wp2_with fail
      go_ret
      exact ⟨A1, c1, rfl, HSQ.out, HB.out⟩

end Go.Proofs.Ytombcjdhjcmhhaa

/- Contracts of package mle: the iterator over the coordinates of two points; no conditions but that its functions only add to memory. -/
namespace Go.Proofs.Ytombcjdhjcmhhaa
set_option maxRecDepth 8000
open Go.RowKit Gold
open Go.Shelf
attribute [local go_sem] Oper.semAt_some

theorem zip_take_succ {α β γ : Type} {f : α → β → γ} {xs : List α} {ys : List β} {k : Nat} {x : α} {y : β} (hx : xs[k]? = some x) (hy : ys[k]? = some y) : List.zipWith f (xs.take (k + 1)) (ys.take (k + 1)) = List.zipWith f (xs.take k) (ys.take k) ++ [f x y] := by
  obtain ⟨h1, e1⟩ := List.getElem?_eq_some_iff.1 hx
  obtain ⟨h2, e2⟩ := List.getElem?_eq_some_iff.1 hy
  rw [List.take_succ_eq_append_getElem h1, List.take_succ_eq_append_getElem h2, List.zipWith_append (by simp; omega), e1, e2]
  rfl

end Go.Proofs.Ytombcjdhjcmhhaa

/- Contracts of package mle: the equality polynomial; no conditions but lengths. Contracts of package mle: points of lines; no conditions but lengths. Contracts of package mle: the weights of indices, streaming; no conditions but lengths. -/
namespace Go.Proofs.Ytombcjdhjcmhhaa
set_option maxRecDepth 8000
section
open Go.RowKit Gold
open Go.Shelf
attribute [local go_sem] Oper.semAt_some

theorem one_at {W : World} {b : Nat} {t : TypeId} {u : Value} (e : b = W.heap.size) : One (W.alloc (.cells #[u] t)) b t u := e ▸ One.new W t u
theorem keepsOthers_of {W W1 : World} (hb : Below W.heap.size W W1) : KeepsOthers W W1 := ⟨hb.size, fun _ _ hk _ => heap_keep hk hb⟩
theorem own_two {β : Type} (b : Nat) (t : TypeId) (f g : β → Value) : Own (fun s W => Two W b t (f s) (g s)) := fun _ _ _ _ hs hg hr => (grownBy_keeps_cells hg hr hs rfl).trans hs
theorem own_one {β : Type} (b : Nat) (t : TypeId) (f : β → Value) : Own (fun s W => One W b t (f s)) := fun _ _ _ _ hs hg hr => (grownBy_keeps_cells hg hr hs rfl).trans hs
theorem own_both {β : Type} {I J : β → World → Prop} (h : Own I) (k : Own J) : Own (fun s W => I s W ∧ J s W) := fun s X Y row hs hg hr => ⟨h s X Y row hs.1 hg hr, k s X Y row hs.2 hg hr⟩
theorem wpIn_named {F : Fence} {m : Nat} {P : Program} {c : Code} {Q : Exit → Act → World → Prop} {a : Act} {w : World} (K : World → Prop) (hK : K w) (h : ∀ W, K W → c.wpIn F m P Q a W) : c.wpIn F m P Q a w := h w hK

end

section
open Go.RowKit Gold
open Go.Shelf
attribute [local go_sem] Oper.semAt_some

theorem below_grown0 {w0 w w' : World} (hb : Below w0.heap.size w0 w) (h : w.grownBy w' none) : Below w0.heap.size w0 w' := hb.trans (Below.grown (Below.refl _ w) h hb.size (fun q hq => by cases hq))
theorem two_at {W : World} {b : Nat} {t : TypeId} {u v : Value} (e : b = W.heap.size) : Two (W.alloc (.cells #[u, v] t)) b t u v := e ▸ Two.new W t u v
theorem cells_two {w : World} {g : Nat} {y : E2} {t : TypeId} (hy : Two w g t (.int .u64 (vF y.A)) (.int .u64 (vF y.B))) (j : Nat) (u : Value) (hj : [Value.int .u64 (vF y.A), Value.int .u64 (vF y.B)][j]? = some u) : w.cell? ((⟨g, 0, none⟩ : Addr).add j) = some u := by
  rw [add_base]
  match j, hj with
  | 0, hj => injection hj with hj; subst hj; exact hy.c0
  | 1, hj => injection hj with hj; subst hj; exact hy.c1
  | j + 2, hj => simp at hj
theorem cells_ones {y : E2} (u : Value) (hu : u ∈ [Value.int .u64 (vF y.A), Value.int .u64 (vF y.B)]) : u.oneCell' = true := by
  simp at hu
  rcases hu with rfl | rfl <;> rfl
end

section
open Go.RowKit Gold


end

end Go.Proofs.Ytombcjdhjcmhhaa

/- Contracts of package mle: the table of the weights; no conditions but lengths. -/
namespace Go.Proofs.Ytombcjdhjcmhhaa
set_option maxRecDepth 8000
open Go.RowKit Gold

/-- the weights of the first k coordinates -/
def wtAt (ps : List E2) (k p : Nat) : E2 := if p < 2 ^ k then eqW p (ps.take k) else E2.zero
/-- under way: t of them have been split by coordinate k -/
def wtIn (ps : List E2) (k t p : Nat) : E2 := if p < t ∨ (2 ^ k ≤ p ∧ p < 2 ^ k + t) then eqW p (ps.take (k + 1)) else wtAt ps k p
theorem wtIn_zero (ps : List E2) (k p : Nat) : wtIn ps k 0 p = wtAt ps k p := by unfold wtIn; rw [if_neg (by omega)]
theorem wtIn_end (ps : List E2) (k p : Nat) : wtIn ps k (2 ^ k) p = wtAt ps (k + 1) p := by
  unfold wtIn wtAt
  by_cases h : p < 2 ^ (k + 1)
  · rw [if_pos h, if_pos (by rw [Nat.pow_succ] at h; omega)]
  · rw [if_neg h, if_neg (by rw [Nat.pow_succ] at h; omega), if_neg (by rw [Nat.pow_succ] at h; omega)]
theorem wtIn_low {ps : List E2} {k t : Nat} (h : t < 2 ^ k) : wtIn ps k t t = eqW t (ps.take k) := by
  unfold wtIn wtAt
  rw [if_neg (by omega), if_pos h]
theorem wtIn_step {ps : List E2} {k t N : Nat} {r : E2} (hr : ps[k]? = some r) (ht : t < 2 ^ k) :
    ((tabE N (wtIn ps k t)).set (2 ^ k + t) (eqW t (ps.take k) * r)).set t (eqW t (ps.take k) - eqW t (ps.take k) * r) = tabE N (wtIn ps k (t + 1)) := by
  obtain ⟨hl, he⟩ := List.getElem?_eq_some_iff.1 hr
  have htk : (ps.take k).length = k := by rw [List.length_take]; omega
  have hsn : ps.take (k + 1) = ps.take k ++ [r] := by rw [List.take_succ_eq_append_getElem hl, he]
  have h1 : eqW t (ps.take (k + 1)) = eqW t (ps.take k) - eqW t (ps.take k) * r := by rw [hsn, eqW_low (by rw [htk]; exact ht)]
  have h2 : eqW (2 ^ k + t) (ps.take (k + 1)) = eqW t (ps.take k) * r := by
    have := eqW_high (p := ps.take k) (r := r) (i := t) (by rw [htk]; exact ht)
    rw [htk, Nat.add_comm] at this
    rw [hsn, this]
  apply List.ext_getElem?
  intro p
  rw [List.getElem?_set, List.getElem?_set, List.length_set, tabE_length]
  by_cases hp : p < N
  · rw [tabE_get _ hp, tabE_get _ hp]
    by_cases e1 : t = p
    · subst e1
      rw [if_pos rfl, if_pos hp, ← h1]
      unfold wtIn
      rw [if_pos (Or.inl (Nat.lt_succ_self _))]
    · rw [if_neg e1]
      by_cases e2 : 2 ^ k + t = p
      · subst e2
        rw [if_pos rfl, if_pos hp, ← h2]
        unfold wtIn
        rw [if_pos (Or.inr (by omega))]
      · rw [if_neg e2]
        unfold wtIn
        by_cases c : p < t ∨ (2 ^ k ≤ p ∧ p < 2 ^ k + t)
        · rw [if_pos c, if_pos (by omega)]
        · rw [if_neg c, if_neg (by omega)]
  · rw [List.getElem?_eq_none (l := tabE N (wtIn ps k t)) (by rw [tabE_length]; omega), List.getElem?_eq_none (l := tabE N (wtIn ps k (t + 1))) (by rw [tabE_length]; omega)]
    by_cases e1 : t = p
    · rw [if_pos e1, if_neg (by omega)]
    · rw [if_neg e1]
      by_cases e2 : 2 ^ k + t = p
      · rw [if_pos e2, if_neg (by omega)]
      · rw [if_neg e2]
theorem wtAt_first {N : Nat} (ps : List E2) (hN : 0 < N) : (List.replicate N E2.zero).set 0 E2.one = tabE N (wtAt ps 0) := by
  apply List.ext_getElem?
  intro p
  rw [List.getElem?_set, List.length_replicate]
  by_cases hp : p < N
  · rw [tabE_get _ hp]
    unfold wtAt
    by_cases e : 0 = p
    · subst e
      rw [if_pos rfl, if_pos hN]
      rfl
    · rw [if_neg e, if_neg (by simp; omega), List.getElem?_replicate, if_pos hp]
  · rw [List.getElem?_eq_none (l := tabE N (wtAt ps 0)) (by rw [tabE_length]; omega)]
    by_cases e : 0 = p
    · omega
    · rw [if_neg e, List.getElem?_replicate, if_neg hp]
theorem wtAt_last {ps : List E2} {n : Nat} (h : ps.length = n) : tabE (2 ^ n) (wtAt ps n) = eqT ps := by
  unfold eqT
  rw [h]
  refine tabE_congr fun p hp => ?_
  unfold wtAt
  rw [if_pos hp, List.take_of_length_le (by omega)]


end Go.Proofs.Ytombcjdhjcmhhaa
