/- Contracts of package mle, its parts: one, between, agreement; a table at the head of a block; no conditions but that slices lie in memory as the package's own calls lay them. -/
import Derived.Test.YtipbfonlcmegdaaMleM
import Derived.Test.YtipbfonlcmegdaaApp
import Derived.Test.YtipbfonlcmegdaaExtU
namespace Go.Proofs.Ytipbfonlcmegdaa
set_option maxRecDepth 8000
open Go.RowKit Gold

theorem grown_of_below {w w' : World} {row : Option Nat} (h : Below w.heap.size w w') : w.grownBy w' row := ⟨h.os, h.tape, h.output, h.size, fun k hk _ => h.block k hk⟩
theorem grown_then {a b c : World} {row : Option Nat} (h : a.grownBy b row) (k : b.grownBy c row) : a.grownBy c row :=
  ⟨k.os.trans h.os, k.tape.trans h.tape, k.output.trans h.output, Nat.le_trans h.size k.size, fun i hi hn => (k.block i (Nat.lt_of_lt_of_le hi h.size) hn).trans (h.block i hi hn)⟩
theorem grown_cell (w : World) (g i : Nat) (v : Value) : w.grownBy (w.setCell ⟨g, i, none⟩ v) (some g) :=
  ⟨rfl, rfl, rfl, by simp [World.setCell], fun k _ hn => Below.heap_setCell _ _ _ _ (fun e => hn (by rw [e]))⟩
theorem grown_two {a b : World} {g : Nat} (h : a.grownBy b (some g)) (i j : Nat) (u v : Value) : a.grownBy ((b.setCell ⟨g, i, none⟩ u).setCell ⟨g, j, none⟩ v) (some g) := grown_then (grown_then h (grown_cell _ _ _ _)) (grown_cell _ _ _ _)
theorem below_of_grown {B g : Nat} {w w1 w2 : World} (h : Below B w w1) (k : w1.grownBy w2 (some g)) (hg : B ≤ g) (hB : B ≤ w1.heap.size) : Below B w w2 := h.trans (Below.grown (Below.refl B w1) k hB (fun q hq => by cases hq; exact hg))
theorem heap_other {w w' : World} {g b : Nat} {o : Obj} (h : w.heap[b]? = some o) (k : w.grownBy w' (some g)) (e : b ≠ g) : w'.heap[b]? = some o := (k.block b (Array.getElem?_eq_some_iff.1 h).1 (fun q => by cases q; exact e rfl)).trans h
theorem Two.other {w w' : World} {g b : Nat} {t : TypeId} {u v : Value} (h : Two w b t u v) (k : w.grownBy w' (some g)) (e : b ≠ g) : Two w' b t u v := heap_other h k e
theorem One.other {w w' : World} {g b : Nat} {t : TypeId} {u : Value} (h : One w b t u) (k : w.grownBy w' (some g)) (e : b ≠ g) : One w' b t u := heap_other h k e

/-- block g begins with the elements xs -/
def Tab (w : World) (g : Nat) (xs : List E2) : Prop := ∃ cur : List Value, w.heap[g]? = some (.cells cur.toArray 27 (0, 0)) ∧ cur.take (xs.length * 2) = cellsE xs
section
variable {w w' : World} {g : Nat} {xs : List E2}
theorem Tab.lt (h : Tab w g xs) : g < w.heap.size := by obtain ⟨cur, h1, _⟩ := h; exact (Array.getElem?_eq_some_iff.1 h1).1
theorem Tab.keep (h : Tab w g xs) (hb : Below w.heap.size w w') : Tab w' g xs := by obtain ⟨cur, h1, h2⟩ := h; exact ⟨cur, heap_keep h1 hb, h2⟩
theorem Tab.other {g' : Nat} (h : Tab w g xs) (k : w.grownBy w' (some g')) (e : g ≠ g') : Tab w' g xs := by obtain ⟨cur, h1, h2⟩ := h; exact ⟨cur, heap_other h1 k e, h2⟩
theorem Tab.far (h : Tab w g xs) {a : Addr} (x : Value) (e : g ≠ a.block) : Tab (w.setCell a x) g xs := by obtain ⟨cur, h1, h2⟩ := h; exact ⟨cur, (Below.heap_setCell w a x g e).trans h1, h2⟩
theorem Tab.of_row (h : Row w g xs) : Tab w g xs := ⟨cellsE xs, h, by rw [← cellsE_length]; exact List.take_length⟩
theorem Tab.at_ {i : Nat} {x : E2} (h : Tab w g xs) (hx : xs[i]? = some x) : w.cell? ⟨g, i * 2, none⟩ = some (.int .u64 (vF x.A)) ∧ w.cell? ⟨g, i * 2 + 1, none⟩ = some (.int .u64 (vF x.B)) := by
  obtain ⟨cur, h1, h2⟩ := h
  have hl := (List.getElem?_eq_some_iff.1 hx).1
  have key : ∀ k u, (cellsE xs)[k]? = some u → w.cell? ⟨g, k, none⟩ = some u := fun k u hu => by
    rw [← h2] at hu
    have hk := (List.getElem?_eq_some_iff.1 hu).1
    rw [List.getElem?_take_of_lt (by simp at hk; omega)] at hu
    simpa [World.cell?, h1] using hu
  exact ⟨key _ _ (cellsE_even hx), key _ _ (cellsE_odd hx)⟩
theorem Tab.free (h : Tab w g xs) (k : Nat) : w.frozen? ⟨g, k, none⟩ = false := by
  obtain ⟨cur, h1, _⟩ := h
  simp [World.frozen?, h1]
theorem Tab.set (h : Tab w g xs) (i : Nat) (x : E2) : Tab ((w.setCell ⟨g, i * 2, none⟩ (.int .u64 (vF x.A))).setCell ⟨g, i * 2 + 1, none⟩ (.int .u64 (vF x.B))) g (xs.set i x) := by
  obtain ⟨cur, h1, h2⟩ := h
  have k1 := heap_setCell_at (i := i * 2) h1 (.int .u64 (vF x.A))
  have k2 := heap_setCell_at (i := i * 2 + 1) k1 (.int .u64 (vF x.B))
  refine ⟨(cur.set (i * 2) (.int .u64 (vF x.A))).set (i * 2 + 1) (.int .u64 (vF x.B)), ?_, ?_⟩
  · rw [k2]; simp
  · rw [← cellsE_set, List.length_set, List.take_set, List.take_set, h2]
theorem Tab.take (h : Tab w g xs) (k : Nat) : Tab w g (xs.take k) := by
  obtain ⟨cur, h1, h2⟩ := h
  refine ⟨cur, h1, ?_⟩
  have e : cellsE (xs.take k) = (cellsE xs).take ((xs.take k).length * 2) := by
    have e1 : cellsE xs = cellsE (xs.take k) ++ cellsE (xs.drop k) := by rw [← cellsE_append, List.take_append_drop]
    rw [e1, ← cellsE_length, List.take_left]
  rw [e, ← h2, List.take_take]
  congr 1
  rw [List.length_take]
  omega
theorem Tab.cast {ys : List E2} (h : Tab w g xs) (e : xs = ys) : Tab w g ys := e ▸ h
theorem Tab.sl {n c : Nat} (h : Tab w g xs) (hn : n = xs.length) (hc : n ≤ c) (ht : c ≤ 9223372036854775807) : Sl w (some ⟨g, 0, none⟩) n c xs := by
  refine ⟨by simpa using hn, hc, ht, (fun e => by cases e), fun i p hp => ⟨_, rfl, ?_⟩⟩
  rw [List.getElem?_map] at hp
  cases hx : xs[i]? with
  | none => rw [hx] at hp; cases hp
  | some x =>
    rw [hx] at hp
    injection hp with hp
    subst hp
    obtain ⟨k1, k2⟩ := h.at_ hx
    unfold AtV
    rw [add_base]
    exact ⟨k1, k2⟩
end
/-- a slice of the call's own that is not empty -/
theorem OwE.tab {w : World} {base n : Nat} {v : Value} {xs : List E2} (h : OwE w base v n xs) (hn : 0 < n) : ∃ g c, v = .slice (some ⟨g, 0, none⟩) n c ∧ base ≤ g ∧ n ≤ c ∧ c ≤ 9223372036854775807 ∧ Tab w g xs := by
  have hl := h.len
  rcases h.2 with ⟨rfl, rfl⟩ | ⟨g, cap, cur, rfl, hb, hg, hc, hm, hs, ht⟩
  · omega
  · unfold maxLen at hm
    exact ⟨g, cap, rfl, hb, hc, by omega, cur.toList, by simpa using hg, by rw [← hl]; simpa using ht⟩

set_option maxHeartbeats 400000 in
theorem between_any (r : E2) (w : World) : Calls Try.prog 65 #[.agg #[.int .u64 (vF r.A), .int .u64 (vF r.B)]] w fun e w' => e = .returned (.func (.func 94) #[] #[.pointer (some ⟨w.heap.size, 0, none⟩)]) ∧ w' = w.alloc (.cells #[.int .u64 (vF r.A), .int .u64 (vF r.B)] 27) := by
  go_enter Try.func65, Try.ntmps65
  go_wp2
  go_ret
  exact ⟨rfl, rfl⟩
set_option maxHeartbeats 1000000 in
theorem between1_any (r x y : E2) (B : Nat) (w : World) (hB : Two w B 27 (.int .u64 (vF r.A)) (.int .u64 (vF r.B))) :
    Calls Try.prog 94 #[.agg #[.int .u64 (vF x.A), .int .u64 (vF x.B)], .agg #[.int .u64 (vF y.A), .int .u64 (vF y.B)], .pointer (some ⟨B, 0, none⟩)] w fun e w' => e = .returned (.agg #[.int .u64 (vF (btw r x y).A), .int .u64 (vF (btw r x y).B)]) ∧ Below w.heap.size w w' := by
  have HR := Lib.hid hB
  clear hB
  go_enter Try.func94, Try.ntmps94
  go_wp2_with fail
  refine wp_named3 (fun W hB g0 g1 g2 hz => ?_)
  have HB := Lib.hid hB
  have HRW := Lib.hid (HR.out.keep hB)
  have c20 := Two.c0 g2; have c21 := Two.c1 g2; have f20 := Two.f0 g2; have f21 := Two.f1 g2
  have l00 := Later.cell (Two.c0 g0); have l01 := Later.cell (Two.c1 g0); have l10 := Later.cell (Two.c0 g1); have l11 := Later.cell (Two.c1 g1)
  have l20 := Later.cell HRW.out.c0; have l21 := Later.cell HRW.out.c1
  clear hB g0 g1 g2
  refine wp_later_tail 7 (by kernel_rfl) (by kernel_rfl) ?_
  simp only [List.take_succ_cons, List.take_zero, List.drop_succ_cons, List.drop_zero]
  repeat (go_big_quiet_step (first
    | (go_at_call 86; with_reducible exact Calls.later (extSub_any y x _))
    | (go_at_call 15; with_reducible exact Calls.later (extMul_any r (y - x) _))
    | (go_at_call 14; with_reducible exact Calls.later (extAdd_any x (r * (y - x)) _))))
  refine wpQuiet_nil ?_
  intro X
  clear l00 l01 l10 l11 l20 l21
  have hb := X.below
  replace f20 := free_after hb c20 f20; replace f21 := free_after hb c21 f21; replace c20 := cell_after hb c20; replace c21 := cell_after hb c21
  replace HB := Lib.hid (HB.out.trans (hb.mono HB.out.size))
  clear hb
  go_wp2
  exact bodyPost_ret (v := .agg #[.int .u64 (vF (x + r * (y - x)).A), .int .u64 (vF (x + r * (y - x)).B)]) (by simp [results, Try.results94, go_sem, c20, c21]) rfl ⟨rfl, (HB.out.setCell (by simp; try omega) _).setCell (by simp; try omega) _⟩

set_option maxHeartbeats 400000 in
theorem mleOne_any (w : World) : Calls Try.prog 85 #[] w fun e w' => e = .returned (.agg #[.int .u64 (vF E2.one.A), .int .u64 (vF E2.one.B)]) ∧ Below w.heap.size w w' := by
  go_enter Try.func85, Try.ntmps85
  go_wp2_with fail
  refine calls_named1 (fun W hB g0 hz => ?_)
  have HB := Lib.hid hB
  have HT := Lib.hid (show Two W w.heap.size 27 (.int .u64 0) (.int .u64 0) from g0)
  clear hB g0
  refine (extFromBase_any 1 W).mono ?_
  rintro e W1 ⟨rfl, hb⟩
  have HT1 := Lib.hid (HT.out.keep hb)
  have HB1 := Lib.hid (below_step HB.out hb)
  clear hb HT HB
  have c0 := HT1.out.c0; have c1 := HT1.out.c1; have f0 := HT1.out.f0; have f1 := HT1.out.f1
  go_wp2
  exact bodyPost_ret (v := .agg #[.int .u64 (vF (E2.ofF 1).A), .int .u64 (vF (E2.ofF 1).B)]) (by simp [results, Try.results85, go_sem, c0, c1]) rfl ⟨rfl, (HB1.out.setCell (Nat.le_refl _) _).setCell (Nat.le_refl _) _⟩

set_option maxHeartbeats 1000000 in
theorem agreement_any (x y : E2) (w : World) :
    Calls Try.prog 89 #[.agg #[.int .u64 (vF x.A), .int .u64 (vF x.B)], .agg #[.int .u64 (vF y.A), .int .u64 (vF y.B)]] w fun e w' => e = .returned (.agg #[.int .u64 (vF (agr x y).A), .int .u64 (vF (agr x y).B)]) ∧ Below w.heap.size w w' := by
  go_enter Try.func89, Try.ntmps89
  go_wp2_with fail
  refine wp_named3 (fun W hB g0 g1 g2 hz => ?_)
  have HB := Lib.hid hB
  have c20 := Two.c0 g2; have c21 := Two.c1 g2; have f20 := Two.f0 g2; have f21 := Two.f1 g2
  have l00 := Later.cell (Two.c0 g0); have l01 := Later.cell (Two.c1 g0); have l10 := Later.cell (Two.c0 g1); have l11 := Later.cell (Two.c1 g1)
  clear hB g0 g1 g2
  refine wp_later_tail 11 (by kernel_rfl) (by kernel_rfl) ?_
  simp only [List.take_succ_cons, List.take_zero, List.drop_succ_cons, List.drop_zero]
  repeat (go_big_quiet_step (first
    | (go_at_call 85; with_reducible exact Calls.later (mleOne_any _))
    | (go_at_call 86; with_reducible exact Calls.later (extSub_any E2.one x _))
    | (go_at_call 86; with_reducible exact Calls.later (extSub_any E2.one y _))
    | (go_at_call 15; with_reducible exact Calls.later (extMul_any x y _))
    | (go_at_call 15; with_reducible exact Calls.later (extMul_any (E2.one - x) (E2.one - y) _))
    | (go_at_call 14; with_reducible exact Calls.later (extAdd_any (x * y) ((E2.one - x) * (E2.one - y)) _))))
  refine wpQuiet_nil ?_
  intro X
  clear l00 l01 l10 l11
  have hb := X.below
  replace f20 := free_after hb c20 f20; replace f21 := free_after hb c21 f21; replace c20 := cell_after hb c20; replace c21 := cell_after hb c21
  replace HB := Lib.hid (HB.out.trans (hb.mono HB.out.size))
  clear hb
  go_wp2
  exact bodyPost_ret (v := .agg #[.int .u64 (vF (agr x y).A), .int .u64 (vF (agr x y).B)]) (by simp [results, Try.results89, go_sem, c20, c21, agr]) rfl ⟨rfl, (HB.out.setCell (by simp; try omega) _).setCell (by simp; try omega) _⟩
set_option maxHeartbeats 1000000 in
theorem rFactor_any (x y : E2) (w : World) :
    Calls Try.prog 115 #[.agg #[.int .u64 (vF x.A), .int .u64 (vF x.B)], .agg #[.int .u64 (vF y.A), .int .u64 (vF y.B)]] w fun e w' => e = .returned (.agg #[.int .u64 (vF (agr x y).A), .int .u64 (vF (agr x y).B)]) ∧ Below w.heap.size w w' := by
  go_enter Try.func115, Try.ntmps115
  go_wp2_with fail
  refine calls_named3 (fun W hB g0 g1 g2 hz => ?_)
  have HB := Lib.hid hB
  have H0 := Lib.hid (show Two W w.heap.size 27 (.int .u64 (vF x.A)) (.int .u64 (vF x.B)) from g0)
  have H1 := Lib.hid (show Two W (w.heap.size + 1) 27 (.int .u64 (vF y.A)) (.int .u64 (vF y.B)) from g1)
  have H2 := Lib.hid (show Two W (w.heap.size + 1 + 1) 27 (.int .u64 0) (.int .u64 0) from g2)
  clear hB g0 g1 g2
  refine (rOne_any W).mono ?_
  rintro e W1 ⟨rfl, hb⟩
  replace HB := Lib.hid (below_step HB.out hb)
  replace H0 := Lib.hid (H0.out.keep hb)
  replace H1 := Lib.hid (H1.out.keep hb)
  replace H2 := Lib.hid (H2.out.keep hb)
  clear hb
  go_wp2_with fail
  refine wp_named1 (fun V hbV g3 hzV => ?_)
  replace HB := Lib.hid (below_step HB.out hbV)
  replace H0 := Lib.hid (H0.out.keep hbV)
  replace H1 := Lib.hid (H1.out.keep hbV)
  replace H2 := Lib.hid (H2.out.keep hbV)
  have H3 := Lib.hid (show Two V W1.heap.size 27 (.int .u64 (vF E2.one.A)) (.int .u64 (vF E2.one.B)) from g3)
  clear hbV g3
  have c20 := H2.out.c0; have c21 := H2.out.c1; have f20 := H2.out.f0; have f21 := H2.out.f1
  have l00 := Later.cell H0.out.c0; have l01 := Later.cell H0.out.c1; have l10 := Later.cell H1.out.c0; have l11 := Later.cell H1.out.c1; have l30 := Later.cell H3.out.c0; have l31 := Later.cell H3.out.c1
  refine wp_later_tail 11 (by kernel_rfl) (by kernel_rfl) ?_
  simp only [List.take_succ_cons, List.take_zero, List.drop_succ_cons, List.drop_zero]
  repeat (go_big_quiet_step (first
    | (go_at_call 39; with_reducible exact Calls.later (rSub_any E2.one x _))
    | (go_at_call 39; with_reducible exact Calls.later (rSub_any E2.one y _))
    | (go_at_call 46; with_reducible exact Calls.later (rMul_any x y _))
    | (go_at_call 46; with_reducible exact Calls.later (rMul_any (E2.one - x) (E2.one - y) _))
    | (go_at_call 43; with_reducible exact Calls.later (rAdd_any (x * y) ((E2.one - x) * (E2.one - y)) _))))
  refine wpQuiet_nil ?_
  intro X
  clear l00 l01 l10 l11 l30 l31
  have hb := X.below
  replace f20 := free_after hb c20 f20; replace f21 := free_after hb c21 f21; replace c20 := cell_after hb c20; replace c21 := cell_after hb c21
  replace HB := Lib.hid (HB.out.trans (hb.mono HB.out.size))
  clear hb
  go_wp2
  exact bodyPost_ret (v := .agg #[.int .u64 (vF (agr x y).A), .int .u64 (vF (agr x y).B)]) (by simp [results, Try.results115, go_sem, c20, c21, agr]) rfl ⟨rfl, (HB.out.setCell (by simp; try omega) _).setCell (by simp; try omega) _⟩

end Go.Proofs.Ytipbfonlcmegdaa
