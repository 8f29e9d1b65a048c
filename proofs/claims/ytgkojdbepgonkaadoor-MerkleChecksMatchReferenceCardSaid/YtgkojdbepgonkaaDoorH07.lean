/- Several texts in one: Mkh, Mkm, Mkb, Decl. -/
import Derived.Test.YtgkojdbepgonkaaDoorH05
import Derived.Test.YtgkojdbepgonkaaDoorH06
import Derived.Test.YtgkojdbepgonkaaDoorH01
/- Ranges over iterators whose rounds always go on: what an iterator's step keeps, what a round keeps, the law of the loop. -/
namespace Go.Proofs.YtgkojdbepgonkaaDoor
set_option maxRecDepth 8000
set_option linter.unusedVariables false
set_option linter.unusedSimpArgs false
open Go.RowKit
open Go.Shelf
/-- a step of an iterator: nothing below N changes, no cells change -/
structure Abide (N : Nat) (A B : World) : Prop where
  below : Below N A B
  cells : ∀ (b : Nat) (o : Obj), A.heap[b]? = some o → o.isCells = true → B.heap[b]? = some o
theorem Abide.refl (N : Nat) (A : World) : Abide N A A := ⟨Below.refl _ _, fun _ _ h _ => h⟩
theorem Abide.trans {N : Nat} {A B C : World} (h : Abide N A B) (k : Abide N B C) : Abide N A C := ⟨h.below.trans k.below, fun b o ho hc => k.cells b o (h.cells b o ho hc) hc⟩
theorem Abide.mono {N M : Nat} {A B : World} (h : Abide N A B) (hM : M ≤ N) : Abide M A B := ⟨h.below.mono hM, h.cells⟩
theorem Abide.of_below {N : Nat} {A B : World} (h : Below A.heap.size A B) (hN : N ≤ A.heap.size) : Abide N A B := ⟨h.mono hN, fun _ _ ho _ => heap_keep ho h⟩
theorem Abide.putObj {N l : Nat} {A : World} {o : Obj} (o' : Obj) (h : A.heap[l]? = some o) (hc : o.isCells = false) (hN : N ≤ l) : Abide N A (A.putObj l o') :=
  ⟨⟨rfl, rfl, rfl, by simp, fun k hk => World.putObj_heap_other (by omega)⟩, fun b q hq hqc => by
    have e : b ≠ l := by
      rintro rfl
      rw [h] at hq
      cases hq
      rw [hc] at hqc
      cases hqc
    exact (World.putObj_heap_other e).trans hq⟩
theorem Abide.cell {N : Nat} {A B : World} (h : Abide N A B) {p : Addr} {v : Value} (hc : A.cell? p = some v) : B.cell? p = some v := by
  have hlt := World.block_lt_of_cell? _ _ hc
  have ho := Array.getElem?_eq_getElem hlt
  have hcell : (A.heap[p.block]'hlt).isCells = true := by
    have := hc
    unfold World.cell? at this
    rw [ho] at this
    cases hh : A.heap[p.block]'hlt <;> rw [hh] at this <;> first | rfl | (simp at this)
  exact (World.cell?_of_block ((h.cells _ _ ho hcell).trans ho.symm)).trans hc
/-- a block of digests -/
def isDig : Obj → Bool
  | .cells _ t _ => t == 34
  | _ => false
/-- what a round keeps for the iterator: whatever lies at or beyond N, but for blocks of digests -/
structure KeepI (N : Nat) (A B : World) : Prop where
  size : A.heap.size ≤ B.heap.size
  same : ∀ (b : Nat) (o : Obj), N ≤ b → A.heap[b]? = some o → isDig o = false → B.heap[b]? = some o
theorem KeepI.refl (N : Nat) (A : World) : KeepI N A A := ⟨Nat.le_refl _, fun _ _ _ h _ => h⟩
theorem KeepI.trans {N : Nat} {A B C : World} (h : KeepI N A B) (k : KeepI N B C) : KeepI N A C := ⟨Nat.le_trans h.size k.size, fun b o hb ho hd => k.same b o hb (h.same b o hb ho hd) hd⟩
theorem KeepI.mono {N M : Nat} {A B : World} (h : KeepI N A B) (hM : N ≤ M) : KeepI M A B := ⟨h.size, fun b o hb => h.same b o (by omega)⟩
theorem KeepI.of_below {N : Nat} {A B : World} (h : Below A.heap.size A B) : KeepI N A B := ⟨h.size, fun _ _ _ ho _ => heap_keep ho h⟩
theorem KeepI.of_abide {N M : Nat} {w A B : World} (h : KeepI N w A) (k : Abide M A B) (hM : w.heap.size ≤ M) : KeepI N w B :=
  ⟨Nat.le_trans h.size k.below.size, fun b o hb ho hd => (k.below.block b (by have := (Array.getElem?_eq_some_iff.1 ho).1; omega)).trans (h.same b o hb ho hd)⟩
theorem KeepI.putObj {N l : Nat} {A : World} (o' : Obj) (hN : l < N) : KeepI N A (A.putObj l o') := ⟨by simp, fun b o hb ho _ => (World.putObj_heap_other (by omega)).trans ho⟩
theorem KeepI.putNew {N l : Nat} {w A : World} (h : KeepI N w A) (o' : Obj) (hl : w.heap.size ≤ l) : KeepI N w (A.putObj l o') :=
  ⟨by simp; exact h.size, fun b o hb ho hd => (World.putObj_heap_other (by have := (Array.getElem?_eq_some_iff.1 ho).1; omega)).trans (h.same b o hb ho hd)⟩
theorem KeepI.setCell {N : Nat} {A : World} (p : Addr) (v : Value) (hp : p.block < N) : KeepI N A (A.setCell p v) :=
  ⟨by simp [World.setCell], fun b o hb ho _ => (Below.heap_setCell A p v b (by omega)).trans ho⟩
theorem KeepI.setRow {N x : Nat} {A : World} (cs : Array Value) (hx : x < N) : KeepI N A (A.setRow x cs) :=
  ⟨by simp [World.setRow], fun b o hb ho _ => by
    have : x ≠ b := by omega
    simp [World.setRow, Array.getElem?_modify, this]
    exact ho⟩
theorem KeepI.cell {N : Nat} {A B : World} (h : KeepI N A B) {p : Addr} {v : Value} (hp : N ≤ p.block) (hc : A.cell? p = some v) (hd : ∀ o, A.heap[p.block]? = some o → isDig o = false) : B.cell? p = some v := by
  have hlt := World.block_lt_of_cell? _ _ hc
  have ho := Array.getElem?_eq_getElem hlt
  exact (World.cell?_of_block ((h.same _ _ hp ho (hd _ ho)).trans ho.symm)).trans hc
/-- what an iterator promises whose rounds always go on: it yields xs in their order -/
def IterC {α : Type} (P : Program) (gf : Nat) (lb : Array Value) (encs : α → Array Value) (xs : List α) (G : World → Prop) : Prop :=
  ∀ (l : Nat) (W : World) (J : Nat → World → Prop), (∀ i A, J i A → G A ∧ W.heap.size ≤ A.heap.size) → (∀ i A B, J i A → Abide W.heap.size A B → J i B) →
    (∀ i x A, xs[i]? = some x → J i A → YieldAt Fence.wide 1 P l (encs x) A fun e B => e = .returned (.bool true) ∧ J (i + 1) B ∧ KeepI W.heap.size A B) → J 0 W →
    CallsIn Fence.wide 2 P gf (#[.func (.yield l) #[] #[]] ++ lb) W fun e B => (∃ v, e = .returned v) ∧ J xs.length B
/-- how a round's body is left -/
def endAll (N : Nat) (J1 : World → Prop) (A : World) : Exit → Act → World → Prop
  | .normal, _, B => KeepI N A B ∧ J1 B
  | _, _, _ => False
theorem wpIn_rangeAll {P : Program} {α : Type} {g : Operand} {ps : Array Tmp} {assign body : Code} {Q : Exit → Act → World → Prop} {a : Act} {w : World} {gf : Nat} {lb : Array Value}
    (hg : a.eval g = .func (.func gf) #[] lb) (eg : ∀ args w, (callFunc gf args).run P w = .ok (.enter gf args) w) (encs : α → Array Value) (hps : ∀ x, (encs x).size = ps.size)
    (xs : List α) (G : World → Prop) (hit : IterC P gf lb encs xs G) (J : Nat → World → Prop) (hJG : ∀ i A, J i A → G A) (hJ : ∀ i A B, J i A → Abide w.heap.size A B → J i B) (h0 : J 0 w) (n : Nat)
    (hround : ∀ (l i : Nat) (x : α) (A : World), xs[i]? = some x → w.heap.size ≤ l → J i A →
      assign.wpIn (Fence.wide.inRound l) 1 P (Exit.then (fun a' B => KeepI w.heap.size A B ∧ ∀ B2, Abide w.heap.size B B2 → body.wpIn (Fence.wide.inRound l) 1 P (endAll w.heap.size (J (i + 1)) B2) a' B2) (fun _ _ _ => False))
        { tmps := (ps.zip (encs x)).foldl (fun t (p, v) => t.setIfInBounds p v) a.tmps, defers := [] } A)
    (hdone : ∀ (D : Nat) (B : World), w.heap.size ≤ D → J xs.length B → B.heap[D]? = some (.deferred (some [])) → Q .normal { a with defers := { target := .collected D, args := #[] } :: a.defers } B) :
    (Code.rangeFunc g ps assign body).wpIn Fence.wide n P Q a w := by
  refine wpIn_rangeFunc fun fn hfn => ?_
  let R : LoopState → Option Code → Loop := fun st pd => { state := st, pending := pd, fn := fn, tmps := a.tmps, params := ps, assign := assign, body := body, defers := w.heap.size }
  let W : World := (w.alloc (.deferred (some []))).alloc (.loop (R .ready none))
  have hsz : W.heap.size = w.heap.size + 1 + 1 := by simp [W]
  have hbW : Below w.heap.size w W := ((Below.refl _ w).alloc (Nat.le_refl _) _).alloc (by simp) _
  have hWL : W.heap[w.heap.size + 1]? = some (.loop (R .ready none)) := by
    have h := World.alloc_heap_new (w.alloc (.deferred (some []))) (.loop (R .ready none))
    rwa [World.size_alloc] at h
  have hWD : W.heap[w.heap.size]? = some (.deferred (some [])) := heap_old _ (heap_new w _)
  have put : ∀ (A : World) (o o' : Obj), A.heap[w.heap.size + 1]? = some o → (A.putObj (w.heap.size + 1) o').heap[w.heap.size + 1]? = some o' ∧ ∀ b q, b ≠ w.heap.size + 1 → A.heap[b]? = some q → (A.putObj (w.heap.size + 1) o').heap[b]? = some q := fun A o o' h =>
    ⟨World.putObj_heap_same (Array.getElem?_eq_some_iff.1 h).1, fun b q hb hq => (World.putObj_heap_other hb).trans hq⟩
  refine ⟨w.heap.size + 1, [{ target := .collected w.heap.size, args := #[] }], W, { target := .fn (.func gf) lb, args := #[.func (.yield (w.heap.size + 1)) #[] #[]] }, W, gf, #[.func (.yield (w.heap.size + 1)) #[] #[]] ++ lb, W, run_enterLoop_outer _ _ _ _ _, ?_, fun _ _ => trivial, ?_, fun h => (by cases h), ?_⟩
  · simp only [resolve, hg]
    simp [go_sem]
  · simp [invoke, go_sem, eg]
  · refine (callsIn_wide (n := n - 1)).2 ((callsIn_wide (n := 2)).1 ((hit (w.heap.size + 1) W
      (fun i A => J i A ∧ W.heap.size ≤ A.heap.size ∧ A.heap[w.heap.size + 1]? = some (.loop (R .ready none)) ∧ A.heap[w.heap.size]? = some (.deferred (some [])))
      (fun i A h => ⟨hJG i A h.1, h.2.1⟩)
      (fun i A B h hb => ⟨hJ i A B h.1 (hb.mono hbW.size), Nat.le_trans h.2.1 hb.below.size, (hb.below.block _ (by omega)).trans h.2.2.1, (hb.below.block _ (by omega)).trans h.2.2.2⟩)
      ?_ ⟨hJ 0 w W h0 (Abide.of_below hbW (Nat.le_refl _)), Nat.le_refl _, hWL, hWD⟩).mono ?_))
    · intro i x A hx ⟨hj, hs, hl, hd⟩
      refine ⟨fn, _, assign, body, run_yield hl (hps x), roundIn_of_wpIn hfn ?_⟩
      refine wpIn_mono (hround (w.heap.size + 1) i x A hx (Nat.le_succ _) hj) ?_
      rintro e a' B hp
      cases e with
      | normal =>
        obtain ⟨hk, hbody⟩ := hp
        have hl2 := hk.same _ _ (Nat.le_succ _) hl rfl
        have hd2 := hk.same _ _ (Nat.le_refl _) hd rfl
        obtain ⟨p3, p4⟩ := put B _ (.loop (R .busy none)) hl2
        refine ⟨_, run_beginRound hl2 rfl, ?_⟩
        refine wpIn_mono (hbody _ (Abide.putObj _ hl2 rfl (Nat.le_succ _))) ?_
        rintro e2 a3 C hp2
        cases e2 with
        | normal =>
          obtain ⟨hk3, hj3⟩ := hp2
          have hl3 := hk3.same _ _ (Nat.le_succ _) p3 rfl
          have hd3 := hk3.same _ _ (Nat.le_refl _) (p4 _ _ (by omega) hd2) rfl
          obtain ⟨q3, q4⟩ := put C _ (.loop (R .ready none)) hl3
          have hB2 : KeepI W.heap.size B (B.putObj (w.heap.size + 1) (.loop (R .busy none))) := KeepI.putObj _ (by omega)
          have hC2 : KeepI W.heap.size C (C.putObj (w.heap.size + 1) (.loop (R .ready none))) := KeepI.putObj _ (by omega)
          refine ⟨_, _, run_endRound none hl3, rfl, ⟨hJ _ _ _ hj3 (Abide.putObj _ hl3 rfl (Nat.le_succ _)), ?_, q3, q4 _ _ (by omega) hd3⟩, ?_⟩
          · exact Nat.le_trans hs (Nat.le_trans hk.size (Nat.le_trans hB2.size (Nat.le_trans hk3.size hC2.size)))
          · exact ((hk.mono hbW.size).trans hB2).trans ((hk3.mono hbW.size).trans hC2)
        | ret => exact hp2.elim
        | exit id => exact hp2.elim
        | goto t => exact hp2.elim
        | panic ch => exact hp2.elim
        | outgrown => exact hp2.elim
      | _ => exact hp.elim
    · rintro e B ⟨⟨v, rfl⟩, hj, _, hl, hd⟩
      obtain ⟨q3, q4⟩ := put B _ (.loop (R .exhausted none)) hl
      exact ⟨none, _, run_endLoop hl (by simp [R]), hdone _ _ (Nat.le_refl _) (hJ _ _ _ hj (Abide.putObj _ hl rfl (Nat.le_succ _))) (q4 _ _ (by omega) hd)⟩
end Go.Proofs.YtgkojdbepgonkaaDoor

/- Trees over lists: maximal closed subtrees, siblings, openings, paths. No program. -/
namespace Go.Proofs.YtgkojdbepgonkaaDoor
set_option linter.unusedVariables false
set_option linter.unusedSimpArgs false
set_option maxRecDepth 8000
open Go.RowKit
def lfN (b : List Nat) : List Nat := shaN (0 :: b)
def prN (a b : List Nat) : List Nat := shaN (1 :: (a ++ b))
theorem lfN_length (b : List Nat) : (lfN b).length = 32 := shaN_length _
theorem prN_length (a b : List Nat) : (prN a b).length = 32 := shaN_length _
theorem lfN_lt (b : List Nat) : ∀ x ∈ lfN b, x < 256 := shaN_lt _
theorem prN_lt (a b : List Nat) : ∀ x ∈ prN a b, x < 256 := shaN_lt _
/-- the maximal closed subtrees of the subtree (f, s), as (first, size); k bounds the depth -/
def closedF : Nat → Nat → Nat → List Int → List (Nat × Nat)
  | 0, _, _, _ => []
  | k + 1, f, s, is => if is = [] then [(f, s)] else if s = 1 then [] else
      closedF k f (leftN s) (is.take (belowN is ((f + leftN s : Nat) : Int))) ++ closedF k (f + leftN s) (s - leftN s) (is.drop (belowN is ((f + leftN s : Nat) : Int)))
def closedN (f s : Nat) (is : List Int) : List (Nat × Nat) := closedF s f s is
theorem closedF_more : ∀ (k g f s : Nat) (is : List Int), s ≤ k → s ≤ g → 1 ≤ s → closedF k f s is = closedF g f s is
  | 0, _, _, _, _, h, _, h1 => by omega
  | _, 0, _, _, _, _, h, h1 => by omega
  | k + 1, g + 1, f, s, is, hk, hg, h1 => by
    unfold closedF
    by_cases h : is = []
    · rw [if_pos h, if_pos h]
    · rw [if_neg h, if_neg h]
      by_cases hs : s = 1
      · rw [if_pos hs, if_pos hs]
      · rw [if_neg hs, if_neg hs]
        have hl := leftN_lt (show 2 ≤ s by omega)
        have hp := leftN_pos s
        rw [closedF_more k g f (leftN s) _ (by omega) (by omega) hp, closedF_more k g (f + leftN s) (s - leftN s) _ (by omega) (by omega) (by omega)]
theorem closedN_nil (f : Nat) {s : Nat} (hs : 1 ≤ s) : closedN f s [] = [(f, s)] := by
  obtain ⟨k, rfl⟩ : ∃ k, s = k + 1 := ⟨s - 1, by omega⟩
  unfold closedN closedF
  rw [if_pos rfl]
theorem closedN_one (f : Nat) {is : List Int} (h : is ≠ []) : closedN f 1 is = [] := by
  unfold closedN closedF
  rw [if_neg h, if_pos rfl]
theorem closedN_split (f : Nat) {s : Nat} {is : List Int} (h : is ≠ []) (hs : 2 ≤ s) :
    closedN f s is = closedN f (leftN s) (is.take (belowN is ((f + leftN s : Nat) : Int))) ++ closedN (f + leftN s) (s - leftN s) (is.drop (belowN is ((f + leftN s : Nat) : Int))) := by
  have hl := leftN_lt hs
  have hp := leftN_pos s
  obtain ⟨k, hk⟩ : ∃ k, s = k + 1 := ⟨s - 1, by omega⟩
  have e : closedN f s is = closedF (k + 1) f s is := by unfold closedN; rw [hk]
  rw [e]
  unfold closedF
  rw [if_neg h, if_neg (by omega)]
  unfold closedN
  rw [closedF_more k (leftN s) f (leftN s) _ (by omega) (Nat.le_refl _) hp, closedF_more k (s - leftN s) (f + leftN s) (s - leftN s) _ (by omega) (Nat.le_refl _) (by omega)]
/-- induction over the subtrees -/
theorem tree_ind {p : Nat → Prop} (h1 : p 1) (h2 : ∀ s, 2 ≤ s → 1 ≤ leftN s → leftN s < s → p (leftN s) → p (s - leftN s) → p s) : ∀ s, 1 ≤ s → p s := by
  intro s
  induction s using Nat.strongRecOn with
  | ind s ih =>
    intro hs
    by_cases e : s = 1
    · subst e; exact h1
    · have hl := leftN_lt (show 2 ≤ s by omega)
      have hp := leftN_pos s
      exact h2 s (by omega) hp hl (ih _ hl hp) (ih _ (by omega) (by omega))
theorem belowN_le (is : List Int) (lim : Int) : belowN is lim ≤ is.length := List.Sublist.length_le (List.takeWhile_sublist _)
/-- the closed subtrees lie in the subtree, one behind the other -/
theorem closedN_in : ∀ (s : Nat), 1 ≤ s → ∀ (f : Nat) (is : List Int) (x : Nat × Nat), x ∈ closedN f s is → f ≤ x.1 ∧ x.1 + x.2 ≤ f + s ∧ 1 ≤ x.2 ∧ (is ≠ [] → x.2 < s) := by
  refine tree_ind ?_ ?_
  · intro f is x hx
    by_cases h : is = []
    · subst h
      rw [closedN_nil f (Nat.le_refl _), List.mem_singleton] at hx
      subst hx
      exact ⟨Nat.le_refl _, Nat.le_refl _, Nat.le_refl _, fun h => absurd rfl h⟩
    · rw [closedN_one f h] at hx
      cases hx
  · intro s hs hp hl ihl ihr f is x hx
    by_cases h : is = []
    · subst h
      rw [closedN_nil f (by omega), List.mem_singleton] at hx
      subst hx
      exact ⟨Nat.le_refl _, Nat.le_refl _, by show 1 ≤ s; omega, fun h => absurd rfl h⟩
    · rw [closedN_split f h hs] at hx
      rcases List.mem_append.1 hx with hx | hx
      · obtain ⟨a, b, c, _⟩ := ihl _ _ _ hx
        exact ⟨a, by omega, c, fun _ => by omega⟩
      · obtain ⟨a, b, c, _⟩ := ihr _ _ _ hx
        exact ⟨by omega, by omega, c, fun _ => by omega⟩
/-- the digests of subtrees of a tree with these leaves -/
def digsN (Ls : List (List Nat)) (xs : List (Nat × Nat)) : List (List Nat) := xs.map fun x => rootN ((Ls.drop x.1).take x.2)
/-- the root that results from opened leaves and nodes, and the nodes that are left; k bounds the depth -/
def rebF : Nat → Nat → Nat → List Int → List (List Nat) → List (List Nat) → List Nat × List (List Nat)
  | 0, _, _, _, _, ns => ([], ns)
  | k + 1, f, s, is, bs, ns => if is = [] then (ns.headD [], ns.tail) else if s = 1 then (lfN (bs.headD []), ns) else
      let j := belowN is ((f + leftN s : Nat) : Int)
      let a := rebF k f (leftN s) (is.take j) (bs.take j) ns
      let b := rebF k (f + leftN s) (s - leftN s) (is.drop j) (bs.drop j) a.2
      (prN a.1 b.1, b.2)
def rebN (f s : Nat) (is : List Int) (bs ns : List (List Nat)) : List Nat × List (List Nat) := rebF s f s is bs ns
theorem rebF_more : ∀ (k g f s : Nat) (is : List Int) (bs ns : List (List Nat)), s ≤ k → s ≤ g → 1 ≤ s → rebF k f s is bs ns = rebF g f s is bs ns
  | 0, _, _, _, _, _, _, h, _, h1 => by omega
  | _, 0, _, _, _, _, _, _, h, h1 => by omega
  | k + 1, g + 1, f, s, is, bs, ns, hk, hg, h1 => by
    unfold rebF
    by_cases h : is = []
    · rw [if_pos h, if_pos h]
    · rw [if_neg h, if_neg h]
      by_cases hs : s = 1
      · rw [if_pos hs, if_pos hs]
      · rw [if_neg hs, if_neg hs]
        have hl := leftN_lt (show 2 ≤ s by omega)
        have hp := leftN_pos s
        simp only []
        rw [rebF_more k g f (leftN s) _ _ _ (by omega) (by omega) hp, rebF_more k g (f + leftN s) (s - leftN s) _ _ _ (by omega) (by omega) (by omega)]
theorem rebN_nil (f : Nat) {s : Nat} (bs ns : List (List Nat)) (hs : 1 ≤ s) : rebN f s [] bs ns = (ns.headD [], ns.tail) := by
  obtain ⟨k, rfl⟩ : ∃ k, s = k + 1 := ⟨s - 1, by omega⟩
  unfold rebN rebF
  rw [if_pos rfl]
theorem rebN_one (f : Nat) {is : List Int} (bs ns : List (List Nat)) (h : is ≠ []) : rebN f 1 is bs ns = (lfN (bs.headD []), ns) := by
  unfold rebN rebF
  rw [if_neg h, if_pos rfl]
theorem rebN_split (f : Nat) {s j : Nat} {is : List Int} (bs ns : List (List Nat)) (h : is ≠ []) (hs : 2 ≤ s) (hj : belowN is ((f + leftN s : Nat) : Int) = j) :
    rebN f s is bs ns = (prN (rebN f (leftN s) (is.take j) (bs.take j) ns).1 (rebN (f + leftN s) (s - leftN s) (is.drop j) (bs.drop j) (rebN f (leftN s) (is.take j) (bs.take j) ns).2).1,
      (rebN (f + leftN s) (s - leftN s) (is.drop j) (bs.drop j) (rebN f (leftN s) (is.take j) (bs.take j) ns).2).2) := by
  have hl := leftN_lt hs
  have hp := leftN_pos s
  subst hj
  obtain ⟨k, hk⟩ : ∃ k, s = k + 1 := ⟨s - 1, by omega⟩
  have e : rebN f s is bs ns = rebF (k + 1) f s is bs ns := by unfold rebN; rw [hk]
  rw [e]
  unfold rebF
  rw [if_neg h, if_neg (by omega)]
  unfold rebN
  simp only []
  rw [rebF_more k (leftN s) f (leftN s) _ _ _ (by omega) (Nat.le_refl _) hp, rebF_more k (s - leftN s) (f + leftN s) (s - leftN s) _ _ _ (by omega) (Nat.le_refl _) (by omega)]
theorem rebN_rest : ∀ (s : Nat), 1 ≤ s → ∀ (f : Nat) (is : List Int) (bs ns : List (List Nat)), (rebN f s is bs ns).2 = ns.drop (closedN f s is).length := by
  refine tree_ind ?_ ?_
  · intro f is bs ns
    by_cases h : is = []
    · subst h
      rw [rebN_nil f _ _ (Nat.le_refl _), closedN_nil f (Nat.le_refl _)]
      simp
    · rw [rebN_one f _ _ h, closedN_one f h]; rfl
  · intro s hs hp hl ihl ihr f is bs ns
    by_cases h : is = []
    · subst h
      rw [rebN_nil f _ _ (by omega), closedN_nil f (by omega)]
      simp
    · rw [rebN_split f _ _ h hs rfl, closedN_split f h hs]
      simp only []
      rw [ihr, ihl, List.drop_drop, List.length_append]
theorem rebN_size : ∀ (s : Nat), 1 ≤ s → ∀ (f : Nat) (is : List Int) (bs ns : List (List Nat)), (∀ d ∈ ns, d.length = 32 ∧ ∀ x ∈ d, x < 256) → (closedN f s is).length ≤ ns.length → (rebN f s is bs ns).1.length = 32 ∧ ∀ x ∈ (rebN f s is bs ns).1, x < 256 := by
  intro s hs f is bs ns hn hc
  by_cases h : is = []
  · subst h
    rw [rebN_nil f _ _ hs]
    rw [closedN_nil f hs] at hc
    match ns, hc with
    | d :: ns, _ => exact hn d List.mem_cons_self
  · by_cases h1 : s = 1
    · subst h1
      rw [rebN_one f _ _ h]
      exact ⟨lfN_length _, lfN_lt _⟩
    · rw [rebN_split f _ _ h (by omega) rfl]
      exact ⟨prN_length _ _, prN_lt _ _⟩
/-- the siblings of the subtrees that contain leaf i, from the leaf upward -/
def sibF : Nat → Nat → Nat → Int → List (Nat × Nat)
  | 0, _, _, _ => []
  | k + 1, f, s, i => if s = 1 then [] else if i < ((f + leftN s : Nat) : Int) then sibF k f (leftN s) i ++ [(f + leftN s, s - leftN s)] else sibF k (f + leftN s) (s - leftN s) i ++ [(f, leftN s)]
def sibN (f s : Nat) (i : Int) : List (Nat × Nat) := sibF s f s i
theorem sibF_more : ∀ (k g f s : Nat) (i : Int), s ≤ k → s ≤ g → 1 ≤ s → sibF k f s i = sibF g f s i
  | 0, _, _, _, _, h, _, h1 => by omega
  | _, 0, _, _, _, _, h, h1 => by omega
  | k + 1, g + 1, f, s, i, hk, hg, h1 => by
    unfold sibF
    by_cases hs : s = 1
    · rw [if_pos hs, if_pos hs]
    · rw [if_neg hs, if_neg hs]
      have hl := leftN_lt (show 2 ≤ s by omega)
      have hp := leftN_pos s
      rw [sibF_more k g f (leftN s) _ (by omega) (by omega) hp, sibF_more k g (f + leftN s) (s - leftN s) _ (by omega) (by omega) (by omega)]
theorem sibN_one (f : Nat) (i : Int) : sibN f 1 i = [] := rfl
theorem sibN_left (f : Nat) {s : Nat} {i : Int} (hs : 2 ≤ s) (h : i < ((f + leftN s : Nat) : Int)) : sibN f s i = sibN f (leftN s) i ++ [(f + leftN s, s - leftN s)] := by
  have hl := leftN_lt hs
  have hp := leftN_pos s
  obtain ⟨k, hk⟩ : ∃ k, s = k + 1 := ⟨s - 1, by omega⟩
  have e : sibN f s i = sibF (k + 1) f s i := by unfold sibN; rw [hk]
  rw [e]
  unfold sibF
  rw [if_neg (by omega), if_pos h]
  unfold sibN
  rw [sibF_more k (leftN s) f (leftN s) _ (by omega) (Nat.le_refl _) hp]
theorem sibN_right (f : Nat) {s : Nat} {i : Int} (hs : 2 ≤ s) (h : ¬ i < ((f + leftN s : Nat) : Int)) : sibN f s i = sibN (f + leftN s) (s - leftN s) i ++ [(f, leftN s)] := by
  have hl := leftN_lt hs
  have hp := leftN_pos s
  obtain ⟨k, hk⟩ : ∃ k, s = k + 1 := ⟨s - 1, by omega⟩
  have e : sibN f s i = sibF (k + 1) f s i := by unfold sibN; rw [hk]
  rw [e]
  unfold sibF
  rw [if_neg (by omega), if_neg h]
  unfold sibN
  rw [sibF_more k (s - leftN s) (f + leftN s) (s - leftN s) _ (by omega) (Nat.le_refl _) (by omega)]
theorem sibN_in : ∀ (s : Nat), 1 ≤ s → ∀ (f : Nat) (i : Int) (x : Nat × Nat), x ∈ sibN f s i → f ≤ x.1 ∧ x.1 + x.2 ≤ f + s ∧ 1 ≤ x.2 := by
  refine tree_ind ?_ ?_
  · intro f i x hx
    rw [sibN_one] at hx
    cases hx
  · intro s hs hp hl ihl ihr f i x hx
    by_cases h : i < ((f + leftN s : Nat) : Int)
    · rw [sibN_left f hs h] at hx
      rcases List.mem_append.1 hx with hx | hx
      · obtain ⟨a, b, c⟩ := ihl _ _ _ hx
        exact ⟨a, by omega, c⟩
      · rw [List.mem_singleton] at hx
        subst hx
        exact ⟨by simp, by simp; omega, by simp; omega⟩
    · rw [sibN_right f hs h] at hx
      rcases List.mem_append.1 hx with hx | hx
      · obtain ⟨a, b, c⟩ := ihr _ _ _ hx
        exact ⟨by omega, by omega, c⟩
      · rw [List.mem_singleton] at hx
        subst hx
        exact ⟨by simp, by simp; omega, by simp; omega⟩
/-- the root that results from a leaf's digest and the nodes above it -/
def climbN (i : Int) : List (Nat × Nat) → List (List Nat) → List Nat → List Nat
  | [], _, d => d
  | x :: xs, ns, d => climbN i xs ns.tail (if i < ((x.1 : Nat) : Int) then prN d (ns.headD []) else prN (ns.headD []) d)
end Go.Proofs.YtgkojdbepgonkaaDoor

/- The size of the left part, both sides. -/
namespace Go.Proofs.YtgkojdbepgonkaaDoor
set_option linter.unusedVariables false
set_option linter.unusedSimpArgs false
set_option maxRecDepth 8000
open Go.RowKit
set_option maxHeartbeats 1000000 in
theorem leftSize_any (n : Nat) (w : World) (hn2 : 2 ≤ n) (hn : n ≤ 70000) :
    Calls Tryd.prog 107 #[.int .i64 (n : Int)] w fun e w' => e = .returned (.int .i64 ((leftN n : Nat) : Int)) ∧ w' = w := by
  go_enter Tryd.func107, Tryd.ntmps107
  go_wp2_with fail
  go_loopw [3] (fun s wr => ∃ j k : Nat, k = 2 ^ j ∧ k < n ∧ s = .int .i64 k ∧ wr = w) (fun s _ => n - (intOf s).toNat)
  case atStart => exact ⟨0, 1, rfl, by omega, rfl, rfl⟩
  case round =>
    obtain ⟨j, k, hk, hkn, rfl, rfl⟩ := hrel
    have HK := Lib.hid hk
    have hk1 : 1 ≤ k := by rw [hk]; exact Nat.one_le_two_pow
    clear hk
    have hw1 : IntKind.i64.wrap (2 * (k : Int)) = 2 * (k : Int) := by rw [IntKind.wrap_i64]; omega
    have hw2 : IntKind.i64.wrap ((k : Int) * 2) = (k : Int) * 2 := by rw [IntKind.wrap_i64]; omega
    by_cases hlt : 2 * k < n
    · have h1 : 2 * (k : Int) < (n : Int) := by omega
      go_wp2_with fail
      go_roundw
      case rel => exact ⟨j + 1, 2 * k, by rw [Nat.pow_succ, HK.out]; omega, hlt, by go_num, by first | trivial | rfl⟩
      case measure => simp [intOf]; omega
    · have h1 : ¬ 2 * (k : Int) < (n : Int) := by omega
      have e : k = leftN n := by
        have h0 := HK.out
        have := leftN_of (n := n) (j := j) (by omega) (by omega)
        omega
      go_wp2_with fail
      go_ret
      exact ⟨rfl, rfl⟩
set_option maxHeartbeats 1000000 in
theorem split_any (n : Nat) (w : World) (hn2 : 2 ≤ n) (hn : n ≤ 70000) :
    Calls Tryd.prog 98 #[.int .i64 (n : Int)] w fun e w' => e = .returned (.int .i64 ((leftN n : Nat) : Int)) ∧ w' = w := by
  go_enter Tryd.func98, Tryd.ntmps98
  go_wp2_with fail
  go_loopw [3] (fun s wr => ∃ j k : Nat, k = 2 ^ j ∧ k < n ∧ s = .int .i64 k ∧ wr = w) (fun s _ => n - (intOf s).toNat)
  case atStart => exact ⟨0, 1, rfl, by omega, rfl, rfl⟩
  case round =>
    obtain ⟨j, k, hk, hkn, rfl, rfl⟩ := hrel
    have HK := Lib.hid hk
    have hk1 : 1 ≤ k := by rw [hk]; exact Nat.one_le_two_pow
    clear hk
    have hw1 : IntKind.i64.wrap (2 * (k : Int)) = 2 * (k : Int) := by rw [IntKind.wrap_i64]; omega
    by_cases hlt : 2 * k < n
    · have h1 : 2 * (k : Int) < (n : Int) := by omega
      go_wp2_with fail
      go_roundw
      case rel => exact ⟨j + 1, 2 * k, by rw [Nat.pow_succ, HK.out]; omega, hlt, by go_num, by first | trivial | rfl⟩
      case measure => simp [intOf]; omega
    · have h1 : ¬ 2 * (k : Int) < (n : Int) := by omega
      have e : k = leftN n := by
        have h0 := HK.out
        have := leftN_of (n := n) (j := j) (by omega) (by omega)
        omega
      go_wp2_with fail
      go_ret
      exact ⟨rfl, rfl⟩
end Go.Proofs.YtgkojdbepgonkaaDoor

/- A statement whose order is open and that makes variables ('a, b := f(), g()' with a, b in memory): the operations that yield a value in the order of the text, then the variables at places of which nothing is known but that they are new, then the stores. No program, no conditions. -/
namespace Go.Proofs.YtgkojdbepgonkaaDoor
set_option linter.unusedVariables false
set_option linter.unusedSimpArgs false
set_option maxRecDepth 8000
open Go.RowKit

/-- what is asked once an operation, carried out in w, has yielded this: the value v in the very world; or a call that hands back v and only adds to memory -/
def Oper.calmUpon (P : Program) (w : World) (v : Value) : Result Next → Prop
  | .ok (.value u) w' => w' = w ∧ u = v
  | .ok .skip w' => w' = w ∧ v = undef
  | .ok (.enter f args) w' => w' = w ∧ Calls P f args w (fun e w'' => e = .returned v ∧ Below w.heap.size w w'')
  | _ => False
/-- one value, in every later world -/
def Oper.calm (P : Program) (w0 : World) (o : Oper) (a : Act) (next : Act → Prop) : Prop := ∃ v, (∀ x : Later w0, Oper.calmUpon P x.at v ((execOp a.eval o).run P x.at)) ∧ next (a.put o.dst v)
attribute [go_sem] Oper.calm Oper.calmUpon

def wpCalm (P : Program) (ops : Array Oper) (w0 : World) (Q : Act → Prop) : List Oper → Act → Prop
  | [], a => Q a
  | o :: rest, a => if Region.wanted o (yielded ops a.tmps) then Oper.calm P w0 o a (wpCalm P ops w0 Q rest) else wpCalm P ops w0 Q rest (a.put o.dst undef)

section
variable {P : Program} {ops : Array Oper} {w0 : World} {mk : Nat → Option Obj}
theorem wpCalm_nil {Q : Act → Prop} {a : Act} (h : Q a) : wpCalm P ops w0 Q [] a := h
theorem wpCalm_step {Q : Act → Prop} {a : Act} {o : Oper} {rest : List Oper}
    (h : ∀ K : Act → Prop, (∀ a, wpCalm P ops w0 Q rest a → K a) → if Region.wanted o (yielded ops a.tmps) then Oper.calm P w0 o a K else K (a.put o.dst undef)) : wpCalm P ops w0 Q (o :: rest) a :=
  h _ (fun _ h => h)

/-- which variable lies where -/
def upd (bs : Nat → Option Nat) (i b : Nat) : Nat → Option Nat := fun k => if k = i then some b else bs k
theorem upd_comm (bs : Nat → Option Nat) {i j : Nat} (h : i ≠ j) (b c : Nat) : upd (upd bs i b) j c = upd (upd bs j c) i b := by
  funext k
  unfold upd
  by_cases h1 : k = j
  · have h2 : ¬ k = i := by omega
    simp [h1]
    omega
  · simp [h1]
def ptr (b : Nat) : Value := .pointer (some ⟨b, 0, none⟩)

/-- operation number i comes up: a new variable lies somewhere; all else is calm -/
def cOp (P : Program) (ops : Array Oper) (w0 : World) (mk : Nat → Option Obj) (i : Nat) (K : Act → (Nat → Option Nat) → Prop) (a : Act) (bs : Nat → Option Nat) : Prop :=
  match ops[i]? with
  | none => K a bs
  | some o => if Region.wanted o (yielded ops a.tmps) = true then
      (match mk i with
       | some _ => ∀ b, K (a.put o.dst (ptr b)) (upd bs i b)
       | none => ∃ v, (∀ x : Later w0, Oper.calmUpon P x.at v ((execOp a.eval o).run P x.at)) ∧ K (a.put o.dst v) bs)
    else K (a.put o.dst undef) bs

theorem cOp_mono {i : Nat} {K K' : Act → (Nat → Option Nat) → Prop} {a : Act} {bs : Nat → Option Nat} (h : ∀ a bs, K a bs → K' a bs) (hh : cOp P ops w0 mk i K a bs) : cOp P ops w0 mk i K' a bs := by
  unfold cOp at *
  cases ho : ops[i]? with
  | none => simp only [ho] at hh ⊢; exact h _ _ hh
  | some o =>
    simp only [ho] at hh ⊢
    by_cases hw : Region.wanted o (yielded ops a.tmps) = true
    · simp only [hw, if_true] at hh ⊢
      cases hm : mk i with
      | none => simp only [hm] at hh ⊢; obtain ⟨v, h1, h2⟩ := hh; exact ⟨v, h1, h _ _ h2⟩
      | some z => simp only [hm] at hh ⊢; exact fun b => h _ _ (hh b)
    · simp only [hw] at hh ⊢; exact h _ _ hh

/-- in state a, operation o leaves v -/
def YieldsC (P : Program) (ops : Array Oper) (w0 : World) (o : Oper) (v : Value) (a : Act) : Prop :=
  (Region.wanted o (yielded ops a.tmps) = true ∧ ∀ x : Later w0, Oper.calmUpon P x.at v ((execOp a.eval o).run P x.at)) ∨ (Region.wanted o (yielded ops a.tmps) = false ∧ v = undef)
theorem YieldsC.of_same {o : Oper} {v : Value} {a a' : Act} (hy : YieldsC P ops w0 o v a) (he : execOp a'.eval o = execOp a.eval o)
    (hw : Region.wanted o (yielded ops a'.tmps) = Region.wanted o (yielded ops a.tmps)) : YieldsC P ops w0 o v a' := by
  unfold YieldsC at *
  rw [he, hw]
  exact hy
theorem YieldsC.cOp {i : Nat} {o : Oper} {v : Value} {a : Act} {bs : Nat → Option Nat} (hi : ops[i]? = some o) (hm : mk i = none) (hy : YieldsC P ops w0 o v a) {K : Act → (Nat → Option Nat) → Prop} (h : K (a.put o.dst v) bs) : cOp P ops w0 mk i K a bs := by
  unfold Proofs.YtgkojdbepgonkaaDoor.cOp
  simp only [hi, hm]
  rcases hy with ⟨hw, hv⟩ | ⟨hw, rfl⟩
  · simp only [hw, if_true]; exact ⟨v, hv, h⟩
  · simp only [hw, Bool.false_eq_true, if_false]; exact h

/-- an operation apart: a value already laid makes no difference -/
theorem cOp_put {j : Nat} {oi oj : Oper} {v : Value} (hj : ops[j]? = some oj) (hap : oi.apart ops oj = true) (hsi : ∀ cs b, oi.op ≠ .select cs b) (hsj : ∀ cs b, oj.op ≠ .select cs b)
    {K : Act → (Nat → Option Nat) → Prop} {a : Act} {bs : Nat → Option Nat} (hy : YieldsC P ops w0 oi v a) (h : cOp P ops w0 mk j K (a.put oi.dst v) bs) :
    cOp P ops w0 mk j (fun a' bs' => YieldsC P ops w0 oi v a' ∧ K (a'.put oi.dst v) bs') a bs := by
  obtain ⟨h1, h2, h3⟩ := Oper.apart_spec hap
  have keep : ∀ u, YieldsC P ops w0 oi v (a.put oj.dst u) := fun u => hy.of_same (execOp_put oi hsi a oj.dst u h3) (wanted_put oi a oj.dst u h3)
  unfold cOp at *
  simp only [hj] at *
  rw [wanted_put oj a oi.dst v h1] at h
  by_cases hw : Region.wanted oj (yielded ops a.tmps) = true
  · simp only [hw, if_true] at h ⊢
    cases hm : mk j with
    | none =>
      simp only [hm] at h ⊢
      obtain ⟨u, hu, hn⟩ := h
      refine ⟨u, fun x => ?_, keep u, by rw [← Act.put_comm a v u h2]; exact hn⟩
      have := hu x
      rwa [execOp_put oj hsj a oi.dst v h1] at this
    | some z =>
      simp only [hm] at h ⊢
      exact fun b => ⟨keep _, by rw [← Act.put_comm a v (ptr b) h2]; exact h b⟩
  · simp only [hw] at h ⊢
    exact ⟨keep _, by rw [← Act.put_comm a v undef h2]; exact h⟩
/-- the same for a variable's place -/
theorem cOp_putA {j : Nat} {oi oj : Oper} {v : Value} (hj : ops[j]? = some oj) (hap : oi.apart ops oj = true) (z : Obj) (hm : mk j = some z)
    {K : Act → (Nat → Option Nat) → Prop} {a : Act} {bs : Nat → Option Nat} (h : cOp P ops w0 mk j K (a.put oi.dst v) bs) :
    cOp P ops w0 mk j (fun a' bs' => K (a'.put oi.dst v) bs') a bs := by
  obtain ⟨h1, h2, h3⟩ := Oper.apart_spec hap
  unfold cOp at *
  simp only [hj, hm] at *
  rw [wanted_put oj a oi.dst v h1] at h
  by_cases hw : Region.wanted oj (yielded ops a.tmps) = true
  · simp only [hw, if_true] at h ⊢
    exact fun b => by rw [← Act.put_comm a v (ptr b) h2]; exact h b
  · simp only [hw] at h ⊢
    rw [← Act.put_comm a v undef h2]; exact h

/-- the first f operations that come up lie before n -/
def headC (P : Program) (ops : Array Oper) (w0 : World) (mk : Nat → Option Obj) (n : Nat) (L : Array Bool → Act → (Nat → Option Nat) → Prop) : Nat → Array Bool → Act → (Nat → Option Nat) → Prop
  | 0, listed, a, bs => L listed a bs
  | f + 1, listed, a, bs => Region.ready .any ops listed ≠ [] ∧ ∀ i, i ∈ Region.ready .any ops listed → i < n ∧ cOp P ops w0 mk i (headC P ops w0 mk n L f (listed.setIfInBounds i true)) a bs

/-- what is free of all that is not listed -/
def FreeOf (ops : Array Oper) (listed : Array Bool) (i : Nat) (oi : Oper) : Prop :=
  ∀ j oj, ops[j]? = some oj → j ≠ i → listed.getD j true = false → (∀ e ∈ oj.after, Region.binds .any e = true → e.on ≠ i) → oi.apart ops oj = true
theorem FreeOf.set {listed : Array Bool} {i j : Nat} {oi : Oper} (h : FreeOf ops listed i oi) (hjun : listed.getD j true = false) : FreeOf ops (listed.setIfInBounds j true) i oi := fun k ok hk hki hku hkn => by
  refine h k ok hk hki ?_ hkn
  by_cases hjk : j = k
  · rw [← hjk]; exact hjun
  · rw [getD_set_ne true hjk] at hku; exact hku
theorem no_edge {listed : Array Bool} {i j : Nat} {oj : Oper} (hoj : ops[j]? = some oj) (hj : j ∈ Region.ready .any ops listed) (hun : listed.getD i true = false) : ∀ e ∈ oj.after, Region.binds .any e = true → e.on ≠ i := by
  intro e he hb heq
  obtain ⟨_, o', ho', hall⟩ := mem_ready.1 hj
  have hoo : o' = oj := Option.some.inj (ho'.symm.trans hoj)
  subst hoo
  have := hall e he hb
  rw [heq, getD_both hun] at this
  cases this

variable {n : Nat} {L : Array Bool → Act → (Nat → Option Nat) → Prop}
theorem headC_calm {i : Nat} {oi : Oper} {v : Value} (hi : ops[i]? = some oi) (hmi : mk i = none) (hsel : Region.noSelect ops = true)
    (hs : Region.sinkB .any ops n = true) (hc : Region.chainB .any ops n = true) (hn : n < ops.size) (hin : i < n) (hdone : ∀ listed a bs, L listed a bs → ∀ j, j ∈ Region.ready .any ops listed → n ≤ j) (f : Nat) :
    ∀ (listed : Array Bool) (a : Act) (bs : Nat → Option Nat), HeadInv .any ops n listed → FreeOf ops listed i oi →
      i ∈ Region.ready .any ops listed → YieldsC P ops w0 oi v a → headC P ops w0 mk n L f (listed.setIfInBounds i true) (a.put oi.dst v) bs → headC P ops w0 mk n L (f + 1) listed a bs := by
  induction f with
  | zero =>
    intro listed a bs inv _ hr hy H
    refine ⟨List.ne_nil_of_mem hr, fun j hj => ?_⟩
    have hjn := ready_head hs hc hn inv hin (mem_ready.1 hr).1 hj
    by_cases hji : j = i
    · subst hji
      exact ⟨hjn, hy.cOp hi hmi H⟩
    · exact absurd (hdone _ _ _ H j (ready_mono hj hji)) (Nat.not_le.2 hjn)
  | succ f ih =>
    intro listed a bs inv hfree hr hy H
    have hun := (mem_ready.1 hr).1
    refine ⟨List.ne_nil_of_mem hr, fun j hj => ?_⟩
    have hjn := ready_head hs hc hn inv hin hun hj
    by_cases hji : j = i
    · subst hji
      exact ⟨hjn, hy.cOp hi hmi H⟩
    refine ⟨hjn, ?_⟩
    obtain ⟨hjun, oj, hoj, _⟩ := mem_ready.1 hj
    have hsl := Region.noSelect_spec hsel
    refine cOp_mono (fun a' bs' hK => ?_) (cOp_put hoj (hfree j oj hoj hji hjun (no_edge hoj hj hun)) (fun cs b => hsl i oi cs b hi) (fun cs b => hsl j oj cs b hoj) hy (H.2 j (ready_mono hj hji)).2)
    refine ih (listed.setIfInBounds j true) a' bs' (inv.set hj hjn) (hfree.set hjun) (ready_mono hr (Ne.symm hji)) hK.1 ?_
    rw [Array.setIfInBounds_comm _ _ hji]
    exact hK.2

/-- where only variables are left to be made: this one first -/
theorem headC_alloc {i : Nat} {oi : Oper} {z : Obj} (hi : ops[i]? = some oi) (hmi : mk i = some z) (hgi : oi.guard = none)
    (hs : Region.sinkB .any ops n = true) (hc : Region.chainB .any ops n = true) (hn : n < ops.size) (hin : i < n) (hdone : ∀ listed a bs, L listed a bs → ∀ j, j ∈ Region.ready .any ops listed → n ≤ j) (f : Nat) :
    ∀ (listed : Array Bool) (a : Act) (bs : Nat → Option Nat), HeadInv .any ops n listed → FreeOf ops listed i oi → (∀ j, j < n → listed.getD j true = false → ∃ z', mk j = some z') →
      i ∈ Region.ready .any ops listed → (∀ b, headC P ops w0 mk n L f (listed.setIfInBounds i true) (a.put oi.dst (ptr b)) (upd bs i b)) → headC P ops w0 mk n L (f + 1) listed a bs := by
  have hwant : ∀ a : Act, Region.wanted oi (yielded ops a.tmps) = true := fun a => by simp [Region.wanted, hgi]
  have take : ∀ (f : Nat) (listed : Array Bool) (a : Act) (bs : Nat → Option Nat), (∀ b, headC P ops w0 mk n L f listed (a.put oi.dst (ptr b)) (upd bs i b)) → cOp P ops w0 mk i (headC P ops w0 mk n L f listed) a bs := by
    intro f listed a bs H
    unfold cOp
    simp only [hi, hmi, hwant, if_true]
    exact H
  induction f with
  | zero =>
    intro listed a bs inv _ _ hr H
    refine ⟨List.ne_nil_of_mem hr, fun j hj => ?_⟩
    have hjn := ready_head hs hc hn inv hin (mem_ready.1 hr).1 hj
    by_cases hji : j = i
    · subst hji
      exact ⟨hjn, take _ _ _ _ H⟩
    · exact absurd (hdone _ _ _ (H 0) j (ready_mono hj hji)) (Nat.not_le.2 hjn)
  | succ f ih =>
    intro listed a bs inv hfree hall hr H
    have hun := (mem_ready.1 hr).1
    refine ⟨List.ne_nil_of_mem hr, fun j hj => ?_⟩
    have hjn := ready_head hs hc hn inv hin hun hj
    by_cases hji : j = i
    · subst hji
      exact ⟨hjn, take _ _ _ _ H⟩
    refine ⟨hjn, ?_⟩
    obtain ⟨hjun, oj, hoj, _⟩ := mem_ready.1 hj
    obtain ⟨z', hmj⟩ := hall j hjn hjun
    have hap := hfree j oj hoj hji hjun (no_edge hoj hj hun)
    have hK : ∀ b, cOp P ops w0 mk j (fun a' bs' => headC P ops w0 mk n L f ((listed.setIfInBounds i true).setIfInBounds j true) (a'.put oi.dst (ptr b)) bs') a (upd bs i b) := fun b =>
      cOp_putA hoj hap z' hmj ((H b).2 j (ready_mono hj hji)).2
    have go : ∀ (a' : Act) (bs' : Nat → Option Nat), (∀ b, headC P ops w0 mk n L f ((listed.setIfInBounds i true).setIfInBounds j true) (a'.put oi.dst (ptr b)) (upd bs' i b)) → headC P ops w0 mk n L (f + 1) (listed.setIfInBounds j true) a' bs' := by
      intro a' bs' h
      refine ih (listed.setIfInBounds j true) a' bs' (inv.set hj hjn) (hfree.set hjun) (fun k hk hku => ?_) (ready_mono hr (Ne.symm hji)) (fun b => ?_)
      · refine hall k hk ?_
        by_cases hjk : j = k
        · rw [← hjk]; exact hjun
        · rw [getD_set_ne true hjk] at hku; exact hku
      · rw [Array.setIfInBounds_comm _ _ hji]
        exact h b
    unfold cOp at hK ⊢
    simp only [hoj, hmj] at hK ⊢
    by_cases hw : Region.wanted oj (yielded ops a.tmps) = true
    · simp only [hw, if_true] at hK ⊢
      exact fun c => go _ _ (fun b => by rw [← upd_comm bs (Ne.symm hji) b c]; exact hK b c)
    · simp only [hw] at hK ⊢
      exact go _ _ hK

/-- just the operations before k are listed -/
structure Pref (ops : Array Oper) (k : Nat) (listed : Array Bool) : Prop where
  size : listed.size = ops.size
  yes : ∀ i, i < k → listed.getD i false = true
  no : ∀ i, k ≤ i → i < ops.size → listed.getD i true = false
theorem Pref.start : Pref ops 0 (Array.replicate ops.size false) := ⟨by simp, by intro i hi; omega, fun i _ hi => getD_in (by simpa using hi) (getD_replicate_false _ _)⟩
theorem Pref.next {k : Nat} {listed : Array Bool} (h : Pref ops k listed) (hk : k < ops.size) : Pref ops (k + 1) (listed.setIfInBounds k true) := by
  refine ⟨by simpa using h.size, fun i hi => ?_, fun i hi hi' => ?_⟩
  · by_cases e : i = k
    · subst e
      simp [h.size, hk]
    · exact getD_set_true (h.yes i (by omega))
  · rw [getD_set_ne true (by omega)]
    exact h.no i (by omega) hi'
theorem Pref.at {k i : Nat} {listed : Array Bool} (h : Pref ops k listed) (hi : listed.getD i true = false) : k ≤ i := by
  rcases Nat.lt_or_ge i k with h' | h'
  · have h1 := h.yes i h'
    rw [getD_both hi] at h1
    cases h1
  · exact h'
theorem Pref.ready {k : Nat} {listed : Array Bool} {o : Oper} (h : Pref ops k listed) (hx : LexOK ops) (ho : ops[k]? = some o) : k ∈ Region.ready .any ops listed :=
  mem_ready.2 ⟨h.no k (Nat.le_refl _) (Array.getElem?_eq_some_iff.1 ho).1, o, ho, fun e he hb => h.yes _ (hx.edge k o ho e he hb)⟩
theorem Pref.inv {k n : Nat} {listed : Array Bool} (h : Pref ops k listed) (hx : LexOK ops) (hkn : k ≤ n) : HeadInv .any ops n listed := by
  refine ⟨h.size, fun j oj hj hl e he hb => ?_, fun t ht ht' => h.no t (by omega) ht'⟩
  have hlt := (Array.getElem?_eq_some_iff.1 hj).1
  have hjk : j < k := by
    rcases Nat.lt_or_ge j k with h' | h'
    · exact h'
    · have h1 := h.no j h' hlt
      rw [getD_both h1] at hl
      cases hl
  exact h.yes _ (Nat.lt_trans (hx.edge j oj hj e he hb) hjk)
theorem Pref.free {k : Nat} {listed : Array Bool} {o : Oper} (h : Pref ops k listed) (hx : LexOK ops) (ho : ops[k]? = some o) : FreeOf ops listed k o := fun j oj hj hne hun hno => by
  have := h.at hun
  exact hx.free k j o oj (by omega) ho hj hno

/-- new variables, one after the other -/
def allocAll (F : Act → (Nat → Option Nat) → Prop) : List Oper → Nat → Act → (Nat → Option Nat) → Prop
  | [], _, a, bs => F a bs
  | o :: rest, k, a, bs => ∀ b, allocAll F rest (k + 1) (a.put o.dst (ptr b)) (upd bs k b)

theorem headC_allocs (hx : LexOK ops) (hs : Region.sinkB .any ops n = true) (hc : Region.chainB .any ops n = true) (hn : n < ops.size) {F : Act → (Nat → Option Nat) → Prop} :
    ∀ (l : List Oper) (k : Nat) (listed : Array Bool) (a : Act) (bs : Nat → Option Nat), (∀ j, j < l.length → l[j]? = ops[k + j]?) → k + l.length = n → Pref ops k listed → (∀ j, k ≤ j → j < n → ∃ z, mk j = some z) → (∀ o, o ∈ l → o.guard = none) →
      allocAll F l k a bs → headC P ops w0 mk n (fun listed a bs => Pref ops n listed ∧ F a bs) l.length listed a bs
  | [], k, listed, a, bs, _, hk, hp, _, _, h => by
    obtain rfl : k = n := by simpa using hk
    exact ⟨hp, h⟩
  | o :: l, k, listed, a, bs, hl, hk, hp, hz, hg, h => by
    have h0 : ops[k]? = some o := by simpa using (hl 0 (by simp)).symm
    simp only [List.length_cons] at hk
    obtain ⟨z, hzk⟩ := hz k (Nat.le_refl _) (by omega)
    refine headC_alloc h0 hzk (hg o (by simp)) hs hc hn (by omega) (fun listed a bs hL j hj => hL.1.at (mem_ready.1 hj).1) l.length listed a bs (hp.inv hx (by omega)) (hp.free hx h0) (fun j hj hun => hz j (hp.at hun) hj) (hp.ready hx h0) (fun b => ?_)
    exact headC_allocs hx hs hc hn l (k + 1) _ _ _ (fun j hj => by have := hl (j + 1) (by simp; omega); simpa [Nat.add_assoc, Nat.add_comm 1 j] using this) (by omega) (hp.next (by omega)) (fun j hj => hz j (by omega)) (fun o ho => hg o (List.mem_cons_of_mem _ ho)) (h b)

theorem headC_walk (hx : LexOK ops) (hs : Region.sinkB .any ops n = true) (hc : Region.chainB .any ops n = true) (hn : n < ops.size) {F : Act → (Nat → Option Nat) → Prop} {m : Nat} {l2 : List Oper} (hl2 : ∀ j, j < l2.length → l2[j]? = ops[m + j]?) (hm2 : m + l2.length = n)
    (hz : ∀ j, m ≤ j → j < n → ∃ z, mk j = some z) (hz' : ∀ j, j < m → mk j = none) (hg : ∀ o, o ∈ l2 → o.guard = none) {bs : Nat → Option Nat} :
    ∀ (l : List Oper) (k : Nat) (listed : Array Bool) (a : Act), (∀ j, j < l.length → l[j]? = ops[k + j]?) → k + l.length = m → Pref ops k listed →
      wpCalm P ops w0 (fun a' => allocAll F l2 m a' bs) l a → headC P ops w0 mk n (fun listed a bs => Pref ops n listed ∧ F a bs) (l.length + l2.length) listed a bs
  | [], k, listed, a, _, hk, hp, h => by
    obtain rfl : k = m := by simpa using hk
    rw [List.length_nil, Nat.zero_add]
    exact headC_allocs hx hs hc hn l2 k listed a bs hl2 hm2 hp hz hg h
  | o :: l, k, listed, a, hl, hk, hp, h => by
    have h0 : ops[k]? = some o := by simpa using (hl 0 (by simp)).symm
    simp only [List.length_cons] at hk
    have hmk := hz' k (by omega)
    have hy : ∃ v, YieldsC P ops w0 o v a ∧ wpCalm P ops w0 (fun a' => allocAll F l2 m a' bs) l (a.put o.dst v) := by
      unfold wpCalm at h
      by_cases hw : Region.wanted o (yielded ops a.tmps) = true
      · simp only [hw, if_true] at h
        obtain ⟨v, h1, h2⟩ := h
        exact ⟨v, .inl ⟨hw, h1⟩, h2⟩
      · simp only [hw] at h
        exact ⟨undef, .inr ⟨by simpa using hw, rfl⟩, h⟩
    obtain ⟨v, hy, hK⟩ := hy
    rw [List.length_cons, Nat.succ_add]
    refine headC_calm h0 hmk hx.sel hs hc hn (by omega) (fun listed a bs hL j hj => hL.1.at (mem_ready.1 hj).1) (l.length + l2.length) listed a bs (hp.inv hx (by omega)) (hp.free hx h0) (hp.ready hx h0) hy ?_
    exact headC_walk hx hs hc hn hl2 hm2 hz hz' hg l (k + 1) _ _ (fun j hj => by have := hl (j + 1) (by simp; omega); simpa [Nat.add_assoc, Nat.add_comm 1 j] using this) (by omega) (hp.next (by omega)) hK

/-- the tail, one after the other -/
theorem wpAny_tail (hx : LexOK ops) (hc : Region.chainB .any ops n = true) {Q : Exit → Act → World → Prop} : ∀ (l : List Oper) (k : Nat) (listed : Array Bool) (a : Act) (w : World), n ≤ k → (∀ j, l[j]? = ops[k + j]?) → k + l.length = ops.size → Pref ops k listed →
    wpList P ops Q l a w → wpAny P .any ops Q l.length listed a w
  | [], k, listed, a, w, _, _, hk, hp, h => by
    refine ⟨List.eq_nil_iff_forall_not_mem.2 fun i hi => ?_, h⟩
    obtain ⟨hun, o, ho, _⟩ := mem_ready.1 hi
    have h1 := hp.at hun
    have h2 := (Array.getElem?_eq_some_iff.1 ho).1
    simp at hk
    omega
  | o :: l, k, listed, a, w, hnk, hl, hk, hp, h => by
    have h0 : ops[k]? = some o := by simpa using (hl 0).symm
    have hlt := (Array.getElem?_eq_some_iff.1 h0).1
    refine ⟨fun e => ?_, fun i hi => ?_⟩
    · have := hp.ready hx h0
      rw [e] at this
      cases this
    · obtain ⟨hun, oi, hoi, hall⟩ := mem_ready.1 hi
      have hik := hp.at hun
      have hilt := (Array.getElem?_eq_some_iff.1 hoi).1
      obtain rfl : i = k := by
        rcases Nat.eq_or_lt_of_le hik with e | e
        · exact e.symm
        · exfalso
          have h1 := List.all_eq_true.1 hc i (List.mem_range.2 hilt)
          simp only [Bool.or_eq_true, decide_eq_true_eq] at h1
          rcases h1 with h1 | h1
          · omega
          · obtain ⟨o', ho', e', he, hb, hon⟩ := Region.waitsFor_spec h1
            obtain rfl : o' = oi := Option.some.inj (ho'.symm.trans hoi)
            have h2 := hall e' he hb
            have h3 := hp.no (i - 1) (by omega) (by omega)
            rw [hon, getD_both h3] at h2
            cases h2
      have hw : wpOp P ops Q i (wpList P ops Q l) a w := by unfold wpOp; simp only [h0]; exact h
      exact wpOp_mono (fun a' w' h' => wpAny_tail hx hc l (i + 1) _ a' w' (by omega) (fun j => by have := hl (j + 1); simpa [Nat.add_assoc, Nat.add_comm 1 j] using this) (by simp at hk; omega) (hp.next hlt) h') hw

/-- the variables lie where they are said to lie -/
structure Fx (w0 : World) (mk : Nat → Option Obj) (bs : Nat → Option Nat) (w : World) : Prop where
  below : Below w0.heap.size w0 w
  here : ∀ i b, bs i = some b → ∃ z, mk i = some z ∧ w.heap[b]? = some z ∧ w0.heap.size ≤ b
  apart : ∀ i j b, bs i = some b → bs j = some b → i = j
theorem Fx.later {bs : Nat → Option Nat} {w w' : World} (h : Fx w0 mk bs w) (hb : Below w.heap.size w w') : Fx w0 mk bs w' :=
  ⟨h.below.trans (hb.mono h.below.size), fun i b e => by obtain ⟨z, h1, h2, h3⟩ := h.here i b e; exact ⟨z, h1, heap_keep h2 hb, h3⟩, h.apart⟩
theorem Fx.alloc {bs : Nat → Option Nat} {w : World} {i : Nat} {z : Obj} (h : Fx w0 mk bs w) (hm : mk i = some z) : Fx w0 mk (upd bs i w.heap.size) (w.alloc z) := by
  have new : ∀ j b, bs j = some b → b < w.heap.size := fun j b e => by
    obtain ⟨z', _, h2, _⟩ := h.here j b e
    exact (Array.getElem?_eq_some_iff.1 h2).1
  refine ⟨h.below.alloc h.below.size _, fun j b e => ?_, fun j k b e e' => ?_⟩
  · unfold upd at e
    by_cases hj : j = i
    · subst hj
      simp only [if_true, Option.some.injEq] at e
      subst e
      exact ⟨z, hm, heap_new w z, h.below.size⟩
    · simp only [hj, if_false] at e
      obtain ⟨z', h1, h2, h3⟩ := h.here j b e
      exact ⟨z', h1, heap_old _ h2, h3⟩
  · unfold upd at e e'
    by_cases hj : j = i
    · by_cases hk : k = i
      · rw [hj, hk]
      · simp only [hj, hk, if_true, if_false, Option.some.injEq] at e e'
        have := new k b e'
        omega
    · by_cases hk : k = i
      · simp only [hj, hk, if_true, if_false, Option.some.injEq] at e e'
        have := new j b e
        omega
      · simp only [hj, hk, if_false] at e e'
        exact h.apart j k b e e'

theorem headC_any {g : Nat} {Q : Exit → Act → World → Prop} (hmk : ∀ (i : Nat) (o : Oper) (z : Obj), ops[i]? = some o → mk i = some z → ∀ (ev : Operand → Value) (w : World), (execOp ev o).run P w = .ok (.value (ptr w.heap.size)) (w.alloc z))
    (hL : ∀ listed a bs w, Fx w0 mk bs w → L listed a bs → wpAny P .any ops Q g listed a w) (f : Nat) :
    ∀ (listed : Array Bool) (a : Act) (bs : Nat → Option Nat) (w : World), Fx w0 mk bs w → headC P ops w0 mk n L f listed a bs → wpAny P .any ops Q (f + g) listed a w := by
  induction f with
  | zero => intro listed a bs w hw h; rw [Nat.zero_add]; exact hL _ _ _ _ hw h
  | succ f ih =>
    intro listed a bs w hF h
    rw [Nat.succ_add]
    refine ⟨fun e => absurd e h.1, fun i hi => ?_⟩
    have hc := (h.2 i hi).2
    unfold cOp at hc
    unfold wpOp
    cases ho : ops[i]? with
    | none => simp only [ho] at hc ⊢; exact ih _ _ _ _ hF hc
    | some o =>
      simp only [ho] at hc ⊢
      by_cases hw : Region.wanted o (yielded ops a.tmps) = true
      · simp only [hw, if_true] at hc ⊢
        refine .inl ?_
        unfold Oper.wp
        cases hm : mk i with
        | none =>
          simp only [hm] at hc
          obtain ⟨v, hv, hK⟩ := hc
          have hv := hv ⟨w, hF.below⟩
          generalize hr : (execOp a.eval o).run P w = r
          have hv : Oper.calmUpon P w v r := hr ▸ hv
          clear hr
          cases r with
          | ok nx w' =>
            cases nx <;> simp only [Oper.calmUpon] at hv <;> simp only [Oper.upon]
            case value u =>
              obtain ⟨rfl, rfl⟩ := hv
              exact ih _ _ _ _ hF hK
            case skip =>
              obtain ⟨rfl, rfl⟩ := hv
              exact ih _ _ _ _ hF hK
            case enter f' args =>
              obtain ⟨rfl, hcl⟩ := hv
              exact hcl.mono fun e w'' ⟨he, hb⟩ => by subst he; exact ih _ _ _ _ (hF.later hb) hK
          | halt x w' => simp only [Oper.calmUpon] at hv
        | some z =>
          simp only [hm] at hc
          rw [hmk i o z ho hm]
          simp only [Oper.upon]
          exact ih _ _ _ _ (hF.alloc hm) (hc _)
      · simp only [hw] at hc ⊢
        exact ih _ _ _ _ hF hc

/-- the variables of a statement, by their list -/
def mkOf (m : Nat) (zs : List Obj) (i : Nat) : Option Obj := if i < m then none else zs[i - m]?
/-- THE WHOLE STATEMENT: m calm operations, the variables zs, the rest in its order. -/
theorem wp_decl {id : Nat} {Q : Exit → Act → World → Prop} {a : Act} {w : World} {l l2 l3 : List Oper} {zs : List Obj} (m : Nat) (hfo : P.follows .mixedOrders = true) (hx : LexOK l.toArray) (hl : l.drop m = l2 ++ l3) (hm : m ≤ l.length) (h3 : l3 ≠ [])
    (hs : Region.sinkB .any l.toArray (m + l2.length) = true) (hc : Region.chainB .any l.toArray (m + l2.length) = true) (hzl : zs.length = l2.length) (hg : ∀ o, o ∈ l2 → o.guard = none)
    (hmk : ∀ (i : Nat) (o : Oper) (z : Obj), l2[i]? = some o → zs[i]? = some z → ∀ (ev : Operand → Value) (w : World), (execOp ev o).run P w = .ok (.value (ptr w.heap.size)) (w.alloc z))
    (h : wpCalm P l.toArray w (fun a' => allocAll (fun a'' bs => ∀ X, Fx w (mkOf m zs) bs X → wpList P l.toArray Q l3 a'' X) l2 m a' (fun _ => none)) (l.take m) a) : (Code.region id l.toArray true).wp P Q a w := by
  have hlen : l.length = m + (l2.length + l3.length) := by
    have := congrArg List.length hl
    simp at this
    omega
  have hl3 : 0 < l3.length := List.length_pos_iff.2 h3
  have htl : (l.take m).length = m := by simp; omega
  have e2 : ∀ j, j < l2.length → l2[j]? = l.toArray[m + j]? := fun j hj => by
    have h1 : (l.drop m)[j]? = l2[j]? := by rw [hl, List.getElem?_append_left hj]
    rw [List.getElem?_drop] at h1
    simpa using h1.symm
  have e3 : ∀ j, l3[j]? = l.toArray[m + l2.length + j]? := fun j => by
    have h1 : (l.drop m)[l2.length + j]? = l3[j]? := by rw [hl, List.getElem?_append_right (by omega)]; congr 1; omega
    rw [List.getElem?_drop] at h1
    simpa [Nat.add_assoc] using h1.symm
  have H := headC_walk (P := P) (w0 := w) (mk := mkOf m zs) (n := m + l2.length) hx hs hc (by simp; omega) (F := fun a'' bs => ∀ X, Fx w (mkOf m zs) bs X → wpList P l.toArray Q l3 a'' X) (m := m) (l2 := l2) e2 rfl
    (fun j h1 h2 => by
      refine ⟨zs[j - m]'(by omega), ?_⟩
      unfold mkOf
      rw [if_neg (by omega)]
      simp)
    (fun j h1 => by unfold mkOf; rw [if_pos h1]) hg (bs := fun _ => none) (l.take m) 0 _ a (fun j hj => by rw [htl] at hj; simp [hj]) (by rw [htl]; omega) Pref.start h
  refine wp_region_any hfo ?_
  have K := headC_any (P := P) (g := l3.length) (Q := Q) (fun i o z ho hz ev w => by
      unfold mkOf at hz
      by_cases hi : i < m
      · rw [if_pos hi] at hz; cases hz
      · rw [if_neg hi] at hz
        have hlt : i - m < l2.length := by
          have := (List.getElem?_eq_some_iff.1 hz).1
          omega
        refine hmk (i - m) o z ?_ hz ev w
        rw [e2 (i - m) hlt, show m + (i - m) = i by omega]
        exact ho)
    (fun listed a' bs X hF hL => wpAny_tail hx hc l3 (m + l2.length) listed a' X (Nat.le_refl _) e3 (by simp; omega) hL.1 (hL.2 X hF)) _ _ _ _ _ (⟨(Below.refl _ _).drew, fun i b e => by (cases e), fun i j b e => by (cases e)⟩ : Fx w (mkOf m zs) (fun _ => none) w.drew) H
  rw [htl, show m + l2.length + l3.length = l.toArray.size by simp; omega] at K
  exact K

theorem Fx.get {m : Nat} {zs : List Obj} {bs : Nat → Option Nat} {X : World} (h : Fx w0 (mkOf m zs) bs X) (i b : Nat) (z : Obj) (e : bs i = some b) (e' : mkOf m zs i = some z) : X.heap[b]? = some z ∧ w0.heap.size ≤ b := by
  obtain ⟨z', h1, h2, h3⟩ := h.here i b e
  rw [h1] at e'
  cases e'
  exact ⟨h2, h3⟩
theorem Fx.ne {m : Nat} {zs : List Obj} {bs : Nat → Option Nat} {X : World} (h : Fx w0 (mkOf m zs) bs X) (i j b c : Nat) (hij : i ≠ j) (e : bs i = some b) (e' : bs j = some c) : b ≠ c := fun k => hij (h.apart i j b e (k ▸ e'))
/-- variables of one type -/
theorem mk_same {l2 : List Oper} {zs : List Obj} (T : TypeId) (z : Obj) (hT : ∀ (ev : Operand → Value) (o : Oper) (w : World), o.op = .alloc T → (execOp ev o).run P w = .ok (.value (ptr w.heap.size)) (w.alloc z))
    (h2 : ∀ o, o ∈ l2 → o.op = .alloc T) (hz : ∀ x, x ∈ zs → x = z) : ∀ (i : Nat) (o : Oper) (y : Obj), l2[i]? = some o → zs[i]? = some y → ∀ (ev : Operand → Value) (w : World), (execOp ev o).run P w = .ok (.value (ptr w.heap.size)) (w.alloc y) := by
  intro i o y ho hy ev w
  rw [hz y (List.mem_of_getElem? hy)]
  exact hT ev o w (h2 o (List.mem_of_getElem? ho))
theorem all_cons {α : Type} {p : α → Prop} {x : α} {l : List α} (h : p x) (k : ∀ y, y ∈ l → p y) : ∀ y, y ∈ x :: l → p y := fun y hy => (List.mem_cons.1 hy).elim (fun e => e ▸ h) (k y)
theorem all_nil {α : Type} {p : α → Prop} : ∀ y, y ∈ ([] : List α) → p y := fun y hy => by cases hy
theorem cells_at {W : World} {b : Nat} {cs : Array Value} {t : TypeId} (h : W.heap[b]? = some (.cells cs t (0, 0))) (i : Nat) {v : Value} (e : cs[i]? = some v) : W.cell? ⟨b, i, none⟩ = some v := by
  simp [World.cell?, h, e]
end


theorem Calls.calm {P : Program} {f : FuncId} {args : Array Value} {W : World} {v : Value} (h : Calls P f args W fun e w' => e = .returned v ∧ Below W.heap.size W w') : Calls P f args W fun e w'' => e = .returned v ∧ Below W.heap.size W w'' := h
theorem Calls.calm_same {P : Program} {f : FuncId} {args : Array Value} {W : World} {v : Value} (h : Calls P f args W fun e w' => e = .returned v ∧ w' = W) : Calls P f args W fun e w'' => e = .returned v ∧ Below W.heap.size W w'' :=
  h.mono fun _ _ ⟨he, hw⟩ => ⟨he, hw ▸ Below.refl _ _⟩

end Go.Proofs.YtgkojdbepgonkaaDoor
