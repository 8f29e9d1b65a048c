/- A range over a function whose iterator has a variable of its own in memory: one law for the caller and the iterator. -/
import Derived.Test.YtliflbelhogopaaDoorShg
namespace Go.Proofs.YtliflbelhogopaaDoor
set_option maxRecDepth 8000
open Go.RowKit
open Go.Shelf

/-- whatever lies at or beyond block N in A lies there in B -/
def KeepA (N : Nat) (A B : World) : Prop := A.heap.size ≤ B.heap.size ∧ ∀ b o, N ≤ b → A.heap[b]? = some o → B.heap[b]? = some o
theorem KeepA.refl (N : Nat) (A : World) : KeepA N A A := ⟨Nat.le_refl _, fun _ _ _ h => h⟩
theorem KeepA.trans {N : Nat} {A B C : World} (h : KeepA N A B) (k : KeepA N B C) : KeepA N A C := ⟨Nat.le_trans h.1 k.1, fun b o hb ho => k.2 b o hb (h.2 b o hb ho)⟩
theorem KeepA.of_below {N : Nat} {A B : World} (h : Below A.heap.size A B) : KeepA N A B := ⟨h.size, fun _ _ _ ho => heap_keep ho h⟩
theorem KeepA.set {N : Nat} {A B : World} (h : KeepA N A B) {p : Addr} (hp : p.block < N) (x : Value) : KeepA N A (B.setCell p x) :=
  ⟨by simp [World.setCell]; exact h.1, fun b o hb ho => (Below.heap_setCell B p x b (by omega)).trans (h.2 b o hb ho)⟩
theorem KeepA.mono {N M : Nat} {A B : World} (h : KeepA N A B) (hN : N ≤ M) : KeepA M A B := ⟨h.1, fun b o hb ho => h.2 b o (by omega) ho⟩

/-- what a round of the loop leaves -/
def ownEnd (N : Nat) (J1 : World → Prop) (Jx : World → Prop) (A : World) : Exit → Act → World → Prop
  | .normal, _, B => KeepA N A B ∧ J1 B
  | .ret, _, B => KeepA N A B ∧ Jx B
  | _, _, _ => False

theorem wpIn_rangeOwn {P : Program} {α : Type} {g : Operand} {ps : Array Tmp} {assign body : Code} {Q : Exit → Act → World → Prop} {a : Act} {w : World} {gf : Nat} {lb : Array Value}
    (hg : a.eval g = .func (.func gf) #[] lb) (eg : ∀ args w, (callFunc gf args).run P w = .ok (.enter gf args) w) (encs : α → Array Value) (hps : ∀ x, (encs x).size = ps.size)
    (n : Nat) (J : Nat → World → Prop) (Jx : Nat → World → Prop) (X : Nat → α → World → Prop) (hJ : ∀ i A B, J i A → Below w.heap.size A B → J i B) (hJx : ∀ i A B, Jx i A → Below w.heap.size A B → Jx i B) (h0 : J 0 w)
    (hiter : ∀ (l : Nat) (W : World) (J' Jx' : Nat → World → Prop), (∀ i A B, J' i A → Below W.heap.size A B → J' i B) → (∀ i A, J' i A → J i A ∧ W.heap.size ≤ A.heap.size) → w.heap.size ≤ W.heap.size →
      (∀ i x A, i < n → J' i A → X i x A → YieldAt Fence.wide 1 P l (encs x) A fun e B => (e = .returned (.bool true) ∧ J' (i + 1) B ∧ KeepA W.heap.size A B) ∨ (e = .returned (.bool false) ∧ Jx' i B)) → J' 0 W →
      CallsIn Fence.wide 2 P gf (#[.func (.yield l) #[] #[]] ++ lb) W fun e B => (∃ v, e = .returned v) ∧ (J' n B ∨ ∃ i, i < n ∧ Jx' i B))
    (hround : ∀ (l i : Nat) (x : α) (A : World), i < n → w.heap.size ≤ l → l < A.heap.size → (∃ L, A.heap[l]? = some (.loop L)) → J i A → X i x A →
      assign.wpIn (Fence.wide.inRound l) 1 P (Exit.then (fun a' B => KeepA w.heap.size A B ∧ J i B ∧ ∀ B2, KeepA (l + 1) B B2 → Below w.heap.size B B2 → (∀ b o, b ≠ l → B.heap[b]? = some o → B2.heap[b]? = some o) → body.wpIn (Fence.wide.inRound l) 1 P (ownEnd w.heap.size (J (i + 1)) (Jx i) B2) a' B2) (fun _ _ _ => False))
        { tmps := (ps.zip (encs x)).foldl (fun t (p, v) => t.setIfInBounds p v) a.tmps, defers := [] } A)
    (hdone : ∀ (D : Nat) (B : World), w.heap.size ≤ D → J n B → B.heap[D]? = some (.deferred (some [])) → Q .normal { a with defers := { target := .collected D, args := #[] } :: a.defers } B)
    (hstop : ∀ (D i : Nat) (B : World), w.heap.size ≤ D → i < n → Jx i B → B.heap[D]? = some (.deferred (some [])) → Code.ret.wpIn Fence.wide 3 P Q { a with defers := { target := .collected D, args := #[] } :: a.defers } B) :
    (Code.rangeFunc g ps assign body).wpIn Fence.wide 3 P Q a w := by
  refine wpIn_rangeFunc fun fn hfn => ?_
  let R : LoopState → Option Code → Loop := fun st pe => { state := st, pending := pe, fn := fn, tmps := a.tmps, params := ps, assign := assign, body := body, defers := w.heap.size }
  let W : World := (w.alloc (.deferred (some []))).alloc (.loop (R .ready none))
  have hsz : W.heap.size = w.heap.size + 1 + 1 := by simp [W]
  have hbW : Below w.heap.size w W := ((Below.refl _ w).alloc (Nat.le_refl _) _).alloc (by simp) _
  have hWL : W.heap[w.heap.size + 1]? = some (.loop (R .ready none)) := by
    have h := World.alloc_heap_new (w.alloc (.deferred (some []))) (.loop (R .ready none))
    rwa [World.size_alloc] at h
  have hWD : W.heap[w.heap.size]? = some (.deferred (some [])) := heap_old _ (heap_new w _)
  have put : ∀ (A : World) (o o' : Obj), A.heap[w.heap.size + 1]? = some o → Below w.heap.size A (A.putObj (w.heap.size + 1) o') ∧ KeepA (w.heap.size + 1 + 1) A (A.putObj (w.heap.size + 1) o') ∧ (A.putObj (w.heap.size + 1) o').heap[w.heap.size + 1]? = some o' ∧ ∀ b q, b ≠ w.heap.size + 1 → A.heap[b]? = some q → (A.putObj (w.heap.size + 1) o').heap[b]? = some q := fun A o o' h =>
    ⟨⟨rfl, rfl, rfl, by simp, fun k hk => World.putObj_heap_other (by omega)⟩, ⟨by simp, fun b q hb hq => (World.putObj_heap_other (by omega)).trans hq⟩, World.putObj_heap_same (Array.getElem?_eq_some_iff.1 h).1, fun b q hb hq => (World.putObj_heap_other hb).trans hq⟩
  refine ⟨w.heap.size + 1, [{ target := .collected w.heap.size, args := #[] }], W, { target := .fn (.func gf) lb, args := #[.func (.yield (w.heap.size + 1)) #[] #[]] }, W, gf, #[.func (.yield (w.heap.size + 1)) #[] #[]] ++ lb, W, run_enterLoop_outer _ _ _ _ _, ?_, fun _ _ => trivial, ?_, fun _ => by omega, ?_⟩
  · simp only [resolve, hg]
    simp [go_sem]
  · simp [invoke, go_sem, eg]
  · refine (hiter (w.heap.size + 1) W
      (fun i A => J i A ∧ W.heap.size ≤ A.heap.size ∧ A.heap[w.heap.size + 1]? = some (.loop (R .ready none)) ∧ A.heap[w.heap.size]? = some (.deferred (some [])))
      (fun i A => Jx i A ∧ A.heap[w.heap.size + 1]? = some (.loop (R .done (some .ret))) ∧ A.heap[w.heap.size]? = some (.deferred (some [])))
      (fun i A B h hb => ⟨hJ i A B h.1 (hb.mono hbW.size), Nat.le_trans h.2.1 hb.size, (hb.block _ (by omega)).trans h.2.2.1, (hb.block _ (by omega)).trans h.2.2.2⟩)
      (fun i A h => ⟨h.1, h.2.1⟩) hbW.size ?_ ⟨hJ 0 w W h0 hbW, Nat.le_refl _, hWL, hWD⟩).mono ?_
    · intro i x A hin ⟨hj, hs, hl, hd⟩ hx
      refine ⟨fn, _, assign, body, run_yield hl (hps x), roundIn_of_wpIn hfn ?_⟩
      refine wpIn_mono (hround (w.heap.size + 1) i x A hin (Nat.le_succ _) (Array.getElem?_eq_some_iff.1 hl).1 ⟨_, hl⟩ hj hx) ?_
      rintro e a' B hp
      cases e with
      | normal =>
        obtain ⟨hk, hjB, hbody⟩ := hp
        have hl2 := hk.2 _ _ (Nat.le_succ _) hl
        have hd2 := hk.2 _ _ (Nat.le_refl _) hd
        obtain ⟨p1, p2, p3, p4⟩ := put B _ (.loop (R .busy none)) hl2
        refine ⟨_, run_beginRound hl2 rfl, ?_⟩
        refine wpIn_mono (hbody _ p2 p1 p4) ?_
        rintro e2 a3 C hp2
        cases e2 with
        | normal =>
          obtain ⟨hk3, hj3⟩ := hp2
          have hl3 := hk3.2 _ _ (Nat.le_succ _) p3
          have hd3 := hk3.2 _ _ (Nat.le_refl _) (p4 _ _ (by omega) hd2)
          obtain ⟨q1, q2, q3, q4⟩ := put C _ (.loop (R .ready none)) hl3
          refine ⟨_, _, run_endRound none hl3, .inl ⟨rfl, ⟨hJ _ _ _ hj3 q1, ?_, q3, q4 _ _ (by omega) hd3⟩, ?_⟩⟩
          · exact Nat.le_trans hs (Nat.le_trans hk.1 (Nat.le_trans p2.1 (Nat.le_trans hk3.1 q2.1)))
          · rw [hsz]
            exact ((hk.mono (by omega)).trans p2).trans ((hk3.mono (by omega)).trans q2)
        | ret =>
          obtain ⟨hk3, hj3⟩ := hp2
          have hl3 := hk3.2 _ _ (Nat.le_succ _) p3
          have hd3 := hk3.2 _ _ (Nat.le_refl _) (p4 _ _ (by omega) hd2)
          obtain ⟨q1, q2, q3, q4⟩ := put C _ (.loop (R .done (some .ret))) hl3
          exact ⟨_, _, run_endRound (some .ret) hl3, .inr ⟨rfl, hJx _ _ _ hj3 q1, q3, q4 _ _ (by omega) hd3⟩⟩
        | exit id => exact hp2.elim
        | goto t => exact hp2.elim
        | panic ch => exact hp2.elim
        | outgrown => exact hp2.elim
      | _ => exact hp.elim
    · rintro e B ⟨⟨v, rfl⟩, (⟨hj, _, hl, hd⟩ | ⟨i, hin, hj, hl, hd⟩)⟩
      · obtain ⟨q1, q2, q3, q4⟩ := put B _ (.loop (R .exhausted none)) hl
        exact ⟨none, _, run_endLoop hl (by simp [R]), hdone _ _ (Nat.le_refl _) (hJ _ _ _ hj q1) (q4 _ _ (by omega) hd)⟩
      · obtain ⟨q1, q2, q3, q4⟩ := put B _ (.loop (R .exhausted (some .ret))) hl
        exact ⟨some .ret, _, run_endLoop hl (by simp [R]), hstop _ i _ (Nat.le_refl _) hin (hJx _ _ _ hj q1) (q4 _ _ (by omega) hd)⟩

end Go.Proofs.YtliflbelhogopaaDoor
