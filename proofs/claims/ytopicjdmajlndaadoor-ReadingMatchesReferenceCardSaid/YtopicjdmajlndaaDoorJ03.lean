/- Several texts in one: Qb, Qc, Qd. -/
import Derived.RangeFuncCalls
import Derived.Test.YtopicjdmajlndaaDoorJ02
import Derived.Deep.Cut
import Derived.Deep.CutRange
import Derived.Deep.RegionWith
import Derived.TacticsInMore
import Derived.LoopNIn
import Derived.LoopIn
import Derived.RangeFuncNested
import Derived.RangeFuncBound
import Derived.RangeFuncLeaves
import Derived.RangeFuncBox
import Derived.Shelf.RegionOpen
import Derived.Laws.EntriesVeiled
namespace Go.Proofs.YtopicjdmajlndaaDoor.K
set_option linter.unusedVariables false
set_option linter.unusedSimpArgs false
set_option linter.unusedSectionVars false
set_option maxRecDepth 8000
open Go.RowKit
/-- a step of an iterator: nothing below N changes, no cells change -/
structure Abide (N : Nat) (A B : World) : Prop where
  below : Below N A B
  cells : ∀ (b : Nat) (o : Obj), A.heap[b]? = some o → o.isCells = true → B.heap[b]? = some o
theorem Abide.refl (N : Nat) (A : World) : Abide N A A := ⟨Below.refl _ _, fun _ _ h _ => h⟩
theorem Abide.trans {N : Nat} {A B C : World} (h : Abide N A B) (k : Abide N B C) : Abide N A C := ⟨h.below.trans k.below, fun b o ho hc => k.cells b o (h.cells b o ho hc) hc⟩
theorem Abide.mono {N M : Nat} {A B : World} (h : Abide N A B) (hM : M ≤ N) : Abide M A B := ⟨h.below.mono hM, h.cells⟩
theorem Abide.of_below {N : Nat} {A B : World} (h : Below A.heap.size A B) (hN : N ≤ A.heap.size) : Abide N A B := ⟨h.mono hN, fun _ _ ho _ => heap_keep ho h⟩
theorem Abide.putObj {N l : Nat} {A : World} {o : Obj} (o' : Obj) (h : A.heap[l]? = some o) (hc : o.isCells = false) (hN : N ≤ l) : Abide N A (A.putObj l o') :=
  ⟨⟨rfl, rfl, rfl, by simp, fun k hk => World.putObj_heap_other (by omega)⟩, fun b q hq hqc => by
    have e : b ≠ l := by
      rintro rfl
      rw [h] at hq
      cases hq
      rw [hc] at hqc
      cases hqc
    exact (World.putObj_heap_other e).trans hq⟩
theorem Abide.cell {N : Nat} {A B : World} (h : Abide N A B) {p : Addr} {v : Value} (hc : A.cell? p = some v) : B.cell? p = some v := by
  have hlt := World.block_lt_of_cell? _ _ hc
  have ho := Array.getElem?_eq_getElem hlt
  have hcell : (A.heap[p.block]'hlt).isCells = true := by
    have := hc
    unfold World.cell? at this
    rw [ho] at this
    cases hh : A.heap[p.block]'hlt <;> rw [hh] at this <;> first | rfl | (simp at this)
  exact (World.cell?_of_block ((h.cells _ _ ho hcell).trans ho.symm)).trans hc
/-- what a round keeps for the iterator: whatever lies at or beyond N, but for cells -/
structure KeepI (N : Nat) (A B : World) : Prop where
  size : A.heap.size ≤ B.heap.size
  same : ∀ (b : Nat) (o : Obj), N ≤ b → A.heap[b]? = some o → Obj.isCells o = false → B.heap[b]? = some o
theorem KeepI.refl (N : Nat) (A : World) : KeepI N A A := ⟨Nat.le_refl _, fun _ _ _ h _ => h⟩
theorem KeepI.trans {N : Nat} {A B C : World} (h : KeepI N A B) (k : KeepI N B C) : KeepI N A C := ⟨Nat.le_trans h.size k.size, fun b o hb ho hd => k.same b o hb (h.same b o hb ho hd) hd⟩
theorem KeepI.mono {N M : Nat} {A B : World} (h : KeepI N A B) (hM : N ≤ M) : KeepI M A B := ⟨h.size, fun b o hb => h.same b o (by omega)⟩
theorem KeepI.of_below {N : Nat} {A B : World} (h : Below A.heap.size A B) : KeepI N A B := ⟨h.size, fun _ _ _ ho _ => heap_keep ho h⟩
theorem KeepI.putObj {N l : Nat} {A : World} (o' : Obj) (hN : l < N) : KeepI N A (A.putObj l o') := ⟨by simp, fun b o hb ho _ => (World.putObj_heap_other (by omega)).trans ho⟩
theorem KeepI.setCell {N : Nat} {A : World} (p : Addr) (v : Value) (hp : p.block < N) : KeepI N A (A.setCell p v) :=
  ⟨by simp [World.setCell], fun b o hb ho _ => (Below.heap_setCell A p v b (by omega)).trans ho⟩
theorem KeepI.setRow {N x : Nat} {A : World} (cs : Array Value) (hx : x < N) : KeepI N A (A.setRow x cs) :=
  ⟨by simp [World.setRow], fun b o hb ho _ => by
    have : x ≠ b := by omega
    simp [World.setRow, Array.getElem?_modify, this]
    exact ho⟩
theorem KeepI.cell {N : Nat} {A B : World} (h : KeepI N A B) {p : Addr} {v : Value} (hp : N ≤ p.block) (hc : A.cell? p = some v) (hd : ∀ o, A.heap[p.block]? = some o → Obj.isCells o = false) : B.cell? p = some v := by
  have hlt := World.block_lt_of_cell? _ _ hc
  have ho := Array.getElem?_eq_getElem hlt
  exact (World.cell?_of_block ((h.same _ _ hp ho (hd _ ho)).trans ho.symm)).trans hc
/-- what an iterator promises whose rounds always go on: it yields xs in their order -/
def IterC {α : Type} (P : Program) (gf : Nat) (lb : Array Value) (encs : α → Array Value) (xs : List α) (G : World → Prop) : Prop :=
  ∀ (l : Nat) (W : World) (J : Nat → World → Prop), (∀ i A, J i A → G A ∧ W.heap.size ≤ A.heap.size) → (∀ i A B, J i A → Abide W.heap.size A B → J i B) →
    (∀ i x A, xs[i]? = some x → J i A → YieldAt Fence.wide 1 P l (encs x) A fun e B => e = .returned (.bool true) ∧ J (i + 1) B ∧ KeepI W.heap.size A B) → J 0 W →
    CallsIn Fence.wide 2 P gf (#[.func (.yield l) #[] #[]] ++ lb) W fun e B => (∃ v, e = .returned v) ∧ J xs.length B
/-- how a round's body is left -/
def endAll (N : Nat) (J1 : World → Prop) (A : World) : Exit → Act → World → Prop
  | .normal, _, B => KeepI N A B ∧ J1 B
  | _, _, _ => False
theorem wpIn_rangeAll {P : Program} {α : Type} {g : Operand} {ps : Array Tmp} {assign body : Code} {Q : Exit → Act → World → Prop} {a : Act} {w : World} {gf : Nat} {lb : Array Value}
    (hg : a.eval g = .func (.func gf) #[] lb) (eg : ∀ args w, (callFunc gf args).run P w = .ok (.enter gf args) w) (encs : α → Array Value) (hps : ∀ x, (encs x).size = ps.size)
    (xs : List α) (G : World → Prop) (hit : IterC P gf lb encs xs G) (J : Nat → World → Prop) (hJG : ∀ i A, J i A → G A) (hJ : ∀ i A B, J i A → Abide w.heap.size A B → J i B) (h0 : J 0 w) (n : Nat)
    (hround : ∀ (l i : Nat) (x : α) (A : World), xs[i]? = some x → w.heap.size ≤ l → J i A →
      assign.wpIn (Fence.wide.inRound l) 1 P (Exit.then (fun a' B => KeepI w.heap.size A B ∧ ∀ B2, Abide w.heap.size B B2 → body.wpIn (Fence.wide.inRound l) 1 P (endAll w.heap.size (J (i + 1)) B2) a' B2) (fun _ _ _ => False))
        { tmps := (ps.zip (encs x)).foldl (fun t (p, v) => t.setIfInBounds p v) a.tmps, defers := [] } A)
    (hdone : ∀ (D : Nat) (B : World), w.heap.size ≤ D → J xs.length B → B.heap[D]? = some (.deferred (some [])) → Q .normal { a with defers := { target := .collected D, args := #[] } :: a.defers } B) :
    (Code.rangeFunc g ps assign body).wpIn Fence.wide n P Q a w := by
  refine wpIn_rangeFunc fun fn hfn => ?_
  let R : LoopState → Option Code → Loop := fun st pd => { state := st, pending := pd, fn := fn, tmps := a.tmps, params := ps, assign := assign, body := body, defers := w.heap.size }
  let W : World := (w.alloc (.deferred (some []))).alloc (.loop (R .ready none))
  have hsz : W.heap.size = w.heap.size + 1 + 1 := by simp [W]
  have hbW : Below w.heap.size w W := ((Below.refl _ w).alloc (Nat.le_refl _) _).alloc (by simp) _
  have hWL : W.heap[w.heap.size + 1]? = some (.loop (R .ready none)) := by
    have h := World.alloc_heap_new (w.alloc (.deferred (some []))) (.loop (R .ready none))
    rwa [World.size_alloc] at h
  have hWD : W.heap[w.heap.size]? = some (.deferred (some [])) := heap_old _ (heap_new w _)
  have put : ∀ (A : World) (o o' : Obj), A.heap[w.heap.size + 1]? = some o → (A.putObj (w.heap.size + 1) o').heap[w.heap.size + 1]? = some o' ∧ ∀ b q, b ≠ w.heap.size + 1 → A.heap[b]? = some q → (A.putObj (w.heap.size + 1) o').heap[b]? = some q := fun A o o' h =>
    ⟨World.putObj_heap_same (Array.getElem?_eq_some_iff.1 h).1, fun b q hb hq => (World.putObj_heap_other hb).trans hq⟩
  refine ⟨w.heap.size + 1, [{ target := .collected w.heap.size, args := #[] }], W, { target := .fn (.func gf) lb, args := #[.func (.yield (w.heap.size + 1)) #[] #[]] }, W, gf, #[.func (.yield (w.heap.size + 1)) #[] #[]] ++ lb, W, run_enterLoop_outer _ _ _ _ _, ?_, fun _ _ => trivial, ?_, fun h => (by cases h), ?_⟩
  · simp only [resolve, hg]
    simp [go_sem]
  · simp [invoke, go_sem, eg]
  · refine (callsIn_wide (n := n - 1)).2 ((callsIn_wide (n := 2)).1 ((hit (w.heap.size + 1) W
      (fun i A => J i A ∧ W.heap.size ≤ A.heap.size ∧ A.heap[w.heap.size + 1]? = some (.loop (R .ready none)) ∧ A.heap[w.heap.size]? = some (.deferred (some [])))
      (fun i A h => ⟨hJG i A h.1, h.2.1⟩)
      (fun i A B h hb => ⟨hJ i A B h.1 (hb.mono hbW.size), Nat.le_trans h.2.1 hb.below.size, (hb.below.block _ (by omega)).trans h.2.2.1, (hb.below.block _ (by omega)).trans h.2.2.2⟩)
      ?_ ⟨hJ 0 w W h0 (Abide.of_below hbW (Nat.le_refl _)), Nat.le_refl _, hWL, hWD⟩).mono ?_))
    · intro i x A hx ⟨hj, hs, hl, hd⟩
      refine ⟨fn, _, assign, body, run_yield hl (hps x), roundIn_of_wpIn hfn ?_⟩
      refine wpIn_mono (hround (w.heap.size + 1) i x A hx (Nat.le_succ _) hj) ?_
      rintro e a' B hp
      cases e with
      | normal =>
        obtain ⟨hk, hbody⟩ := hp
        have hl2 := hk.same _ _ (Nat.le_succ _) hl rfl
        have hd2 := hk.same _ _ (Nat.le_refl _) hd rfl
        obtain ⟨p3, p4⟩ := put B _ (.loop (R .busy none)) hl2
        refine ⟨_, run_beginRound hl2 rfl, ?_⟩
        refine wpIn_mono (hbody _ (Abide.putObj _ hl2 rfl (Nat.le_succ _))) ?_
        rintro e2 a3 C hp2
        cases e2 with
        | normal =>
          obtain ⟨hk3, hj3⟩ := hp2
          have hl3 := hk3.same _ _ (Nat.le_succ _) p3 rfl
          have hd3 := hk3.same _ _ (Nat.le_refl _) (p4 _ _ (by omega) hd2) rfl
          obtain ⟨q3, q4⟩ := put C _ (.loop (R .ready none)) hl3
          have hB2 : KeepI W.heap.size B (B.putObj (w.heap.size + 1) (.loop (R .busy none))) := KeepI.putObj _ (by omega)
          have hC2 : KeepI W.heap.size C (C.putObj (w.heap.size + 1) (.loop (R .ready none))) := KeepI.putObj _ (by omega)
          refine ⟨_, _, run_endRound none hl3, rfl, ⟨hJ _ _ _ hj3 (Abide.putObj _ hl3 rfl (Nat.le_succ _)), ?_, q3, q4 _ _ (by omega) hd3⟩, ?_⟩
          · exact Nat.le_trans hs (Nat.le_trans hk.size (Nat.le_trans hB2.size (Nat.le_trans hk3.size hC2.size)))
          · exact ((hk.mono hbW.size).trans hB2).trans ((hk3.mono hbW.size).trans hC2)
        | ret => exact hp2.elim
        | exit id => exact hp2.elim
        | goto t => exact hp2.elim
        | panic ch => exact hp2.elim
        | outgrown => exact hp2.elim
      | _ => exact hp.elim
    · rintro e B ⟨⟨v, rfl⟩, hj, _, hl, hd⟩
      obtain ⟨q3, q4⟩ := put B _ (.loop (R .exhausted none)) hl
      exact ⟨none, _, run_endLoop hl (by simp [R]), hdone _ _ (Nat.le_refl _) (hJ _ _ _ hj (Abide.putObj _ hl rfl (Nat.le_succ _))) (q4 _ _ (by omega) hd)⟩

/-- nothing but cells changes -/
structure Kin (A B : World) : Prop where
  size : A.heap.size ≤ B.heap.size
  same : ∀ (b : Nat) (o : Obj), A.heap[b]? = some o → o.isCells = false → B.heap[b]? = some o
theorem Kin.refl (A : World) : Kin A A := ⟨Nat.le_refl _, fun _ _ h _ => h⟩
theorem Kin.trans {A B C : World} (h : Kin A B) (k : Kin B C) : Kin A C := ⟨Nat.le_trans h.size k.size, fun b o ho hd => k.same b o (h.same b o ho hd) hd⟩
theorem Kin.of_below {A B : World} (h : Below A.heap.size A B) : Kin A B := ⟨h.size, fun _ _ ho _ => heap_keep ho h⟩
theorem Kin.keep {A B : World} (h : Kin A B) (N : Nat) : KeepI N A B := ⟨h.size, fun b o _ ho hd => h.same b o ho hd⟩
theorem Kin.far {A B : World} {g : Nat} {o : Obj} (hg : A.heap[g]? = some o) (hc : o.isCells = true) (hs : A.heap.size ≤ B.heap.size) (hfar : ∀ k o, k ≠ g → A.heap[k]? = some o → B.heap[k]? = some o) : Kin A B :=
  ⟨hs, fun b q hq hd => hfar b q (fun e => by subst e; rw [hg] at hq; injection hq with hq; subst hq; rw [hc] at hd; cases hd) hq⟩
theorem Kin.grown {A B : World} {base : Nat} {e : TypeId} {size n : Nat} {v : Value} {cs : List Value} (h : A.ownsRow base e size v n cs) (hg : A.grownBy B v.ownBlock) : Kin A B :=
  ⟨hg.size, fun b q hq hd => (hg.block b (Array.getElem?_eq_some_iff.1 hq).1 (fun he => by
    rcases h.2 with ⟨rfl, _⟩ | ⟨g, cap, cur, rfl, hb, hgg, _⟩
    · cases he
    · simp only [Value.ownBlock] at he
      injection he with he
      subst he
      rw [hgg] at hq
      injection hq with hq
      subst hq
      cases hd)).trans hq⟩
section
variable {P : Program} {Q : Exit → Act → World → Prop} {ops : Array Oper} {w : World} {n : Nat} {ty : TypeId} {x y : Operand}
/-- an element of one cell is stored into a slice of the call's own -/
theorem own_at {base : Nat} {e : TypeId} {size : Nat} {v : Value} {cs : List Value} {i : Nat} (h : w.ownsRow base e size v n cs) (hi : i < n) : ∃ g cap, v = .slice (some ⟨g, 0, none⟩) n cap ∧ base ≤ g := by
  rcases h.2 with ⟨rfl, rfl⟩ | ⟨g, cap, cur, rfl, hb, _⟩
  · omega
  · exact ⟨g, cap, rfl, hb⟩
theorem wpList_ownStore {rest : List Oper} {o : Oper} {a : Act} {w : World} {base g cap i : Nat} {e : TypeId} {cs : List Value} (u : Value) (hw : Region.wanted o (yielded ops a.tmps) = true) (hown : w.ownsRow base e 1 (.slice (some ⟨g, 0, none⟩) n cap) n cs) (hi : i < n) (hz : (P.info? ty).map (·.size) = some 1) (h1 : u.oneCell' = true)
    (ho : o.op = .store ty x y) (hx : a.eval x = .pointer (some ((⟨g, 0, none⟩ : Addr).add i))) (hy : a.eval y = u)
    (h : ∀ W, W.ownsRow base e 1 (.slice (some ⟨g, 0, none⟩) n cap) n (cs.set i u) → (∀ k o, k ≠ g → w.heap[k]? = some o → W.heap[k]? = some o) → (∀ B v0, B ≤ g → Below B v0 w → Below B v0 W) → Kin w W → wpList P ops Q rest (a.put o.dst undef) W) : wpList P ops Q (o :: rest) a w := by
  have hst := World.ownsRow.stored hown i u
  rw [ad_base] at hx
  have hown' := hown
  rcases hown'.2 with ⟨hn, _⟩ | ⟨g', cap', cur, e1, hb, hg, hc, hm, hs, ht⟩
  · cases hn
  · simp only [Value.slice.injEq, Option.some.injEq, Addr.mk.injEq, and_true, true_and] at e1
    obtain ⟨rfl, rfl⟩ := e1
    have hlt : i < cur.size := by rw [hs]; omega
    refine wpList_run0 hw _ (xo_store1 g i cur cur[i] u hg (by simp [hlt]) hz h1 ho hx hy) (h _ hst.1 (fun k o hk h0 => ?_) (fun B v0 hB hbb => hbb.setCell hB _) (Kin.far hg rfl (by simp [World.setCell]) (fun k o hk h0 => ?_)))
    · exact (Below.heap_setCell w _ _ k hk).trans h0
    · exact (Below.heap_setCell w _ _ k hk).trans h0
end
theorem hOp_callA {P : Program} {o : Oper} {a : Act} {w : World} {K : Value → World → Prop} {fn : Func} (f : FuncId) (hf : P.funcs[f]? = some fn) (hname : (fn.name == "runtime.NumGoroutine") = false) (hb : fn.body.isNone = false) (x : Tmp) (xs : Array Operand) (lb : Array Value) (ts : Array TypeId) (ho : o.op = .call { callee := .value (.tmp x), args := xs, argTypes := ts })
    (hx : a.eval (.tmp x) = .func (.func f) #[] lb) (args : Array Value) (hargs : xs.map a.eval = args) (h : Calls P f (args ++ lb) w fun e w' => ∃ v, e = .returned v ∧ K v w') : hOp P o K a w := by
  unfold hOp execOp
  simp only [ho]
  have e : (do let d ← resolve a.eval { callee := .value (.tmp x), args := xs, argTypes := ts } o.type; invoke d.target d.args : Sem Next).run P w = .ok (.enter f (args ++ lb)) w := by
    have h1 : fn.name ≠ "runtime.NumGoroutine" := by simpa using hname
    have h2 : fn.body ≠ none := by
      intro e
      rw [e] at hb
      cases hb
    have hx' : a.tmps[x]?.getD undef = .func (.func f) #[] lb := by simpa [Act.eval] using hx
    subst hargs
    simp [resolve, Deferred.ofValue, invoke, go_sem, hx', callFunc, hf, h1, h2]
  rw [e]
  exact h
section
variable {P : Program}
theorem hOpI_val {o : Oper} {a : Act} {w : World} {K : Value → World → Prop} (v : Value) (h : (execOp a.eval o).run P w = .ok (.value v) w) (hk : K v w) : hOpI P o K a w := by
  unfold hOpI
  rw [h]
  exact hk
theorem hOpI_yield {R : Ending → World → Prop} {o : Oper} {a : Act} {w : World} {K : Value → World → Prop} (x : Tmp) (l : Nat) (xs : Array Operand) (ts : Array TypeId) (args : Array Value) (ho : o.op = .call { callee := .value (.tmp x), args := xs, argTypes := ts })
    (hx : a.eval (.tmp x) = .func (.yield l) #[] #[]) (hv : xs.map a.eval = args) (h : YieldAt Fence.wide 1 P l args w R) (hR : ∀ e w', R e w' → ∃ v, e = .returned v ∧ K v w') : hOpI P o K a w := by
  obtain ⟨fn, tmps, assign, body, hrun, hr⟩ := h
  have e : (execOp a.eval o).run P w = .ok (.round l fn tmps assign body) w := by
    have hx' : a.tmps[x]?.getD undef = .func (.yield l) #[] #[] := by simpa [Act.eval] using hx
    subst hv
    unfold execOp
    simp only [ho]
    simp [resolve, Deferred.ofValue, invoke, go_sem, hx', hrun]
  unfold hOpI
  rw [e]
  exact hr.mono hR
end
theorem oblM_cons {P : Program} {l0 r : List Oper} {I : (Nat → Bool) → (Nat → Value) → World → Prop} {o : Oper} {i : Nat} {A : (Nat → Value) → Act} (h : ∀ m vs W, ClosT l0 m → m i = false → (∀ k, depB o k = true → m k = true) → I m vs W → hOpI P o (fun v W' => I (setT m i) (setV vs i v) W') (A vs) W) (h2 : oblM P l0 I r (i + 1) (fun vs => (A vs).put o.dst (vs i))) : oblM P l0 I (o :: r) i A := ⟨h, h2⟩
/-- looks and calls that add to memory; then (place p) a yield, its denial -/
def YJ (p : Nat) (F : Nat → Value → Prop) (w0 : World) (T : Bool → World → Prop) (m : Nat → Bool) (vs : Nat → Value) (W : World) : Prop :=
  (∀ i, i < p → m i = true → F i (vs i)) ∧ (m p = false → m (p + 1) = false ∧ Below w0.heap.size w0 W) ∧ (m p = true → ∃ t, vs p = .bool t ∧ (m (p + 1) = true → vs (p + 1) = .bool (!t)) ∧ T t W)
section
variable {p : Nat} {F : Nat → Value → Prop} {w0 W : World} {T : Bool → World → Prop} {m m' : Nat → Bool} {vs : Nat → Value}
theorem YJ.step (h : YJ p F w0 T m vs W) (h9 : m p = false) {i : Nat} (hi : i < p) {v : Value} (hv : F i v) {W' : World} (hb : Below W.heap.size W W') : YJ p F w0 T (setT m i) (setV vs i v) W' := by
  obtain ⟨h1, h2, h3⟩ := h
  refine ⟨fun j hj hm => ?_, fun _ => ?_, fun hm => ?_⟩
  · unfold setT at hm
    unfold setV
    by_cases e : j = i
    · subst e; rw [if_pos rfl]; exact hv
    · rw [if_neg e] at hm ⊢; exact h1 j hj hm
  · unfold setT; rw [if_neg (by omega)]; exact ⟨(h2 h9).1, bel_step (h2 h9).2 hb⟩
  · unfold setT at hm; rw [if_neg (by omega), h9] at hm; cases hm
theorem YJ.yield (h : YJ p F w0 T m vs W) (h9 : m p = false) {t : Bool} {W' : World} (ht : T t W') : YJ p F w0 T (setT m p) (setV vs p (.bool t)) W' := by
  obtain ⟨h1, h2, h3⟩ := h
  have h10 := (h2 h9).1
  refine ⟨fun j hj hm => ?_, fun hm => ?_, fun _ => ⟨t, ?_, fun hm => ?_, ht⟩⟩
  · unfold setT at hm
    unfold setV
    rw [if_neg (by omega)] at hm ⊢
    exact h1 j hj hm
  · unfold setT at hm; rw [if_pos rfl] at hm; cases hm
  · unfold setV; rw [if_pos rfl]
  · unfold setT at hm; rw [if_neg (by omega), h10] at hm; cases hm
theorem YJ.last (h : YJ p F w0 T m vs W) (h9 : m p = true) {v : Value} (hv : ∀ t, vs p = .bool t → v = .bool (!t)) : YJ p F w0 T (setT m (p + 1)) (setV vs (p + 1) v) W := by
  obtain ⟨h1, h2, h3⟩ := h
  obtain ⟨t, e, _, ht⟩ := h3 h9
  refine ⟨fun j hj hm => ?_, fun hm => ?_, fun _ => ⟨t, ?_, fun _ => ?_, ht⟩⟩
  · unfold setT at hm
    unfold setV
    rw [if_neg (by omega)] at hm ⊢
    exact h1 j hj hm
  · unfold setT at hm; rw [if_neg (by omega), h9] at hm; cases hm
  · unfold setV; rw [if_neg (by omega)]; exact e
  · unfold setV; rw [if_pos rfl]; exact hv t e
theorem YJ.ext (he : ∀ i, i < p + 2 → m i = m' i) (h : YJ p F w0 T m vs W) : YJ p F w0 T m' vs W := by
  obtain ⟨h1, h2, h3⟩ := h
  refine ⟨fun i hi hm => h1 i hi (by rw [he i (by omega)]; exact hm), fun hm => ?_, fun hm => ?_⟩
  · rw [← he p (by omega)] at hm
    obtain ⟨a, b⟩ := h2 hm
    rw [he (p + 1) (by omega)] at a
    exact ⟨a, b⟩
  · rw [← he p (by omega)] at hm
    obtain ⟨t, a, b, c⟩ := h3 hm
    exact ⟨t, a, fun h => b (by rw [he (p + 1) (by omega)]; exact h), c⟩
end
/-- what place p waits for, by way of others -/
def reachB (l : List Oper) : Nat → Nat → Nat → Bool
  | 0, p, i => i == p
  | f + 1, p, i => i == p || (List.range l.length).any fun k => (match l[p]? with
    | some o => depB o k
    | none => false) && reachB l f k i
theorem reach_of {l : List Oper} {m : Nat → Bool} (h : ClosT l m) : ∀ (f p i : Nat), m p = true → reachB l f p i = true → m i = true
  | 0, p, i, hp, hr => by rw [reachB, beq_iff_eq] at hr; rw [hr]; exact hp
  | f + 1, p, i, hp, hr => by
    rw [reachB, Bool.or_eq_true, beq_iff_eq, List.any_eq_true] at hr
    rcases hr with rfl | ⟨k, _, hk⟩
    · exact hp
    · rw [Bool.and_eq_true] at hk
      obtain ⟨hk1, hk2⟩ := hk
      split at hk1
      · next o ho => exact reach_of h f k i (h p o ho hp k hk1) hk2
      · cases hk1
theorem notp {l : List Oper} {m : Nat → Bool} (h : ClosT l m) (p f : Nat) (hr : ((List.range p).all fun i => reachB l f p i) = true) {i : Nat} (hi : i < p) (hm : m i = false) : m p = false := by
  cases h9 : m p with
  | false => rfl
  | true =>
    have := reach_of h f p i h9 (List.all_eq_true.1 hr i (List.mem_range.2 hi))
    rw [this] at hm
    cases hm
end Go.Proofs.YtopicjdmajlndaaDoor.K

namespace Go.Proofs.YtopicjdmajlndaaDoor
set_option linter.unusedVariables false
set_option linter.unusedSimpArgs false
set_option linter.unusedSectionVars false
set_option maxRecDepth 8000
open Go.RowKit Go.Proofs.YtopicjdmajlndaaDoor.K
/-- a reading -/
structure Rd where
  who : Int
  when_ : Int
  kind : Int
  value : Int
/-- a slice's head -/
structure Hd where
  A : Option Addr
  n : Nat
  c : Nat
/-- an operation on a stream -/
structure Opn where
  b0 : Nat
  b1 : Nat
  b2 : Nat
  back : Bool
def rdC (r : Rd) : List Value := [.int .i64 r.who, .int .i64 r.when_, .int .i64 r.kind, .int .i64 r.value]
def boC (b : Bool) : List Value := [.bool b]
def wdC (n : Nat) : List Value := [.int .u64 (n : Int)]
def byC (n : Nat) : List Value := [.int .u8 (n : Int)]
def hdC (h : Hd) : List Value := [.slice h.A h.n h.c]
def opC (o : Opn) : List Value := [.int .u8 (o.b0 : Int), .int .u8 (o.b1 : Int), .int .u8 (o.b2 : Int), .bool o.back]
instance : Enc rdC 4 := ⟨fun _ => rfl, fun x u hu => by simp only [rdC, List.mem_cons, List.not_mem_nil, or_false] at hu; rcases hu with rfl | rfl | rfl | rfl <;> rfl, by omega⟩
instance : Enc boC 1 := ⟨fun _ => rfl, fun x u hu => by simp only [boC, List.mem_cons, List.not_mem_nil, or_false] at hu; subst hu; rfl, by omega⟩
instance : Enc wdC 1 := ⟨fun _ => rfl, fun x u hu => by simp only [wdC, List.mem_cons, List.not_mem_nil, or_false] at hu; subst hu; rfl, by omega⟩
instance : Enc byC 1 := ⟨fun _ => rfl, fun x u hu => by simp only [byC, List.mem_cons, List.not_mem_nil, or_false] at hu; subst hu; rfl, by omega⟩
instance : Enc hdC 1 := ⟨fun _ => rfl, fun x u hu => by simp only [hdC, List.mem_cons, List.not_mem_nil, or_false] at hu; subst hu; rfl, by omega⟩
instance : Enc opC 4 := ⟨fun _ => rfl, fun x u hu => by simp only [opC, List.mem_cons, List.not_mem_nil, or_false] at hu; rcases hu with rfl | rfl | rfl | rfl <;> rfl, by omega⟩
/-- the package's table of widths lies -/
def Gw (w : World) : Prop := w.rangeAt 0 0 [.int .i64 4, .int .i64 8, .int .i64 4, .int .i64 8]
theorem Gw.keep {w w' : World} (h : Gw w) (hb : Below w.heap.size w w') : Gw w' := fun j v hv => cell_keep (h j v hv) hb
/-- cells of a list -/
abbrev fl {α : Type} (E : α → List Value) (xs : List α) : List Value := xs.flatMap E
def fldI (r : Rd) : Nat → Int
  | 0 => r.who
  | 1 => r.when_
  | 2 => r.kind
  | _ => r.value
def widN : Nat → Nat
  | 0 => 4
  | 2 => 4
  | _ => 8
/-- field j lies within its width -/
def fokB (r : Rd) (j : Nat) : Bool := decide (0 ≤ fldI r j ∧ fldI r j < ((2 ^ widN j : Nat) : Int))
def vR (r : Rd) : Bool := fokB r 0 && fokB r 1 && fokB r 2 && fokB r 3
theorem vR_iff {r : Rd} : vR r = true ↔ (0 ≤ r.who ∧ r.who < 16) ∧ (0 ≤ r.when_ ∧ r.when_ < 256) ∧ (0 ≤ r.kind ∧ r.kind < 16) ∧ (0 ≤ r.value ∧ r.value < 256) := by
  simp only [vR, fokB, fldI, widN, Bool.and_eq_true, decide_eq_true_eq]
  constructor
  · rintro ⟨⟨⟨h0, h1⟩, h2⟩, h3⟩
    exact ⟨⟨h0.1, by have := h0.2; omega⟩, ⟨h1.1, by have := h1.2; omega⟩, ⟨h2.1, by have := h2.2; omega⟩, h3.1, by have := h3.2; omega⟩
  · rintro ⟨h0, h1, h2, h3⟩
    exact ⟨⟨⟨⟨h0.1, by have := h0.2; omega⟩, h1.1, by have := h1.2; omega⟩, h2.1, by have := h2.2; omega⟩, h3.1, by have := h3.2; omega⟩
theorem fok_of {r : Rd} (h : vR r = true) : ∀ j, j < 4 → fokB r j = true := by
  intro j hj
  simp only [vR, Bool.and_eq_true] at h
  obtain ⟨⟨⟨h0, h1⟩, h2⟩, h3⟩ := h
  have : j = 0 ∨ j = 1 ∨ j = 2 ∨ j = 3 := by omega
  rcases this with rfl | rfl | rfl | rfl <;> assumption
theorem vR_of {r : Rd} (h : ∀ j, j < 4 → fokB r j = true) : vR r = true := by
  simp only [vR, Bool.and_eq_true]
  exact ⟨⟨⟨h 0 (by omega), h 1 (by omega)⟩, h 2 (by omega)⟩, h 3 (by omega)⟩
theorem vR_no {r : Rd} (j : Nat) (hj : j < 4) (h : fokB r j = false) : vR r = false := by
  cases hv : vR r with
  | false => rfl
  | true => rw [fok_of hv j hj] at h; cases h
/-- the reading of three bytes -/
def decR (a b c : Nat) : Rd := ⟨((a % 16 : Nat) : Int), (b : Int), ((a / 16 : Nat) : Int), (c : Int)⟩
theorem vR_dec {a b c : Nat} (ha : a < 256) (hb : b < 256) (hc : c < 256) : vR (decR a b c) = true := by
  rw [vR_iff]
  simp only [decR]
  omega
/-- a stream: readings, and which are gone -/
def opS (most : Nat) (s : List Rd × List Bool) (o : Opn) : List Rd × List Bool :=
  if o.back then (if 0 < s.1.length then (if s.2.getD (o.b0 % s.1.length) false then s else (s.1, s.2.set (o.b0 % s.1.length) true)) else s)
  else if s.1.length < most then (s.1 ++ [decR o.b0 o.b1 o.b2], s.2 ++ [false]) else s
def madeS (most : Nat) (l : List Opn) : List Rd × List Bool := l.foldl (opS most) ([], [])
/-- what holds of such a stream -/
structure StO (most : Nat) (rs : List Rd) (gs : List Bool) : Prop where
  same : gs.length = rs.length
  most : rs.length ≤ most
  ok : ∀ r ∈ rs, vR r = true
theorem StO.op {most : Nat} {s : List Rd × List Bool} (h : StO most s.1 s.2) (o : Opn) (h0 : o.b0 < 256) (h1 : o.b1 < 256) (h2 : o.b2 < 256) : StO most (opS most s o).1 (opS most s o).2 := by
  unfold opS
  split
  · split
    · split
      · exact h
      · exact ⟨by simp [h.same], h.most, h.ok⟩
    · exact h
  · split
    · next hl =>
      refine ⟨by simp [h.same], by simp; omega, fun r hr => ?_⟩
      rcases List.mem_append.1 hr with hr | hr
      · exact h.ok r hr
      · rw [List.mem_singleton] at hr
        subst hr
        exact vR_dec h0 h1 h2
    · exact h
theorem StO.nil (most : Nat) : StO most [] [] := ⟨rfl, Nat.zero_le _, fun r hr => by cases hr⟩
/-- the readings that are not gone -/
def liveL : List Rd → List Bool → List Rd
  | r :: rs, g :: gs => if g then liveL rs gs else r :: liveL rs gs
  | _, _ => []
theorem liveL_take {rs : List Rd} : ∀ {gs : List Bool} {i : Nat} {r : Rd} {g : Bool}, rs[i]? = some r → gs[i]? = some g → liveL (rs.take (i + 1)) (gs.take (i + 1)) = liveL (rs.take i) (gs.take i) ++ (if g then [] else [r]) := by
  induction rs with
  | nil => intro gs i r g h; simp at h
  | cons r0 rs ih =>
    intro gs i r g hr hg
    cases gs with
    | nil => simp at hg
    | cons g0 gs =>
      cases i with
      | zero =>
        simp only [List.getElem?_cons_zero, Option.some.injEq] at hr hg
        subst hr hg
        simp [liveL]
      | succ i =>
        simp only [List.getElem?_cons_succ] at hr hg
        rw [List.take_succ_cons, List.take_succ_cons, List.take_succ_cons, List.take_succ_cons]
        simp only [liveL]
        rw [ih hr hg]
        split <;> simp
/-- column j of a stream in 2 ^ log rows -/
def colN (rs : List Rd) (gs : List Bool) (N j : Nat) : List Nat :=
  if j < 4 then rs.map (fun r => (fldI r j).toNat) ++ List.replicate (N - rs.length) 0 else gs.map (fun g => if g then 0 else 1) ++ List.replicate (N - gs.length) 0
def colsN (rs : List Rd) (gs : List Bool) (N : Nat) : List (List Nat) := (List.range 5).map (colN rs gs N)
def bitN (col : List Nat) (k : Nat) : List Nat := col.map fun x => x / 2 ^ k % 2
/-- the bit columns of the first j fields -/
def bitsN (cols : List (List Nat)) : Nat → List (List Nat)
  | 0 => []
  | j + 1 => bitsN cols j ++ (List.range (widN j)).map (bitN (cols.getD j []))
/-- the smallest power of two that is at least n, from w on -/
def widthN (n : Nat) : Nat → Nat → Nat
  | 0, w => w
  | f + 1, w => if w < n then widthN n f (2 * w) else w
end Go.Proofs.YtopicjdmajlndaaDoor

namespace Go.Proofs.YtopicjdmajlndaaDoor
set_option linter.unusedVariables false
set_option linter.unusedSimpArgs false
set_option linter.unusedSectionVars false
set_option maxRecDepth 8000
open Go.RowKit Go.Proofs.YtopicjdmajlndaaDoor.K
attribute [local irreducible] wpList wpQuiet
set_option maxRecDepth 100000 in
set_option maxHeartbeats 8000000 in
theorem fld0_any (r : Rd) (w : World) : Calls Tryd.prog 58 #[.agg #[.int .i64 r.who, .int .i64 r.when_, .int .i64 r.kind, .int .i64 r.value]] w fun e w' => e = .returned (.int .i64 (fldI r 0)) ∧ Below w.heap.size w w' := by
  go_enter Tryd.func58, Tryd.ntmps58
  go_upto_region 1 with fail
  refine wp_named1 (fun V1 hb g0 hlt => ?_)
  have B0 := Lib.hid hb
  have Fv0_1 : Hid (V1.heap[w.heap.size]? = some (.cells #[.int .i64 r.who, .int .i64 r.when_, .int .i64 r.kind, .int .i64 r.value] 24 (0, 0))) := Lib.hid (g0)
  have Gb0 : Hid (w.heap.size ≤ w.heap.size) := Lib.hid (by omega)
  clear hb g0 hlt
  refine wp_region_lit ?_
  refine wpList_run (by kernel_rfl) (.pointer (some ⟨w.heap.size, 0, none⟩)) V1 (xo_fld0 0 w.heap.size 0 (by kernel_rfl) rfl rfl) ?_
  simp only [Act.put, List.setIfInBounds_toArray, List.set_cons_zero, List.set_cons_succ]
  refine wpList_run (by kernel_rfl) (.int .i64 r.who) V1 (xo_load1 ⟨w.heap.size, 0, none⟩ _ (cells_at Fv0_1.out 0 rfl) Tryd.underlying3 rfl rfl rfl) ?_
  simp only [Act.put, List.setIfInBounds_toArray, List.set_cons_zero, List.set_cons_succ]
  refine wpList_run (by kernel_rfl) (.int .i64 r.who) V1 rfl ?_
  simp only [Act.put, List.setIfInBounds_toArray, List.set_cons_zero, List.set_cons_succ]
  refine wpList_nil ?_
  go_wp2_with fail
  go_ret
  exact ⟨rfl, B0.out⟩
set_option maxRecDepth 100000 in
set_option maxHeartbeats 8000000 in
theorem fld1_any (r : Rd) (w : World) : Calls Tryd.prog 59 #[.agg #[.int .i64 r.who, .int .i64 r.when_, .int .i64 r.kind, .int .i64 r.value]] w fun e w' => e = .returned (.int .i64 (fldI r 1)) ∧ Below w.heap.size w w' := by
  go_enter Tryd.func59, Tryd.ntmps59
  go_upto_region 1 with fail
  refine wp_named1 (fun V1 hb g0 hlt => ?_)
  have B0 := Lib.hid hb
  have Fv0_1 : Hid (V1.heap[w.heap.size]? = some (.cells #[.int .i64 r.who, .int .i64 r.when_, .int .i64 r.kind, .int .i64 r.value] 24 (0, 0))) := Lib.hid (g0)
  have Gb0 : Hid (w.heap.size ≤ w.heap.size) := Lib.hid (by omega)
  clear hb g0 hlt
  refine wp_region_lit ?_
  refine wpList_run (by kernel_rfl) (.pointer (some ⟨w.heap.size, 1, none⟩)) V1 (xo_fld0 1 w.heap.size 1 (by kernel_rfl) rfl rfl) ?_
  simp only [Act.put, List.setIfInBounds_toArray, List.set_cons_zero, List.set_cons_succ]
  refine wpList_run (by kernel_rfl) (.int .i64 r.when_) V1 (xo_load1 ⟨w.heap.size, 1, none⟩ _ (cells_at Fv0_1.out 1 rfl) Tryd.underlying3 rfl rfl rfl) ?_
  simp only [Act.put, List.setIfInBounds_toArray, List.set_cons_zero, List.set_cons_succ]
  refine wpList_run (by kernel_rfl) (.int .i64 r.when_) V1 rfl ?_
  simp only [Act.put, List.setIfInBounds_toArray, List.set_cons_zero, List.set_cons_succ]
  refine wpList_nil ?_
  go_wp2_with fail
  go_ret
  exact ⟨rfl, B0.out⟩
set_option maxRecDepth 100000 in
set_option maxHeartbeats 8000000 in
theorem fld2_any (r : Rd) (w : World) : Calls Tryd.prog 60 #[.agg #[.int .i64 r.who, .int .i64 r.when_, .int .i64 r.kind, .int .i64 r.value]] w fun e w' => e = .returned (.int .i64 (fldI r 2)) ∧ Below w.heap.size w w' := by
  go_enter Tryd.func60, Tryd.ntmps60
  go_upto_region 1 with fail
  refine wp_named1 (fun V1 hb g0 hlt => ?_)
  have B0 := Lib.hid hb
  have Fv0_1 : Hid (V1.heap[w.heap.size]? = some (.cells #[.int .i64 r.who, .int .i64 r.when_, .int .i64 r.kind, .int .i64 r.value] 24 (0, 0))) := Lib.hid (g0)
  have Gb0 : Hid (w.heap.size ≤ w.heap.size) := Lib.hid (by omega)
  clear hb g0 hlt
  refine wp_region_lit ?_
  refine wpList_run (by kernel_rfl) (.pointer (some ⟨w.heap.size, 2, none⟩)) V1 (xo_fld0 2 w.heap.size 2 (by kernel_rfl) rfl rfl) ?_
  simp only [Act.put, List.setIfInBounds_toArray, List.set_cons_zero, List.set_cons_succ]
  refine wpList_run (by kernel_rfl) (.int .i64 r.kind) V1 (xo_load1 ⟨w.heap.size, 2, none⟩ _ (cells_at Fv0_1.out 2 rfl) Tryd.underlying3 rfl rfl rfl) ?_
  simp only [Act.put, List.setIfInBounds_toArray, List.set_cons_zero, List.set_cons_succ]
  refine wpList_run (by kernel_rfl) (.int .i64 r.kind) V1 rfl ?_
  simp only [Act.put, List.setIfInBounds_toArray, List.set_cons_zero, List.set_cons_succ]
  refine wpList_nil ?_
  go_wp2_with fail
  go_ret
  exact ⟨rfl, B0.out⟩
set_option maxRecDepth 100000 in
set_option maxHeartbeats 8000000 in
theorem fld3_any (r : Rd) (w : World) : Calls Tryd.prog 61 #[.agg #[.int .i64 r.who, .int .i64 r.when_, .int .i64 r.kind, .int .i64 r.value]] w fun e w' => e = .returned (.int .i64 (fldI r 3)) ∧ Below w.heap.size w w' := by
  go_enter Tryd.func61, Tryd.ntmps61
  go_upto_region 1 with fail
  refine wp_named1 (fun V1 hb g0 hlt => ?_)
  have B0 := Lib.hid hb
  have Fv0_1 : Hid (V1.heap[w.heap.size]? = some (.cells #[.int .i64 r.who, .int .i64 r.when_, .int .i64 r.kind, .int .i64 r.value] 24 (0, 0))) := Lib.hid (g0)
  have Gb0 : Hid (w.heap.size ≤ w.heap.size) := Lib.hid (by omega)
  clear hb g0 hlt
  refine wp_region_lit ?_
  refine wpList_run (by kernel_rfl) (.pointer (some ⟨w.heap.size, 3, none⟩)) V1 (xo_fld0 3 w.heap.size 3 (by kernel_rfl) rfl rfl) ?_
  simp only [Act.put, List.setIfInBounds_toArray, List.set_cons_zero, List.set_cons_succ]
  refine wpList_run (by kernel_rfl) (.int .i64 r.value) V1 (xo_load1 ⟨w.heap.size, 3, none⟩ _ (cells_at Fv0_1.out 3 rfl) Tryd.underlying3 rfl rfl rfl) ?_
  simp only [Act.put, List.setIfInBounds_toArray, List.set_cons_zero, List.set_cons_succ]
  refine wpList_run (by kernel_rfl) (.int .i64 r.value) V1 rfl ?_
  simp only [Act.put, List.setIfInBounds_toArray, List.set_cons_zero, List.set_cons_succ]
  refine wpList_nil ?_
  go_wp2_with fail
  go_ret
  exact ⟨rfl, B0.out⟩
set_option maxRecDepth 100000 in
set_option maxHeartbeats 8000000 in
theorem fields_any (w : World) : Calls Tryd.prog 44 #[] w fun e w' => e = .returned (.agg #[.func (.func 58) #[] #[], .func (.func 59) #[] #[], .func (.func 60) #[] #[], .func (.func 61) #[] #[]]) ∧ Below w.heap.size w w' := by
  go_enter Tryd.func44, Tryd.ntmps44
  go_upto_region 1 with fail
  refine wp_named1 (fun V1 hb g0 hlt => ?_)
  have B0 := Lib.hid hb
  have Fv0_0 : Hid (V1.heap[w.heap.size]? = some (.cells #[.nilFunc, .nilFunc, .nilFunc, .nilFunc] 76 (0, 0))) := Lib.hid (g0)
  have Gb0 : Hid (w.heap.size ≤ w.heap.size) := Lib.hid (by omega)
  clear hb g0 hlt
  refine wp_region_lit ?_
  refine wpList_run (by kernel_rfl) (.agg #[.func (.func 58) #[] #[], .func (.func 59) #[] #[], .func (.func 60) #[] #[], .func (.func 61) #[] #[]]) V1 (by unfold execOp; go_simp) ?_
  simp only [Act.put, List.setIfInBounds_toArray, List.set_cons_zero, List.set_cons_succ]
  refine wpList_storeW w.heap.size #[.nilFunc, .nilFunc, .nilFunc, .nilFunc] #[.func (.func 58) #[] #[], .func (.func 59) #[] #[], .func (.func 60) #[] #[], .func (.func 61) #[] #[]] 76 (by kernel_rfl) Fv0_0.out (xo_storeW w.heap.size #[.nilFunc, .nilFunc, .nilFunc, .nilFunc] #[.func (.func 58) #[] #[], .func (.func 59) #[] #[], .func (.func 60) #[] #[], .func (.func 61) #[] #[]] Fv0_0.out (by kernel_rfl) rfl (by simp [Value.oneCell']) rfl rfl rfl) ?_
  intro X1_0 h1 hfar hbel hsz
  have hbr := hbel _ _ Gb0.out B0.out
  clear B0
  have B0 := Lib.hid hbr
  clear hbr
  clear Fv0_0
  have Fv0_0 : Hid (X1_0.heap[w.heap.size]? = some (.cells #[.func (.func 58) #[] #[], .func (.func 59) #[] #[], .func (.func 60) #[] #[], .func (.func 61) #[] #[]] 76 (0, 0))) := Lib.hid (h1)
  have HszX1_0 := Lib.hid hsz
  clear h1 hfar hbel hsz
  simp only [ptr, Act.put, List.setIfInBounds_toArray, List.set_cons_zero, List.set_cons_succ]
  refine wpList_nil ?_
  go_wp2_with fail
  refine bodyPost_ret (v := .agg #[.func (.func 58) #[] #[], .func (.func 59) #[] #[], .func (.func 60) #[] #[], .func (.func 61) #[] #[]]) ?_ rfl ⟨rfl, B0.out⟩
  exact results_cell_row rfl _ _ w.heap.size 76 _ (0, 0) _ rfl Fv0_0.out Tryd.underlying76 rfl (by kernel_rfl)
set_option maxRecDepth 100000 in
set_option maxHeartbeats 8000000 in
theorem fromInt_any (n : Nat) (hn : n < 9223372036854775808) (w : World) : Calls Tryd.prog 47 #[.int .i64 (n : Int)] w fun e w' => e = .returned (.int .u64 (n : Int)) ∧ Below w.heap.size w w' := by
  go_enter Tryd.func47, Tryd.ntmps47
  go_upto_region 1 with fail
  refine wp_region_lit ?_
  refine wpList_run (by kernel_rfl) (.int .i64 (n : Int)) w rfl ?_
  simp only [Act.put, List.setIfInBounds_toArray, List.set_cons_zero, List.set_cons_succ]
  refine wpList_run (by kernel_rfl) (.bool false) w (xo_lssF .i64 (n : Int) 0 (by omega) rfl rfl rfl) ?_
  simp only [Act.put, List.setIfInBounds_toArray, List.set_cons_zero, List.set_cons_succ]
  refine wpList_nil ?_
  go_upto_region 3 with fail
  refine wp_region_lit ?_
  refine wpList_run (by kernel_rfl) (.int .i64 (n : Int)) w rfl ?_
  simp only [Act.put, List.setIfInBounds_toArray, List.set_cons_zero, List.set_cons_succ]
  refine wpList_run (by kernel_rfl) (.int .u64 (n : Int)) w (xo_cvt .i64 .u64 (n : Int) (n : Int) (by rw [IntKind.wrap_u64]; omega) Tryd.underlying50 Tryd.underlying2 rfl rfl) ?_
  simp only [Act.put, List.setIfInBounds_toArray, List.set_cons_zero, List.set_cons_succ]
  refine wpList_run (by kernel_rfl) (.int .u64 (n : Int)) w rfl ?_
  simp only [Act.put, List.setIfInBounds_toArray, List.set_cons_zero, List.set_cons_succ]
  refine wpList_nil ?_
  go_wp2_with fail
  go_ret
  exact ⟨rfl, (Below.refl w.heap.size w)⟩
set_option maxRecDepth 100000 in
set_option maxHeartbeats 8000000 in
theorem fvalid_as (n : Nat) (b : Bool) (hb : decide (n < 18446744069414584321) = b) (w : World) : Calls Tryd.prog 71 #[.int .u64 (n : Int)] w fun e w' => e = .returned (.bool b) ∧ Below w.heap.size w w' := by
  go_enter Tryd.func71, Tryd.ntmps71
  go_upto_region 1 with fail
  refine wp_region_lit ?_
  refine wpList_run (by kernel_rfl) (.int .u64 (n : Int)) w rfl ?_
  simp only [Act.put, List.setIfInBounds_toArray, List.set_cons_zero, List.set_cons_succ]
  refine wpList_run (by kernel_rfl) (.bool b) w (xo_cmp .lss .u64 (n : Int) 18446744069414584321 b (.inr (.inr (.inl ⟨rfl, (by rw [← hb]; congr 1; exact propext (by omega))⟩))) rfl rfl rfl) ?_
  simp only [Act.put, List.setIfInBounds_toArray, List.set_cons_zero, List.set_cons_succ]
  refine wpList_run (by kernel_rfl) (.bool b) w rfl ?_
  simp only [Act.put, List.setIfInBounds_toArray, List.set_cons_zero, List.set_cons_succ]
  refine wpList_nil ?_
  go_wp2_with fail
  go_ret
  exact ⟨rfl, (Below.refl w.heap.size w)⟩
set_option maxRecDepth 100000 in
set_option maxHeartbeats 8000000 in
theorem width_any (j : Nat) (hj : j < 4) (w : World) : Calls Tryd.prog 34 #[.int .i64 (j : Int)] w fun e w' => e = .returned (.int .i64 ((widN j : Nat) : Int)) ∧ Below w.heap.size w w' := by
  go_enter Tryd.func34, Tryd.ntmps34
  go_upto_region 1 with fail
  have hj4 : j = 0 ∨ j = 1 ∨ j = 2 ∨ j = 3 := by omega
  rcases hj4 with rfl | rfl | rfl | rfl
  · refine wp_region_lit ?_
    refine wpList_run (by kernel_rfl) (.int .i64 0) w rfl ?_
    simp only [Act.put, List.setIfInBounds_toArray, List.set_cons_zero, List.set_cons_succ]
    refine wpList_run (by kernel_rfl) (.bool true) w (xo_eqlT .i64 0 0 (by omega) rfl rfl rfl) ?_
    simp only [Act.put, List.setIfInBounds_toArray, List.set_cons_zero, List.set_cons_succ]
    refine wpList_run (by kernel_rfl) (.bool true) w rfl ?_
    simp only [Act.put, List.setIfInBounds_toArray, List.set_cons_zero, List.set_cons_succ]
    refine wpList_skip (by kernel_rfl) ?_
    try simp only [Act.put, List.setIfInBounds_toArray, List.set_cons_zero, List.set_cons_succ]
    refine wpList_skip (by kernel_rfl) ?_
    try simp only [Act.put, List.setIfInBounds_toArray, List.set_cons_zero, List.set_cons_succ]
    refine wpList_run (by kernel_rfl) (.bool true) w rfl ?_
    simp only [Act.put, List.setIfInBounds_toArray, List.set_cons_zero, List.set_cons_succ]
    refine wpList_nil ?_
    go_upto_region 2 with fail
    refine wp_region_lit ?_
    refine wpList_run (by kernel_rfl) (.int .i64 4) w rfl ?_
    simp only [Act.put, List.setIfInBounds_toArray, List.set_cons_zero, List.set_cons_succ]
    refine wpList_nil ?_
    go_wp2_with fail
    go_ret
    exact ⟨rfl, (Below.refl w.heap.size w)⟩
  · refine wp_region_lit ?_
    refine wpList_run (by kernel_rfl) (.int .i64 1) w rfl ?_
    simp only [Act.put, List.setIfInBounds_toArray, List.set_cons_zero, List.set_cons_succ]
    refine wpList_run (by kernel_rfl) (.bool false) w (xo_eqlF .i64 1 0 (by omega) rfl rfl rfl) ?_
    simp only [Act.put, List.setIfInBounds_toArray, List.set_cons_zero, List.set_cons_succ]
    refine wpList_run (by kernel_rfl) (.bool false) w rfl ?_
    simp only [Act.put, List.setIfInBounds_toArray, List.set_cons_zero, List.set_cons_succ]
    refine wpList_run (by kernel_rfl) (.int .i64 1) w rfl ?_
    simp only [Act.put, List.setIfInBounds_toArray, List.set_cons_zero, List.set_cons_succ]
    refine wpList_run (by kernel_rfl) (.bool false) w (xo_eqlF .i64 1 2 (by omega) rfl rfl rfl) ?_
    simp only [Act.put, List.setIfInBounds_toArray, List.set_cons_zero, List.set_cons_succ]
    refine wpList_run (by kernel_rfl) (.bool false) w rfl ?_
    simp only [Act.put, List.setIfInBounds_toArray, List.set_cons_zero, List.set_cons_succ]
    refine wpList_nil ?_
    go_upto_region 3 with fail
    refine wp_region_lit ?_
    refine wpList_run (by kernel_rfl) (.int .i64 8) w rfl ?_
    simp only [Act.put, List.setIfInBounds_toArray, List.set_cons_zero, List.set_cons_succ]
    refine wpList_nil ?_
    go_wp2_with fail
    go_ret
    exact ⟨rfl, (Below.refl w.heap.size w)⟩
  · refine wp_region_lit ?_
    refine wpList_run (by kernel_rfl) (.int .i64 2) w rfl ?_
    simp only [Act.put, List.setIfInBounds_toArray, List.set_cons_zero, List.set_cons_succ]
    refine wpList_run (by kernel_rfl) (.bool false) w (xo_eqlF .i64 2 0 (by omega) rfl rfl rfl) ?_
    simp only [Act.put, List.setIfInBounds_toArray, List.set_cons_zero, List.set_cons_succ]
    refine wpList_run (by kernel_rfl) (.bool false) w rfl ?_
    simp only [Act.put, List.setIfInBounds_toArray, List.set_cons_zero, List.set_cons_succ]
    refine wpList_run (by kernel_rfl) (.int .i64 2) w rfl ?_
    simp only [Act.put, List.setIfInBounds_toArray, List.set_cons_zero, List.set_cons_succ]
    refine wpList_run (by kernel_rfl) (.bool true) w (xo_eqlT .i64 2 2 (by omega) rfl rfl rfl) ?_
    simp only [Act.put, List.setIfInBounds_toArray, List.set_cons_zero, List.set_cons_succ]
    refine wpList_run (by kernel_rfl) (.bool true) w rfl ?_
    simp only [Act.put, List.setIfInBounds_toArray, List.set_cons_zero, List.set_cons_succ]
    refine wpList_nil ?_
    go_upto_region 2 with fail
    refine wp_region_lit ?_
    refine wpList_run (by kernel_rfl) (.int .i64 4) w rfl ?_
    simp only [Act.put, List.setIfInBounds_toArray, List.set_cons_zero, List.set_cons_succ]
    refine wpList_nil ?_
    go_wp2_with fail
    go_ret
    exact ⟨rfl, (Below.refl w.heap.size w)⟩
  · refine wp_region_lit ?_
    refine wpList_run (by kernel_rfl) (.int .i64 3) w rfl ?_
    simp only [Act.put, List.setIfInBounds_toArray, List.set_cons_zero, List.set_cons_succ]
    refine wpList_run (by kernel_rfl) (.bool false) w (xo_eqlF .i64 3 0 (by omega) rfl rfl rfl) ?_
    simp only [Act.put, List.setIfInBounds_toArray, List.set_cons_zero, List.set_cons_succ]
    refine wpList_run (by kernel_rfl) (.bool false) w rfl ?_
    simp only [Act.put, List.setIfInBounds_toArray, List.set_cons_zero, List.set_cons_succ]
    refine wpList_run (by kernel_rfl) (.int .i64 3) w rfl ?_
    simp only [Act.put, List.setIfInBounds_toArray, List.set_cons_zero, List.set_cons_succ]
    refine wpList_run (by kernel_rfl) (.bool false) w (xo_eqlF .i64 3 2 (by omega) rfl rfl rfl) ?_
    simp only [Act.put, List.setIfInBounds_toArray, List.set_cons_zero, List.set_cons_succ]
    refine wpList_run (by kernel_rfl) (.bool false) w rfl ?_
    simp only [Act.put, List.setIfInBounds_toArray, List.set_cons_zero, List.set_cons_succ]
    refine wpList_nil ?_
    go_upto_region 3 with fail
    refine wp_region_lit ?_
    refine wpList_run (by kernel_rfl) (.int .i64 8) w rfl ?_
    simp only [Act.put, List.setIfInBounds_toArray, List.set_cons_zero, List.set_cons_succ]
    refine wpList_nil ?_
    go_wp2_with fail
    go_ret
    exact ⟨rfl, (Below.refl w.heap.size w)⟩
set_option maxRecDepth 100000 in
set_option maxHeartbeats 8000000 in
theorem field_any (r : Rd) (j : Nat) (hj : j < 4) (w : World) : Calls Tryd.prog 48 #[.agg #[.int .i64 r.who, .int .i64 r.when_, .int .i64 r.kind, .int .i64 r.value], .int .i64 (j : Int)] w fun e w' => e = .returned (.int .i64 (fldI r j)) ∧ Below w.heap.size w w' := by
  go_enter Tryd.func48, Tryd.ntmps48
  go_upto_region 1 with fail
  refine wp_named1 (fun V1 hb g0 hlt => ?_)
  have B0 := Lib.hid hb
  have Fv0_2 : Hid (V1.heap[w.heap.size]? = some (.cells #[.int .i64 r.who, .int .i64 r.when_, .int .i64 r.kind, .int .i64 r.value] 24 (0, 0))) := Lib.hid (g0)
  have Gb0 : Hid (w.heap.size ≤ w.heap.size) := Lib.hid (by omega)
  clear hb g0 hlt
  have hj4 : j = 0 ∨ j = 1 ∨ j = 2 ∨ j = 3 := by omega
  rcases hj4 with rfl | rfl | rfl | rfl
  · refine wp_region_lit ?_
    refine wpList_run (by kernel_rfl) (.int .i64 0) V1 rfl ?_
    simp only [Act.put, List.setIfInBounds_toArray, List.set_cons_zero, List.set_cons_succ]
    refine wpList_run (by kernel_rfl) (.bool true) V1 (xo_eqlT .i64 0 0 (by omega) rfl rfl rfl) ?_
    simp only [Act.put, List.setIfInBounds_toArray, List.set_cons_zero, List.set_cons_succ]
    refine wpList_nil ?_
    go_upto_region 2 with fail
    refine wp_region_lit ?_
    refine wpList_run (by kernel_rfl) (.pointer (some ⟨w.heap.size, 0, none⟩)) V1 (xo_fld0 0 w.heap.size 0 (by kernel_rfl) rfl rfl) ?_
    simp only [Act.put, List.setIfInBounds_toArray, List.set_cons_zero, List.set_cons_succ]
    refine wpList_run (by kernel_rfl) (.int .i64 r.who) V1 (xo_load1 ⟨w.heap.size, 0, none⟩ _ (cells_at Fv0_2.out 0 rfl) Tryd.underlying3 rfl rfl rfl) ?_
    simp only [Act.put, List.setIfInBounds_toArray, List.set_cons_zero, List.set_cons_succ]
    refine wpList_run (by kernel_rfl) (.int .i64 r.who) V1 rfl ?_
    simp only [Act.put, List.setIfInBounds_toArray, List.set_cons_zero, List.set_cons_succ]
    refine wpList_nil ?_
    go_wp2_with fail
    go_ret
    exact ⟨rfl, B0.out⟩
  · refine wp_region_lit ?_
    refine wpList_run (by kernel_rfl) (.int .i64 1) V1 rfl ?_
    simp only [Act.put, List.setIfInBounds_toArray, List.set_cons_zero, List.set_cons_succ]
    refine wpList_run (by kernel_rfl) (.bool false) V1 (xo_eqlF .i64 1 0 (by omega) rfl rfl rfl) ?_
    simp only [Act.put, List.setIfInBounds_toArray, List.set_cons_zero, List.set_cons_succ]
    refine wpList_nil ?_
    go_upto_region 3 with fail
    refine wp_region_lit ?_
    refine wpList_run (by kernel_rfl) (.int .i64 1) V1 rfl ?_
    simp only [Act.put, List.setIfInBounds_toArray, List.set_cons_zero, List.set_cons_succ]
    refine wpList_run (by kernel_rfl) (.bool true) V1 (xo_eqlT .i64 1 1 (by omega) rfl rfl rfl) ?_
    simp only [Act.put, List.setIfInBounds_toArray, List.set_cons_zero, List.set_cons_succ]
    refine wpList_nil ?_
    go_upto_region 4 with fail
    refine wp_region_lit ?_
    refine wpList_run (by kernel_rfl) (.pointer (some ⟨w.heap.size, 1, none⟩)) V1 (xo_fld0 1 w.heap.size 1 (by kernel_rfl) rfl rfl) ?_
    simp only [Act.put, List.setIfInBounds_toArray, List.set_cons_zero, List.set_cons_succ]
    refine wpList_run (by kernel_rfl) (.int .i64 r.when_) V1 (xo_load1 ⟨w.heap.size, 1, none⟩ _ (cells_at Fv0_2.out 1 rfl) Tryd.underlying3 rfl rfl rfl) ?_
    simp only [Act.put, List.setIfInBounds_toArray, List.set_cons_zero, List.set_cons_succ]
    refine wpList_run (by kernel_rfl) (.int .i64 r.when_) V1 rfl ?_
    simp only [Act.put, List.setIfInBounds_toArray, List.set_cons_zero, List.set_cons_succ]
    refine wpList_nil ?_
    go_wp2_with fail
    go_ret
    exact ⟨rfl, B0.out⟩
  · refine wp_region_lit ?_
    refine wpList_run (by kernel_rfl) (.int .i64 2) V1 rfl ?_
    simp only [Act.put, List.setIfInBounds_toArray, List.set_cons_zero, List.set_cons_succ]
    refine wpList_run (by kernel_rfl) (.bool false) V1 (xo_eqlF .i64 2 0 (by omega) rfl rfl rfl) ?_
    simp only [Act.put, List.setIfInBounds_toArray, List.set_cons_zero, List.set_cons_succ]
    refine wpList_nil ?_
    go_upto_region 3 with fail
    refine wp_region_lit ?_
    refine wpList_run (by kernel_rfl) (.int .i64 2) V1 rfl ?_
    simp only [Act.put, List.setIfInBounds_toArray, List.set_cons_zero, List.set_cons_succ]
    refine wpList_run (by kernel_rfl) (.bool false) V1 (xo_eqlF .i64 2 1 (by omega) rfl rfl rfl) ?_
    simp only [Act.put, List.setIfInBounds_toArray, List.set_cons_zero, List.set_cons_succ]
    refine wpList_nil ?_
    go_upto_region 5 with fail
    refine wp_region_lit ?_
    refine wpList_run (by kernel_rfl) (.int .i64 2) V1 rfl ?_
    simp only [Act.put, List.setIfInBounds_toArray, List.set_cons_zero, List.set_cons_succ]
    refine wpList_run (by kernel_rfl) (.bool true) V1 (xo_eqlT .i64 2 2 (by omega) rfl rfl rfl) ?_
    simp only [Act.put, List.setIfInBounds_toArray, List.set_cons_zero, List.set_cons_succ]
    refine wpList_nil ?_
    go_upto_region 6 with fail
    refine wp_region_lit ?_
    refine wpList_run (by kernel_rfl) (.pointer (some ⟨w.heap.size, 2, none⟩)) V1 (xo_fld0 2 w.heap.size 2 (by kernel_rfl) rfl rfl) ?_
    simp only [Act.put, List.setIfInBounds_toArray, List.set_cons_zero, List.set_cons_succ]
    refine wpList_run (by kernel_rfl) (.int .i64 r.kind) V1 (xo_load1 ⟨w.heap.size, 2, none⟩ _ (cells_at Fv0_2.out 2 rfl) Tryd.underlying3 rfl rfl rfl) ?_
    simp only [Act.put, List.setIfInBounds_toArray, List.set_cons_zero, List.set_cons_succ]
    refine wpList_run (by kernel_rfl) (.int .i64 r.kind) V1 rfl ?_
    simp only [Act.put, List.setIfInBounds_toArray, List.set_cons_zero, List.set_cons_succ]
    refine wpList_nil ?_
    go_wp2_with fail
    go_ret
    exact ⟨rfl, B0.out⟩
  · refine wp_region_lit ?_
    refine wpList_run (by kernel_rfl) (.int .i64 3) V1 rfl ?_
    simp only [Act.put, List.setIfInBounds_toArray, List.set_cons_zero, List.set_cons_succ]
    refine wpList_run (by kernel_rfl) (.bool false) V1 (xo_eqlF .i64 3 0 (by omega) rfl rfl rfl) ?_
    simp only [Act.put, List.setIfInBounds_toArray, List.set_cons_zero, List.set_cons_succ]
    refine wpList_nil ?_
    go_upto_region 3 with fail
    refine wp_region_lit ?_
    refine wpList_run (by kernel_rfl) (.int .i64 3) V1 rfl ?_
    simp only [Act.put, List.setIfInBounds_toArray, List.set_cons_zero, List.set_cons_succ]
    refine wpList_run (by kernel_rfl) (.bool false) V1 (xo_eqlF .i64 3 1 (by omega) rfl rfl rfl) ?_
    simp only [Act.put, List.setIfInBounds_toArray, List.set_cons_zero, List.set_cons_succ]
    refine wpList_nil ?_
    go_upto_region 5 with fail
    refine wp_region_lit ?_
    refine wpList_run (by kernel_rfl) (.int .i64 3) V1 rfl ?_
    simp only [Act.put, List.setIfInBounds_toArray, List.set_cons_zero, List.set_cons_succ]
    refine wpList_run (by kernel_rfl) (.bool false) V1 (xo_eqlF .i64 3 2 (by omega) rfl rfl rfl) ?_
    simp only [Act.put, List.setIfInBounds_toArray, List.set_cons_zero, List.set_cons_succ]
    refine wpList_nil ?_
    go_upto_region 7 with fail
    refine wp_region_lit ?_
    refine wpList_run (by kernel_rfl) (.pointer (some ⟨w.heap.size, 3, none⟩)) V1 (xo_fld0 3 w.heap.size 3 (by kernel_rfl) rfl rfl) ?_
    simp only [Act.put, List.setIfInBounds_toArray, List.set_cons_zero, List.set_cons_succ]
    refine wpList_run (by kernel_rfl) (.int .i64 r.value) V1 (xo_load1 ⟨w.heap.size, 3, none⟩ _ (cells_at Fv0_2.out 3 rfl) Tryd.underlying3 rfl rfl rfl) ?_
    simp only [Act.put, List.setIfInBounds_toArray, List.set_cons_zero, List.set_cons_succ]
    refine wpList_run (by kernel_rfl) (.int .i64 r.value) V1 rfl ?_
    simp only [Act.put, List.setIfInBounds_toArray, List.set_cons_zero, List.set_cons_succ]
    refine wpList_nil ?_
    go_wp2_with fail
    go_ret
    exact ⟨rfl, B0.out⟩
end Go.Proofs.YtopicjdmajlndaaDoor

