/- Several texts in one: Talb, Float3. -/
import Derived.Test.YtgkojdbepgonkaaDoorH03
import Derived.StillTail
/- A statement whose order is open, that holds calls whose results lie at unknown places, and whose last operation waits for all the others (a store): one walk in the order of the text serves every order; the last operation may leave any world. No program, no conditions. -/
namespace Go.Proofs.YtgkojdbepgonkaaDoor
set_option maxRecDepth 8000
set_option linter.unusedVariables false
set_option linter.unusedSimpArgs false
open Go.RowKit

section
variable {P : Program} {ops : Array Oper} {S : World → Prop} {Q : Exit → Act → World → Prop} {m : Nat}

/-- the last operation -/
def mOp (P : Program) (ops : Array Oper) (m : Nat) (K : Act → World → Prop) (a : Act) (w : World) : Prop :=
  ∃ o, ops[m]? = some o ∧ Region.wanted o (yielded ops a.tmps) = true ∧ hOp P o (fun v w' => K (a.put o.dst v) w') a w
theorem mOp_mono {K K' : Act → World → Prop} {a : Act} {w : World} (h : ∀ a w, K a w → K' a w) (hh : mOp P ops m K a w) : mOp P ops m K' a w := by
  obtain ⟨o, h1, h2, h3⟩ := hh
  exact ⟨o, h1, h2, hOp_mono (fun _ _ hk => h _ _ hk) h3⟩
theorem wpOp_of_mOp {K : Act → World → Prop} {a : Act} {w : World} (hh : mOp P ops m K a w) : wpOp P ops Q m K a w := by
  obtain ⟨o, hi, hw, hh⟩ := hh
  unfold wpOp
  simp only [hi, hw, if_true]
  refine .inl ?_
  unfold hOp at hh
  unfold Oper.wp
  generalize (execOp a.eval o).run P w = r at *
  cases r with
  | ok n w' =>
    cases n <;> simp only [heldUpon] at hh <;> simp only [Oper.upon]
    case value u => exact hh
    case skip => exact hh
    case enter f args => exact hh.mono fun e w'' ⟨v, he, h2⟩ => by subst he; exact h2
  | halt x w' => exact hh.elim

def tOp (P : Program) (ops : Array Oper) (S : World → Prop) (m i : Nat) (K : Act → World → Prop) (a : Act) (w : World) : Prop := if i = m then mOp P ops m K a w else sOp P ops S i K a w
theorem tOp_ne {i : Nat} {K : Act → World → Prop} {a : Act} {w : World} (h : i ≠ m) : tOp P ops S m i K a w = sOp P ops S i K a w := if_neg h
theorem tOp_eq {K : Act → World → Prop} {a : Act} {w : World} : tOp P ops S m m K a w = mOp P ops m K a w := if_pos rfl
/-- whatever order is picked -/
def wpT (P : Program) (ops : Array Oper) (S : World → Prop) (m : Nat) (Q : Exit → Act → World → Prop) : Nat → Array Bool → Act → World → Prop
  | 0, listed, a, w => Region.ready .any ops listed = [] ∧ Q .normal a w
  | n + 1, listed, a, w => (Region.ready .any ops listed = [] → Q .normal a w) ∧ ∀ i, i ∈ Region.ready .any ops listed → tOp P ops S m i (wpT P ops S m Q n (listed.setIfInBounds i true)) a w

theorem ready_lt {listed : Array Bool} {i : Nat} (h : i ∈ Region.ready .any ops listed) : i < ops.size := by
  obtain ⟨_, o, ho, _⟩ := mem_ready.1 h
  exact (Array.getElem?_eq_some_iff.1 ho).1
theorem none_left {listed : Array Bool} (hz : ops.size = m + 1) (hs : Region.sinkB .any ops m = true) (hc : Region.chainB .any ops m = true) (inv : HeadInv .any ops m listed) (hm : m ∈ Region.ready .any ops listed) : Region.ready .any ops (listed.setIfInBounds m true) = [] := by
  refine List.eq_nil_iff_forall_not_mem.2 fun j hj => ?_
  have hjl := ready_lt hj
  have hju := (mem_ready.1 hj).1
  by_cases e : j = m
  · subst e
    have : (listed.setIfInBounds j true).getD j true = true := by simp [inv.size, hz]
    rw [this] at hju
    cases hju
  · rw [getD_set_ne true (fun k => e k.symm)] at hju
    exact tail_waits hs hc (by omega) inv _ j rfl (by omega) hju m (Nat.le_refl _) hm
theorem wpAny_of_wpT (hz : ops.size = m + 1) (hs : Region.sinkB .any ops m = true) (hc : Region.chainB .any ops m = true) : ∀ (n : Nat) (listed : Array Bool) (a : Act) (w : World), HeadInv .any ops m listed → S w → wpT P ops S m Q n listed a w → wpAny P .any ops Q n listed a w
  | 0, _, _, _, _, _, h => h
  | n + 1, listed, a, w, inv, hS, h => by
    refine ⟨h.1, fun i hi => ?_⟩
    have h2 := h.2 i hi
    by_cases e : i = m
    · subst e
      rw [tOp_eq] at h2
      have hn := none_left hz hs hc inv hi
      refine wpOp_of_mOp (mOp_mono (fun a' w' hk => ?_) h2)
      cases n with
      | zero => exact hk
      | succ n => exact ⟨hk.1, fun j hj => by rw [hn] at hj; cases hj⟩
    · rw [tOp_ne e] at h2
      have hl := ready_lt hi
      exact wpOp_of_sOp hS (fun a' w' hS' h' => wpAny_of_wpT hz hs hc n _ a' w' (inv.set hi (by omega)) hS' h') h2

theorem wpT_first (hz : ops.size = m + 1) (hs : Region.sinkB .any ops m = true) (hc : Region.chainB .any ops m = true) {i : Nat} {oi : Oper} (him : i < m) (hi : ops[i]? = some oi) (hsel : ∀ (j : Nat) (o : Oper) cs b, ops[j]? = some o → o.op ≠ .select cs b) : ∀ (n : Nat) (listed : Array Bool) (a : Act) (w : World), HeadInv .any ops m listed → S w →
      (∀ j oj, ops[j]? = some oj → j ≠ i → listed.getD j true = false → (∀ e ∈ oj.after, Region.binds .any e = true → e.on ≠ i) → oi.apart ops oj = true) →
      (stillOp oi = false → Chain ops i listed) → i ∈ Region.ready .any ops listed → sOp P ops S i (wpT P ops S m Q n (listed.setIfInBounds i true)) a w → wpT P ops S m Q (n + 1) listed a w := by
  intro n
  induction n with
  | zero =>
    intro listed a w inv hS _ _ hr H
    refine ⟨fun h => (by rw [h] at hr; cases hr), fun j hj => ?_⟩
    by_cases hji : j = i
    · subst hji; rw [tOp_ne (by omega)]; exact H
    · obtain ⟨a', w', _, h0, _⟩ := sOp_out hS H
      have := ready_mono hj hji
      rw [h0] at this
      cases this
  | succ n ih =>
    intro listed a w inv hS hfree hchain hr H
    refine ⟨fun h => (by rw [h] at hr; cases hr), fun j hj => ?_⟩
    by_cases hji : j = i
    · subst hji; rw [tOp_ne (by omega)]; exact H
    have hjm : j ≠ m := fun e => by
      subst e
      exact tail_waits hs hc (by omega) inv _ i rfl him (mem_ready.1 hr).1 j (Nat.le_refl _) hj
    have hjl := ready_lt hj
    have inv' : HeadInv .any ops m (listed.setIfInBounds j true) := inv.set hj (by omega)
    rw [tOp_ne hjm]
    obtain ⟨hjun, oj, hoj, hall⟩ := mem_ready.1 hj
    have hnot : ∀ e ∈ oj.after, Region.binds .any e = true → e.on ≠ i := fun e he hb heq => by
      have h1 := hall e he hb
      have h0 := (mem_ready.1 hr).1
      rw [heq, getD_both h0] at h1
      cases h1
    have hap := hfree j oj hoj hji hjun hnot
    obtain ⟨p1, p2, p3⟩ := Oper.apart_spec hap
    have hsi := fun cs b => hsel i oi cs b hi
    have hsj := fun cs b => hsel j oj cs b hoj
    have hfree' : ∀ k ok, ops[k]? = some ok → k ≠ i → (listed.setIfInBounds j true).getD k true = false →
        (∀ e ∈ ok.after, Region.binds .any e = true → e.on ≠ i) → oi.apart ops ok = true := fun k ok hk hki hun hno => by
      refine hfree k ok hk hki ?_ hno
      by_cases hjk : j = k
      · subst hjk; exact hjun
      · rw [getD_set_ne true hjk] at hun; exact hun
    have hjs : stillOp oi = false → stillOp oj = true := fun hs => by
      cases e : stillOp oj with
      | true => rfl
      | false =>
        obtain ⟨e, he, hb, hun, _⟩ := hchain hs j oj hoj hji hjun e
        rw [hall e he hb] at hun
        cases hun
    have hchain' : stillOp oi = false → Chain ops i (listed.setIfInBounds j true) := fun hs => by
      intro k ok hk hki hun hks
      have hjk : j ≠ k := by
        rintro rfl
        rw [hoj] at hk
        injection hk with hk
        rw [← hk, hjs hs] at hks
        cases hks
      rw [getD_set_ne true hjk] at hun
      obtain ⟨e, he, hb, h1, h2⟩ := hchain hs k ok hk hki hun hks
      refine ⟨e, he, hb, ?_, h2⟩
      have hje : j ≠ e.on := by
        intro h
        have := h2 oj (by rw [← h]; exact hoj)
        rw [hjs hs] at this
        cases this
      rw [getD_set_ne false hje]
      exact h1
    have hr' := ready_mono hr (Ne.symm hji)
    have hrj := ready_mono hj hji
    unfold sOp at H
    rw [hi] at H
    rcases H with ⟨hq, v, hy, HK⟩ | ⟨hnq, hh⟩
    · have hkj := HK.2 j hrj
      rw [tOp_ne hjm] at hkj
      have h2 := sOp_put hoj hap hsi hsj hq hy hkj
      refine sOp_mono hS (fun a' w' hS' ⟨hq', hy', hk'⟩ => ih (listed.setIfInBounds j true) a' w' inv' hS' hfree' hchain' hr' ?_) h2
      unfold sOp
      rw [hi]
      refine .inl ⟨hq', v, hy', ?_⟩
      rw [Array.setIfInBounds_comm _ _ hji]
      exact hk'
    · have hs : stillOp oi = false := by
        cases e : stillOp oi with
        | false => rfl
        | true => exact absurd (.inl e) hnq
      have hj' := hjs hs
      obtain ⟨v0, w0, hS0, hK0⟩ := hOp_out hh
      have h1 := hK0.2 j hrj
      rw [tOp_ne hjm] at h1
      unfold sOp at h1
      rw [hoj] at h1
      obtain ⟨vj, hyj⟩ : ∃ vj, YieldsIf P ops S oj vj a := by
        rcases h1 with ⟨_, u, hu, _⟩ | ⟨e, _⟩
        · exact ⟨u, hu.of_same (execOp_put oj hsj a oi.dst v0 p1).symm (wanted_put oj a oi.dst v0 p1).symm⟩
        · exact absurd (.inl hj') e
      unfold sOp
      rw [hoj]
      refine .inl ⟨.inl hj', vj, hyj, ih (listed.setIfInBounds j true) (a.put oj.dst vj) w inv' hS hfree' hchain' hr' ?_⟩
      unfold sOp
      rw [hi]
      refine .inr ⟨fun e => hnq ((quietNow_put p3).1 e), hOp_put hsi p3 (hOp_mono (fun v w' ⟨hS', hk'⟩ => ⟨hS', ?_⟩) hh)⟩
      have h2 := hk'.2 j hrj
      rw [tOp_ne hjm] at h2
      unfold sOp at h2
      rw [hoj] at h2
      rcases h2 with ⟨_, u, hu, hk2⟩ | ⟨e, _⟩
      · have hu' : YieldsIf P ops S oj u a := hu.of_same (execOp_put oj hsj a oi.dst v p1).symm (wanted_put oj a oi.dst v p1).symm
        have e := YieldsIf.one hS' hu' hyj
        subst e
        rw [Array.setIfInBounds_comm _ _ hji, ← Act.put_comm a v u p2]
        exact hk2
      · exact absurd (.inl hj') e

theorem wpT_of_lex (hz : ops.size = m + 1) (hs : Region.sinkB .any ops m = true) (hcb : Region.chainB .any ops m = true) (hx : LexOK ops) (hc : ChainOK ops) : ∀ (l : List Oper) (k : Nat) (listed : Array Bool) (a : Act) (w : World), HeadInv .any ops m listed → S w →
    (∀ j, j < l.length → l[j]? = ops[k + j]?) → k + l.length = m → (∀ i, i < k → listed.getD i false = true) → (∀ i, k ≤ i → i < ops.size → listed.getD i true = false) →
    wpHeld P ops S (fun _ a w => mOp P ops m (fun a w => Q .normal a w) a w) l a w → wpT P ops S m Q (l.length + 1) listed a w
  | [], k, listed, a, w, inv, _, _, hk, h1, h2, h => by
    obtain rfl : k = m := by simpa using hk
    obtain ⟨om, hom, hw, hh⟩ := h
    have hr : k ∈ Region.ready .any ops listed := mem_ready.2 ⟨h2 k (Nat.le_refl _) (by omega), om, hom, fun e he hb => h1 _ (hx.edge k om hom e he hb)⟩
    refine ⟨fun e => (by rw [e] at hr; cases hr), fun i hi => ?_⟩
    have hil := ready_lt hi
    have hik : k ≤ i := by
      rcases Nat.lt_or_ge i k with h' | h'
      · have h3 := h1 i h'
        rw [getD_both (mem_ready.1 hi).1] at h3
        cases h3
      · exact h'
    obtain rfl : i = k := by omega
    rw [tOp_eq]
    exact ⟨om, hom, hw, hOp_mono (fun v w' hq => ⟨none_left hz hs hcb inv hi, hq⟩) hh⟩
  | o :: l, k, listed, a, w, inv, hS, hl, hk, h1, h2, h => by
    have h0 : ops[k]? = some o := by simpa using (hl 0 (by simp)).symm
    have hlt : k < ops.size := (Array.getElem?_eq_some_iff.1 h0).1
    have hkm : k < m := by simp at hk; omega
    have hst : sOp P ops S k (wpHeld P ops S (fun _ a w => mOp P ops m (fun a w => Q .normal a w) a w) l) a w := by
      unfold sOp
      rw [h0]
      exact h
    have hun : ∀ j, listed.getD j true = false → k ≤ j := fun j hun => by
      rcases Nat.lt_or_ge j k with h' | h'
      · have h3 := h1 j h'
        rw [getD_both hun] at h3
        cases h3
      · exact h'
    have hr : k ∈ Region.ready .any ops listed := mem_ready.2 ⟨h2 k (Nat.le_refl _) hlt, o, h0, fun e he hb => h1 _ (hx.edge k o h0 e he hb)⟩
    refine wpT_first hz hs hcb hkm h0 (Region.noSelect_spec hx.sel) (l.length + 1) listed a w inv hS ?_ ?_ hr ?_
    · intro j oj hj hne hju hno
      refine hx.free k j o oj ?_ h0 hj hno
      have := hun j hju
      omega
    · intro hs' j oj hj hne hju hjs
      have := hun j hju
      obtain ⟨e, he, hb, hke, hej, hes⟩ := hc.chain k j o oj (by omega) h0 hj hs' hjs
      refine ⟨e, he, hb, ?_, hes⟩
      have hjlt : j < ops.size := (Array.getElem?_eq_some_iff.1 hj).1
      exact getD_both (h2 e.on hke (by omega))
    · refine sOp_mono hS (fun a' w' hS' h' => wpT_of_lex hz hs hcb hx hc l (k + 1) _ a' w' (inv.set hr hkm) hS' (fun j hj => by have := hl (j + 1) (by simp; omega); simpa [Nat.add_assoc, Nat.add_comm 1 j] using this) (by simp at hk; omega) ?_ ?_ h') hst
      · intro i hi
        by_cases e : i = k
        · subst e
          simp [inv.size, hlt]
        · exact getD_set_true (h1 i (by omega))
      · intro i hi hi'
        rw [getD_set_ne true (by omega)]
        exact h2 i (by omega) hi'

theorem wp_held_tail {id : Nat} {a : Act} {w : World} {l : List Oper} (n : Nat) (hm : P.follows .mixedOrders = true) (hx : LexOK l.toArray) (hc : ChainOK l.toArray) (hz : l.length = n + 1) (hs : Region.sinkB .any l.toArray n = true) (hcb : Region.chainB .any l.toArray n = true) (hS : S w.drew)
    (h : wpHeld P l.toArray S (fun _ a w => mOp P l.toArray n (fun a w => Q .normal a w) a w) (l.take n) a w.drew) : (Code.region id l.toArray true).wp P Q a w := by
  have inv0 : HeadInv .any l.toArray n (Array.replicate l.toArray.size false) :=
    ⟨by simp, fun j oj _ hl => (by rw [getD_replicate_false] at hl; cases hl), fun t _ ht => getD_in (by simpa using ht) (getD_replicate_false _ _)⟩
  have htl : (l.take n).length = n := by simp; omega
  refine wp_region_any hm (wpAny_of_wpT (S := S) (m := n) (by simpa using hz) hs hcb _ _ _ _ inv0 hS ?_)
  have := wpT_of_lex (P := P) (S := S) (Q := Q) (m := n) (ops := l.toArray) (by simpa using hz) hs hcb hx hc (l.take n) 0 (Array.replicate l.toArray.size false) a w.drew inv0 hS (fun j hj => by
    have hj' : j < n := by rw [htl] at hj; exact hj
    simp [hj']) (by simpa using htl) (by intro i hi; omega) (fun i _ hi => getD_in (by simpa using hi) (getD_replicate_false _ _)) h
  rw [htl] at this
  simpa [hz] using this
theorem wp_held_tailB (n B : Nat) {id : Nat} {a : Act} {w : World} {l : List Oper} (hm : P.follows .mixedOrders = true) (hx : LexOK l.toArray) (hc : ChainOK l.toArray) (hz : l.length = n + 1) (hs : Region.sinkB .any l.toArray n = true) (hcb : Region.chainB .any l.toArray n = true)
    (h : ∀ W, Below w.heap.size w W → (∃ x : LaterB B w, W = x.at) → wpHeld P l.toArray (fun w' => ∃ x : LaterB B w, w' = x.at) (fun _ a w => mOp P l.toArray n (fun a w => Q .normal a w) a w) (l.take n) a W) : (Code.region id l.toArray true).wp P Q a w :=
  wp_held_tail n hm hx hc hz hs hcb ⟨⟨w.drew, (Below.refl _ _).drew⟩, rfl⟩ (h w.drew (Below.refl _ _).drew ⟨⟨w.drew, (Below.refl _ _).drew⟩, rfl⟩)
/-- the last operation, a run that yields nothing -/
theorem mOp_run0 {o : Oper} {a : Act} {w : World} {K : Act → World → Prop} (w1 : World) (h0 : ops[m]? = some o) (hg : o.guard = none) (hr : (execOp a.eval o).run P w = .ok .skip w1) (h : K (a.put o.dst undef) w1) : mOp P ops m K a w := by
  refine ⟨o, h0, by unfold Region.wanted; rw [hg], ?_⟩
  unfold hOp
  rw [hr]
  exact h
end

end Go.Proofs.YtgkojdbepgonkaaDoor

/- A statement whose order is open, that holds calls and makes variables or slices at any time before they are used: one walk in the order of the text serves every order, where it takes what is made at an unknown place and every world in which more has been added. No program, no conditions. -/
namespace Go.Proofs.YtgkojdbepgonkaaDoor
set_option linter.unusedVariables false
set_option linter.unusedSimpArgs false
set_option maxRecDepth 8000
open Go.RowKit

/-- operations that make a variable or a slice -/
def makerOp (o : Oper) : Bool := match o.op with
  | .alloc _ => true
  | .buildSlice _ _ _ => true
  | .makeSlice _ _ _ => true
  | _ => false
section
variable {P : Program} {ops : Array Oper} {w0 : World} {Q : Exit → Act → World → Prop}

def SL (w0 : World) (w : World) : Prop := ∃ x : Later w0, w = x.at
theorem SL.ext {w W : World} (h : SL w0 w) (hb : Below w.heap.size w W) : SL w0 W := by
  obtain ⟨x, rfl⟩ := h
  exact ⟨⟨W, x.2.trans (hb.mono x.2.size)⟩, rfl⟩
theorem SL.below {w : World} (h : SL w0 w) : Below w0.heap.size w0 w := by
  obtain ⟨x, rfl⟩ := h
  exact x.2
theorem ext_trans {a b c : World} (h : Below a.heap.size a b) (k : Below b.heap.size b c) : Below a.heap.size a c := h.trans (k.mono h.size)

def Makes (P : Program) (_ops : Array Oper) (o : Oper) (z : Obj × (Nat → Value)) (a : Act) : Prop := ∀ w : World, (execOp a.eval o).run P w = .ok (.value (z.2 w.heap.size)) (w.alloc z.1)
theorem Makes.one {o : Oper} {z z' : Obj × (Nat → Value)} {a : Act} (w : World) (h : Makes P ops o z a) (k : Makes P ops o z' a) : z = z' := by
  have e1 : z.1 = z'.1 := by
    have e := (h w).symm.trans (k w)
    injection e with _ e
    have h1 := heap_new w z.1
    have hs : w.heap.size = w.heap.size := rfl
    rw [e, heap_new w z'.1] at h1
    injection h1 with h1
    exact h1.symm
  have e2 : z.2 = z'.2 := by
    funext b
    have e := (h { w with heap := Array.replicate b z.1 }).symm.trans (k { w with heap := Array.replicate b z.1 })
    injection e with e _
    injection e with e
    simpa using e
  exact Prod.ext e1 e2
theorem Makes.of_same {o : Oper} {z : Obj × (Nat → Value)} {a a' : Act} (h : Makes P ops o z a) (he : execOp a'.eval o = execOp a.eval o) : Makes P ops o z a' := by
  unfold Makes at *
  rw [he]
  exact h

def gOp (P : Program) (ops : Array Oper) (w0 : World) (i : Nat) (K : Act → World → Prop) (a : Act) (w : World) : Prop :=
  match ops[i]? with
  | none => K a w
  | some o => (quietNow ops o a ∧ ∃ v, YieldsIf P ops (SL w0) o v a ∧ K (a.put o.dst v) w)
    ∨ ((¬ quietNow ops o a ∧ makerOp o = true) ∧ ∃ z, Makes P ops o z a ∧ ∀ b W, Below w.heap.size w W → W.heap[b]? = some z.1 → w0.heap.size ≤ b → K (a.put o.dst (z.2 b)) W)
    ∨ ((¬ quietNow ops o a ∧ makerOp o = false) ∧ ∀ W, Below w.heap.size w W → hOp P o (fun v w' => (i + 1 < ops.size → Below W.heap.size W w') ∧ SL w0 w' ∧ K (a.put o.dst v) w') a W)
theorem gOp_mono {i : Nat} {K K' : Act → World → Prop} {a : Act} {w : World} (h : ∀ a w, K a w → K' a w) (hh : gOp P ops w0 i K a w) : gOp P ops w0 i K' a w := by
  unfold gOp at *
  cases hi : ops[i]? with
  | none => rw [hi] at hh; exact h _ _ hh
  | some o =>
    rw [hi] at hh
    rcases hh with ⟨hq, v, hy, hk⟩ | ⟨hq, z, hz, hk⟩ | ⟨hq, hk⟩
    · exact .inl ⟨hq, v, hy, h _ _ hk⟩
    · exact .inr (.inl ⟨hq, z, hz, fun b W h1 h2 h3 => h _ _ (hk b W h1 h2 h3)⟩)
    · exact .inr (.inr ⟨hq, fun W hW => hOp_mono (fun v w' ⟨h1, h2, h3⟩ => ⟨h1, h2, h _ _ h3⟩) (hk W hW)⟩)
theorem gOp_world {i : Nat} {K : Act → World → Prop} {a : Act} {w W : World} (hK : ∀ a w W, K a w → Below w.heap.size w W → K a W) (hW : Below w.heap.size w W) (hh : gOp P ops w0 i K a w) : gOp P ops w0 i K a W := by
  unfold gOp at *
  cases hi : ops[i]? with
  | none => rw [hi] at hh; exact hK _ _ _ hh hW
  | some o =>
    rw [hi] at hh
    rcases hh with ⟨hq, v, hy, hk⟩ | ⟨hq, z, hz, hk⟩ | ⟨hq, hk⟩
    · exact .inl ⟨hq, v, hy, hK _ _ _ hk hW⟩
    · exact .inr (.inl ⟨hq, z, hz, fun b W1 h1 h2 h3 => hk b W1 (ext_trans hW h1) h2 h3⟩)
    · exact .inr (.inr ⟨hq, fun W1 h1 => hk W1 (ext_trans hW h1)⟩)
theorem gOp_out {i : Nat} {K : Act → World → Prop} {a : Act} {w : World} (hS : SL w0 w) (hh : gOp P ops w0 i K a w) : ∃ a' w', K a' w' := by
  unfold gOp at hh
  cases hi : ops[i]? with
  | none => rw [hi] at hh; exact ⟨_, _, hh⟩
  | some o =>
    rw [hi] at hh
    rcases hh with ⟨_, v, _, hk⟩ | ⟨_, z, _, hk⟩ | ⟨_, hk⟩
    · exact ⟨_, _, hk⟩
    · exact ⟨_, _, hk w.heap.size (w.alloc z.1) ((Below.refl _ _).alloc (Nat.le_refl _) _) (heap_new w z.1) hS.below.size⟩
    · obtain ⟨v, w', _, _, h3⟩ := hOp_out (hk w (Below.refl _ _))
      exact ⟨_, _, h3⟩
theorem wpOp_of_gOp {i : Nat} {K K' : Act → World → Prop} {a : Act} {w : World} (hS : SL w0 w) (h : ∀ a w, SL w0 w → K a w → K' a w) (hh : gOp P ops w0 i K a w) : wpOp P ops Q i K' a w := by
  unfold gOp at hh
  cases hi : ops[i]? with
  | none =>
    rw [hi] at hh
    unfold wpOp
    simp only [hi]
    exact h _ _ hS hh
  | some o =>
    rw [hi] at hh
    have hw : ¬ quietNow ops o a → Region.wanted o (yielded ops a.tmps) = true := fun hq => by
      cases e : Region.wanted o (yielded ops a.tmps) with
      | true => rfl
      | false => exact absurd (.inr e) hq
    rcases hh with ⟨_, v, hy, hk⟩ | ⟨hq, z, hz, hk⟩ | ⟨hq, hk⟩
    · exact hy.wpOp hi hS (h _ _ hS hk)
    · have hE : Below w.heap.size w (w.alloc z.1) := (Below.refl _ _).alloc (Nat.le_refl _) _
      unfold wpOp
      simp only [hi, hw hq.1, if_true]
      refine .inl ?_
      unfold Oper.wp
      rw [hz w]
      exact h _ _ (hS.ext hE) (hk w.heap.size (w.alloc z.1) hE (heap_new w z.1) hS.below.size)
    · have hh := hk w (Below.refl _ _)
      unfold wpOp
      simp only [hi, hw hq.1, if_true]
      refine .inl ?_
      unfold hOp at hh
      unfold Oper.wp
      generalize (execOp a.eval o).run P w = r at *
      cases r with
      | ok n w' =>
        cases n <;> simp only [heldUpon] at hh <;> simp only [Oper.upon]
        case value u => exact h _ _ hh.2.1 hh.2.2
        case skip => exact h _ _ hh.2.1 hh.2.2
        case enter f args => exact hh.mono fun e w'' ⟨v, he, _, h1, h2⟩ => by subst he; exact h _ _ h1 h2
      | halt x w' => exact hh.elim

/-- whatever order is picked, from every world in which more has been added -/
def wpG (P : Program) (ops : Array Oper) (w0 : World) (Q : Exit → Act → World → Prop) : Nat → Array Bool → Act → World → Prop
  | 0, listed, a, w => Region.ready .any ops listed = [] ∧ ∀ W, Below w.heap.size w W → Q .normal a W
  | n + 1, listed, a, w => (Region.ready .any ops listed = [] → ∀ W, Below w.heap.size w W → Q .normal a W) ∧ ∀ i, i ∈ Region.ready .any ops listed → gOp P ops w0 i (wpG P ops w0 Q n (listed.setIfInBounds i true)) a w
theorem wpG_world : ∀ (n : Nat) (listed : Array Bool) (a : Act) (w W : World), wpG P ops w0 Q n listed a w → Below w.heap.size w W → wpG P ops w0 Q n listed a W
  | 0, _, _, _, _, h, hW => ⟨h.1, fun W1 h1 => h.2 W1 (ext_trans hW h1)⟩
  | n + 1, _, _, _, _, h, hW => ⟨fun e W1 h1 => h.1 e W1 (ext_trans hW h1), fun i hi => gOp_world (fun a w W h1 h2 => wpG_world n _ a w W h1 h2) hW (h.2 i hi)⟩
theorem wpAny_of_wpG : ∀ (n : Nat) (listed : Array Bool) (a : Act) (w : World), SL w0 w → wpG P ops w0 Q n listed a w → wpAny P .any ops Q n listed a w
  | 0, _, _, _, _, h => ⟨h.1, h.2 _ (Below.refl _ _)⟩
  | n + 1, _, _, _, hS, h => ⟨fun e => h.1 e _ (Below.refl _ _), fun i hi => wpOp_of_gOp hS (fun a' w' hS' h' => wpAny_of_wpG n _ a' w' hS' h') (h.2 i hi)⟩

/-- an operation that waits for i, by way of others too -/
inductive Waits (ops : Array Oper) (i : Nat) : Nat → Prop
  | on {j : Nat} {oj : Oper} (e : Edge) : ops[j]? = some oj → e ∈ oj.after → Region.binds .any e = true → e.on = i → Waits ops i j
  | step {j : Nat} {oj : Oper} (e : Edge) : ops[j]? = some oj → e ∈ oj.after → Region.binds .any e = true → Waits ops i e.on → Waits ops i j
theorem Waits.not_ready {i j : Nat} {oj : Oper} {listed : Array Bool} (hw : ∀ j, Waits ops i j → listed.getD j false = false) (h0 : listed.getD i false = false) (h : Waits ops i j) (hoj : ops[j]? = some oj)
    (hall : ∀ e ∈ oj.after, Region.binds .any e = true → listed.getD e.on false = true) : False := by
  cases h with
  | on e h1 he hb hon =>
    rw [hoj] at h1
    injection h1 with h1
    subst h1
    have := hall e he hb
    rw [hon, h0] at this
    cases this
  | step e h1 he hb hst =>
    rw [hoj] at h1
    injection h1 with h1
    subst h1
    have := hall e he hb
    rw [hw _ hst] at this
    cases this
/-- every later call waits for this operation -/
def ChainF (ops : Array Oper) (i : Nat) (listed : Array Bool) : Prop := (∀ j, Waits ops i j → listed.getD j false = false) ∧
  ∀ j oj, ops[j]? = some oj → j ≠ i → listed.getD j true = false → stillOp oj = false → makerOp oj = false → Waits ops i j

theorem hOp_unput {o : Oper} (hs : ∀ cs b, o.op ≠ .select cs b) {K : Value → World → Prop} {a : Act} {w : World} {d : Option Tmp} {u : Value} (h : ∀ t, d = some t → t ∉ o.looksAt ops) (hh : hOp P o K (a.put d u) w) : hOp P o K a w := by
  unfold hOp at *
  rw [execOp_put o hs a d u h] at hh
  exact hh

theorem wpG_first {i : Nat} {oi : Oper} (hi : ops[i]? = some oi) (hsel : ∀ (j : Nat) (o : Oper) cs b, ops[j]? = some o → o.op ≠ .select cs b) : ∀ (n : Nat) (listed : Array Bool) (a : Act) (w : World), SL w0 w →
      (∀ j oj, ops[j]? = some oj → j ≠ i → listed.getD j true = false → (∀ e ∈ oj.after, Region.binds .any e = true → e.on ≠ i) → oi.apart ops oj = true) →
      (∀ j, listed.getD j true = false → j ≠ i → i < j) →
      (stillOp oi = false → ChainF ops i listed) → i ∈ Region.ready .any ops listed → gOp P ops w0 i (wpG P ops w0 Q n (listed.setIfInBounds i true)) a w → wpG P ops w0 Q (n + 1) listed a w := by
  intro n
  induction n with
  | zero =>
    intro listed a w hS _ _ _ hr H
    refine ⟨fun h => (by rw [h] at hr; cases hr), fun j hj => ?_⟩
    by_cases hji : j = i
    · subst hji; exact H
    · obtain ⟨a', w', h0, _⟩ := gOp_out hS H
      have := ready_mono hj hji
      rw [h0] at this
      cases this
  | succ n ih =>
    intro listed a w hS hfree hgt hchain hr H
    refine ⟨fun h => (by rw [h] at hr; cases hr), fun j hj => ?_⟩
    by_cases hji : j = i
    · subst hji; exact H
    obtain ⟨hjun, oj, hoj, hall⟩ := mem_ready.1 hj
    have hnot : ∀ e ∈ oj.after, Region.binds .any e = true → e.on ≠ i := fun e he hb heq => by
      have h1 := hall e he hb
      have h0 := (mem_ready.1 hr).1
      rw [heq, getD_both h0] at h1
      cases h1
    have hap := hfree j oj hoj hji hjun hnot
    obtain ⟨p1, p2, p3⟩ := Oper.apart_spec hap
    have hsi := fun cs b => hsel i oi cs b hi
    have hsj := fun cs b => hsel j oj cs b hoj
    have hij := hgt j hjun hji
    have hjlt : j < ops.size := (Array.getElem?_eq_some_iff.1 hoj).1
    have hfree' : ∀ k ok, ops[k]? = some ok → k ≠ i → (listed.setIfInBounds j true).getD k true = false →
        (∀ e ∈ ok.after, Region.binds .any e = true → e.on ≠ i) → oi.apart ops ok = true := fun k ok hk hki hun hno => by
      refine hfree k ok hk hki ?_ hno
      by_cases hjk : j = k
      · subst hjk; exact hjun
      · rw [getD_set_ne true hjk] at hun; exact hun
    have hgt' : ∀ k, (listed.setIfInBounds j true).getD k true = false → k ≠ i → i < k := fun k hun hki => by
      refine hgt k ?_ hki
      by_cases hjk : j = k
      · subst hjk; exact hjun
      · rw [getD_set_ne true hjk] at hun; exact hun
    -- where i calls or makes, j does not call
    have hjc : stillOp oi = false → ¬ (stillOp oj = false ∧ makerOp oj = false) := fun hs ⟨h1, h2⟩ => by
      exact ((hchain hs).2 j oj hoj hji hjun h1 h2).not_ready (hchain hs).1 (getD_both (mem_ready.1 hr).1) hoj hall
    have hchain' : stillOp oi = false → ChainF ops i (listed.setIfInBounds j true) := fun hs => by
      refine ⟨fun k hk => ?_, fun k ok hk hki hun hks hkm => ?_⟩
      · have hjk : j ≠ k := by
          rintro rfl
          exact hk.not_ready (hchain hs).1 (getD_both (mem_ready.1 hr).1) hoj hall
        rw [getD_set_ne false hjk]
        exact (hchain hs).1 k hk
      · refine (hchain hs).2 k ok hk hki ?_ hks hkm
        by_cases hjk : j = k
        · subst hjk; exact hjun
        · rw [getD_set_ne true hjk] at hun; exact hun
    have hr' := ready_mono hr (Ne.symm hji)
    have hjr := ready_mono hj hji
    have nst : ¬ quietNow ops oi a → stillOp oi = false := fun h => by
      cases e : stillOp oi with
      | false => rfl
      | true => exact absurd (.inl e) h
    have nst' : ¬ quietNow ops oj a → stillOp oj = false := fun h => by
      cases e : stillOp oj with
      | false => rfl
      | true => exact absurd (.inl e) h
    have qj : ∀ v, quietNow ops oj (a.put oi.dst v) ↔ quietNow ops oj a := fun v => quietNow_put p1
    have qi : ∀ v, quietNow ops oi (a.put oj.dst v) ↔ quietNow ops oi a := fun v => quietNow_put p3
    have yj : ∀ {u v : Value}, YieldsIf P ops (SL w0) oj u (a.put oi.dst v) → YieldsIf P ops (SL w0) oj u a := fun h => h.of_same (execOp_put oj hsj a oi.dst _ p1).symm (wanted_put oj a oi.dst _ p1).symm
    have yi : ∀ {u v : Value}, YieldsIf P ops (SL w0) oi u a → YieldsIf P ops (SL w0) oi u (a.put oj.dst v) := fun h => h.of_same (execOp_put oi hsi a oj.dst _ p3) (wanted_put oi a oj.dst _ p3)
    have mj : ∀ {z : Obj × (Nat → Value)} {v : Value}, Makes P ops oj z (a.put oi.dst v) → Makes P ops oj z a := fun h => h.of_same (execOp_put oj hsj a oi.dst _ p1).symm
    have mi : ∀ {z : Obj × (Nat → Value)} {v : Value}, Makes P ops oi z a → Makes P ops oi z (a.put oj.dst v) := fun h => h.of_same (execOp_put oi hsi a oj.dst _ p3)
    have cm : ∀ {u v : Value} {W : World}, wpG P ops w0 Q n ((listed.setIfInBounds i true).setIfInBounds j true) ((a.put oi.dst v).put oj.dst u) W → wpG P ops w0 Q n ((listed.setIfInBounds j true).setIfInBounds i true) ((a.put oj.dst u).put oi.dst v) W := fun {u v W} h => by
      rw [Array.setIfInBounds_comm _ _ hji, ← Act.put_comm a v u p2]
      exact h
    unfold gOp at H
    rw [hi] at H
    unfold gOp
    rw [hoj]
    rcases H with ⟨hq, v, hy, HK⟩ | ⟨⟨hnq, hm⟩, z, hz, HK⟩ | ⟨⟨hnq, hm⟩, HK⟩
    · have h1 := HK.2 j hjr
      unfold gOp at h1
      rw [hoj] at h1
      have step : ∀ u W, SL w0 W → wpG P ops w0 Q n ((listed.setIfInBounds i true).setIfInBounds j true) ((a.put oi.dst v).put oj.dst u) W → wpG P ops w0 Q (n + 1) (listed.setIfInBounds j true) (a.put oj.dst u) W := fun u W hW hk => by
        refine ih (listed.setIfInBounds j true) (a.put oj.dst u) W hW hfree' hgt' hchain' hr' ?_
        unfold gOp
        rw [hi]
        exact .inl ⟨(qi u).2 hq, v, yi hy, cm hk⟩
      rcases h1 with ⟨hqj, u, hu, hk⟩ | ⟨⟨hqj, hmj⟩, z, hz, hk⟩ | ⟨⟨hqj, hmj⟩, hk⟩
      · exact .inl ⟨(qj v).1 hqj, u, yj hu, step u w hS hk⟩
      · exact .inr (.inl ⟨⟨fun e => hqj ((qj v).2 e), hmj⟩, z, mj hz, fun b W h1 h2 h3 => step _ W (hS.ext h1) (hk b W h1 h2 h3)⟩)
      · exact .inr (.inr ⟨⟨fun e => hqj ((qj v).2 e), hmj⟩, fun W hW => hOp_mono (fun u w' ⟨e1, e2, e3⟩ => ⟨e1, e2, step u w' e2 e3⟩) (hOp_unput hsj p1 (hk W hW))⟩)
    · have hs := nst hnq
      have hE : Below w.heap.size w (w.alloc z.1) := (Below.refl _ _).alloc (Nat.le_refl _) _
      have h1 := (HK w.heap.size (w.alloc z.1) hE (heap_new w z.1) hS.below.size).2 j hjr
      unfold gOp at h1
      rw [hoj] at h1
      rcases h1 with ⟨hqj, u, hu, _⟩ | ⟨⟨hqj, hmj⟩, z', hz', _⟩ | ⟨⟨hqj, hmj⟩, _⟩
      · refine .inl ⟨(qj _).1 hqj, u, yj hu, ih (listed.setIfInBounds j true) (a.put oj.dst u) w hS hfree' hgt' hchain' hr' ?_⟩
        unfold gOp
        rw [hi]
        refine .inr (.inl ⟨⟨fun e => hnq ((qi u).1 e), hm⟩, z, mi hz, fun b W h1 h2 h3 => ?_⟩)
        have h4 := (HK b W h1 h2 h3).2 j hjr
        unfold gOp at h4
        rw [hoj] at h4
        rcases h4 with ⟨_, u', hu', hk'⟩ | ⟨⟨hqj', _⟩, _⟩ | ⟨⟨hqj', _⟩, _⟩
        · have e := YieldsIf.one (hS.ext h1) (yj hu') (yj hu)
          subst e
          exact cm hk'
        · exact absurd ((qj _).2 ((qj _).1 hqj)) hqj'
        · exact absurd ((qj _).2 ((qj _).1 hqj)) hqj'
      · refine .inr (.inl ⟨⟨fun e => hqj ((qj _).2 e), hmj⟩, z', mj hz', fun b' W' h1' h2' h3' => ih (listed.setIfInBounds j true) (a.put oj.dst (z'.2 b')) W' (hS.ext h1') hfree' hgt' hchain' hr' ?_⟩)
        unfold gOp
        rw [hi]
        refine .inr (.inl ⟨⟨fun e => hnq ((qi _).1 e), hm⟩, z, mi hz, fun b W h1 h2 h3 => ?_⟩)
        have h4 := (HK b W (ext_trans h1' h1) h2 h3).2 j hjr
        unfold gOp at h4
        rw [hoj] at h4
        rcases h4 with ⟨hqj', _⟩ | ⟨_, z'', hz'', hk'⟩ | ⟨⟨_, hmj'⟩, _⟩
        · exact absurd ((qj _).2 ((qj _).1 hqj')) hqj
        · have e := Makes.one w (mj hz'') (mj hz')
          subst e
          exact cm (hk' b' W (Below.refl _ _) (heap_keep h2' h1) h3')
        · rw [hmj] at hmj'; cases hmj'
      · exact absurd ⟨nst' (fun e => hqj ((qj _).2 e)), hmj⟩ (hjc hs)
    · have hs := nst hnq
      obtain ⟨v0, w1, _, hS1, hK1⟩ := hOp_out (HK w (Below.refl _ _))
      have h1 := hK1.2 j hjr
      unfold gOp at h1
      rw [hoj] at h1
      rcases h1 with ⟨hqj, u, hu, _⟩ | ⟨⟨hqj, hmj⟩, z', hz', _⟩ | ⟨⟨hqj, hmj⟩, _⟩
      · refine .inl ⟨(qj _).1 hqj, u, yj hu, ih (listed.setIfInBounds j true) (a.put oj.dst u) w hS hfree' hgt' hchain' hr' ?_⟩
        unfold gOp
        rw [hi]
        refine .inr (.inr ⟨⟨fun e => hnq ((qi u).1 e), hm⟩, fun W hW => hOp_put hsi p3 (hOp_mono (fun v w' ⟨e1, e2, e3⟩ => ⟨e1, e2, ?_⟩) (HK W hW))⟩)
        have h4 := e3.2 j hjr
        unfold gOp at h4
        rw [hoj] at h4
        rcases h4 with ⟨_, u', hu', hk'⟩ | ⟨⟨hqj', _⟩, _⟩ | ⟨⟨hqj', _⟩, _⟩
        · have e := YieldsIf.one e2 (yj hu') (yj hu)
          subst e
          exact cm hk'
        · exact absurd ((qj _).2 ((qj _).1 hqj)) hqj'
        · exact absurd ((qj _).2 ((qj _).1 hqj)) hqj'
      · refine .inr (.inl ⟨⟨fun e => hqj ((qj _).2 e), hmj⟩, z', mj hz', fun b W' h1' h2' h3' => ih (listed.setIfInBounds j true) (a.put oj.dst (z'.2 b)) W' (hS.ext h1') hfree' hgt' hchain' hr' ?_⟩)
        unfold gOp
        rw [hi]
        refine .inr (.inr ⟨⟨fun e => hnq ((qi _).1 e), hm⟩, fun W hW => hOp_put hsi p3 (hOp_mono (fun v w' ⟨e1, e2, e3⟩ => ⟨e1, e2, ?_⟩) (HK W (ext_trans h1' hW)))⟩)
        have h4 := e3.2 j hjr
        unfold gOp at h4
        rw [hoj] at h4
        rcases h4 with ⟨hqj', _⟩ | ⟨_, z'', hz'', hk'⟩ | ⟨⟨_, hmj'⟩, _⟩
        · exact absurd ((qj _).2 ((qj _).1 hqj')) hqj
        · have e := Makes.one w (mj hz'') (mj hz')
          subst e
          exact cm (hk' b w' (Below.refl _ _) (heap_keep (heap_keep h2' hW) (e1 (by omega))) h3')
        · rw [hmj] at hmj'; cases hmj'
      · exact absurd ⟨nst' (fun e => hqj ((qj _).2 e)), hmj⟩ (hjc hs)

/-- the walk in the order of the text -/
def wpF (P : Program) (ops : Array Oper) (w0 : World) (Q : Exit → Act → World → Prop) : List Oper → Act → World → Prop
  | [], a, w => ∀ W, Below w.heap.size w W → Q .normal a W
  | o :: l, a, w => (quietNow ops o a ∧ ∃ v, YieldsIf P ops (SL w0) o v a ∧ wpF P ops w0 Q l (a.put o.dst v) w)
    ∨ ((¬ quietNow ops o a ∧ makerOp o = true) ∧ ∃ z, Makes P ops o z a ∧ ∀ b W, Below w.heap.size w W → W.heap[b]? = some z.1 → w0.heap.size ≤ b → wpF P ops w0 Q l (a.put o.dst (z.2 b)) W)
    ∨ ((¬ quietNow ops o a ∧ makerOp o = false) ∧ ∀ W, Below w.heap.size w W → hOp P o (fun v w' => (l ≠ [] → Below W.heap.size W w') ∧ SL w0 w' ∧ wpF P ops w0 Q l (a.put o.dst v) w') a W)

structure ChainOF (ops : Array Oper) : Prop where
  chain : ∀ (k j : Nat) (ok oj : Oper), k < j → ops[k]? = some ok → ops[j]? = some oj → stillOp ok = false → stillOp oj = false → makerOp oj = false → Waits ops k j
theorem Waits.lt (hx : LexOK ops) {i j : Nat} (h : Waits ops i j) : i < j ∧ j < ops.size := by
  induction h with
  | on e h1 he hb hon => exact ⟨by have := hx.edge _ _ h1 e he hb; omega, (Array.getElem?_eq_some_iff.1 h1).1⟩
  | step e h1 he hb _ ih => exact ⟨by have := hx.edge _ _ h1 e he hb; omega, (Array.getElem?_eq_some_iff.1 h1).1⟩

theorem wpG_of_lex (hx : LexOK ops) (hc : ChainOF ops) : ∀ (l : List Oper) (k : Nat) (listed : Array Bool) (a : Act) (w : World), SL w0 w →
    (∀ j, l[j]? = ops[k + j]?) → k + l.length = ops.size → listed.size = ops.size → (∀ i, i < k → listed.getD i false = true) → (∀ i, k ≤ i → i < ops.size → listed.getD i true = false) →
    wpF P ops w0 Q l a w → wpG P ops w0 Q l.length listed a w
  | [], k, listed, a, w, _, _, hk, hz, h1, _, h => by
    refine ⟨?_, h⟩
    refine List.eq_nil_iff_forall_not_mem.2 fun i hi => ?_
    obtain ⟨h0, o, ho, _⟩ := mem_ready.1 hi
    have hlt := (Array.getElem?_eq_some_iff.1 ho).1
    have h3 := h1 i (by simp at hk; omega)
    rw [getD_both h0] at h3
    cases h3
  | o :: l, k, listed, a, w, hS, hl, hk, hz, h1, h2, h => by
    have h0 : ops[k]? = some o := by simpa using (hl 0).symm
    have hlt : k < ops.size := (Array.getElem?_eq_some_iff.1 h0).1
    have hun : ∀ j, listed.getD j true = false → k ≤ j := fun j hun => by
      rcases Nat.lt_or_ge j k with h' | h'
      · have h3 := h1 j h'
        rw [getD_both hun] at h3
        cases h3
      · exact h'
    have hnil : k + 1 < ops.size → l ≠ [] := fun e k' => by subst k'; simp at hk; omega
    have rec_ : ∀ a' W, SL w0 W → wpF P ops w0 Q l a' W → wpG P ops w0 Q l.length (listed.setIfInBounds k true) a' W := fun a' W hW h' =>
      wpG_of_lex hx hc l (k + 1) _ a' W hW (fun j => by have := hl (j + 1); simpa [Nat.add_assoc, Nat.add_comm 1 j] using this) (by simp at hk; omega) (by simpa using hz)
        (by
          intro i hi
          by_cases e : i = k
          · subst e
            simp [hz, hlt]
          · exact getD_set_true (h1 i (by omega)))
        (by
          intro i hi hi'
          rw [getD_set_ne true (by omega)]
          exact h2 i (by omega) hi') h'
    have hst : gOp P ops w0 k (wpG P ops w0 Q l.length (listed.setIfInBounds k true)) a w := by
      unfold gOp
      rw [h0]
      rcases h with ⟨hq, v, hy, hk'⟩ | ⟨hq, z, hz', hk'⟩ | ⟨hq, hk'⟩
      · exact .inl ⟨hq, v, hy, rec_ _ _ hS hk'⟩
      · exact .inr (.inl ⟨hq, z, hz', fun b W e1 e2 e3 => rec_ _ _ (hS.ext e1) (hk' b W e1 e2 e3)⟩)
      · exact .inr (.inr ⟨hq, fun W hW => hOp_mono (fun v w' ⟨e1, e2, e3⟩ => ⟨fun e => e1 (hnil e), e2, rec_ _ _ e2 e3⟩) (hk' W hW)⟩)
    refine wpG_first h0 (Region.noSelect_spec hx.sel) l.length listed a w hS ?_ ?_ ?_ (mem_ready.2 ⟨h2 k (Nat.le_refl _) hlt, o, h0, fun e he hb => h1 _ (hx.edge k o h0 e he hb)⟩) hst
    · intro j oj hj hne hju hno
      refine hx.free k j o oj ?_ h0 hj hno
      have := hun j hju
      omega
    · intro j hju hne
      have := hun j hju
      omega
    · intro hs
      refine ⟨fun j hw => ?_, fun j oj hj hne hju hjs hjm => ?_⟩
      · obtain ⟨h3, h4⟩ := hw.lt hx
        exact getD_both (h2 j (by omega) h4)
      · have := hun j hju
        exact hc.chain k j o oj (by omega) h0 hj hs hjs hjm

theorem wp_float {id : Nat} {a : Act} {w : World} {l : List Oper} (hm : P.follows .mixedOrders = true) (hx : LexOK l.toArray) (hc : ChainOF l.toArray)
    (h : wpF P l.toArray w Q l a w.drew) : (Code.region id l.toArray true).wp P Q a w := by
  refine wp_region_any hm (wpAny_of_wpG (w0 := w) _ _ _ _ ⟨⟨w.drew, (Below.refl _ _).drew⟩, rfl⟩ ?_)
  have := wpG_of_lex (P := P) (w0 := w) (Q := Q) hx hc l 0 (Array.replicate l.toArray.size false) a w.drew ⟨⟨w.drew, (Below.refl _ _).drew⟩, rfl⟩ (by simp) (by simp) (by simp) (by intro i hi; omega) (fun i _ hi => getD_in (by simpa using hi) (getD_replicate_false _ _)) h
  simpa using this

theorem wp_floatN {id : Nat} {a : Act} {w : World} {l : List Oper} (hm : P.follows .mixedOrders = true) (hx : LexOK l.toArray) (hc : ChainOF l.toArray)
    (h : ∀ V, Below w.heap.size w V → SL w V → wpF P l.toArray w Q l a V) : (Code.region id l.toArray true).wp P Q a w :=
  wp_float hm hx hc (h _ (Below.refl _ _).drew ⟨⟨w.drew, (Below.refl _ _).drew⟩, rfl⟩)

/-! ### The moves of the walk -/
theorem wpF_nil {a : Act} {w : World} (h : ∀ W, Below w.heap.size w W → Q .normal a W) : wpF P ops w0 Q [] a w := h
theorem wpF_still : ∀ (l1 l2 : List Oper) {a : Act} {w : World}, l1.all stillOp = true → wpQuiet P ops (fun w' => ∃ x : Later w0, w' = x.at) (fun a' => wpF P ops w0 Q l2 a' w) l1 a → wpF P ops w0 Q (l1 ++ l2) a w
  | [], _, _, _, _, h => h
  | o :: l1, l2, a, w, hs, h => by
    rw [List.all_cons, Bool.and_eq_true] at hs
    refine .inl ⟨.inl hs.1, ?_⟩
    unfold wpQuiet at h
    by_cases hw : Region.wanted o (yielded ops a.tmps) = true
    · rw [if_pos hw] at h
      obtain ⟨v, hv, hn⟩ := h
      refine ⟨v, .inl ⟨hw, fun w' hS' => ?_⟩, wpF_still l1 l2 hs.2 hn⟩
      have h1 := hv w' hS'
      unfold Oper.quietAt at h1
      cases hr : (execOp a.eval o).run P w' with
      | ok n w2 =>
        obtain ⟨x, rfl⟩ := still_value hs.1 hr
        rw [hr] at h1
        obtain ⟨e1, e2⟩ := h1
        rw [e1, e2]
      | halt x w2 => rw [hr] at h1; exact h1.elim
    · rw [if_neg hw] at h
      exact ⟨undef, .inr ⟨by simpa using hw, rfl⟩, wpF_still l1 l2 hs.2 h⟩
theorem wpF_seg (n : Nat) {l : List Oper} {a : Act} {w : World} (hs : (l.take n).all stillOp = true) (h : wpQuiet P ops (fun w' => ∃ x : Later w0, w' = x.at) (fun a' => wpF P ops w0 Q (l.drop n) a' w) (l.take n) a) : wpF P ops w0 Q l a w := by
  have := wpF_still (Q := Q) (l.take n) (l.drop n) hs h
  rwa [List.take_append_drop] at this
theorem wpF_skip {o : Oper} {l : List Oper} {a : Act} {w : World} (hw : Region.wanted o (yielded ops a.tmps) = false) (h : wpF P ops w0 Q l (a.put o.dst undef) w) : wpF P ops w0 Q (o :: l) a w :=
  .inl ⟨.inr hw, undef, .inr ⟨hw, rfl⟩, h⟩
theorem not_quiet {o : Oper} {a : Act} (hs : stillOp o = false) (hw : Region.wanted o (yielded ops a.tmps) = true) : ¬ quietNow ops o a := by
  rintro (h1 | h1)
  · rw [hs] at h1; cases h1
  · rw [hw] at h1; cases h1
theorem wpF_call {o : Oper} {l : List Oper} {a : Act} {w : World} {fn : Func} (f : FuncId) (hf : P.funcs[f]? = some fn) (hname : (fn.name == "runtime.NumGoroutine") = false) (hb : fn.body.isNone = false) (args : Array Operand) (ts : Array TypeId) (vs : Array Value) (ho : o.op = .call { callee := .value (.func f), args := args, argTypes := ts })
    (hw : Region.wanted o (yielded ops a.tmps) = true) (hv : args.map a.eval = vs) (hS : SL w0 w) (h : ∀ W, Below w.heap.size w W → Calls P f vs W fun e w' => ∃ v, e = .returned v ∧ Below W.heap.size W w' ∧ wpF P ops w0 Q l (a.put o.dst v) w') : wpF P ops w0 Q (o :: l) a w := by
  have hs : stillOp o = false := by unfold stillOp; simp only [ho]
  have hmk : makerOp o = false := by unfold makerOp; simp only [ho]
  refine .inr (.inr ⟨⟨not_quiet hs hw, hmk⟩, fun W hW => ?_⟩)
  unfold hOp execOp
  simp only [ho]
  have e : (do let d ← resolve a.eval { callee := .value (.func f), args := args, argTypes := ts } o.type; invoke d.target d.args : Sem Next).run P W = .ok (.enter f vs) W := by
    subst hv
    have h1 : fn.name ≠ "runtime.NumGoroutine" := by simpa using hname
    have h2 : fn.body ≠ none := by
      intro e
      rw [e] at hb
      cases hb
    simp [resolve, Deferred.ofValue, invoke, go_sem, Act.eval, callFunc, hf, h1, h2]
  rw [e]
  exact (h W hW).mono fun _ _ ⟨v, h1, h2, h3⟩ => ⟨v, h1, fun _ => h2, hS.ext (ext_trans hW h2), h3⟩
theorem wpF_make {o : Oper} {l : List Oper} {a : Act} {w : World} (z : Obj × (Nat → Value)) (hs : stillOp o = false) (hk : makerOp o = true) (hw : Region.wanted o (yielded ops a.tmps) = true) (hz : Makes P ops o z a)
    (h : ∀ b W, Below w.heap.size w W → W.heap[b]? = some z.1 → w0.heap.size ≤ b → wpF P ops w0 Q l (a.put o.dst (z.2 b)) W) : wpF P ops w0 Q (o :: l) a w :=
  .inr (.inl ⟨⟨not_quiet hs hw, hk⟩, z, hz, h⟩)
/-- an operation that yields a value in every world and leaves it -/
theorem wpF_val {o : Oper} {l : List Oper} {a : Act} {w : World} (v : Value) (hs : stillOp o = false) (hk : makerOp o = false) (hw : Region.wanted o (yielded ops a.tmps) = true) (hr : ∀ W, (execOp a.eval o).run P W = .ok (.value v) W) (hS : SL w0 w)
    (h : ∀ W, Below w.heap.size w W → wpF P ops w0 Q l (a.put o.dst v) W) : wpF P ops w0 Q (o :: l) a w := by
  refine .inr (.inr ⟨⟨not_quiet hs hw, hk⟩, fun W hW => ?_⟩)
  unfold hOp
  rw [hr W]
  exact ⟨fun _ => Below.refl _ _, hS.ext hW, h W hW⟩
/-- the last operation, a store -/
theorem wpF_last {o : Oper} {a : Act} {w : World} (g : World → World) (hs : stillOp o = false) (hk : makerOp o = false) (hw : Region.wanted o (yielded ops a.tmps) = true) (hr : ∀ W, Below w.heap.size w W → (execOp a.eval o).run P W = .ok .skip (g W)) (hS : ∀ W, Below w.heap.size w W → SL w0 (g W))
    (h : ∀ W, Below w.heap.size w W → ∀ X, Below (g W).heap.size (g W) X → Q .normal (a.put o.dst undef) X) : wpF P ops w0 Q [o] a w := by
  refine .inr (.inr ⟨⟨not_quiet hs hw, hk⟩, fun W hW => ?_⟩)
  unfold hOp
  rw [hr W hW]
  exact ⟨fun e => absurd rfl e, hS W hW, h W hW⟩
end

/-! ### The test -/
def bitOf (m p : Nat) : Bool := Nat.beq (Nat.mod (Nat.shiftRight m p) 2) 1
/-- the operations that one waits for, by way of those before it (ms: theirs) -/
def waitM (ms : List Nat) : List Edge → Nat
  | [] => 0
  | e :: l => bif Region.binds .any e then Nat.lor (Nat.lor (Nat.shiftLeft 1 e.on) (ms.getD e.on 0)) (waitM ms l) else waitM ms l
def chainM : List Oper → List Nat → List Nat → Bool
  | [], _, _ => true
  | o :: l, ms, hs => (fun m => (stillOp o || (makerOp o || hs.all (bitOf m))) && chainM l (ms ++ [m]) (bif stillOp o then hs else ms.length :: hs)) (waitM ms o.after.toList)
theorem bitOf_eq (m p : Nat) : bitOf m p = m.testBit p := by
  unfold bitOf
  rw [Nat.testBit_eq_decide_div_mod_eq]
  have : Nat.mod (Nat.shiftRight m p) 2 = m / 2 ^ p % 2 := by rw [← Nat.shiftRight_eq_div_pow]; rfl
  rw [this]
  by_cases h : m / 2 ^ p % 2 = 1
  · rw [h]; rfl
  · rw [decide_eq_false h]
    exact Bool.eq_false_iff.2 fun h' => h (Nat.eq_of_beq_eq_true h')
theorem waitM_spec {ms : List Nat} : ∀ (es : List Edge) (p : Nat), (waitM ms es).testBit p = true → ∃ e, e ∈ es ∧ Region.binds .any e = true ∧ (e.on = p ∨ (ms.getD e.on 0).testBit p = true)
  | [], p, h => by simp [waitM] at h
  | e :: l, p, h => by
    unfold waitM at h
    cases hb : Region.binds .any e with
    | false =>
      rw [hb] at h
      obtain ⟨e', h1, h2⟩ := waitM_spec l p h
      exact ⟨e', List.mem_cons_of_mem _ h1, h2⟩
    | true =>
      rw [hb] at h
      have h' : ((1 <<< e.on ||| ms.getD e.on 0) ||| waitM ms l).testBit p = true := h
      rw [Nat.testBit_or, Nat.testBit_or, Bool.or_eq_true, Bool.or_eq_true] at h'
      rcases h' with (h' | h') | h'
      · refine ⟨e, by simp, hb, .inl ?_⟩
        rw [Nat.one_shiftLeft, Nat.testBit_two_pow] at h'
        exact of_decide_eq_true h'
      · exact ⟨e, by simp, hb, .inr h'⟩
      · obtain ⟨e', h1, h2⟩ := waitM_spec l p h'
        exact ⟨e', List.mem_cons_of_mem _ h1, h2⟩
theorem chainM_spec {ops : Array Oper} : ∀ (l : List Oper) (ms hs : List Nat), (∀ j, l[j]? = ops[ms.length + j]?) →
    (∀ j i, (ms.getD j 0).testBit i = true → Waits ops i j) → (∀ i o, i < ms.length → ops[i]? = some o → stillOp o = false → i ∈ hs) → chainM l ms hs = true →
    ∀ (j : Nat) (oj : Oper), ms.length ≤ j → ops[j]? = some oj → stillOp oj = false → makerOp oj = false → ∀ (i : Nat) (oi : Oper), i < j → ops[i]? = some oi → stillOp oi = false → Waits ops i j
  | [], ms, _, hl, _, _, _, j, oj, hj, hoj, _, _ => by
    intro i oi hi hoi _
    have h0 : ops[j]? = none := by
      have := hl (j - ms.length)
      rw [show ms.length + (j - ms.length) = j by omega] at this
      rw [← this]
      rfl
    rw [h0] at hoj
    cases hoj
  | o :: l, ms, hs, hl, hp, hi, h, j, oj, hj, hoj, hjs, hjm => by
    have h0 : ops[ms.length]? = some o := by simpa using (hl 0).symm
    have hl' : ∀ m j, l[j]? = ops[(ms ++ [m]).length + j]? := fun m j => by have := hl (j + 1); simpa [Nat.add_assoc, Nat.add_comm 1 j] using this
    have hwm : ∀ i, (waitM ms o.after.toList).testBit i = true → Waits ops i ms.length := fun i hw => by
      obtain ⟨e, he, hb, hon⟩ := waitM_spec _ i hw
      have he' : e ∈ o.after := by simpa using he
      rcases hon with hon | hon
      · exact .on e h0 he' hb hon
      · exact .step e h0 he' hb (hp _ _ hon)
    simp only [chainM, Bool.and_eq_true] at h
    obtain ⟨hm, hrest⟩ := h
    by_cases hjk : j = ms.length
    · subst hjk
      rw [h0] at hoj
      injection hoj with hoj
      subst hoj
      rw [hjs, hjm] at hm
      intro i oi hij hoi his
      refine hwm i ?_
      have := List.all_eq_true.1 (by simpa using hm) i (hi i oi hij hoi his)
      rwa [bitOf_eq] at this
    · refine chainM_spec l _ _ (hl' _) ?_ ?_ hrest j oj (by simp; omega) hoj hjs hjm
      · intro j' i' hw
        rcases Nat.lt_trichotomy j' ms.length with h' | h' | h'
        · refine hp j' i' ?_
          rw [List.getD_eq_getElem?_getD, List.getElem?_append_left h', ← List.getD_eq_getElem?_getD] at hw
          exact hw
        · subst h'
          refine hwm i' ?_
          rw [List.getD_eq_getElem?_getD, List.getElem?_append_right (Nat.le_refl _), Nat.sub_self] at hw
          exact hw
        · rw [List.getD_eq_getElem?_getD, List.getElem?_eq_none (by simp; omega)] at hw
          simp at hw
      · intro i' o' hik ho' hs'
        by_cases e : i' = ms.length
        · subst e
          rw [h0] at ho'
          injection ho' with ho'
          subst ho'
          rw [hs']
          simp
        · have := hi i' o' (by simp at hik; omega) ho' hs'
          cases stillOp o
          · exact List.mem_cons_of_mem _ this
          · exact this
theorem chainOF_of {l : List Oper} (h : chainM l [] [] = true) : ChainOF l.toArray :=
  ⟨fun k j ok oj hkj hok hoj hks hjs hjm => chainM_spec (ops := l.toArray) l [] [] (by simp) (by intro j i hw; simp at hw) (by intro i o hi; simp at hi) h j oj (Nat.zero_le _) hoj hjs hjm k ok hkj hok hks⟩

end Go.Proofs.YtgkojdbepgonkaaDoor
