/- A statement whose order is open, that holds calls whose results lie at unknown places, and whose last operation waits for all the others (a store): one walk in the order of the text serves every order; the last operation may leave any world. No program, no conditions. -/
import Derived.Test.YtliflbelhogopaaDoorHeld2
import Derived.StillTail
namespace Go.Proofs.YtliflbelhogopaaDoor
set_option maxRecDepth 8000
open Go.RowKit

section
variable {P : Program} {ops : Array Oper} {S : World → Prop} {Q : Exit → Act → World → Prop} {m : Nat}

/-- the last operation -/
def mOp (P : Program) (ops : Array Oper) (m : Nat) (K : Act → World → Prop) (a : Act) (w : World) : Prop :=
  ∃ o, ops[m]? = some o ∧ Region.wanted o (yielded ops a.tmps) = true ∧ hOp P o (fun v w' => K (a.put o.dst v) w') a w
theorem mOp_mono {K K' : Act → World → Prop} {a : Act} {w : World} (h : ∀ a w, K a w → K' a w) (hh : mOp P ops m K a w) : mOp P ops m K' a w := by
  obtain ⟨o, h1, h2, h3⟩ := hh
  exact ⟨o, h1, h2, hOp_mono (fun _ _ hk => h _ _ hk) h3⟩
theorem wpOp_of_mOp {K : Act → World → Prop} {a : Act} {w : World} (hh : mOp P ops m K a w) : wpOp P ops Q m K a w := by
  obtain ⟨o, hi, hw, hh⟩ := hh
  unfold wpOp
  simp only [hi, hw, if_true]
  refine .inl ?_
  unfold hOp at hh
  unfold Oper.wp
  generalize (execOp a.eval o).run P w = r at *
  cases r with
  | ok n w' =>
    cases n <;> simp only [heldUpon] at hh <;> simp only [Oper.upon]
    case value u => exact hh
    case skip => exact hh
    case enter f args => exact hh.mono fun e w'' ⟨v, he, h2⟩ => by subst he; exact h2
  | halt x w' => exact hh.elim

def tOp (P : Program) (ops : Array Oper) (S : World → Prop) (m i : Nat) (K : Act → World → Prop) (a : Act) (w : World) : Prop := if i = m then mOp P ops m K a w else sOp P ops S i K a w
theorem tOp_ne {i : Nat} {K : Act → World → Prop} {a : Act} {w : World} (h : i ≠ m) : tOp P ops S m i K a w = sOp P ops S i K a w := if_neg h
theorem tOp_eq {K : Act → World → Prop} {a : Act} {w : World} : tOp P ops S m m K a w = mOp P ops m K a w := if_pos rfl
/-- whatever order is picked -/
def wpT (P : Program) (ops : Array Oper) (S : World → Prop) (m : Nat) (Q : Exit → Act → World → Prop) : Nat → Array Bool → Act → World → Prop
  | 0, listed, a, w => Region.ready .any ops listed = [] ∧ Q .normal a w
  | n + 1, listed, a, w => (Region.ready .any ops listed = [] → Q .normal a w) ∧ ∀ i, i ∈ Region.ready .any ops listed → tOp P ops S m i (wpT P ops S m Q n (listed.setIfInBounds i true)) a w

theorem ready_lt {listed : Array Bool} {i : Nat} (h : i ∈ Region.ready .any ops listed) : i < ops.size := by
  obtain ⟨_, o, ho, _⟩ := mem_ready.1 h
  exact (Array.getElem?_eq_some_iff.1 ho).1
theorem none_left {listed : Array Bool} (hz : ops.size = m + 1) (hs : Region.sinkB .any ops m = true) (hc : Region.chainB .any ops m = true) (inv : HeadInv .any ops m listed) (hm : m ∈ Region.ready .any ops listed) : Region.ready .any ops (listed.setIfInBounds m true) = [] := by
  refine List.eq_nil_iff_forall_not_mem.2 fun j hj => ?_
  have hjl := ready_lt hj
  have hju := (mem_ready.1 hj).1
  by_cases e : j = m
  · subst e
    have : (listed.setIfInBounds j true).getD j true = true := by simp [inv.size, hz]
    rw [this] at hju
    cases hju
  · rw [getD_set_ne true (fun k => e k.symm)] at hju
    exact tail_waits hs hc (by omega) inv _ j rfl (by omega) hju m (Nat.le_refl _) hm
theorem wpAny_of_wpT (hz : ops.size = m + 1) (hs : Region.sinkB .any ops m = true) (hc : Region.chainB .any ops m = true) : ∀ (n : Nat) (listed : Array Bool) (a : Act) (w : World), HeadInv .any ops m listed → S w → wpT P ops S m Q n listed a w → wpAny P .any ops Q n listed a w
  | 0, _, _, _, _, _, h => h
  | n + 1, listed, a, w, inv, hS, h => by
    refine ⟨h.1, fun i hi => ?_⟩
    have h2 := h.2 i hi
    by_cases e : i = m
    · subst e
      rw [tOp_eq] at h2
      have hn := none_left hz hs hc inv hi
      refine wpOp_of_mOp (mOp_mono (fun a' w' hk => ?_) h2)
      cases n with
      | zero => exact hk
      | succ n => exact ⟨hk.1, fun j hj => by rw [hn] at hj; cases hj⟩
    · rw [tOp_ne e] at h2
      have hl := ready_lt hi
      exact wpOp_of_sOp hS (fun a' w' hS' h' => wpAny_of_wpT hz hs hc n _ a' w' (inv.set hi (by omega)) hS' h') h2

theorem wpT_first (hz : ops.size = m + 1) (hs : Region.sinkB .any ops m = true) (hc : Region.chainB .any ops m = true) {i : Nat} {oi : Oper} (him : i < m) (hi : ops[i]? = some oi) (hsel : ∀ (j : Nat) (o : Oper) cs b, ops[j]? = some o → o.op ≠ .select cs b) : ∀ (n : Nat) (listed : Array Bool) (a : Act) (w : World), HeadInv .any ops m listed → S w →
      (∀ j oj, ops[j]? = some oj → j ≠ i → listed.getD j true = false → (∀ e ∈ oj.after, Region.binds .any e = true → e.on ≠ i) → oi.apart ops oj = true) →
      (stillOp oi = false → Chain ops i listed) → i ∈ Region.ready .any ops listed → sOp P ops S i (wpT P ops S m Q n (listed.setIfInBounds i true)) a w → wpT P ops S m Q (n + 1) listed a w := by
  intro n
  induction n with
  | zero =>
    intro listed a w inv hS _ _ hr H
    refine ⟨fun h => (by rw [h] at hr; cases hr), fun j hj => ?_⟩
    by_cases hji : j = i
    · subst hji; rw [tOp_ne (by omega)]; exact H
    · obtain ⟨a', w', _, h0, _⟩ := sOp_out hS H
      have := ready_mono hj hji
      rw [h0] at this
      cases this
  | succ n ih =>
    intro listed a w inv hS hfree hchain hr H
    refine ⟨fun h => (by rw [h] at hr; cases hr), fun j hj => ?_⟩
    by_cases hji : j = i
    · subst hji; rw [tOp_ne (by omega)]; exact H
    have hjm : j ≠ m := fun e => by
      subst e
      exact tail_waits hs hc (by omega) inv _ i rfl him (mem_ready.1 hr).1 j (Nat.le_refl _) hj
    have hjl := ready_lt hj
    have inv' : HeadInv .any ops m (listed.setIfInBounds j true) := inv.set hj (by omega)
    rw [tOp_ne hjm]
    obtain ⟨hjun, oj, hoj, hall⟩ := mem_ready.1 hj
    have hnot : ∀ e ∈ oj.after, Region.binds .any e = true → e.on ≠ i := fun e he hb heq => by
      have h1 := hall e he hb
      have h0 := (mem_ready.1 hr).1
      rw [heq, getD_both h0] at h1
      cases h1
    have hap := hfree j oj hoj hji hjun hnot
    obtain ⟨p1, p2, p3⟩ := Oper.apart_spec hap
    have hsi := fun cs b => hsel i oi cs b hi
    have hsj := fun cs b => hsel j oj cs b hoj
    have hfree' : ∀ k ok, ops[k]? = some ok → k ≠ i → (listed.setIfInBounds j true).getD k true = false →
        (∀ e ∈ ok.after, Region.binds .any e = true → e.on ≠ i) → oi.apart ops ok = true := fun k ok hk hki hun hno => by
      refine hfree k ok hk hki ?_ hno
      by_cases hjk : j = k
      · subst hjk; exact hjun
      · rw [getD_set_ne true hjk] at hun; exact hun
    have hjs : stillOp oi = false → stillOp oj = true := fun hs => by
      cases e : stillOp oj with
      | true => rfl
      | false =>
        obtain ⟨e, he, hb, hun, _⟩ := hchain hs j oj hoj hji hjun e
        rw [hall e he hb] at hun
        cases hun
    have hchain' : stillOp oi = false → Chain ops i (listed.setIfInBounds j true) := fun hs => by
      intro k ok hk hki hun hks
      have hjk : j ≠ k := by
        rintro rfl
        rw [hoj] at hk
        injection hk with hk
        rw [← hk, hjs hs] at hks
        cases hks
      rw [getD_set_ne true hjk] at hun
      obtain ⟨e, he, hb, h1, h2⟩ := hchain hs k ok hk hki hun hks
      refine ⟨e, he, hb, ?_, h2⟩
      have hje : j ≠ e.on := by
        intro h
        have := h2 oj (by rw [← h]; exact hoj)
        rw [hjs hs] at this
        cases this
      rw [getD_set_ne false hje]
      exact h1
    have hr' := ready_mono hr (Ne.symm hji)
    have hrj := ready_mono hj hji
    unfold sOp at H
    rw [hi] at H
    rcases H with ⟨hq, v, hy, HK⟩ | ⟨hnq, hh⟩
    · have hkj := HK.2 j hrj
      rw [tOp_ne hjm] at hkj
      have h2 := sOp_put hoj hap hsi hsj hq hy hkj
      refine sOp_mono hS (fun a' w' hS' ⟨hq', hy', hk'⟩ => ih (listed.setIfInBounds j true) a' w' inv' hS' hfree' hchain' hr' ?_) h2
      unfold sOp
      rw [hi]
      refine .inl ⟨hq', v, hy', ?_⟩
      rw [Array.setIfInBounds_comm _ _ hji]
      exact hk'
    · have hs : stillOp oi = false := by
        cases e : stillOp oi with
        | false => rfl
        | true => exact absurd (.inl e) hnq
      have hj' := hjs hs
      obtain ⟨v0, w0, hS0, hK0⟩ := hOp_out hh
      have h1 := hK0.2 j hrj
      rw [tOp_ne hjm] at h1
      unfold sOp at h1
      rw [hoj] at h1
      obtain ⟨vj, hyj⟩ : ∃ vj, YieldsIf P ops S oj vj a := by
        rcases h1 with ⟨_, u, hu, _⟩ | ⟨e, _⟩
        · exact ⟨u, hu.of_same (execOp_put oj hsj a oi.dst v0 p1).symm (wanted_put oj a oi.dst v0 p1).symm⟩
        · exact absurd (.inl hj') e
      unfold sOp
      rw [hoj]
      refine .inl ⟨.inl hj', vj, hyj, ih (listed.setIfInBounds j true) (a.put oj.dst vj) w inv' hS hfree' hchain' hr' ?_⟩
      unfold sOp
      rw [hi]
      refine .inr ⟨fun e => hnq ((quietNow_put p3).1 e), hOp_put hsi p3 (hOp_mono (fun v w' ⟨hS', hk'⟩ => ⟨hS', ?_⟩) hh)⟩
      have h2 := hk'.2 j hrj
      rw [tOp_ne hjm] at h2
      unfold sOp at h2
      rw [hoj] at h2
      rcases h2 with ⟨_, u, hu, hk2⟩ | ⟨e, _⟩
      · have hu' : YieldsIf P ops S oj u a := hu.of_same (execOp_put oj hsj a oi.dst v p1).symm (wanted_put oj a oi.dst v p1).symm
        have e := YieldsIf.one hS' hu' hyj
        subst e
        rw [Array.setIfInBounds_comm _ _ hji, ← Act.put_comm a v u p2]
        exact hk2
      · exact absurd (.inl hj') e

theorem wpT_of_lex (hz : ops.size = m + 1) (hs : Region.sinkB .any ops m = true) (hcb : Region.chainB .any ops m = true) (hx : LexOK ops) (hc : ChainOK ops) : ∀ (l : List Oper) (k : Nat) (listed : Array Bool) (a : Act) (w : World), HeadInv .any ops m listed → S w →
    (∀ j, j < l.length → l[j]? = ops[k + j]?) → k + l.length = m → (∀ i, i < k → listed.getD i false = true) → (∀ i, k ≤ i → i < ops.size → listed.getD i true = false) →
    wpHeld P ops S (fun _ a w => mOp P ops m (fun a w => Q .normal a w) a w) l a w → wpT P ops S m Q (l.length + 1) listed a w
  | [], k, listed, a, w, inv, _, _, hk, h1, h2, h => by
    obtain rfl : k = m := by simpa using hk
    obtain ⟨om, hom, hw, hh⟩ := h
    have hr : k ∈ Region.ready .any ops listed := mem_ready.2 ⟨h2 k (Nat.le_refl _) (by omega), om, hom, fun e he hb => h1 _ (hx.edge k om hom e he hb)⟩
    refine ⟨fun e => (by rw [e] at hr; cases hr), fun i hi => ?_⟩
    have hil := ready_lt hi
    have hik : k ≤ i := by
      rcases Nat.lt_or_ge i k with h' | h'
      · have h3 := h1 i h'
        rw [getD_both (mem_ready.1 hi).1] at h3
        cases h3
      · exact h'
    obtain rfl : i = k := by omega
    rw [tOp_eq]
    exact ⟨om, hom, hw, hOp_mono (fun v w' hq => ⟨none_left hz hs hcb inv hi, hq⟩) hh⟩
  | o :: l, k, listed, a, w, inv, hS, hl, hk, h1, h2, h => by
    have h0 : ops[k]? = some o := by simpa using (hl 0 (by simp)).symm
    have hlt : k < ops.size := (Array.getElem?_eq_some_iff.1 h0).1
    have hkm : k < m := by simp at hk; omega
    have hst : sOp P ops S k (wpHeld P ops S (fun _ a w => mOp P ops m (fun a w => Q .normal a w) a w) l) a w := by
      unfold sOp
      rw [h0]
      exact h
    have hun : ∀ j, listed.getD j true = false → k ≤ j := fun j hun => by
      rcases Nat.lt_or_ge j k with h' | h'
      · have h3 := h1 j h'
        rw [getD_both hun] at h3
        cases h3
      · exact h'
    have hr : k ∈ Region.ready .any ops listed := mem_ready.2 ⟨h2 k (Nat.le_refl _) hlt, o, h0, fun e he hb => h1 _ (hx.edge k o h0 e he hb)⟩
    refine wpT_first hz hs hcb hkm h0 (Region.noSelect_spec hx.sel) (l.length + 1) listed a w inv hS ?_ ?_ hr ?_
    · intro j oj hj hne hju hno
      refine hx.free k j o oj ?_ h0 hj hno
      have := hun j hju
      omega
    · intro hs' j oj hj hne hju hjs
      have := hun j hju
      obtain ⟨e, he, hb, hke, hej, hes⟩ := hc.chain k j o oj (by omega) h0 hj hs' hjs
      refine ⟨e, he, hb, ?_, hes⟩
      have hjlt : j < ops.size := (Array.getElem?_eq_some_iff.1 hj).1
      exact getD_both (h2 e.on hke (by omega))
    · refine sOp_mono hS (fun a' w' hS' h' => wpT_of_lex hz hs hcb hx hc l (k + 1) _ a' w' (inv.set hr hkm) hS' (fun j hj => by have := hl (j + 1) (by simp; omega); simpa [Nat.add_assoc, Nat.add_comm 1 j] using this) (by simp at hk; omega) ?_ ?_ h') hst
      · intro i hi
        by_cases e : i = k
        · subst e
          simp [inv.size, hlt]
        · exact getD_set_true (h1 i (by omega))
      · intro i hi hi'
        rw [getD_set_ne true (by omega)]
        exact h2 i (by omega) hi'

theorem wp_held_tail {id : Nat} {a : Act} {w : World} {l : List Oper} (n : Nat) (hm : P.follows .mixedOrders = true) (hx : LexOK l.toArray) (hc : ChainOK l.toArray) (hz : l.length = n + 1) (hs : Region.sinkB .any l.toArray n = true) (hcb : Region.chainB .any l.toArray n = true) (hS : S w.drew)
    (h : wpHeld P l.toArray S (fun _ a w => mOp P l.toArray n (fun a w => Q .normal a w) a w) (l.take n) a w.drew) : (Code.region id l.toArray true).wp P Q a w := by
  have inv0 : HeadInv .any l.toArray n (Array.replicate l.toArray.size false) :=
    ⟨by simp, fun j oj _ hl => (by rw [getD_replicate_false] at hl; cases hl), fun t _ ht => getD_in (by simpa using ht) (getD_replicate_false _ _)⟩
  have htl : (l.take n).length = n := by simp; omega
  refine wp_region_any hm (wpAny_of_wpT (S := S) (m := n) (by simpa using hz) hs hcb _ _ _ _ inv0 hS ?_)
  have := wpT_of_lex (P := P) (S := S) (Q := Q) (m := n) (ops := l.toArray) (by simpa using hz) hs hcb hx hc (l.take n) 0 (Array.replicate l.toArray.size false) a w.drew inv0 hS (fun j hj => by
    have hj' : j < n := by rw [htl] at hj; exact hj
    simp [hj']) (by simpa using htl) (by intro i hi; omega) (fun i _ hi => getD_in (by simpa using hi) (getD_replicate_false _ _)) h
  rw [htl] at this
  simpa [hz] using this
theorem wp_held_tailB (n B : Nat) {id : Nat} {a : Act} {w : World} {l : List Oper} (hm : P.follows .mixedOrders = true) (hx : LexOK l.toArray) (hc : ChainOK l.toArray) (hz : l.length = n + 1) (hs : Region.sinkB .any l.toArray n = true) (hcb : Region.chainB .any l.toArray n = true)
    (h : ∀ W, Below w.heap.size w W → (∃ x : LaterB B w, W = x.at) → wpHeld P l.toArray (fun w' => ∃ x : LaterB B w, w' = x.at) (fun _ a w => mOp P l.toArray n (fun a w => Q .normal a w) a w) (l.take n) a W) : (Code.region id l.toArray true).wp P Q a w :=
  wp_held_tail n hm hx hc hz hs hcb ⟨⟨w.drew, (Below.refl _ _).drew⟩, rfl⟩ (h w.drew (Below.refl _ _).drew ⟨⟨w.drew, (Below.refl _ _).drew⟩, rfl⟩)
/-- the last operation, a run that yields nothing -/
theorem mOp_run0 {o : Oper} {a : Act} {w : World} {K : Act → World → Prop} (w1 : World) (h0 : ops[m]? = some o) (hg : o.guard = none) (hr : (execOp a.eval o).run P w = .ok .skip w1) (h : K (a.put o.dst undef) w1) : mOp P ops m K a w := by
  refine ⟨o, h0, by unfold Region.wanted; rw [hg], ?_⟩
  unfold hOp
  rw [hr]
  exact h
end

end Go.Proofs.YtliflbelhogopaaDoor
