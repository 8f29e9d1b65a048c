/- Several texts in one: Tail, Flo, Tai2, Smr, Smu, Smw, Smx, Sna, Snf. -/
import Derived.Test.YtombcjdhjcmhhaaHeld
import Derived.StillTail
import Derived.Test.YtombcjdhjcmhhaaFloat
import Derived.Test.YtombcjdhjcmhhaaGe
import Derived.Deep.CutRange
import Derived.Deep.RegionWith
import Derived.Deep.AppendLies
import Derived.Test.YtombcjdhjcmhhaaGd
import Derived.Test.YtombcjdhjcmhhaaPolP
import Derived.Laws.IdiomArrays
/- A statement whose order is open, that holds calls whose results lie at unknown places, and whose last operation waits for all the others (a store): one walk in the order of the text serves every order; the last operation may leave any world. No program, no conditions. -/
namespace Go.Proofs.Ytombcjdhjcmhhaa
set_option maxRecDepth 8000
open Go.RowKit

section
variable {P : Program} {ops : Array Oper} {S : World → Prop} {Q : Exit → Act → World → Prop} {m : Nat}

/-- the last operation -/
def mOp (P : Program) (ops : Array Oper) (m : Nat) (K : Act → World → Prop) (a : Act) (w : World) : Prop :=
  ∃ o, ops[m]? = some o ∧ Region.wanted o (yielded ops a.tmps) = true ∧ hOp P o (fun v w' => K (a.put o.dst v) w') a w
theorem mOp_mono {K K' : Act → World → Prop} {a : Act} {w : World} (h : ∀ a w, K a w → K' a w) (hh : mOp P ops m K a w) : mOp P ops m K' a w := by
  obtain ⟨o, h1, h2, h3⟩ := hh
  exact ⟨o, h1, h2, hOp_mono (fun _ _ hk => h _ _ hk) h3⟩
theorem wpOp_of_mOp {K : Act → World → Prop} {a : Act} {w : World} (hh : mOp P ops m K a w) : wpOp P ops Q m K a w := by
  obtain ⟨o, hi, hw, hh⟩ := hh
  unfold wpOp
  simp only [hi, hw, if_true]
  refine .inl ?_
  unfold hOp at hh
  unfold Oper.wp
  generalize (execOp a.eval o).run P w = r at *
  cases r with
  | ok n w' =>
    cases n <;> simp only [heldUpon] at hh <;> simp only [Oper.upon]
    case value u => exact hh
    case skip => exact hh
    case enter f args => exact hh.mono fun e w'' ⟨v, he, h2⟩ => by subst he; exact h2
  | halt x w' => exact hh.elim

def tOp (P : Program) (ops : Array Oper) (S : World → Prop) (m i : Nat) (K : Act → World → Prop) (a : Act) (w : World) : Prop := if i = m then mOp P ops m K a w else sOp P ops S i K a w
theorem tOp_ne {i : Nat} {K : Act → World → Prop} {a : Act} {w : World} (h : i ≠ m) : tOp P ops S m i K a w = sOp P ops S i K a w := if_neg h
theorem tOp_eq {K : Act → World → Prop} {a : Act} {w : World} : tOp P ops S m m K a w = mOp P ops m K a w := if_pos rfl
/-- whatever order is picked -/
def wpT (P : Program) (ops : Array Oper) (S : World → Prop) (m : Nat) (Q : Exit → Act → World → Prop) : Nat → Array Bool → Act → World → Prop
  | 0, listed, a, w => Region.ready .any ops listed = [] ∧ Q .normal a w
  | n + 1, listed, a, w => (Region.ready .any ops listed = [] → Q .normal a w) ∧ ∀ i, i ∈ Region.ready .any ops listed → tOp P ops S m i (wpT P ops S m Q n (listed.setIfInBounds i true)) a w

theorem ready_lt {listed : Array Bool} {i : Nat} (h : i ∈ Region.ready .any ops listed) : i < ops.size := by
  obtain ⟨_, o, ho, _⟩ := mem_ready.1 h
  exact (Array.getElem?_eq_some_iff.1 ho).1
theorem none_left {listed : Array Bool} (hz : ops.size = m + 1) (hs : Region.sinkB .any ops m = true) (hc : Region.chainB .any ops m = true) (inv : HeadInv .any ops m listed) (hm : m ∈ Region.ready .any ops listed) : Region.ready .any ops (listed.setIfInBounds m true) = [] := by
  refine List.eq_nil_iff_forall_not_mem.2 fun j hj => ?_
  have hjl := ready_lt hj
  have hju := (mem_ready.1 hj).1
  by_cases e : j = m
  · subst e
    have : (listed.setIfInBounds j true).getD j true = true := by simp [inv.size, hz]
    rw [this] at hju
    cases hju
  · rw [getD_set_ne true (fun k => e k.symm)] at hju
    exact tail_waits hs hc (by omega) inv _ j rfl (by omega) hju m (Nat.le_refl _) hm
theorem wpAny_of_wpT (hz : ops.size = m + 1) (hs : Region.sinkB .any ops m = true) (hc : Region.chainB .any ops m = true) : ∀ (n : Nat) (listed : Array Bool) (a : Act) (w : World), HeadInv .any ops m listed → S w → wpT P ops S m Q n listed a w → wpAny P .any ops Q n listed a w
  | 0, _, _, _, _, _, h => h
  | n + 1, listed, a, w, inv, hS, h => by
    refine ⟨h.1, fun i hi => ?_⟩
    have h2 := h.2 i hi
    by_cases e : i = m
    · subst e
      rw [tOp_eq] at h2
      have hn := none_left hz hs hc inv hi
      refine wpOp_of_mOp (mOp_mono (fun a' w' hk => ?_) h2)
      cases n with
      | zero => exact hk
      | succ n => exact ⟨hk.1, fun j hj => by rw [hn] at hj; cases hj⟩
    · rw [tOp_ne e] at h2
      have hl := ready_lt hi
      exact wpOp_of_sOp hS (fun a' w' hS' h' => wpAny_of_wpT hz hs hc n _ a' w' (inv.set hi (by omega)) hS' h') h2

theorem wpT_first (hz : ops.size = m + 1) (hs : Region.sinkB .any ops m = true) (hc : Region.chainB .any ops m = true) {i : Nat} {oi : Oper} (him : i < m) (hi : ops[i]? = some oi) (hsel : ∀ (j : Nat) (o : Oper) cs b, ops[j]? = some o → o.op ≠ .select cs b) : ∀ (n : Nat) (listed : Array Bool) (a : Act) (w : World), HeadInv .any ops m listed → S w →
      (∀ j oj, ops[j]? = some oj → j ≠ i → listed.getD j true = false → (∀ e ∈ oj.after, Region.binds .any e = true → e.on ≠ i) → oi.apart ops oj = true) →
      (stillOp oi = false → Chain ops i listed) → i ∈ Region.ready .any ops listed → sOp P ops S i (wpT P ops S m Q n (listed.setIfInBounds i true)) a w → wpT P ops S m Q (n + 1) listed a w := by
  intro n
  induction n with
  | zero =>
    intro listed a w inv hS _ _ hr H
    refine ⟨fun h => (by rw [h] at hr; cases hr), fun j hj => ?_⟩
    by_cases hji : j = i
    · subst hji; rw [tOp_ne (by omega)]; exact H
    · obtain ⟨a', w', _, h0, _⟩ := sOp_out hS H
      have := ready_mono hj hji
      rw [h0] at this
      cases this
  | succ n ih =>
    intro listed a w inv hS hfree hchain hr H
    refine ⟨fun h => (by rw [h] at hr; cases hr), fun j hj => ?_⟩
    by_cases hji : j = i
    · subst hji; rw [tOp_ne (by omega)]; exact H
    have hjm : j ≠ m := fun e => by
      subst e
      exact tail_waits hs hc (by omega) inv _ i rfl him (mem_ready.1 hr).1 j (Nat.le_refl _) hj
    have hjl := ready_lt hj
    have inv' : HeadInv .any ops m (listed.setIfInBounds j true) := inv.set hj (by omega)
    rw [tOp_ne hjm]
    obtain ⟨hjun, oj, hoj, hall⟩ := mem_ready.1 hj
    have hnot : ∀ e ∈ oj.after, Region.binds .any e = true → e.on ≠ i := fun e he hb heq => by
      have h1 := hall e he hb
      have h0 := (mem_ready.1 hr).1
      rw [heq, getD_both h0] at h1
      cases h1
    have hap := hfree j oj hoj hji hjun hnot
    obtain ⟨p1, p2, p3⟩ := Oper.apart_spec hap
    have hsi := fun cs b => hsel i oi cs b hi
    have hsj := fun cs b => hsel j oj cs b hoj
    have hfree' : ∀ k ok, ops[k]? = some ok → k ≠ i → (listed.setIfInBounds j true).getD k true = false →
        (∀ e ∈ ok.after, Region.binds .any e = true → e.on ≠ i) → oi.apart ops ok = true := fun k ok hk hki hun hno => by
      refine hfree k ok hk hki ?_ hno
      by_cases hjk : j = k
      · subst hjk; exact hjun
      · rw [getD_set_ne true hjk] at hun; exact hun
    have hjs : stillOp oi = false → stillOp oj = true := fun hs => by
      cases e : stillOp oj with
      | true => rfl
      | false =>
        obtain ⟨e, he, hb, hun, _⟩ := hchain hs j oj hoj hji hjun e
        rw [hall e he hb] at hun
        cases hun
    have hchain' : stillOp oi = false → Chain ops i (listed.setIfInBounds j true) := fun hs => by
      intro k ok hk hki hun hks
      have hjk : j ≠ k := by
        rintro rfl
        rw [hoj] at hk
        injection hk with hk
        rw [← hk, hjs hs] at hks
        cases hks
      rw [getD_set_ne true hjk] at hun
      obtain ⟨e, he, hb, h1, h2⟩ := hchain hs k ok hk hki hun hks
      refine ⟨e, he, hb, ?_, h2⟩
      have hje : j ≠ e.on := by
        intro h
        have := h2 oj (by rw [← h]; exact hoj)
        rw [hjs hs] at this
        cases this
      rw [getD_set_ne false hje]
      exact h1
    have hr' := ready_mono hr (Ne.symm hji)
    have hrj := ready_mono hj hji
    unfold sOp at H
    rw [hi] at H
    rcases H with ⟨hq, v, hy, HK⟩ | ⟨hnq, hh⟩
    · have hkj := HK.2 j hrj
      rw [tOp_ne hjm] at hkj
      have h2 := sOp_put hoj hap hsi hsj hq hy hkj
      refine sOp_mono hS (fun a' w' hS' ⟨hq', hy', hk'⟩ => ih (listed.setIfInBounds j true) a' w' inv' hS' hfree' hchain' hr' ?_) h2
      unfold sOp
      rw [hi]
      refine .inl ⟨hq', v, hy', ?_⟩
      rw [Array.setIfInBounds_comm _ _ hji]
      exact hk'
    · have hs : stillOp oi = false := by
        cases e : stillOp oi with
        | false => rfl
        | true => exact absurd (.inl e) hnq
      have hj' := hjs hs
      obtain ⟨v0, w0, hS0, hK0⟩ := hOp_out hh
      have h1 := hK0.2 j hrj
      rw [tOp_ne hjm] at h1
      unfold sOp at h1
      rw [hoj] at h1
      obtain ⟨vj, hyj⟩ : ∃ vj, YieldsIf P ops S oj vj a := by
        rcases h1 with ⟨_, u, hu, _⟩ | ⟨e, _⟩
        · exact ⟨u, hu.of_same (execOp_put oj hsj a oi.dst v0 p1).symm (wanted_put oj a oi.dst v0 p1).symm⟩
        · exact absurd (.inl hj') e
      unfold sOp
      rw [hoj]
      refine .inl ⟨.inl hj', vj, hyj, ih (listed.setIfInBounds j true) (a.put oj.dst vj) w inv' hS hfree' hchain' hr' ?_⟩
      unfold sOp
      rw [hi]
      refine .inr ⟨fun e => hnq ((quietNow_put p3).1 e), hOp_put hsi p3 (hOp_mono (fun v w' ⟨hS', hk'⟩ => ⟨hS', ?_⟩) hh)⟩
      have h2 := hk'.2 j hrj
      rw [tOp_ne hjm] at h2
      unfold sOp at h2
      rw [hoj] at h2
      rcases h2 with ⟨_, u, hu, hk2⟩ | ⟨e, _⟩
      · have hu' : YieldsIf P ops S oj u a := hu.of_same (execOp_put oj hsj a oi.dst v p1).symm (wanted_put oj a oi.dst v p1).symm
        have e := YieldsIf.one hS' hu' hyj
        subst e
        rw [Array.setIfInBounds_comm _ _ hji, ← Act.put_comm a v u p2]
        exact hk2
      · exact absurd (.inl hj') e

theorem wpT_of_lex (hz : ops.size = m + 1) (hs : Region.sinkB .any ops m = true) (hcb : Region.chainB .any ops m = true) (hx : LexOK ops) (hc : ChainOK ops) : ∀ (l : List Oper) (k : Nat) (listed : Array Bool) (a : Act) (w : World), HeadInv .any ops m listed → S w →
    (∀ j, j < l.length → l[j]? = ops[k + j]?) → k + l.length = m → (∀ i, i < k → listed.getD i false = true) → (∀ i, k ≤ i → i < ops.size → listed.getD i true = false) →
    wpHeld P ops S (fun _ a w => mOp P ops m (fun a w => Q .normal a w) a w) l a w → wpT P ops S m Q (l.length + 1) listed a w
  | [], k, listed, a, w, inv, _, _, hk, h1, h2, h => by
    obtain rfl : k = m := by simpa using hk
    obtain ⟨om, hom, hw, hh⟩ := h
    have hr : k ∈ Region.ready .any ops listed := mem_ready.2 ⟨h2 k (Nat.le_refl _) (by omega), om, hom, fun e he hb => h1 _ (hx.edge k om hom e he hb)⟩
    refine ⟨fun e => (by rw [e] at hr; cases hr), fun i hi => ?_⟩
    have hil := ready_lt hi
    have hik : k ≤ i := by
      rcases Nat.lt_or_ge i k with h' | h'
      · have h3 := h1 i h'
        rw [getD_both (mem_ready.1 hi).1] at h3
        cases h3
      · exact h'
    obtain rfl : i = k := by omega
    rw [tOp_eq]
    exact ⟨om, hom, hw, hOp_mono (fun v w' hq => ⟨none_left hz hs hcb inv hi, hq⟩) hh⟩
  | o :: l, k, listed, a, w, inv, hS, hl, hk, h1, h2, h => by
    have h0 : ops[k]? = some o := by simpa using (hl 0 (by simp)).symm
    have hlt : k < ops.size := (Array.getElem?_eq_some_iff.1 h0).1
    have hkm : k < m := by simp at hk; omega
    have hst : sOp P ops S k (wpHeld P ops S (fun _ a w => mOp P ops m (fun a w => Q .normal a w) a w) l) a w := by
      unfold sOp
      rw [h0]
      exact h
    have hun : ∀ j, listed.getD j true = false → k ≤ j := fun j hun => by
      rcases Nat.lt_or_ge j k with h' | h'
      · have h3 := h1 j h'
        rw [getD_both hun] at h3
        cases h3
      · exact h'
    have hr : k ∈ Region.ready .any ops listed := mem_ready.2 ⟨h2 k (Nat.le_refl _) hlt, o, h0, fun e he hb => h1 _ (hx.edge k o h0 e he hb)⟩
    refine wpT_first hz hs hcb hkm h0 (Region.noSelect_spec hx.sel) (l.length + 1) listed a w inv hS ?_ ?_ hr ?_
    · intro j oj hj hne hju hno
      refine hx.free k j o oj ?_ h0 hj hno
      have := hun j hju
      omega
    · intro hs' j oj hj hne hju hjs
      have := hun j hju
      obtain ⟨e, he, hb, hke, hej, hes⟩ := hc.chain k j o oj (by omega) h0 hj hs' hjs
      refine ⟨e, he, hb, ?_, hes⟩
      have hjlt : j < ops.size := (Array.getElem?_eq_some_iff.1 hj).1
      exact getD_both (h2 e.on hke (by omega))
    · refine sOp_mono hS (fun a' w' hS' h' => wpT_of_lex hz hs hcb hx hc l (k + 1) _ a' w' (inv.set hr hkm) hS' (fun j hj => by have := hl (j + 1) (by simp; omega); simpa [Nat.add_assoc, Nat.add_comm 1 j] using this) (by simp at hk; omega) ?_ ?_ h') hst
      · intro i hi
        by_cases e : i = k
        · subst e
          simp [inv.size, hlt]
        · exact getD_set_true (h1 i (by omega))
      · intro i hi hi'
        rw [getD_set_ne true (by omega)]
        exact h2 i (by omega) hi'

theorem wp_held_tail {id : Nat} {a : Act} {w : World} {l : List Oper} (n : Nat) (hm : P.follows .mixedOrders = true) (hx : LexOK l.toArray) (hc : ChainOK l.toArray) (hz : l.length = n + 1) (hs : Region.sinkB .any l.toArray n = true) (hcb : Region.chainB .any l.toArray n = true) (hS : S w.drew)
    (h : wpHeld P l.toArray S (fun _ a w => mOp P l.toArray n (fun a w => Q .normal a w) a w) (l.take n) a w.drew) : (Code.region id l.toArray true).wp P Q a w := by
  have inv0 : HeadInv .any l.toArray n (Array.replicate l.toArray.size false) :=
    ⟨by simp, fun j oj _ hl => (by rw [getD_replicate_false] at hl; cases hl), fun t _ ht => getD_in (by simpa using ht) (getD_replicate_false _ _)⟩
  have htl : (l.take n).length = n := by simp; omega
  refine wp_region_any hm (wpAny_of_wpT (S := S) (m := n) (by simpa using hz) hs hcb _ _ _ _ inv0 hS ?_)
  have := wpT_of_lex (P := P) (S := S) (Q := Q) (m := n) (ops := l.toArray) (by simpa using hz) hs hcb hx hc (l.take n) 0 (Array.replicate l.toArray.size false) a w.drew inv0 hS (fun j hj => by
    have hj' : j < n := by rw [htl] at hj; exact hj
    simp [hj']) (by simpa using htl) (by intro i hi; omega) (fun i _ hi => getD_in (by simpa using hi) (getD_replicate_false _ _)) h
  rw [htl] at this
  simpa [hz] using this
theorem wp_held_tailB (n B : Nat) {id : Nat} {a : Act} {w : World} {l : List Oper} (hm : P.follows .mixedOrders = true) (hx : LexOK l.toArray) (hc : ChainOK l.toArray) (hz : l.length = n + 1) (hs : Region.sinkB .any l.toArray n = true) (hcb : Region.chainB .any l.toArray n = true)
    (h : ∀ W, Below w.heap.size w W → (∃ x : LaterB B w, W = x.at) → wpHeld P l.toArray (fun w' => ∃ x : LaterB B w, w' = x.at) (fun _ a w => mOp P l.toArray n (fun a w => Q .normal a w) a w) (l.take n) a W) : (Code.region id l.toArray true).wp P Q a w :=
  wp_held_tail n hm hx hc hz hs hcb ⟨⟨w.drew, (Below.refl _ _).drew⟩, rfl⟩ (h w.drew (Below.refl _ _).drew ⟨⟨w.drew, (Below.refl _ _).drew⟩, rfl⟩)
/-- the last operation, a run that yields nothing -/
theorem mOp_run0 {o : Oper} {a : Act} {w : World} {K : Act → World → Prop} (w1 : World) (h0 : ops[m]? = some o) (hg : o.guard = none) (hr : (execOp a.eval o).run P w = .ok .skip w1) (h : K (a.put o.dst undef) w1) : mOp P ops m K a w := by
  refine ⟨o, h0, by unfold Region.wanted; rw [hg], ?_⟩
  unfold hOp
  rw [hr]
  exact h
end

end Go.Proofs.Ytombcjdhjcmhhaa

/- As Float, and a store that is not the last operation where nothing is made behind it. No program, no conditions. -/
namespace Go.Proofs.Ytombcjdhjcmhhaa.Fl
set_option maxRecDepth 8000
open Go.RowKit Go.Proofs.Ytombcjdhjcmhhaa

/-- something is made behind operation i -/
def MkBehind (ops : Array Oper) (i : Nat) : Prop := ∃ (j : Nat) (o : Oper), i < j ∧ ops[j]? = some o ∧ makerOp o = true
section
variable {P : Program} {ops : Array Oper} {w0 : World} {Q : Exit → Act → World → Prop}

def gOp (P : Program) (ops : Array Oper) (w0 : World) (i : Nat) (K : Act → World → Prop) (a : Act) (w : World) : Prop :=
  match ops[i]? with
  | none => K a w
  | some o => (quietNow ops o a ∧ ∃ v, YieldsIf P ops (SL w0) o v a ∧ K (a.put o.dst v) w)
    ∨ ((¬ quietNow ops o a ∧ makerOp o = true) ∧ ∃ z, Makes P ops o z a ∧ ∀ b W, Below w.heap.size w W → W.heap[b]? = some z → w0.heap.size ≤ b → K (a.put o.dst (mkVal o b)) W)
    ∨ ((¬ quietNow ops o a ∧ makerOp o = false) ∧ ∀ W, Below w.heap.size w W → hOp P o (fun v w' => (MkBehind ops i → Below W.heap.size W w') ∧ SL w0 w' ∧ K (a.put o.dst v) w') a W)
theorem gOp_mono {i : Nat} {K K' : Act → World → Prop} {a : Act} {w : World} (h : ∀ a w, K a w → K' a w) (hh : gOp P ops w0 i K a w) : gOp P ops w0 i K' a w := by
  unfold gOp at *
  cases hi : ops[i]? with
  | none => rw [hi] at hh; exact h _ _ hh
  | some o =>
    rw [hi] at hh
    rcases hh with ⟨hq, v, hy, hk⟩ | ⟨hq, z, hz, hk⟩ | ⟨hq, hk⟩
    · exact .inl ⟨hq, v, hy, h _ _ hk⟩
    · exact .inr (.inl ⟨hq, z, hz, fun b W h1 h2 h3 => h _ _ (hk b W h1 h2 h3)⟩)
    · exact .inr (.inr ⟨hq, fun W hW => hOp_mono (fun v w' ⟨h1, h2, h3⟩ => ⟨h1, h2, h _ _ h3⟩) (hk W hW)⟩)
theorem gOp_world {i : Nat} {K : Act → World → Prop} {a : Act} {w W : World} (hK : ∀ a w W, K a w → Below w.heap.size w W → K a W) (hW : Below w.heap.size w W) (hh : gOp P ops w0 i K a w) : gOp P ops w0 i K a W := by
  unfold gOp at *
  cases hi : ops[i]? with
  | none => rw [hi] at hh; exact hK _ _ _ hh hW
  | some o =>
    rw [hi] at hh
    rcases hh with ⟨hq, v, hy, hk⟩ | ⟨hq, z, hz, hk⟩ | ⟨hq, hk⟩
    · exact .inl ⟨hq, v, hy, hK _ _ _ hk hW⟩
    · exact .inr (.inl ⟨hq, z, hz, fun b W1 h1 h2 h3 => hk b W1 (ext_trans hW h1) h2 h3⟩)
    · exact .inr (.inr ⟨hq, fun W1 h1 => hk W1 (ext_trans hW h1)⟩)
theorem gOp_out {i : Nat} {K : Act → World → Prop} {a : Act} {w : World} (hS : SL w0 w) (hh : gOp P ops w0 i K a w) : ∃ a' w', K a' w' := by
  unfold gOp at hh
  cases hi : ops[i]? with
  | none => rw [hi] at hh; exact ⟨_, _, hh⟩
  | some o =>
    rw [hi] at hh
    rcases hh with ⟨_, v, _, hk⟩ | ⟨_, z, _, hk⟩ | ⟨_, hk⟩
    · exact ⟨_, _, hk⟩
    · exact ⟨_, _, hk w.heap.size (w.alloc z) ((Below.refl _ _).alloc (Nat.le_refl _) _) (heap_new w z) hS.below.size⟩
    · obtain ⟨v, w', _, _, h3⟩ := hOp_out (hk w (Below.refl _ _))
      exact ⟨_, _, h3⟩
theorem wpOp_of_gOp {i : Nat} {K K' : Act → World → Prop} {a : Act} {w : World} (hS : SL w0 w) (h : ∀ a w, SL w0 w → K a w → K' a w) (hh : gOp P ops w0 i K a w) : wpOp P ops Q i K' a w := by
  unfold gOp at hh
  cases hi : ops[i]? with
  | none =>
    rw [hi] at hh
    unfold wpOp
    simp only [hi]
    exact h _ _ hS hh
  | some o =>
    rw [hi] at hh
    have hw : ¬ quietNow ops o a → Region.wanted o (yielded ops a.tmps) = true := fun hq => by
      cases e : Region.wanted o (yielded ops a.tmps) with
      | true => rfl
      | false => exact absurd (.inr e) hq
    rcases hh with ⟨_, v, hy, hk⟩ | ⟨hq, z, hz, hk⟩ | ⟨hq, hk⟩
    · exact hy.wpOp hi hS (h _ _ hS hk)
    · have hE : Below w.heap.size w (w.alloc z) := (Below.refl _ _).alloc (Nat.le_refl _) _
      unfold wpOp
      simp only [hi, hw hq.1, if_true]
      refine .inl ?_
      unfold Oper.wp
      rw [hz w]
      exact h _ _ (hS.ext hE) (hk w.heap.size (w.alloc z) hE (heap_new w z) hS.below.size)
    · have hh := hk w (Below.refl _ _)
      unfold wpOp
      simp only [hi, hw hq.1, if_true]
      refine .inl ?_
      unfold hOp at hh
      unfold Oper.wp
      generalize (execOp a.eval o).run P w = r at *
      cases r with
      | ok n w' =>
        cases n <;> simp only [heldUpon] at hh <;> simp only [Oper.upon]
        case value u => exact h _ _ hh.2.1 hh.2.2
        case skip => exact h _ _ hh.2.1 hh.2.2
        case enter f args => exact hh.mono fun e w'' ⟨v, he, _, h1, h2⟩ => by subst he; exact h _ _ h1 h2
      | halt x w' => exact hh.elim

/-- whatever order is picked, from every world in which more has been added -/
def wpG (P : Program) (ops : Array Oper) (w0 : World) (Q : Exit → Act → World → Prop) : Nat → Array Bool → Act → World → Prop
  | 0, listed, a, w => Region.ready .any ops listed = [] ∧ ∀ W, Below w.heap.size w W → Q .normal a W
  | n + 1, listed, a, w => (Region.ready .any ops listed = [] → ∀ W, Below w.heap.size w W → Q .normal a W) ∧ ∀ i, i ∈ Region.ready .any ops listed → gOp P ops w0 i (wpG P ops w0 Q n (listed.setIfInBounds i true)) a w
theorem wpG_world : ∀ (n : Nat) (listed : Array Bool) (a : Act) (w W : World), wpG P ops w0 Q n listed a w → Below w.heap.size w W → wpG P ops w0 Q n listed a W
  | 0, _, _, _, _, h, hW => ⟨h.1, fun W1 h1 => h.2 W1 (ext_trans hW h1)⟩
  | n + 1, _, _, _, _, h, hW => ⟨fun e W1 h1 => h.1 e W1 (ext_trans hW h1), fun i hi => gOp_world (fun a w W h1 h2 => wpG_world n _ a w W h1 h2) hW (h.2 i hi)⟩
theorem wpAny_of_wpG : ∀ (n : Nat) (listed : Array Bool) (a : Act) (w : World), SL w0 w → wpG P ops w0 Q n listed a w → wpAny P .any ops Q n listed a w
  | 0, _, _, _, _, h => ⟨h.1, h.2 _ (Below.refl _ _)⟩
  | n + 1, _, _, _, hS, h => ⟨fun e => h.1 e _ (Below.refl _ _), fun i hi => wpOp_of_gOp hS (fun a' w' hS' h' => wpAny_of_wpG n _ a' w' hS' h') (h.2 i hi)⟩

theorem wpG_first {i : Nat} {oi : Oper} (hi : ops[i]? = some oi) (hsel : ∀ (j : Nat) (o : Oper) cs b, ops[j]? = some o → o.op ≠ .select cs b) : ∀ (n : Nat) (listed : Array Bool) (a : Act) (w : World), SL w0 w →
      (∀ j oj, ops[j]? = some oj → j ≠ i → listed.getD j true = false → (∀ e ∈ oj.after, Region.binds .any e = true → e.on ≠ i) → oi.apart ops oj = true) →
      (∀ j, listed.getD j true = false → j ≠ i → i < j) →
      (stillOp oi = false → ChainF ops i listed) → i ∈ Region.ready .any ops listed → gOp P ops w0 i (wpG P ops w0 Q n (listed.setIfInBounds i true)) a w → wpG P ops w0 Q (n + 1) listed a w := by
  intro n
  induction n with
  | zero =>
    intro listed a w hS _ _ _ hr H
    refine ⟨fun h => (by rw [h] at hr; cases hr), fun j hj => ?_⟩
    by_cases hji : j = i
    · subst hji; exact H
    · obtain ⟨a', w', h0, _⟩ := gOp_out hS H
      have := ready_mono hj hji
      rw [h0] at this
      cases this
  | succ n ih =>
    intro listed a w hS hfree hgt hchain hr H
    refine ⟨fun h => (by rw [h] at hr; cases hr), fun j hj => ?_⟩
    by_cases hji : j = i
    · subst hji; exact H
    obtain ⟨hjun, oj, hoj, hall⟩ := mem_ready.1 hj
    have hnot : ∀ e ∈ oj.after, Region.binds .any e = true → e.on ≠ i := fun e he hb heq => by
      have h1 := hall e he hb
      have h0 := (mem_ready.1 hr).1
      rw [heq, getD_both h0] at h1
      cases h1
    have hap := hfree j oj hoj hji hjun hnot
    obtain ⟨p1, p2, p3⟩ := Oper.apart_spec hap
    have hsi := fun cs b => hsel i oi cs b hi
    have hsj := fun cs b => hsel j oj cs b hoj
    have hij := hgt j hjun hji
    have hjlt : j < ops.size := (Array.getElem?_eq_some_iff.1 hoj).1
    have hfree' : ∀ k ok, ops[k]? = some ok → k ≠ i → (listed.setIfInBounds j true).getD k true = false →
        (∀ e ∈ ok.after, Region.binds .any e = true → e.on ≠ i) → oi.apart ops ok = true := fun k ok hk hki hun hno => by
      refine hfree k ok hk hki ?_ hno
      by_cases hjk : j = k
      · subst hjk; exact hjun
      · rw [getD_set_ne true hjk] at hun; exact hun
    have hgt' : ∀ k, (listed.setIfInBounds j true).getD k true = false → k ≠ i → i < k := fun k hun hki => by
      refine hgt k ?_ hki
      by_cases hjk : j = k
      · subst hjk; exact hjun
      · rw [getD_set_ne true hjk] at hun; exact hun
    -- where i calls or makes, j does not call
    have hjc : stillOp oi = false → ¬ (stillOp oj = false ∧ makerOp oj = false) := fun hs ⟨h1, h2⟩ => by
      exact ((hchain hs).2 j oj hoj hji hjun h1 h2).not_ready (hchain hs).1 (getD_both (mem_ready.1 hr).1) hoj hall
    have hchain' : stillOp oi = false → ChainF ops i (listed.setIfInBounds j true) := fun hs => by
      refine ⟨fun k hk => ?_, fun k ok hk hki hun hks hkm => ?_⟩
      · have hjk : j ≠ k := by
          rintro rfl
          exact hk.not_ready (hchain hs).1 (getD_both (mem_ready.1 hr).1) hoj hall
        rw [getD_set_ne false hjk]
        exact (hchain hs).1 k hk
      · refine (hchain hs).2 k ok hk hki ?_ hks hkm
        by_cases hjk : j = k
        · subst hjk; exact hjun
        · rw [getD_set_ne true hjk] at hun; exact hun
    have hr' := ready_mono hr (Ne.symm hji)
    have hjr := ready_mono hj hji
    have nst : ¬ quietNow ops oi a → stillOp oi = false := fun h => by
      cases e : stillOp oi with
      | false => rfl
      | true => exact absurd (.inl e) h
    have nst' : ¬ quietNow ops oj a → stillOp oj = false := fun h => by
      cases e : stillOp oj with
      | false => rfl
      | true => exact absurd (.inl e) h
    have qj : ∀ v, quietNow ops oj (a.put oi.dst v) ↔ quietNow ops oj a := fun v => quietNow_put p1
    have qi : ∀ v, quietNow ops oi (a.put oj.dst v) ↔ quietNow ops oi a := fun v => quietNow_put p3
    have yj : ∀ {u v : Value}, YieldsIf P ops (SL w0) oj u (a.put oi.dst v) → YieldsIf P ops (SL w0) oj u a := fun h => h.of_same (execOp_put oj hsj a oi.dst _ p1).symm (wanted_put oj a oi.dst _ p1).symm
    have yi : ∀ {u v : Value}, YieldsIf P ops (SL w0) oi u a → YieldsIf P ops (SL w0) oi u (a.put oj.dst v) := fun h => h.of_same (execOp_put oi hsi a oj.dst _ p3) (wanted_put oi a oj.dst _ p3)
    have mj : ∀ {z : Obj} {v : Value}, Makes P ops oj z (a.put oi.dst v) → Makes P ops oj z a := fun h => h.of_same (execOp_put oj hsj a oi.dst _ p1).symm
    have mi : ∀ {z : Obj} {v : Value}, Makes P ops oi z a → Makes P ops oi z (a.put oj.dst v) := fun h => h.of_same (execOp_put oi hsi a oj.dst _ p3)
    have cm : ∀ {u v : Value} {W : World}, wpG P ops w0 Q n ((listed.setIfInBounds i true).setIfInBounds j true) ((a.put oi.dst v).put oj.dst u) W → wpG P ops w0 Q n ((listed.setIfInBounds j true).setIfInBounds i true) ((a.put oj.dst u).put oi.dst v) W := fun {u v W} h => by
      rw [Array.setIfInBounds_comm _ _ hji, ← Act.put_comm a v u p2]
      exact h
    unfold gOp at H
    rw [hi] at H
    unfold gOp
    rw [hoj]
    rcases H with ⟨hq, v, hy, HK⟩ | ⟨⟨hnq, hm⟩, z, hz, HK⟩ | ⟨⟨hnq, hm⟩, HK⟩
    · have h1 := HK.2 j hjr
      unfold gOp at h1
      rw [hoj] at h1
      have step : ∀ u W, SL w0 W → wpG P ops w0 Q n ((listed.setIfInBounds i true).setIfInBounds j true) ((a.put oi.dst v).put oj.dst u) W → wpG P ops w0 Q (n + 1) (listed.setIfInBounds j true) (a.put oj.dst u) W := fun u W hW hk => by
        refine ih (listed.setIfInBounds j true) (a.put oj.dst u) W hW hfree' hgt' hchain' hr' ?_
        unfold gOp
        rw [hi]
        exact .inl ⟨(qi u).2 hq, v, yi hy, cm hk⟩
      rcases h1 with ⟨hqj, u, hu, hk⟩ | ⟨⟨hqj, hmj⟩, z, hz, hk⟩ | ⟨⟨hqj, hmj⟩, hk⟩
      · exact .inl ⟨(qj v).1 hqj, u, yj hu, step u w hS hk⟩
      · exact .inr (.inl ⟨⟨fun e => hqj ((qj v).2 e), hmj⟩, z, mj hz, fun b W h1 h2 h3 => step _ W (hS.ext h1) (hk b W h1 h2 h3)⟩)
      · exact .inr (.inr ⟨⟨fun e => hqj ((qj v).2 e), hmj⟩, fun W hW => hOp_mono (fun u w' ⟨e1, e2, e3⟩ => ⟨e1, e2, step u w' e2 e3⟩) (hOp_unput hsj p1 (hk W hW))⟩)
    · have hs := nst hnq
      have hE : Below w.heap.size w (w.alloc z) := (Below.refl _ _).alloc (Nat.le_refl _) _
      have h1 := (HK w.heap.size (w.alloc z) hE (heap_new w z) hS.below.size).2 j hjr
      unfold gOp at h1
      rw [hoj] at h1
      rcases h1 with ⟨hqj, u, hu, _⟩ | ⟨⟨hqj, hmj⟩, z', hz', _⟩ | ⟨⟨hqj, hmj⟩, _⟩
      · refine .inl ⟨(qj _).1 hqj, u, yj hu, ih (listed.setIfInBounds j true) (a.put oj.dst u) w hS hfree' hgt' hchain' hr' ?_⟩
        unfold gOp
        rw [hi]
        refine .inr (.inl ⟨⟨fun e => hnq ((qi u).1 e), hm⟩, z, mi hz, fun b W h1 h2 h3 => ?_⟩)
        have h4 := (HK b W h1 h2 h3).2 j hjr
        unfold gOp at h4
        rw [hoj] at h4
        rcases h4 with ⟨_, u', hu', hk'⟩ | ⟨⟨hqj', _⟩, _⟩ | ⟨⟨hqj', _⟩, _⟩
        · have e := YieldsIf.one (hS.ext h1) (yj hu') (yj hu)
          subst e
          exact cm hk'
        · exact absurd ((qj _).2 ((qj _).1 hqj)) hqj'
        · exact absurd ((qj _).2 ((qj _).1 hqj)) hqj'
      · refine .inr (.inl ⟨⟨fun e => hqj ((qj _).2 e), hmj⟩, z', mj hz', fun b' W' h1' h2' h3' => ih (listed.setIfInBounds j true) (a.put oj.dst (mkVal oj b')) W' (hS.ext h1') hfree' hgt' hchain' hr' ?_⟩)
        unfold gOp
        rw [hi]
        refine .inr (.inl ⟨⟨fun e => hnq ((qi _).1 e), hm⟩, z, mi hz, fun b W h1 h2 h3 => ?_⟩)
        have h4 := (HK b W (ext_trans h1' h1) h2 h3).2 j hjr
        unfold gOp at h4
        rw [hoj] at h4
        rcases h4 with ⟨hqj', _⟩ | ⟨_, z'', hz'', hk'⟩ | ⟨⟨_, hmj'⟩, _⟩
        · exact absurd ((qj _).2 ((qj _).1 hqj')) hqj
        · have e := Makes.one w (mj hz'') (mj hz')
          subst e
          exact cm (hk' b' W (Below.refl _ _) (heap_keep h2' h1) h3')
        · rw [hmj] at hmj'; cases hmj'
      · exact absurd ⟨nst' (fun e => hqj ((qj _).2 e)), hmj⟩ (hjc hs)
    · have hs := nst hnq
      obtain ⟨v0, w1, _, hS1, hK1⟩ := hOp_out (HK w (Below.refl _ _))
      have h1 := hK1.2 j hjr
      unfold gOp at h1
      rw [hoj] at h1
      rcases h1 with ⟨hqj, u, hu, _⟩ | ⟨⟨hqj, hmj⟩, z', hz', _⟩ | ⟨⟨hqj, hmj⟩, _⟩
      · refine .inl ⟨(qj _).1 hqj, u, yj hu, ih (listed.setIfInBounds j true) (a.put oj.dst u) w hS hfree' hgt' hchain' hr' ?_⟩
        unfold gOp
        rw [hi]
        refine .inr (.inr ⟨⟨fun e => hnq ((qi u).1 e), hm⟩, fun W hW => hOp_put hsi p3 (hOp_mono (fun v w' ⟨e1, e2, e3⟩ => ⟨e1, e2, ?_⟩) (HK W hW))⟩)
        have h4 := e3.2 j hjr
        unfold gOp at h4
        rw [hoj] at h4
        rcases h4 with ⟨_, u', hu', hk'⟩ | ⟨⟨hqj', _⟩, _⟩ | ⟨⟨hqj', _⟩, _⟩
        · have e := YieldsIf.one e2 (yj hu') (yj hu)
          subst e
          exact cm hk'
        · exact absurd ((qj _).2 ((qj _).1 hqj)) hqj'
        · exact absurd ((qj _).2 ((qj _).1 hqj)) hqj'
      · refine .inr (.inl ⟨⟨fun e => hqj ((qj _).2 e), hmj⟩, z', mj hz', fun b W' h1' h2' h3' => ih (listed.setIfInBounds j true) (a.put oj.dst (mkVal oj b)) W' (hS.ext h1') hfree' hgt' hchain' hr' ?_⟩)
        unfold gOp
        rw [hi]
        refine .inr (.inr ⟨⟨fun e => hnq ((qi _).1 e), hm⟩, fun W hW => hOp_put hsi p3 (hOp_mono (fun v w' ⟨e1, e2, e3⟩ => ⟨e1, e2, ?_⟩) (HK W (ext_trans h1' hW)))⟩)
        have h4 := e3.2 j hjr
        unfold gOp at h4
        rw [hoj] at h4
        rcases h4 with ⟨hqj', _⟩ | ⟨_, z'', hz'', hk'⟩ | ⟨⟨_, hmj'⟩, _⟩
        · exact absurd ((qj _).2 ((qj _).1 hqj')) hqj
        · have e := Makes.one w (mj hz'') (mj hz')
          subst e
          exact cm (hk' b w' (Below.refl _ _) (heap_keep (heap_keep h2' hW) (e1 ⟨j, oj, hij, hoj, hmj⟩)) h3')
        · rw [hmj] at hmj'; cases hmj'
      · exact absurd ⟨nst' (fun e => hqj ((qj _).2 e)), hmj⟩ (hjc hs)

/-- the walk in the order of the text -/
def wpF (P : Program) (ops : Array Oper) (w0 : World) (Q : Exit → Act → World → Prop) : List Oper → Act → World → Prop
  | [], a, w => ∀ W, Below w.heap.size w W → Q .normal a W
  | o :: l, a, w => (quietNow ops o a ∧ ∃ v, YieldsIf P ops (SL w0) o v a ∧ wpF P ops w0 Q l (a.put o.dst v) w)
    ∨ ((¬ quietNow ops o a ∧ makerOp o = true) ∧ ∃ z, Makes P ops o z a ∧ ∀ b W, Below w.heap.size w W → W.heap[b]? = some z → w0.heap.size ≤ b → wpF P ops w0 Q l (a.put o.dst (mkVal o b)) W)
    ∨ ((¬ quietNow ops o a ∧ makerOp o = false) ∧ ∀ W, Below w.heap.size w W → hOp P o (fun v w' => (l.any makerOp = true → Below W.heap.size W w') ∧ SL w0 w' ∧ wpF P ops w0 Q l (a.put o.dst v) w') a W)

theorem wpG_of_lex (hx : LexOK ops) (hc : ChainOF ops) : ∀ (l : List Oper) (k : Nat) (listed : Array Bool) (a : Act) (w : World), SL w0 w →
    (∀ j, l[j]? = ops[k + j]?) → k + l.length = ops.size → listed.size = ops.size → (∀ i, i < k → listed.getD i false = true) → (∀ i, k ≤ i → i < ops.size → listed.getD i true = false) →
    wpF P ops w0 Q l a w → wpG P ops w0 Q l.length listed a w
  | [], k, listed, a, w, _, _, hk, hz, h1, _, h => by
    refine ⟨?_, h⟩
    refine List.eq_nil_iff_forall_not_mem.2 fun i hi => ?_
    obtain ⟨h0, o, ho, _⟩ := mem_ready.1 hi
    have hlt := (Array.getElem?_eq_some_iff.1 ho).1
    have h3 := h1 i (by simp at hk; omega)
    rw [getD_both h0] at h3
    cases h3
  | o :: l, k, listed, a, w, hS, hl, hk, hz, h1, h2, h => by
    have h0 : ops[k]? = some o := by simpa using (hl 0).symm
    have hlt : k < ops.size := (Array.getElem?_eq_some_iff.1 h0).1
    have hun : ∀ j, listed.getD j true = false → k ≤ j := fun j hun => by
      rcases Nat.lt_or_ge j k with h' | h'
      · have h3 := h1 j h'
        rw [getD_both hun] at h3
        cases h3
      · exact h'
    have hnil : MkBehind ops k → l.any makerOp = true := fun ⟨j, oj, hj, hoj, hmj⟩ => by
      have h3 := hl (j - k)
      rw [show k + (j - k) = j by omega, hoj, show j - k = (j - k - 1) + 1 by omega, List.getElem?_cons_succ] at h3
      exact List.any_eq_true.2 ⟨oj, List.mem_of_getElem? h3, hmj⟩
    have rec_ : ∀ a' W, SL w0 W → wpF P ops w0 Q l a' W → wpG P ops w0 Q l.length (listed.setIfInBounds k true) a' W := fun a' W hW h' =>
      wpG_of_lex hx hc l (k + 1) _ a' W hW (fun j => by have := hl (j + 1); simpa [Nat.add_assoc, Nat.add_comm 1 j] using this) (by simp at hk; omega) (by simpa using hz)
        (by
          intro i hi
          by_cases e : i = k
          · subst e
            simp [hz, hlt]
          · exact getD_set_true (h1 i (by omega)))
        (by
          intro i hi hi'
          rw [getD_set_ne true (by omega)]
          exact h2 i (by omega) hi') h'
    have hst : gOp P ops w0 k (wpG P ops w0 Q l.length (listed.setIfInBounds k true)) a w := by
      unfold gOp
      rw [h0]
      rcases h with ⟨hq, v, hy, hk'⟩ | ⟨hq, z, hz', hk'⟩ | ⟨hq, hk'⟩
      · exact .inl ⟨hq, v, hy, rec_ _ _ hS hk'⟩
      · exact .inr (.inl ⟨hq, z, hz', fun b W e1 e2 e3 => rec_ _ _ (hS.ext e1) (hk' b W e1 e2 e3)⟩)
      · exact .inr (.inr ⟨hq, fun W hW => hOp_mono (fun v w' ⟨e1, e2, e3⟩ => ⟨fun e => e1 (hnil e), e2, rec_ _ _ e2 e3⟩) (hk' W hW)⟩)
    refine wpG_first h0 (Region.noSelect_spec hx.sel) l.length listed a w hS ?_ ?_ ?_ (mem_ready.2 ⟨h2 k (Nat.le_refl _) hlt, o, h0, fun e he hb => h1 _ (hx.edge k o h0 e he hb)⟩) hst
    · intro j oj hj hne hju hno
      refine hx.free k j o oj ?_ h0 hj hno
      have := hun j hju
      omega
    · intro j hju hne
      have := hun j hju
      omega
    · intro hs
      refine ⟨fun j hw => ?_, fun j oj hj hne hju hjs hjm => ?_⟩
      · obtain ⟨h3, h4⟩ := hw.lt hx
        exact getD_both (h2 j (by omega) h4)
      · have := hun j hju
        exact hc.chain k j o oj (by omega) h0 hj hs hjs hjm

theorem wp_float {id : Nat} {a : Act} {w : World} {l : List Oper} (hm : P.follows .mixedOrders = true) (hx : LexOK l.toArray) (hc : ChainOF l.toArray)
    (h : wpF P l.toArray w Q l a w.drew) : (Code.region id l.toArray true).wp P Q a w := by
  refine wp_region_any hm (wpAny_of_wpG (w0 := w) _ _ _ _ ⟨⟨w.drew, (Below.refl _ _).drew⟩, rfl⟩ ?_)
  have := wpG_of_lex (P := P) (w0 := w) (Q := Q) hx hc l 0 (Array.replicate l.toArray.size false) a w.drew ⟨⟨w.drew, (Below.refl _ _).drew⟩, rfl⟩ (by simp) (by simp) (by simp) (by intro i hi; omega) (fun i _ hi => getD_in (by simpa using hi) (getD_replicate_false _ _)) h
  simpa using this

theorem wp_floatN {id : Nat} {a : Act} {w : World} {l : List Oper} (hm : P.follows .mixedOrders = true) (hx : LexOK l.toArray) (hc : ChainOF l.toArray)
    (h : ∀ V, Below w.heap.size w V → SL w V → wpF P l.toArray w Q l a V) : (Code.region id l.toArray true).wp P Q a w :=
  wp_float hm hx hc (h _ (Below.refl _ _).drew ⟨⟨w.drew, (Below.refl _ _).drew⟩, rfl⟩)

/-! ### The moves of the walk -/
theorem wpF_nil {a : Act} {w : World} (h : ∀ W, Below w.heap.size w W → Q .normal a W) : wpF P ops w0 Q [] a w := h
theorem wpF_still : ∀ (l1 l2 : List Oper) {a : Act} {w : World}, l1.all stillOp = true → wpQuiet P ops (fun w' => ∃ x : Later w0, w' = x.at) (fun a' => wpF P ops w0 Q l2 a' w) l1 a → wpF P ops w0 Q (l1 ++ l2) a w
  | [], _, _, _, _, h => h
  | o :: l1, l2, a, w, hs, h => by
    rw [List.all_cons, Bool.and_eq_true] at hs
    refine .inl ⟨.inl hs.1, ?_⟩
    unfold wpQuiet at h
    by_cases hw : Region.wanted o (yielded ops a.tmps) = true
    · rw [if_pos hw] at h
      obtain ⟨v, hv, hn⟩ := h
      refine ⟨v, .inl ⟨hw, fun w' hS' => ?_⟩, wpF_still l1 l2 hs.2 hn⟩
      have h1 := hv w' hS'
      unfold Oper.quietAt at h1
      cases hr : (execOp a.eval o).run P w' with
      | ok n w2 =>
        obtain ⟨x, rfl⟩ := still_value hs.1 hr
        rw [hr] at h1
        obtain ⟨e1, e2⟩ := h1
        rw [e1, e2]
      | halt x w2 => rw [hr] at h1; exact h1.elim
    · rw [if_neg hw] at h
      exact ⟨undef, .inr ⟨by simpa using hw, rfl⟩, wpF_still l1 l2 hs.2 h⟩
theorem wpF_seg (n : Nat) {l : List Oper} {a : Act} {w : World} (hs : (l.take n).all stillOp = true) (h : wpQuiet P ops (fun w' => ∃ x : Later w0, w' = x.at) (fun a' => wpF P ops w0 Q (l.drop n) a' w) (l.take n) a) : wpF P ops w0 Q l a w := by
  have := wpF_still (Q := Q) (l.take n) (l.drop n) hs h
  rwa [List.take_append_drop] at this
theorem wpF_skip {o : Oper} {l : List Oper} {a : Act} {w : World} (hw : Region.wanted o (yielded ops a.tmps) = false) (h : wpF P ops w0 Q l (a.put o.dst undef) w) : wpF P ops w0 Q (o :: l) a w :=
  .inl ⟨.inr hw, undef, .inr ⟨hw, rfl⟩, h⟩
theorem not_quiet {o : Oper} {a : Act} (hs : stillOp o = false) (hw : Region.wanted o (yielded ops a.tmps) = true) : ¬ quietNow ops o a := by
  rintro (h1 | h1)
  · rw [hs] at h1; cases h1
  · rw [hw] at h1; cases h1
theorem wpF_call {o : Oper} {l : List Oper} {a : Act} {w : World} {fn : Func} (f : FuncId) (hf : P.funcs[f]? = some fn) (hname : (fn.name == "runtime.NumGoroutine") = false) (hb : fn.body.isNone = false) (args : Array Operand) (ts : Array TypeId) (vs : Array Value) (ho : o.op = .call { callee := .value (.func f), args := args, argTypes := ts })
    (hw : Region.wanted o (yielded ops a.tmps) = true) (hv : args.map a.eval = vs) (hS : SL w0 w) (h : ∀ W, Below w.heap.size w W → Calls P f vs W fun e w' => ∃ v, e = .returned v ∧ Below W.heap.size W w' ∧ wpF P ops w0 Q l (a.put o.dst v) w') : wpF P ops w0 Q (o :: l) a w := by
  have hs : stillOp o = false := by unfold stillOp; simp only [ho]
  have hmk : makerOp o = false := by unfold makerOp; simp only [ho]
  refine .inr (.inr ⟨⟨not_quiet hs hw, hmk⟩, fun W hW => ?_⟩)
  unfold hOp execOp
  simp only [ho]
  have e : (do let d ← resolve a.eval { callee := .value (.func f), args := args, argTypes := ts } o.type; invoke d.target d.args : Sem Next).run P W = .ok (.enter f vs) W := by
    subst hv
    have h1 : fn.name ≠ "runtime.NumGoroutine" := by simpa using hname
    have h2 : fn.body ≠ none := by
      intro e
      rw [e] at hb
      cases hb
    simp [resolve, Deferred.ofValue, invoke, go_sem, Act.eval, callFunc, hf, h1, h2]
  rw [e]
  exact (h W hW).mono fun _ _ ⟨v, h1, h2, h3⟩ => ⟨v, h1, fun _ => h2, hS.ext (ext_trans hW h2), h3⟩
theorem wpF_make {o : Oper} {l : List Oper} {a : Act} {w : World} (z : Obj) (hs : stillOp o = false) (hk : makerOp o = true) (hw : Region.wanted o (yielded ops a.tmps) = true) (hz : Makes P ops o z a)
    (h : ∀ b W, Below w.heap.size w W → W.heap[b]? = some z → w0.heap.size ≤ b → wpF P ops w0 Q l (a.put o.dst (mkVal o b)) W) : wpF P ops w0 Q (o :: l) a w :=
  .inr (.inl ⟨⟨not_quiet hs hw, hk⟩, z, hz, h⟩)
/-- an operation that yields a value in every world and leaves it -/
theorem wpF_val {o : Oper} {l : List Oper} {a : Act} {w : World} (v : Value) (hs : stillOp o = false) (hk : makerOp o = false) (hw : Region.wanted o (yielded ops a.tmps) = true) (hr : ∀ W, (execOp a.eval o).run P W = .ok (.value v) W) (hS : SL w0 w)
    (h : ∀ W, Below w.heap.size w W → wpF P ops w0 Q l (a.put o.dst v) W) : wpF P ops w0 Q (o :: l) a w := by
  refine .inr (.inr ⟨⟨not_quiet hs hw, hk⟩, fun W hW => ?_⟩)
  unfold hOp
  rw [hr W]
  exact ⟨fun _ => Below.refl _ _, hS.ext hW, h W hW⟩
/-- the last operation, a store -/
theorem wpF_last {o : Oper} {a : Act} {w : World} (g : World → World) (hs : stillOp o = false) (hk : makerOp o = false) (hw : Region.wanted o (yielded ops a.tmps) = true) (hr : ∀ W, Below w.heap.size w W → (execOp a.eval o).run P W = .ok .skip (g W)) (hS : ∀ W, Below w.heap.size w W → SL w0 (g W))
    (h : ∀ W, Below w.heap.size w W → ∀ X, Below (g W).heap.size (g W) X → Q .normal (a.put o.dst undef) X) : wpF P ops w0 Q [o] a w := by
  refine .inr (.inr ⟨⟨not_quiet hs hw, hk⟩, fun W hW => ?_⟩)
  unfold hOp
  rw [hr W hW]
  exact ⟨fun e => absurd e (by simp), hS W hW, h W hW⟩
/-- a store with no maker behind it -/
theorem wpF_store {o : Oper} {l : List Oper} {a : Act} {w : World} (g : World → World) (hs : stillOp o = false) (hk : makerOp o = false) (hw : Region.wanted o (yielded ops a.tmps) = true) (hm : l.any makerOp = false) (hr : ∀ W, Below w.heap.size w W → (execOp a.eval o).run P W = .ok .skip (g W)) (hS : ∀ W, Below w.heap.size w W → SL w0 (g W))
    (h : ∀ W, Below w.heap.size w W → wpF P ops w0 Q l (a.put o.dst undef) (g W)) : wpF P ops w0 Q (o :: l) a w := by
  refine .inr (.inr ⟨⟨not_quiet hs hw, hk⟩, fun W hW => ?_⟩)
  unfold hOp
  rw [hr W hW]
  exact ⟨fun e => absurd e (by rw [hm]; decide), hS W hW, h W hW⟩
end


end Go.Proofs.Ytombcjdhjcmhhaa.Fl

/- As Tail, where what is made or called waits for what came before by way of others. A statement whose order is open, that holds calls whose results lie at unknown places, and whose last operation waits for all the others (a store): one walk in the order of the text serves every order; the last operation may leave any world. No program, no conditions. -/
namespace Go.Proofs.Ytombcjdhjcmhhaa.Tl
set_option maxRecDepth 8000
open Go.RowKit Go.Proofs.Ytombcjdhjcmhhaa

section
variable {P : Program} {ops : Array Oper} {S : World → Prop} {Q : Exit → Act → World → Prop} {m : Nat}

/-- every later effect waits for this operation -/
def ChainX (ops : Array Oper) (i : Nat) (listed : Array Bool) : Prop := (∀ j, Waits ops i j → listed.getD j false = false) ∧
  ∀ j oj, ops[j]? = some oj → j ≠ i → listed.getD j true = false → stillOp oj = false → Waits ops i j
structure ChainW (ops : Array Oper) : Prop where
  chain : ∀ (k j : Nat) (ok oj : Oper), k < j → ops[k]? = some ok → ops[j]? = some oj → stillOp ok = false → stillOp oj = false → Waits ops k j
theorem wpT_first (hz : ops.size = m + 1) (hs : Region.sinkB .any ops m = true) (hc : Region.chainB .any ops m = true) {i : Nat} {oi : Oper} (him : i < m) (hi : ops[i]? = some oi) (hsel : ∀ (j : Nat) (o : Oper) cs b, ops[j]? = some o → o.op ≠ .select cs b) : ∀ (n : Nat) (listed : Array Bool) (a : Act) (w : World), HeadInv .any ops m listed → S w →
      (∀ j oj, ops[j]? = some oj → j ≠ i → listed.getD j true = false → (∀ e ∈ oj.after, Region.binds .any e = true → e.on ≠ i) → oi.apart ops oj = true) →
      (stillOp oi = false → ChainX ops i listed) → i ∈ Region.ready .any ops listed → sOp P ops S i (wpT P ops S m Q n (listed.setIfInBounds i true)) a w → wpT P ops S m Q (n + 1) listed a w := by
  intro n
  induction n with
  | zero =>
    intro listed a w inv hS _ _ hr H
    refine ⟨fun h => (by rw [h] at hr; cases hr), fun j hj => ?_⟩
    by_cases hji : j = i
    · subst hji; rw [tOp_ne (by omega)]; exact H
    · obtain ⟨a', w', _, h0, _⟩ := sOp_out hS H
      have := ready_mono hj hji
      rw [h0] at this
      cases this
  | succ n ih =>
    intro listed a w inv hS hfree hchain hr H
    refine ⟨fun h => (by rw [h] at hr; cases hr), fun j hj => ?_⟩
    by_cases hji : j = i
    · subst hji; rw [tOp_ne (by omega)]; exact H
    have hjm : j ≠ m := fun e => by
      subst e
      exact tail_waits hs hc (by omega) inv _ i rfl him (mem_ready.1 hr).1 j (Nat.le_refl _) hj
    have hjl := ready_lt hj
    have inv' : HeadInv .any ops m (listed.setIfInBounds j true) := inv.set hj (by omega)
    rw [tOp_ne hjm]
    obtain ⟨hjun, oj, hoj, hall⟩ := mem_ready.1 hj
    have hnot : ∀ e ∈ oj.after, Region.binds .any e = true → e.on ≠ i := fun e he hb heq => by
      have h1 := hall e he hb
      have h0 := (mem_ready.1 hr).1
      rw [heq, getD_both h0] at h1
      cases h1
    have hap := hfree j oj hoj hji hjun hnot
    obtain ⟨p1, p2, p3⟩ := Oper.apart_spec hap
    have hsi := fun cs b => hsel i oi cs b hi
    have hsj := fun cs b => hsel j oj cs b hoj
    have hfree' : ∀ k ok, ops[k]? = some ok → k ≠ i → (listed.setIfInBounds j true).getD k true = false →
        (∀ e ∈ ok.after, Region.binds .any e = true → e.on ≠ i) → oi.apart ops ok = true := fun k ok hk hki hun hno => by
      refine hfree k ok hk hki ?_ hno
      by_cases hjk : j = k
      · subst hjk; exact hjun
      · rw [getD_set_ne true hjk] at hun; exact hun
    have h0i : listed.getD i false = false := getD_both (mem_ready.1 hr).1
    have hjs : stillOp oi = false → stillOp oj = true := fun hs => by
      cases e : stillOp oj with
      | true => rfl
      | false => exact (Waits.not_ready (hchain hs).1 h0i ((hchain hs).2 j oj hoj hji hjun e) hoj hall).elim
    have hchain' : stillOp oi = false → ChainX ops i (listed.setIfInBounds j true) := fun hs => by
      refine ⟨fun k hw => ?_, fun k ok hk hki hun hks => ?_⟩
      · have h1 := (hchain hs).1 k hw
        by_cases hjk : j = k
        · subst hjk
          exact (Waits.not_ready (hchain hs).1 h0i hw hoj hall).elim
        · rw [getD_set_ne false hjk]; exact h1
      · have hjk : j ≠ k := by
          rintro rfl
          rw [hoj] at hk
          injection hk with hk
          rw [← hk, hjs hs] at hks
          cases hks
        rw [getD_set_ne true hjk] at hun
        exact (hchain hs).2 k ok hk hki hun hks
    have hr' := ready_mono hr (Ne.symm hji)
    have hrj := ready_mono hj hji
    unfold sOp at H
    rw [hi] at H
    rcases H with ⟨hq, v, hy, HK⟩ | ⟨hnq, hh⟩
    · have hkj := HK.2 j hrj
      rw [tOp_ne hjm] at hkj
      have h2 := sOp_put hoj hap hsi hsj hq hy hkj
      refine sOp_mono hS (fun a' w' hS' ⟨hq', hy', hk'⟩ => ih (listed.setIfInBounds j true) a' w' inv' hS' hfree' hchain' hr' ?_) h2
      unfold sOp
      rw [hi]
      refine .inl ⟨hq', v, hy', ?_⟩
      rw [Array.setIfInBounds_comm _ _ hji]
      exact hk'
    · have hs : stillOp oi = false := by
        cases e : stillOp oi with
        | false => rfl
        | true => exact absurd (.inl e) hnq
      have hj' := hjs hs
      obtain ⟨v0, w0, hS0, hK0⟩ := hOp_out hh
      have h1 := hK0.2 j hrj
      rw [tOp_ne hjm] at h1
      unfold sOp at h1
      rw [hoj] at h1
      obtain ⟨vj, hyj⟩ : ∃ vj, YieldsIf P ops S oj vj a := by
        rcases h1 with ⟨_, u, hu, _⟩ | ⟨e, _⟩
        · exact ⟨u, hu.of_same (execOp_put oj hsj a oi.dst v0 p1).symm (wanted_put oj a oi.dst v0 p1).symm⟩
        · exact absurd (.inl hj') e
      unfold sOp
      rw [hoj]
      refine .inl ⟨.inl hj', vj, hyj, ih (listed.setIfInBounds j true) (a.put oj.dst vj) w inv' hS hfree' hchain' hr' ?_⟩
      unfold sOp
      rw [hi]
      refine .inr ⟨fun e => hnq ((quietNow_put p3).1 e), hOp_put hsi p3 (hOp_mono (fun v w' ⟨hS', hk'⟩ => ⟨hS', ?_⟩) hh)⟩
      have h2 := hk'.2 j hrj
      rw [tOp_ne hjm] at h2
      unfold sOp at h2
      rw [hoj] at h2
      rcases h2 with ⟨_, u, hu, hk2⟩ | ⟨e, _⟩
      · have hu' : YieldsIf P ops S oj u a := hu.of_same (execOp_put oj hsj a oi.dst v p1).symm (wanted_put oj a oi.dst v p1).symm
        have e := YieldsIf.one hS' hu' hyj
        subst e
        rw [Array.setIfInBounds_comm _ _ hji, ← Act.put_comm a v u p2]
        exact hk2
      · exact absurd (.inl hj') e

theorem wpT_of_lex (hz : ops.size = m + 1) (hs : Region.sinkB .any ops m = true) (hcb : Region.chainB .any ops m = true) (hx : LexOK ops) (hc : ChainW ops) : ∀ (l : List Oper) (k : Nat) (listed : Array Bool) (a : Act) (w : World), HeadInv .any ops m listed → S w →
    (∀ j, j < l.length → l[j]? = ops[k + j]?) → k + l.length = m → (∀ i, i < k → listed.getD i false = true) → (∀ i, k ≤ i → i < ops.size → listed.getD i true = false) →
    wpHeld P ops S (fun _ a w => mOp P ops m (fun a w => Q .normal a w) a w) l a w → wpT P ops S m Q (l.length + 1) listed a w
  | [], k, listed, a, w, inv, _, _, hk, h1, h2, h => by
    obtain rfl : k = m := by simpa using hk
    obtain ⟨om, hom, hw, hh⟩ := h
    have hr : k ∈ Region.ready .any ops listed := mem_ready.2 ⟨h2 k (Nat.le_refl _) (by omega), om, hom, fun e he hb => h1 _ (hx.edge k om hom e he hb)⟩
    refine ⟨fun e => (by rw [e] at hr; cases hr), fun i hi => ?_⟩
    have hil := ready_lt hi
    have hik : k ≤ i := by
      rcases Nat.lt_or_ge i k with h' | h'
      · have h3 := h1 i h'
        rw [getD_both (mem_ready.1 hi).1] at h3
        cases h3
      · exact h'
    obtain rfl : i = k := by omega
    rw [tOp_eq]
    exact ⟨om, hom, hw, hOp_mono (fun v w' hq => ⟨none_left hz hs hcb inv hi, hq⟩) hh⟩
  | o :: l, k, listed, a, w, inv, hS, hl, hk, h1, h2, h => by
    have h0 : ops[k]? = some o := by simpa using (hl 0 (by simp)).symm
    have hlt : k < ops.size := (Array.getElem?_eq_some_iff.1 h0).1
    have hkm : k < m := by simp at hk; omega
    have hst : sOp P ops S k (wpHeld P ops S (fun _ a w => mOp P ops m (fun a w => Q .normal a w) a w) l) a w := by
      unfold sOp
      rw [h0]
      exact h
    have hun : ∀ j, listed.getD j true = false → k ≤ j := fun j hun => by
      rcases Nat.lt_or_ge j k with h' | h'
      · have h3 := h1 j h'
        rw [getD_both hun] at h3
        cases h3
      · exact h'
    have hr : k ∈ Region.ready .any ops listed := mem_ready.2 ⟨h2 k (Nat.le_refl _) hlt, o, h0, fun e he hb => h1 _ (hx.edge k o h0 e he hb)⟩
    refine wpT_first hz hs hcb hkm h0 (Region.noSelect_spec hx.sel) (l.length + 1) listed a w inv hS ?_ ?_ hr ?_
    · intro j oj hj hne hju hno
      refine hx.free k j o oj ?_ h0 hj hno
      have := hun j hju
      omega
    · intro hs'
      refine ⟨fun j hw => ?_, fun j oj hj hne hju hjs => ?_⟩
      · obtain ⟨h3, h4⟩ := hw.lt hx
        exact getD_both (h2 j (by omega) h4)
      · have := hun j hju
        exact hc.chain k j o oj (by omega) h0 hj hs' hjs
    · refine sOp_mono hS (fun a' w' hS' h' => wpT_of_lex hz hs hcb hx hc l (k + 1) _ a' w' (inv.set hr hkm) hS' (fun j hj => by have := hl (j + 1) (by simp; omega); simpa [Nat.add_assoc, Nat.add_comm 1 j] using this) (by simp at hk; omega) ?_ ?_ h') hst
      · intro i hi
        by_cases e : i = k
        · subst e
          simp [inv.size, hlt]
        · exact getD_set_true (h1 i (by omega))
      · intro i hi hi'
        rw [getD_set_ne true (by omega)]
        exact h2 i (by omega) hi'

theorem wp_held_tail {id : Nat} {a : Act} {w : World} {l : List Oper} (n : Nat) (hm : P.follows .mixedOrders = true) (hx : LexOK l.toArray) (hc : ChainW l.toArray) (hz : l.length = n + 1) (hs : Region.sinkB .any l.toArray n = true) (hcb : Region.chainB .any l.toArray n = true) (hS : S w.drew)
    (h : wpHeld P l.toArray S (fun _ a w => mOp P l.toArray n (fun a w => Q .normal a w) a w) (l.take n) a w.drew) : (Code.region id l.toArray true).wp P Q a w := by
  have inv0 : HeadInv .any l.toArray n (Array.replicate l.toArray.size false) :=
    ⟨by simp, fun j oj _ hl => (by rw [getD_replicate_false] at hl; cases hl), fun t _ ht => getD_in (by simpa using ht) (getD_replicate_false _ _)⟩
  have htl : (l.take n).length = n := by simp; omega
  refine wp_region_any hm (wpAny_of_wpT (S := S) (m := n) (by simpa using hz) hs hcb _ _ _ _ inv0 hS ?_)
  have := wpT_of_lex (P := P) (S := S) (Q := Q) (m := n) (ops := l.toArray) (by simpa using hz) hs hcb hx hc (l.take n) 0 (Array.replicate l.toArray.size false) a w.drew inv0 hS (fun j hj => by
    have hj' : j < n := by rw [htl] at hj; exact hj
    simp [hj']) (by simpa using htl) (by intro i hi; omega) (fun i _ hi => getD_in (by simpa using hi) (getD_replicate_false _ _)) h
  rw [htl] at this
  simpa [hz] using this
theorem wp_held_tailB (n B : Nat) {id : Nat} {a : Act} {w : World} {l : List Oper} (hm : P.follows .mixedOrders = true) (hx : LexOK l.toArray) (hc : ChainW l.toArray) (hz : l.length = n + 1) (hs : Region.sinkB .any l.toArray n = true) (hcb : Region.chainB .any l.toArray n = true)
    (h : ∀ W, Below w.heap.size w W → (∃ x : LaterB B w, W = x.at) → wpHeld P l.toArray (fun w' => ∃ x : LaterB B w, w' = x.at) (fun _ a w => mOp P l.toArray n (fun a w => Q .normal a w) a w) (l.take n) a W) : (Code.region id l.toArray true).wp P Q a w :=
  wp_held_tail n hm hx hc hz hs hcb ⟨⟨w.drew, (Below.refl _ _).drew⟩, rfl⟩ (h w.drew (Below.refl _ _).drew ⟨⟨w.drew, (Below.refl _ _).drew⟩, rfl⟩)
end

/-! ### The test -/
def chainV : List Oper → List Nat → List Nat → Bool
  | [], _, _ => true
  | o :: l, ms, hs => (fun m => (stillOp o || hs.all (bitOf m)) && chainV l (ms ++ [m]) (bif stillOp o then hs else ms.length :: hs)) (waitM ms o.after.toList)
theorem chainV_spec {ops : Array Oper} : ∀ (l : List Oper) (ms hs : List Nat), (∀ j, l[j]? = ops[ms.length + j]?) →
    (∀ j i, (ms.getD j 0).testBit i = true → Waits ops i j) → (∀ i o, i < ms.length → ops[i]? = some o → stillOp o = false → i ∈ hs) → chainV l ms hs = true →
    ∀ (j : Nat) (oj : Oper), ms.length ≤ j → ops[j]? = some oj → stillOp oj = false → ∀ (i : Nat) (oi : Oper), i < j → ops[i]? = some oi → stillOp oi = false → Waits ops i j
  | [], ms, _, hl, _, _, _, j, oj, hj, hoj, _ => by
    intro i oi hi hoi _
    have h0 : ops[j]? = none := by
      have := hl (j - ms.length)
      rw [show ms.length + (j - ms.length) = j by omega] at this
      rw [← this]
      rfl
    rw [h0] at hoj
    cases hoj
  | o :: l, ms, hs, hl, hp, hi, h, j, oj, hj, hoj, hjs => by
    have h0 : ops[ms.length]? = some o := by simpa using (hl 0).symm
    have hl' : ∀ m j, l[j]? = ops[(ms ++ [m]).length + j]? := fun m j => by have := hl (j + 1); simpa [Nat.add_assoc, Nat.add_comm 1 j] using this
    have hwm : ∀ i, (waitM ms o.after.toList).testBit i = true → Waits ops i ms.length := fun i hw => by
      obtain ⟨e, he, hb, hon⟩ := waitM_spec _ i hw
      have he' : e ∈ o.after := by simpa using he
      rcases hon with hon | hon
      · exact .on e h0 he' hb hon
      · exact .step e h0 he' hb (hp _ _ hon)
    simp only [chainV, Bool.and_eq_true] at h
    obtain ⟨hm, hrest⟩ := h
    by_cases hjk : j = ms.length
    · subst hjk
      rw [h0] at hoj
      injection hoj with hoj
      subst hoj
      rw [hjs] at hm
      intro i oi hij hoi his
      refine hwm i ?_
      have := List.all_eq_true.1 (by simpa using hm) i (hi i oi hij hoi his)
      rwa [bitOf_eq] at this
    · refine chainV_spec l _ _ (hl' _) ?_ ?_ hrest j oj (by simp; omega) hoj hjs
      · intro j' i' hw
        rcases Nat.lt_trichotomy j' ms.length with h' | h' | h'
        · refine hp j' i' ?_
          rw [List.getD_eq_getElem?_getD, List.getElem?_append_left h', ← List.getD_eq_getElem?_getD] at hw
          exact hw
        · subst h'
          refine hwm i' ?_
          rw [List.getD_eq_getElem?_getD, List.getElem?_append_right (Nat.le_refl _), Nat.sub_self] at hw
          exact hw
        · rw [List.getD_eq_getElem?_getD, List.getElem?_eq_none (by simp; omega)] at hw
          simp at hw
      · intro i' o' hik ho' hs'
        by_cases e : i' = ms.length
        · subst e
          rw [h0] at ho'
          injection ho' with ho'
          subst ho'
          rw [hs']
          simp
        · have := hi i' o' (by simp at hik; omega) ho' hs'
          cases stillOp o
          · exact List.mem_cons_of_mem _ this
          · exact this
theorem chainW_of {l : List Oper} (h : chainV l [] [] = true) : ChainW l.toArray :=
  ⟨fun k j ok oj hkj hok hoj hks hjs => chainV_spec (ops := l.toArray) l [] [] (by simp) (by intro j i hw; simp at hw) (by intro i o hi; simp at hi) h j oj (Nat.zero_le _) hoj hjs k ok hkj hok hks⟩

end Go.Proofs.Ytombcjdhjcmhhaa.Tl

/- Contracts of the reference's Log and Made of package attestorref06; no conditions. -/
namespace Go.Proofs.Ytombcjdhjcmhhaa
set_option maxRecDepth 8000
open Go.RowKit Gold

set_option maxHeartbeats 4000000 in
theorem rLog_any (A : Option Addr) (n c : Nat) (u : Value) (Ls : List (List E2)) (L : List E2) (d : Nat) (w : World) (hT : ST w A n c Ls) (h0 : Ls[0]? = some L) (hd : L.length = 2 ^ d) (hd5 : d ≤ 5) :
    Calls Try.prog 13 #[.agg #[.slice A n c, u]] w fun e w' => e = .returned (.int .i64 d) ∧ Below w.heap.size w w' := by
  obtain ⟨ad, B, m, e, rfl, y0, hs⟩ := hT.at_ h0
  have hm := hs.len
  have hn : 0 < n := by have := hT.len; have := (List.getElem?_eq_some_iff.1 h0).1; omega
  rw [show ad.add (0 : Nat) = ad by cases ad; rfl] at y0
  have HD := Lib.hid (show m = 2 ^ d by omega)
  clear hs hT h0 hm hd
  go_enter Try.func13, Try.ntmps13
  go_wp2_with fail
  refine wp_named1 (fun V hb g hz => ?_)
  have X := Lib.hid (show Two V w.heap.size 30 (.slice (some ad) n c) u from g)
  replace y0 := cell_keep y0 hb
  have HB := Lib.hid hb
  clear hb g
  go_loopw [3] (fun s wr => ∃ k : Nat, k ≤ d ∧ s = .int .i64 k ∧ Below V.heap.size V wr) (fun s _ => d - (intOf s).toNat)
  case atStart => exact ⟨0, Nat.zero_le _, rfl, Below.refl _ _⟩
  case round =>
    obtain ⟨k, hk, rfl, hb⟩ := hrel
    have HBr := Lib.hid hb
    have z0 := (X.out.keep hb).c0
    have z1 := cell_keep y0 hb
    clear hb
    have l0 := Later.cell z0
    have l1 := Later.cell z1
    clear z0 z1
    have hn' : (0 : Int) < (n : Int) := by omega
    have hw : wrap64 (2 ^ k) = ((2 ^ k : Nat) : Int) := wrap_pow2 (by omega)
    by_cases hkd : k = d
    · subst hkd
      have hlt : ¬ (wrap64 (2 ^ k) < (m : Int)) := by rw [hw, HD.out]; omega
      clear hw
      go_wp2_with fail
      refine wp_later_lex (by kernel_rfl) (lexOK_of (by kernel_rfl) (by kernel_rfl)) ?_
      repeat (go_big_quiet_step (fail))
      refine wpQuiet_nil ?_
      intro Y
      clear l0 l1
      go_wp2_with fail
      go_ret
      exact ⟨rfl, below_step HB.out (below_step HBr.out Y.below)⟩
    · have hlt : wrap64 (2 ^ k) < (m : Int) := by
        rw [hw, HD.out]
        have := Nat.pow_lt_pow_right (show 1 < 2 by omega) (show k < d by omega)
        omega
      clear hw
      go_wp2_with fail
      refine wp_later_lex (by kernel_rfl) (lexOK_of (by kernel_rfl) (by kernel_rfl)) ?_
      repeat (go_big_quiet_step (fail))
      refine wpQuiet_nil ?_
      intro Y
      clear l0 l1
      go_wp2_with fail
      go_roundw
      case rel => exact ⟨k + 1, by omega, by go_num, below_step HBr.out Y.below⟩
      case measure => simp [intOf]; omega
set_option maxHeartbeats 2000000 in
theorem rPExactlyO_any (A : Option Addr) (n c : Nat) (ps : List (Int × Int)) (q : Nat) (w : World) (h : Sr w A n c ps) (hw : Nums ps) (hq : q ≤ 65536) :
    Calls Try.prog 14 #[.slice A n c, .int .i64 q] w fun e w' => ∃ A' c', e = .returned (.slice A' q c') ∧ OwE w' w.heap.size (.slice A' q c') q (exactE ps q) ∧ Below w.heap.size w w' := by
  have HL := Lib.hid h.len
  have HW := Lib.hid hw
  have HS := Lib.hid h
  clear h hw
  go_enter Try.func14, Try.ntmps14
  go_wp2_with fail
  refine (rPMade_any A n c ps q _ HS.out HW.out hq).mono ?_
  rintro e W1 ⟨A1, m1, c1, rfl, hm1, hs, ho, hb⟩
  have HO := Lib.hid ho
  have HB := Lib.hid hb
  have HM := Lib.hid (show m1 = min q ps.length by have := hs.len; simpa using this)
  clear hs ho hb
  go_wp2_with fail
  go_loopw [5] (fun v wr => ∃ (k : Nat) (A2 : Option Addr) (c2 : Nat), v = .slice A2 k c2 ∧ k ≤ q ∧ m1 ≤ k ∧ OwE wr w.heap.size (.slice A2 k c2) k ((ps.take q).map madeE ++ List.replicate (k - m1) E2.zero) ∧ Below w.heap.size w wr) (fun v _ => match v with | .slice _ k _ => q - k | _ => 0)
  case atStart => exact ⟨m1, A1, c1, rfl, hm1, Nat.le_refl _, by rw [Nat.sub_self]; simpa using HO.out, HB.out⟩
  case round =>
    clear HO HB
    obtain ⟨k, A2, c2, rfl, hk, hmk, ho, hb⟩ := hrel
    obtain ⟨A3, c3, e3, hs3⟩ := ho.sl
    injection e3 with eA eN eC
    subst eA
    subst eC
    have hkc := hs3.cap
    have hct := hs3.top
    have HO1 := Lib.hid ho
    have HB1 := Lib.hid hb
    have HS3 := Lib.hid hs3
    clear ho hb hs3 eN
    by_cases hlt : k < q
    · go_wp2_with (at_builtin; refine wpList_appendE rfl (.tmp 13) (.tmp 15) rfl (w.heap.size) _ k _ rfl (HO1.out.keep ((Below.refl _ _).alloc (Nat.le_refl _) _)) wr.heap.size 1 (E2.zero) rfl (Two.new wr _ _ _) (by omega) (by have := HB1.out.size; simp; omega) ?_; intro v1 w1 hown1 hg1; have HO2 := Lib.hid hown1; have HB2 := Lib.hid (below_grown (w0 := w) (HB1.out.alloc HB1.out.size _) hg1 (HO1.out.keep ((Below.refl _ _).alloc (Nat.le_refl _) _)) (Nat.le_refl _)); clear hown1 hg1)
      obtain ⟨A4, c4, rfl, hs4⟩ := HO2.out.sl
      clear hs4
      go_roundw
      case rel => exact ⟨k + 1, A4, c4, rfl, by omega, by omega, by rw [show k + 1 - m1 = (k - m1) + 1 by omega, List.replicate_succ', ← List.append_assoc]; exact HO2.out, HB2.out⟩
      case measure => show q - (k + 1) < q - k; omega
    · have hkq : k = q := by omega
      subst hkq
      go_wp2_with fail
      go_ret
      exact ⟨A2, c2, rfl, by unfold exactE; have := HO1.out; have hm := HM.out; rw [show k - ps.length = k - m1 by omega]; exact this, HB1.out⟩

end Go.Proofs.Ytombcjdhjcmhhaa

/- Lists of lists that the call itself makes, each list newer than the one before; no conditions. -/
namespace Go.Proofs.Ytombcjdhjcmhhaa
set_option maxRecDepth 8000
open Go.RowKit Gold

theorem OwE.grownO {w w' : World} {base : Nat} {v : Value} {n : Nat} {xs : List E2} (h : OwE w base v n xs) {row : Option Nat} (hg : w.grownBy w' row) (e : ∀ q, v.ownBlock = some q → row ≠ some q) : OwE w' base v n xs := by
  refine ⟨h.1, ?_⟩
  rcases h.2 with hn | ⟨g, cap, cur, hv, hbs, hgg, rest⟩
  · exact .inl hn
  · refine .inr ⟨g, cap, cur, hv, hbs, (hg.block g (Array.getElem?_eq_some_iff.1 hgg).1 (fun k => e g (by rw [hv]; rfl) k.symm)).trans hgg, rest⟩
/-- a slice of slices of the call's own; its rows are the call's own too, each behind the one before -/
def OwR (w : World) (base : Nat) (v : Value) (n : Nat) (Ps : List (List E2)) : Prop :=
  ∃ vals : List Value, w.ownsRow base 22 1 v n vals ∧ Ps.length = n ∧
    (∀ (i : Nat) (L : List E2), Ps[i]? = some L → ∃ B m d, vals[i]? = some (Value.slice B m d) ∧ OwE w base (.slice B m d) m L ∧ ∀ q, (Value.slice B m d).ownBlock = some q → v.ownBlock ≠ some q) ∧
    (∀ (i j : Nat) (x y : Value) (p q : Nat), i < j → vals[i]? = some x → vals[j]? = some y → x.ownBlock = some p → y.ownBlock = some q → p < q)
theorem OwR.keep {w w' : World} {base : Nat} {v : Value} {n : Nat} {Ps : List (List E2)} (h : OwR w base v n Ps) (hb : Below w.heap.size w w') : OwR w' base v n Ps := by
  obtain ⟨vals, h1, h2, h3, h4⟩ := h
  refine ⟨vals, ownsRow_keep h1 hb, h2, fun i L hL => ?_, h4⟩
  obtain ⟨B, m, d, k1, k2, k3⟩ := h3 i L hL
  exact ⟨B, m, d, k1, k2.keep hb, k3⟩
theorem OwR.made (w : World) (base : Nat) (hb : base ≤ w.heap.size) : OwR (w.alloc (.cells #[] 22)) base (.slice (some ⟨w.heap.size, 0, none⟩) 0 0) 0 [] :=
  ⟨[], World.ownsRow_made w #[] 0 hb (Nat.zero_le _) rfl, rfl, fun i L hL => by simp at hL, fun i j x y p q _ hx => by simp at hx⟩
theorem OwR.vlen {w : World} {base : Nat} {v : Value} {n : Nat} {vals : List Value} (h : w.ownsRow base 22 1 v n vals) : vals.length = n := by simpa using h.1

/-- append(rounds, row), the row newer than all that there was -/
theorem wpList_appendR {ops : Array Oper} {rest : List Oper} {o : Oper} {a : Act} {Q : Exit → Act → World → Prop} {w : World} (w0 : World) (hgd : o.guard = none) (s x : Operand)
    (ho : o.op = .call { callee := .builtin .append, args := #[s, x], argTypes := #[36, 36] }) (base : Nat) (v : Value) (n : Nat) (Ps : List (List E2)) (hs : a.eval s = v) (hown : OwR w0 base v n Ps) (hb0 : Below w0.heap.size w0 w)
    (g c : Nat) (B : Option Addr) (m d : Nat) (L : List E2) (hx : a.eval x = .slice (some ⟨g, 0, none⟩) 1 c) (hy : One w g 22 (.slice B m d)) (hl : OwE w w0.heap.size (.slice B m d) m L) (hn : n ≤ 65536) (hbase : base ≤ w0.heap.size)
    (h : ∀ v' w', OwR w' base v' (n + 1) (Ps ++ [L]) → w.grownBy w' v.ownBlock → wpList Try.prog ops Q rest (a.put o.dst v') w') : wpList Try.prog ops Q (o :: rest) a w := by
  obtain ⟨i, hi, hz, hs2, hb⟩ := info_parts exts_info
  obtain ⟨vals, h1, h2, h3, h4⟩ := hown
  have hvl := OwR.vlen h1
  refine wpList_append_lies w hgd s x 36 ho base 22 i (.slice none 0 0) 1 24 Try.underlying36 hi hz hs2 hb rfl (by omega) v n vals hs (ownsRow_keep h1 hb0) ⟨g, 0, none⟩ 1 c [.slice B m d] hx rfl ?_ ?_ (by omega) (by unfold maxLen; omega) (by omega) (by have := hb0.size; omega) w.heap.size rfl ?_
  · intro j u hj
    rw [add_base]
    match j, hj with
    | 0, hj => injection hj with hj; subst hj; exact hy.c
    | j + 1, hj => simp at hj
  · intro u hu
    simp at hu
    subst hu
    rfl
  · intro g' cap w' hown' hg hat hlt
    have hold : ∀ q, v.ownBlock = some q → q < w0.heap.size := fun q hq => (World.ownsRow.lt h1 q hq).2
    have hnew : ∀ q, (Value.slice B m d).ownBlock = some q → w0.heap.size ≤ q ∧ q < w.heap.size := fun q hq => World.ownsRow.lt hl q hq
    refine h _ w' ⟨vals ++ [.slice B m d], hown', by simp [h2], fun k M hM => ?_, fun k j x y p q hkj hx hy hp hq => ?_⟩ hg
    · by_cases hk : k < n
      · rw [List.getElem?_append_left (by omega)] at hM
        obtain ⟨B', m', d', k1, k2, k3⟩ := h3 k M hM
        refine ⟨B', m', d', by rw [List.getElem?_append_left (by omega)]; exact k1, (k2.keep hb0).grownO hg (fun q hq => k3 q hq), fun q hq e => ?_⟩
        injection e with e
        rcases hat with hat | hat
        · exact k3 q hq (by rw [hat, ← e])
        · have := (World.ownsRow.lt k2 q hq).2
          have := hb0.size
          have e' : g' = q := e
          omega
      · rw [List.getElem?_append_right (by omega)] at hM
        have hk0 : k - Ps.length = 0 := by
          have := (List.getElem?_eq_some_iff.1 hM).1
          simp at this
          omega
        rw [hk0] at hM
        injection hM with hM
        subst hM
        refine ⟨B, m, d, by rw [List.getElem?_append_right (by omega), hvl, ← h2, hk0]; rfl, ?_, fun q hq e => ?_⟩
        · have k := hl.grownO hg (fun q hq e => by have := hold q e; have := (hnew q hq).1; omega)
          refine ⟨k.1, k.2.imp id fun ⟨g1, cap1, cur1, e1, e2, e3⟩ => ⟨g1, cap1, cur1, e1, by omega, e3⟩⟩
        · injection e with e
          have e' : g' = q := e
          rcases hat with hat | hat
          · have := hold g' hat
            have := (hnew q hq).1
            omega
          · have := (hnew q hq).2
            omega
    · have hj : j < n + 1 := by
        have := (List.getElem?_eq_some_iff.1 hy).1
        simp at this
        omega
      rw [List.getElem?_append_left (by omega)] at hx
      by_cases hjn : j < n
      · rw [List.getElem?_append_left (by omega)] at hy
        exact h4 k j x y p q hkj hx hy hp hq
      · rw [List.getElem?_append_right (by omega), show j - vals.length = 0 by omega] at hy
        injection hy with hy
        subst hy
        have h5 := (hnew q hq).1
        obtain ⟨M, hM⟩ : ∃ M, Ps[k]? = some M := ⟨Ps[k]'(by omega), List.getElem?_eq_getElem _⟩
        obtain ⟨B', m', d', k1, k2, _⟩ := h3 k M hM
        rw [k1] at hx
        injection hx with hx
        subst hx
        have := (World.ownsRow.lt k2 p hp).2
        omega

theorem OwR.shape {w : World} {base : Nat} {v : Value} {n : Nat} {Ps : List (List E2)} (h : OwR w base v n Ps) : ∃ A c, v = .slice A n c ∧ n ≤ c ∧ c ≤ 9223372036854775807 := by
  obtain ⟨vals, h1, _⟩ := h
  rcases h1.2 with ⟨rfl, rfl⟩ | ⟨g, cap, cur, rfl, _, _, hc, hm, _⟩
  · exact ⟨none, 0, rfl, Nat.le_refl _, Nat.zero_le _⟩
  · exact ⟨_, cap, rfl, hc, by unfold maxLen at hm; omega⟩
theorem OwR.st {w : World} {base : Nat} {A : Option Addr} {n c : Nat} {Ps : List (List E2)} (h : OwR w base (.slice A n c) n Ps) : ST w A n c Ps := by
  obtain ⟨A', c', e, h5, h6⟩ := h.shape
  injection e with e1 e2 e3
  subst e1
  subst e3
  obtain ⟨vals, h1, h2, h3, _⟩ := h
  refine ⟨by simpa using h2.symm, h5, h6, fun i p hp => ?_⟩
  rw [List.getElem?_map] at hp
  cases hL : Ps[i]? with
  | none => rw [hL] at hp; cases hp
  | some L =>
    rw [hL] at hp
    injection hp with hp
    subst hp
    obtain ⟨B, m, d, k1, k2, _⟩ := h3 i L hL
    have hi : i < n := by rw [← h2]; exact (List.getElem?_eq_some_iff.1 hL).1
    rcases h1.2 with ⟨e, e0⟩ | ⟨g, cap, cur, e, _, hg, _, _, _, ht⟩
    · omega
    · injection e with e1 e2 e3
      subst e1
      exact ⟨_, B, m, d, rfl, by rw [add_base]; exact row_cell hg ht k1, k2.sl'⟩
theorem OwR.lt {w : World} {base : Nat} {v : Value} {n : Nat} {Ps : List (List E2)} (h : OwR w base v n Ps) {q : Nat} (hq : v.ownBlock = some q) : base ≤ q := by
  obtain ⟨vals, h1, _⟩ := h
  exact (World.ownsRow.lt h1 q hq).1
def mk6 (q : List (Int × Int)) : List E2 := (q.take 6).map madeE
theorem mk6_take {Qs : List (List (Int × Int))} {k : Nat} {q : List (Int × Int)} (h : Qs[k]? = some q) : (Qs.take k).map mk6 ++ [mk6 q] = (Qs.take (k + 1)).map mk6 := by
  obtain ⟨hk, e⟩ := List.getElem?_eq_some_iff.1 h
  rw [List.take_succ_eq_append_getElem hk, List.map_append, e]
  rfl

theorem ow_set6 {w : World} {base g n c : Nat} {xs : List E2} (h : OwE w base (.slice (some ⟨g, 0, none⟩) n c) n xs) (i : Nat) (x : E2) : OwE ((w.setCell ⟨g, i * 2, none⟩ (.int .u64 (vF x.A))).setCell ⟨g, i * 2 + 1, none⟩ (.int .u64 (vF x.B))) base (.slice (some ⟨g, 0, none⟩) n c) n (xs.set i x) := by
  have hl := h.len
  rcases h.2 with ⟨hn, _⟩ | ⟨g', cap, cur, e, hb, hg, hc, hm, hs, ht⟩
  · cases hn
  · injection e with e1 e2 e3
    injection e1 with e1
    injection e1 with e1
    subst e1
    subst e3
    have k1 := heap_setCell_at (i := i * 2) hg (.int .u64 (vF x.A))
    have k2 := heap_setCell_at (i := i * 2 + 1) k1 (.int .u64 (vF x.B))
    refine ⟨by rw [cellsE_length, List.length_set]; omega, .inr ⟨g, c, _, rfl, hb, k2, hc, hm, by simp [hs], ?_⟩⟩
    rw [Array.toList_setIfInBounds, Array.toList_setIfInBounds, List.take_set, List.take_set, ht, cellsE_set]
theorem OwR.other {w w' : World} {base g : Nat} {v : Value} {n : Nat} {L L' : List E2} {Ps : List (List E2)} {m d : Nat} {vals : List Value} (h1 : w.ownsRow base 22 1 v n vals) (h2 : (L :: Ps).length = n)
    (h3 : ∀ (i : Nat) (M : List E2), (L :: Ps)[i]? = some M → ∃ B m d, vals[i]? = some (Value.slice B m d) ∧ OwE w base (.slice B m d) m M ∧ ∀ q, (Value.slice B m d).ownBlock = some q → v.ownBlock ≠ some q)
    (h4 : ∀ (i j : Nat) (x y : Value) (p q : Nat), i < j → vals[i]? = some x → vals[j]? = some y → x.ownBlock = some p → y.ownBlock = some q → p < q)
    (h0 : vals[0]? = some (.slice (some ⟨g, 0, none⟩) m d)) (hg : w.grownBy w' (some g)) (hn : OwE w' base (.slice (some ⟨g, 0, none⟩) m d) m L') : OwR w' base v n (L' :: Ps) := by
  obtain ⟨B0, m0, d0, k1, k2, k3⟩ := h3 0 L rfl
  rw [h0] at k1
  injection k1 with k1
  rw [← k1] at k3
  have kv := k3 g rfl
  refine ⟨vals, ⟨h1.1, h1.2.imp id fun ⟨q, cap, cur, e1, e2, e3, r⟩ => ⟨q, cap, cur, e1, e2, heap_other e3 hg (fun e => kv (by rw [e1, ← e]; rfl)), r⟩⟩, by rw [← h2]; rfl, fun i M hM => ?_, h4⟩
  match i, hM with
  | 0, hM =>
    injection hM with hM
    subst hM
    exact ⟨_, m, d, h0, hn, fun q hq => k3 q hq⟩
  | i + 1, hM =>
    obtain ⟨B, m', d', j1, j2, j3⟩ := h3 (i + 1) M hM
    refine ⟨B, m', d', j1, j2.grownO hg (fun q hq e => ?_), j3⟩
    have := h4 0 (i + 1) _ _ g q (Nat.succ_pos i) h0 j1 rfl hq
    injection e with e
    omega
theorem OwR.head {w : World} {base : Nat} {A : Option Addr} {n c : Nat} {L : List E2} {Ps : List (List E2)} (h : OwR w base (.slice A n c) n (L :: Ps)) (hL : 0 < L.length) :
    ∃ q g d, A = some ⟨q, 0, none⟩ ∧ w.cell? ⟨q, 0, none⟩ = some (.slice (some ⟨g, 0, none⟩) L.length d) ∧ L.length ≤ d ∧ d ≤ 9223372036854775807 ∧ Tab w g L ∧ base ≤ g ∧ g < w.heap.size ∧
      ∀ (x : E2) (w' : World), Below w.heap.size w w' → OwR ((w'.setCell ⟨g, 2, none⟩ (.int .u64 (vF x.A))).setCell ⟨g, 3, none⟩ (.int .u64 (vF x.B))) base (.slice A n c) n (L.set 1 x :: Ps) := by
  obtain ⟨vals, h1, h2, h3, h4⟩ := h
  obtain ⟨B, m, d, k1, k2, k3⟩ := h3 0 L rfl
  have hm := k2.len
  obtain ⟨g, d', e, hb, hd, ht, hT⟩ := k2.tab (by omega)
  injection e with e1 e2 e3
  subst e1
  subst e3
  rcases h1.2 with ⟨e, e0⟩ | ⟨q, cap, cur, e, _, hq, _, _, _, hr⟩
  · simp at h2; omega
  · injection e with e1 e2 e3
    subst e1
    refine ⟨q, g, d, rfl, by rw [← hm]; exact row_cell hq hr k1, by omega, ht, hT, hb, hT.lt, fun x w' hw => ?_⟩
    exact OwR.other h1 h2 h3 h4 k1 (grown_two (grown_of_below hw) 2 3 _ _) (ow_set6 (k2.keep hw) 1 x)

theorem OwE.low {w : World} {base base' : Nat} {v : Value} {n : Nat} {xs : List E2} (h : OwE w base v n xs) (e : base' ≤ base) : OwE w base' v n xs :=
  ⟨h.1, h.2.imp id fun ⟨g1, cap1, cur1, e1, e2, e3⟩ => ⟨g1, cap1, cur1, e1, by omega, e3⟩⟩
theorem lt_alloc (W : World) (o : Obj) : W.heap.size < (W.alloc o).drew.heap.size := by
  show W.heap.size < (W.alloc o).heap.size
  rw [World.size_alloc]
  omega

end Go.Proofs.Ytombcjdhjcmhhaa

/- Own lists of tables and of terms, grown by one element; blocks of five cells; no conditions but lengths. -/
namespace Go.Proofs.Ytombcjdhjcmhhaa
set_option maxRecDepth 8000
open Go.RowKit Gold

/-- a block of five cells -/
def Five (W : World) (b : Nat) (t : TypeId) (u v x y z : Value) : Prop := W.heap[b]? = some (.cells #[u, v, x, y, z] t (0, 0))
section
variable {W W1 : World} {b : Nat} {t : TypeId} {u v x y z : Value}
theorem Five.c0 (h : Five W b t u v x y z) : W.cell? ⟨b, 0, none⟩ = some u := by simp [World.cell?, show W.heap[b]? = _ from h]
theorem Five.c1 (h : Five W b t u v x y z) : W.cell? ⟨b, 1, none⟩ = some v := by simp [World.cell?, show W.heap[b]? = _ from h]
theorem Five.c2 (h : Five W b t u v x y z) : W.cell? ⟨b, 2, none⟩ = some x := by simp [World.cell?, show W.heap[b]? = _ from h]
theorem Five.c3 (h : Five W b t u v x y z) : W.cell? ⟨b, 3, none⟩ = some y := by simp [World.cell?, show W.heap[b]? = _ from h]
theorem Five.c4 (h : Five W b t u v x y z) : W.cell? ⟨b, 4, none⟩ = some z := by simp [World.cell?, show W.heap[b]? = _ from h]
theorem Five.lt (h : Five W b t u v x y z) : b < W.heap.size := (Array.getElem?_eq_some_iff.1 h).1
theorem Five.keep (h : Five W b t u v x y z) (hb : Below W.heap.size W W1) : Five W1 b t u v x y z := heap_keep h hb
theorem five_below {N : Nat} {A B : World} (h : Five A b t u v x y z) (hb : Below N A B) (hN : b < N) : Five B b t u v x y z := (hb.block b hN).trans h
end
theorem tri_below {N : Nat} {A B : World} {b : Nat} {t : TypeId} {u v z : Value} (h : Tri A b t u v z) (hb : Below N A B) (hN : b < N) : Tri B b t u v z := (hb.block b hN).trans h
theorem Tri.set2 {w : World} {b : Nat} {t : TypeId} {u v z : Value} (h : Tri w b t u v z) (x : Value) : Tri (w.setCell ⟨b, 2, none⟩ x) b t u v x := by
  have k := heap_setCell_at (i := 2) (show w.heap[b]? = some (.cells #[u, v, z] t (0, 0)) from h) x
  exact k
theorem Tri.far {w : World} {b : Nat} {t : TypeId} {u v z : Value} (h : Tri w b t u v z) {a : Addr} (x : Value) (hne : b ≠ a.block) : Tri (w.setCell a x) b t u v z := (Below.heap_setCell w a x b hne).trans h

/-! ### Own lists that lie as they lay -/
theorem ownsRow_same {w w' : World} {base : Nat} {e : TypeId} {size : Nat} {v : Value} {n : Nat} {xs : List Value} (h : w.ownsRow base e size v n xs) (hs : ∀ b, base ≤ b → b < w.heap.size → w'.heap[b]? = w.heap[b]?) : w'.ownsRow base e size v n xs := by
  refine ⟨h.1, ?_⟩
  have hl := World.ownsRow.lt h
  rcases h.2 with hn | ⟨g, cap, cur, rfl, hbs, hgg, rest⟩
  · exact .inl hn
  · exact .inr ⟨g, cap, cur, rfl, hbs, (hs g (hl g rfl).1 (hl g rfl).2).trans hgg, rest⟩
theorem OwR.same {w w' : World} {base : Nat} {v : Value} {n : Nat} {Ps : List (List E2)} (h : OwR w base v n Ps) (hs : ∀ b, base ≤ b → b < w.heap.size → w'.heap[b]? = w.heap[b]?) : OwR w' base v n Ps := by
  obtain ⟨vals, h1, h2, h3, h4⟩ := h
  refine ⟨vals, ownsRow_same h1 hs, h2, fun i L hL => ?_, h4⟩
  obtain ⟨B, m, d, k1, k2, k3⟩ := h3 i L hL
  exact ⟨B, m, d, k1, ownsRow_same k2 hs, k3⟩
theorem OwR.nil (w : World) (base : Nat) : OwR w base (.slice none 0 0) 0 [] := ⟨[], ⟨rfl, .inl ⟨rfl, rfl⟩⟩, rfl, fun i L hL => by simp at hL, fun i j x y p q _ hx => by simp at hx⟩
theorem OwR.far {w : World} {base : Nat} {v : Value} {n : Nat} {Ps : List (List E2)} (h : OwR w base v n Ps) {a : Addr} (x : Value) (e : a.block < base) : OwR (w.setCell a x) base v n Ps :=
  h.same fun b hb _ => Below.heap_setCell w a x b (by omega)

/-! ### append(tables, table) in a region that draws its order -/
theorem hOp_appendT {o : Oper} {a : Act} {w : World} {K : Value → World → Prop} (w0 : World) (s x : Operand)
    (ho : o.op = .call { callee := .builtin .append, args := #[s, x], argTypes := #[27, 27] }) (base : Nat) (v : Value) (n : Nat) (Ps : List (List E2)) (hs : a.eval s = v) (hown : OwR w0 base v n Ps) (hb0 : Below w0.heap.size w0 w)
    (g c : Nat) (B : Option Addr) (m d : Nat) (L : List E2) (hx : a.eval x = .slice (some ⟨g, 0, none⟩) 1 c) (hy : One w g 22 (.slice B m d)) (hl : OwE w w0.heap.size (.slice B m d) m L) (hn : n ≤ 65536) (hbase : base ≤ w0.heap.size)
    (h : ∀ v' w', OwR w' base v' (n + 1) (Ps ++ [L]) → w.grownBy w' v.ownBlock → K v' w') : hOp Try.prog o K a w := by
  obtain ⟨i, hi, hz, hs2, hb⟩ := info_parts exts_info
  obtain ⟨vals, h1, h2, h3, h4⟩ := hown
  have hvl := OwR.vlen h1
  obtain ⟨g', cap, w', hrun, hown', hg, hat, hlt⟩ := run_append_lies (P := Try.prog) w 27 o.type base 22 i (.slice none 0 0) 1 24 Try.underlying27 hi hz hs2 hb rfl (by omega) v n vals (ownsRow_keep h1 hb0) ⟨g, 0, none⟩ 1 c [.slice B m d] rfl
    (by
      intro j u hj
      rw [add_base]
      match j, hj with
      | 0, hj => injection hj with hj; subst hj; exact hy.c
      | j + 1, hj => simp at hj)
    (by
      intro u hu
      simp at hu
      subst hu
      rfl) (by omega) (by unfold maxLen; omega) (by omega) (by have := hb0.size; omega) w.heap.size rfl
  unfold hOp execOp
  simp only [ho, resolve, invoke, builtin, Sem.run_bind, Sem.run_pure, Result.andThen_ok, List.map_toArray, List.map_cons, List.map_nil, hs, hx, hrun]
  have hold : ∀ q, v.ownBlock = some q → q < w0.heap.size := fun q hq => (World.ownsRow.lt h1 q hq).2
  have hnew : ∀ q, (Value.slice B m d).ownBlock = some q → w0.heap.size ≤ q ∧ q < w.heap.size := fun q hq => World.ownsRow.lt hl q hq
  refine h _ w' ⟨vals ++ [.slice B m d], hown', by simp [h2], fun k M hM => ?_, fun k j x y p q hkj hx hy hp hq => ?_⟩ hg
  · by_cases hk : k < n
    · rw [List.getElem?_append_left (by omega)] at hM
      obtain ⟨B', m', d', k1, k2, k3⟩ := h3 k M hM
      refine ⟨B', m', d', by rw [List.getElem?_append_left (by omega)]; exact k1, (k2.keep hb0).grownO hg (fun q hq => k3 q hq), fun q hq e => ?_⟩
      injection e with e
      rcases hat with hat | hat
      · exact k3 q hq (by rw [hat, ← e])
      · have := (World.ownsRow.lt k2 q hq).2
        have := hb0.size
        have e' : g' = q := e
        omega
    · rw [List.getElem?_append_right (by omega)] at hM
      have hk0 : k - Ps.length = 0 := by
        have := (List.getElem?_eq_some_iff.1 hM).1
        simp at this
        omega
      rw [hk0] at hM
      injection hM with hM
      subst hM
      refine ⟨B, m, d, by rw [List.getElem?_append_right (by omega), hvl, ← h2, hk0]; rfl, ?_, fun q hq e => ?_⟩
      · have k := hl.grownO hg (fun q hq e => by have := hold q e; have := (hnew q hq).1; omega)
        refine ⟨k.1, k.2.imp id fun ⟨g1, cap1, cur1, e1, e2, e3⟩ => ⟨g1, cap1, cur1, e1, by omega, e3⟩⟩
      · injection e with e
        have e' : g' = q := e
        rcases hat with hat | hat
        · have := hold g' hat
          have := (hnew q hq).1
          omega
        · have := (hnew q hq).2
          omega
  · have hj : j < n + 1 := by
      have := (List.getElem?_eq_some_iff.1 hy).1
      simp at this
      omega
    rw [List.getElem?_append_left (by omega)] at hx
    by_cases hjn : j < n
    · rw [List.getElem?_append_left (by omega)] at hy
      exact h4 k j x y p q hkj hx hy hp hq
    · rw [List.getElem?_append_right (by omega), show j - vals.length = 0 by omega] at hy
      injection hy with hy
      subst hy
      have h5 := (hnew q hq).1
      obtain ⟨M, hM⟩ : ∃ M, Ps[k]? = some M := ⟨Ps[k]'(by omega), List.getElem?_eq_getElem _⟩
      obtain ⟨B', m', d', k1, k2, _⟩ := h3 k M hM
      rw [k1] at hx
      injection hx with hx
      subst hx
      have := (World.ownsRow.lt k2 p hp).2
      omega
theorem run_buildT {ev : Operand → Value} {o : Oper} {x : Operand} (A : Option Addr) (n c : Nat) (ho : o.op = .buildSlice 27 1 #[(0, x)]) (hx : ev x = .slice A n c) (w : World) :
    (execOp ev o).run Try.prog w = .ok (.value (.slice (some ⟨w.heap.size, 0, none⟩) 1 1)) (w.alloc (.cells #[.slice A n c] 22)) := by
  unfold execOp
  rw [ho]
  simp only [List.map_toArray, List.map_cons, List.map_nil, hx]
  go_simp
theorem run_buildI {ev : Operand → Value} {o : Oper} {x : Operand} (z : Int) (ho : o.op = .buildSlice 63 1 #[(0, x)]) (hx : ev x = .int .i64 z) (w : World) :
    (execOp ev o).run Try.prog w = .ok (.value (.slice (some ⟨w.heap.size, 0, none⟩) 1 1)) (w.alloc (.cells #[.int .i64 z] 3)) := by
  unfold execOp
  rw [ho]
  simp only [List.map_toArray, List.map_cons, List.map_nil, hx]
  go_simp
theorem run_storeTs {ev : Operand → Value} {o : Oper} {p x : Operand} {u1 u2 : Value} {w : World} {t : TypeId} (b : Nat) (v : Value) (hv : ∃ A n c, v = .slice A n c) (ho : o.op = .store 27 p x) (hp : ev p = .pointer (some ⟨b, 0, none⟩)) (hx : ev x = v) (h : Two w b t u1 u2) :
    (execOp ev o).run Try.prog w = .ok .skip (w.setCell ⟨b, 0, none⟩ v) := by
  obtain ⟨A, n, c, rfl⟩ := hv
  have c0 := h.c0
  have f0 := h.f0
  unfold execOp
  rw [ho]
  simp only [hp, hx]
  go_simp
theorem run_storeIs {ev : Operand → Value} {o : Oper} {p x : Operand} {u1 u2 u3 : Value} {w : World} {t : TypeId} (b : Nat) (v : Value) (hv : ∃ A n c, v = .slice A n c) (ho : o.op = .store 63 p x) (hp : ev p = .pointer (some ⟨b, 2, none⟩)) (hx : ev x = v) (h : Tri w b t u1 u2 u3) :
    (execOp ev o).run Try.prog w = .ok .skip (w.setCell ⟨b, 2, none⟩ v) := by
  obtain ⟨A, n, c, rfl⟩ := hv
  have c0 := h.c2
  have f0 := h.f2
  unfold execOp
  rw [ho]
  simp only [hp, hx]
  go_simp
theorem hOp_appendI {o : Oper} {a : Act} {w : World} {K : Value → World → Prop} (s x : Operand)
    (ho : o.op = .call { callee := .builtin .append, args := #[s, x], argTypes := #[63, 63] }) (base : Nat) (v : Value) (n : Nat) (ls : List Nat) (hs : a.eval s = v) (hown : OwI w base v n ls)
    (g c : Nat) (k : Nat) (hx : a.eval x = .slice (some ⟨g, 0, none⟩) 1 c) (hy : One w g 3 (.int .i64 (k : Int))) (hn : n ≤ 65536) (hbase : base ≤ w.heap.size)
    (h : ∀ v' w', OwI w' base v' (n + 1) (ls ++ [k]) → w.grownBy w' v.ownBlock → K v' w') : hOp Try.prog o K a w := by
  obtain ⟨i, hi, hz, hs2, hb⟩ := info_parts int_info
  obtain ⟨v', w', hrun, hown', hg, _⟩ := run_append_own (P := Try.prog) w base 63 o.type 3 i (.int .i64 0) 1 8 Try.underlying63 hi hz hs2 hb rfl (by omega) v n _ hown ⟨g, 0, none⟩ 1 c [.int .i64 (k : Int)] rfl
    (by
      intro j u hj
      rw [add_base]
      match j, hj with
      | 0, hj => injection hj with hj; subst hj; exact hy.c
      | j + 1, hj => simp at hj)
    (by
      intro u hu
      simp at hu
      subst hu
      rfl)
    (by unfold maxLen; omega) (by omega) hbase
  unfold hOp execOp
  simp only [ho, resolve, invoke, builtin, Sem.run_bind, Sem.run_pure, Result.andThen_ok, List.map_toArray, List.map_cons, List.map_nil, hs, hx, hrun]
  refine h v' w' ?_ hg
  unfold OwI
  rw [List.map_append]
  exact hown'

/-! ### Own lists of terms -/
theorem OwI.far {w : World} {base : Nat} {v : Value} {n : Nat} {ls : List Nat} (h : OwI w base v n ls) {a : Addr} (x : Value) (e : a.block < base) : OwI (w.setCell a x) base v n ls :=
  ownsRow_setCell h x (fun k => by have := (World.ownsRow.lt h _ k).1; omega)
theorem OwI.grownO {w w' : World} {base : Nat} {v : Value} {n : Nat} {xs : List Nat} (h : OwI w base v n xs) {row : Option Nat} (hg : w.grownBy w' row) (e : ∀ q, v.ownBlock = some q → row ≠ some q) : OwI w' base v n xs := by
  refine ⟨h.1, ?_⟩
  rcases h.2 with hn | ⟨g, cap, cur, hv, hbs, hgg, rest⟩
  · exact .inl hn
  · refine .inr ⟨g, cap, cur, hv, hbs, (hg.block g (Array.getElem?_eq_some_iff.1 hgg).1 (fun k => e g (by rw [hv]; rfl) k.symm)).trans hgg, rest⟩
theorem OwI.siZ {w : World} {base : Nat} {A : Option Addr} {n c : Nat} {ls : List Nat} (h : OwI w base (.slice A n c) n ls) : SiZ w A n c (ls.map fun k : Nat => (k : Int)) := by
  obtain ⟨A', c', e, hs⟩ := h.si
  injection e with e1 e2 e3
  subst e1
  subst e3
  refine ⟨by rw [List.length_map]; exact hs.len, hs.cap, hs.top, ?_, fun i z hz => ?_⟩
  · intro e
    rcases h.2 with ⟨e1, _⟩ | ⟨g, cap, cur, e1, _⟩
    · injection e1
    · injection e1 with e1
      rw [e] at e1
      cases e1
  · rw [List.getElem?_map] at hz
    cases hk : ls[i]? with
    | none => rw [hk] at hz; cases hz
    | some k =>
      rw [hk] at hz
      injection hz with hz
      subst hz
      exact hs.cells i k hk
/-- the cells of a term -/
def tmC (t : Tm) (s : Value) : List Value := [.int .u64 (vF t.1.A), .int .u64 (vF t.1.B), s]
/-- a list of terms of the call's own; their lists of indices are the call's own too -/
def OwM3 (w : World) (base : Nat) (v : Value) (n : Nat) (ts : List Tm) : Prop :=
  ∃ ss : List Value, ss.length = n ∧ w.ownsRow base 65 3 v n ((List.zipWith tmC ts ss).flatten) ∧ ts.length = n ∧
    ∀ (i : Nat) (t : Tm), ts[i]? = some t → ∃ B m d, ss[i]? = some (Value.slice B m d) ∧ OwI w base (.slice B m d) m t.2 ∧ ∀ q, (Value.slice B m d).ownBlock = some q → v.ownBlock ≠ some q
theorem OwM3.nil (w : World) (base : Nat) : OwM3 w base (.slice none 0 0) 0 [] := ⟨[], rfl, ⟨rfl, .inl ⟨rfl, rfl⟩⟩, rfl, fun i L hL => by simp at hL⟩
theorem OwM3.same {w w' : World} {base : Nat} {v : Value} {n : Nat} {ts : List Tm} (h : OwM3 w base v n ts) (hs : ∀ b, base ≤ b → b < w.heap.size → w'.heap[b]? = w.heap[b]?) : OwM3 w' base v n ts := by
  obtain ⟨ss, h0, h1, h2, h3⟩ := h
  refine ⟨ss, h0, ownsRow_same h1 hs, h2, fun i t ht => ?_⟩
  obtain ⟨B, m, d, k1, k2, k3⟩ := h3 i t ht
  exact ⟨B, m, d, k1, ownsRow_same k2 hs, k3⟩
theorem OwM3.keep {w w' : World} {base : Nat} {v : Value} {n : Nat} {ts : List Tm} (h : OwM3 w base v n ts) (hb : Below w.heap.size w w') : OwM3 w' base v n ts := h.same fun b _ hb' => hb.block b hb'
theorem OwM3.far {w : World} {base : Nat} {v : Value} {n : Nat} {ts : List Tm} (h : OwM3 w base v n ts) {a : Addr} (x : Value) (e : a.block < base) : OwM3 (w.setCell a x) base v n ts :=
  h.same fun b hb _ => Below.heap_setCell w a x b (by omega)
theorem flat_get : ∀ (ts : List Tm) (ss : List Value), ts.length = ss.length → ∀ (i : Nat) (t : Tm) (s : Value), ts[i]? = some t → ss[i]? = some s → ∀ k, k < 3 → ((List.zipWith tmC ts ss).flatten)[i * 3 + k]? = (tmC t s)[k]?
  | [], _, _, _, _, _, h, _, _, _ => by cases h
  | _ :: _, [], h, _, _, _, _, _, _, _ => by cases h
  | t0 :: ts, s0 :: ss, h, i, t, s, ht, hs, k, hk => by
    rw [List.zipWith_cons_cons, List.flatten_cons]
    match i, ht, hs with
    | 0, ht, hs =>
      injection ht with ht
      injection hs with hs
      subst ht
      subst hs
      rw [List.getElem?_append_left (by unfold tmC; simp; omega), Nat.zero_mul, Nat.zero_add]
    | i + 1, ht, hs =>
      rw [List.getElem?_append_right (by unfold tmC; simp; omega), show (i + 1) * 3 + k - (tmC t0 s0).length = i * 3 + k by unfold tmC; simp; omega]
      exact flat_get ts ss (by simpa using h) i t s ht hs k hk
theorem OwM3.shape {w : World} {base : Nat} {v : Value} {n : Nat} {ts : List Tm} (h : OwM3 w base v n ts) : ∃ A c, v = .slice A n c ∧ n ≤ c ∧ c ≤ 9223372036854775807 := by
  obtain ⟨ss, _, h1, _⟩ := h
  rcases h1.2 with ⟨rfl, rfl⟩ | ⟨g, cap, cur, rfl, _, _, hc, hm, _⟩
  · exact ⟨none, 0, rfl, Nat.le_refl _, Nat.zero_le _⟩
  · exact ⟨_, cap, rfl, hc, by unfold maxLen at hm; omega⟩
theorem OwM3.tm {w : World} {base : Nat} {A : Option Addr} {n c : Nat} {ts : List Tm} (h : OwM3 w base (.slice A n c) n ts) : TM w A n c ts := by
  obtain ⟨A', c', e, h5, h6⟩ := h.shape
  injection e with e1 e2 e3
  subst e1
  subst e3
  obtain ⟨ss, h0, h1, h2, h3⟩ := h
  refine ⟨by unfold rawT; rw [List.length_map]; exact h2.symm, h5, h6, fun i p hp => ?_⟩
  unfold rawT at hp
  rw [List.getElem?_map] at hp
  cases ht : ts[i]? with
  | none => rw [ht] at hp; cases hp
  | some t =>
    rw [ht] at hp
    injection hp with hp
    subst hp
    obtain ⟨B, m, d, k1, k2, _⟩ := h3 i t ht
    have hi : i < n := by rw [← h2]; exact (List.getElem?_eq_some_iff.1 ht).1
    rcases h1.2 with ⟨e, e0⟩ | ⟨g, cap, cur, e, _, hg, _, _, _, hT⟩
    · omega
    · injection e with e1 e2 e3
      subst e1
      have hf := flat_get ts ss (by omega) i t _ ht k1
      refine ⟨_, B, m, d, rfl, ⟨?_, ?_, ?_⟩, k2.siZ⟩
      · rw [add_base]
        exact row_cell hg hT (by have := hf 0 (by omega); rw [Nat.add_zero] at this; rw [this]; rfl)
      · rw [add_base]
        exact row_cell hg hT (by rw [hf 1 (by omega)]; rfl)
      · rw [add_base]
        exact row_cell hg hT (by rw [hf 2 (by omega)]; rfl)
theorem term_info : (Try.prog.info? 65).map (fun i => (i.zero, i.size, i.bytes)) = some (some (.agg #[.int .u64 0, .int .u64 0, .slice none 0 0]), 3, 40) := by kernel_rfl
/-- append(terms, term) -/
theorem wpList_appendM {ops : Array Oper} {rest : List Oper} {o : Oper} {a : Act} {Q : Exit → Act → World → Prop} {w : World} (w0 : World) (hgd : o.guard = none) (s x : Operand)
    (ho : o.op = .call { callee := .builtin .append, args := #[s, x], argTypes := #[28, 28] }) (base : Nat) (v : Value) (n : Nat) (ts : List Tm) (hs : a.eval s = v) (hown : OwM3 w0 base v n ts) (hb0 : Below w0.heap.size w0 w)
    (g c : Nat) (B : Option Addr) (m d : Nat) (t : Tm) (hx : a.eval x = .slice (some ⟨g, 0, none⟩) 1 c) (hy : Tri w g 65 (.int .u64 (vF t.1.A)) (.int .u64 (vF t.1.B)) (.slice B m d)) (hl : OwI w w0.heap.size (.slice B m d) m t.2) (hn : n ≤ 65536) (hbase : base ≤ w0.heap.size)
    (h : ∀ v' w', OwM3 w' base v' (n + 1) (ts ++ [t]) → w.grownBy w' v.ownBlock → wpList Try.prog ops Q rest (a.put o.dst v') w') : wpList Try.prog ops Q (o :: rest) a w := by
  obtain ⟨i, hi, hz, hs2, hb⟩ := info_parts term_info
  obtain ⟨ss, h0, h1, h2, h3⟩ := hown
  refine wpList_append_lies w hgd s x 28 ho base 65 i (.agg #[.int .u64 0, .int .u64 0, .slice none 0 0]) 3 40 Try.underlying28 hi hz hs2 hb rfl (by omega) v n _ hs (ownsRow_keep h1 hb0) ⟨g, 0, none⟩ 1 c (tmC t (.slice B m d)) hx rfl ?_ ?_ (by omega) (by unfold maxLen; omega) (by omega) (by have := hb0.size; omega) w.heap.size rfl ?_
  · intro j u hj
    rw [add_base]
    match j, hj with
    | 0, hj => injection hj with hj; subst hj; exact hy.c0
    | 1, hj => injection hj with hj; subst hj; exact hy.c1
    | 2, hj => injection hj with hj; subst hj; exact hy.c2
    | j + 3, hj => simp [tmC] at hj
  · intro u hu
    simp [tmC] at hu
    rcases hu with rfl | rfl | rfl <;> rfl
  · intro g' cap w' hown' hg hat hlt
    have hold : ∀ q, v.ownBlock = some q → q < w0.heap.size := fun q hq => (World.ownsRow.lt h1 q hq).2
    have hnew : ∀ q, (Value.slice B m d).ownBlock = some q → w0.heap.size ≤ q ∧ q < w.heap.size := fun q hq => World.ownsRow.lt hl q hq
    have hzip : List.zipWith tmC (ts ++ [t]) (ss ++ [.slice B m d]) = List.zipWith tmC ts ss ++ [tmC t (.slice B m d)] := by
      rw [List.zipWith_append (by omega)]
      rfl
    refine h _ w' ⟨ss ++ [.slice B m d], by simp [h0], by rw [hzip, List.flatten_append, List.flatten_cons, List.flatten_nil, List.append_nil]; exact hown', by simp [h2], fun k M hM => ?_⟩ hg
    by_cases hk : k < n
    · rw [List.getElem?_append_left (by omega)] at hM
      obtain ⟨B', m', d', k1, k2, k3⟩ := h3 k M hM
      refine ⟨B', m', d', by rw [List.getElem?_append_left (by omega)]; exact k1, OwI.grownO (k2.keep hb0) hg (fun q hq => k3 q hq), fun q hq e => ?_⟩
      injection e with e
      rcases hat with hat | hat
      · exact k3 q hq (by rw [hat, ← e])
      · have := (World.ownsRow.lt k2 q hq).2
        have := hb0.size
        have e' : g' = q := e
        omega
    · rw [List.getElem?_append_right (by omega)] at hM
      have hk0 : k - ts.length = 0 := by
        have := (List.getElem?_eq_some_iff.1 hM).1
        simp at this
        omega
      rw [hk0] at hM
      injection hM with hM
      subst hM
      refine ⟨B, m, d, by rw [List.getElem?_append_right (by omega), h0, ← h2, hk0]; rfl, ?_, fun q hq e => ?_⟩
      · have k := OwI.grownO hl hg (fun q hq e => by have := hold q e; have := (hnew q hq).1; omega)
        refine ⟨k.1, k.2.imp id fun ⟨g1, cap1, cur1, e1, e2, e3⟩ => ⟨g1, cap1, cur1, e1, by omega, e3⟩⟩
      · injection e with e
        have e' : g' = q := e
        rcases hat with hat | hat
        · have := hold g' hat
          have := (hnew q hq).1
          omega
        · have := (hnew q hq).2
          omega

end Go.Proofs.Ytombcjdhjcmhhaa

/- Contract of the reference's Made of package attestorref06: it answers a valid sum of three tables and at most four terms; no conditions. -/
namespace Go.Proofs.Ytombcjdhjcmhhaa
set_option maxRecDepth 8000
open Go.RowKit Gold

/-- raw terms -/
structure RawT where
  a : Int
  b : Int
  t0 : Int
  t1 : Int
  t2 : Int
  n : Int
def RawT.t (r : RawT) (k : Nat) : Int := if k = 0 then r.t0 else if k = 1 then r.t1 else r.t2
def U8 (x : Int) : Prop := 0 ≤ x ∧ x ≤ 255
structure RawT.ok (r : RawT) : Prop where
  a : U64 r.a
  b : U64 r.b
  t0 : U8 r.t0
  t1 : U8 r.t1
  t2 : U8 r.t2
  n : U8 r.n
structure SlK (w : World) (A : Option Addr) (n c : Nat) (rs : List RawT) : Prop where
  len : n = rs.length
  cap : n ≤ c
  top : c ≤ 9223372036854775807
  cells : ∀ i r, rs[i]? = some r → ∃ ad, A = some ad ∧ w.cell? (ad.add (i * 6)) = some (.int .u64 r.a) ∧ w.cell? ⟨(ad.add (i * 6)).block, (ad.add (i * 6)).off + 1, none⟩ = some (.int .u64 r.b) ∧
    (∀ k, k < 3 → w.cell? ⟨(ad.add (i * 6)).block, (ad.add (i * 6)).off + 2 + k, none⟩ = some (.int .u8 (r.t k))) ∧ w.cell? ⟨(ad.add (i * 6)).block, (ad.add (i * 6)).off + 5, none⟩ = some (.int .u8 r.n)
theorem SlK.get {w : World} {A : Option Addr} {n c : Nat} {rs : List RawT} {i : Nat} (h : SlK w A n c rs) (hi : i < n) : ∃ x, rs[i]? = some x := ⟨rs[i]'(by have := h.len; omega), List.getElem?_eq_getElem _⟩

theorem two_grownR {w w' : World} {b B : Nat} {t : TypeId} {u1 u2 v : Value} (h : Two w b t u1 u2) (hg : w.grownBy w' v.ownBlock) (hl : ∀ q, v.ownBlock = some q → B ≤ q) (hb : b < B) : Two w' b t u1 u2 :=
  (hg.block b h.lt (fun k => by have := hl b k.symm; omega)).trans h
theorem five_grownR {w w' : World} {b B : Nat} {t : TypeId} {u1 u2 u3 u4 u5 v : Value} (h : Five w b t u1 u2 u3 u4 u5) (hg : w.grownBy w' v.ownBlock) (hl : ∀ q, v.ownBlock = some q → B ≤ q) (hb : b < B) : Five w' b t u1 u2 u3 u4 u5 :=
  (hg.block b h.lt (fun k => by have := hl b k.symm; omega)).trans h
theorem tri_grownR {w w' : World} {b B : Nat} {t : TypeId} {u1 u2 u3 v : Value} (h : Tri w b t u1 u2 u3) (hg : w.grownBy w' v.ownBlock) (hl : ∀ q, v.ownBlock = some q → B ≤ q) (hb : b < B) : Tri w' b t u1 u2 u3 :=
  (hg.block b h.lt (fun k => by have := hl b k.symm; omega)).trans h
theorem Five.far {w : World} {b : Nat} {t : TypeId} {u v x y z : Value} (h : Five w b t u v x y z) {a : Addr} (c : Value) (hne : b ≠ a.block) : Five (w.setCell a c) b t u v x y z := (Below.heap_setCell w a c b hne).trans h

theorem OwI.low {w : World} {base base' : Nat} {v : Value} {n : Nat} {xs : List Nat} (h : OwI w base v n xs) (e : base' ≤ base) : OwI w base' v n xs :=
  ⟨h.1, h.2.imp id fun ⟨g1, cap1, cur1, e1, e2, e3⟩ => ⟨g1, cap1, cur1, e1, by omega, e3⟩⟩
theorem OwM3.lt {w : World} {base : Nat} {v : Value} {n : Nat} {ts : List Tm} (h : OwM3 w base v n ts) : ∀ q, v.ownBlock = some q → base ≤ q := by
  obtain ⟨ss, _, h1, _⟩ := h
  exact fun q hq => (World.ownsRow.lt h1 q hq).1
theorem OwM3.len {w : World} {base : Nat} {v : Value} {n : Nat} {ts : List Tm} (h : OwM3 w base v n ts) : ts.length = n := by
  obtain ⟨ss, _, _, h2, _⟩ := h
  exact h2

set_option maxHeartbeats 8000000 in
theorem rSumMade_any (A0 A1 A2 B : Option Addr) (n0 c0 n1 c1 n2 c2 m e : Nat) (q0 q1 q2 : List (Int × Int)) (rs : List RawT) (N : Int) (K : Nat) (w : World) (hK : K ≤ 5) (hN : U8 N)
    (h0 : Sr w A0 n0 c0 q0) (h1 : Sr w A1 n1 c1 q1) (h2 : Sr w A2 n2 c2 q2) (w0 : Nums q0) (w1 : Nums q1) (w2 : Nums q2) (hR : SlK w B m e rs) (wR : ∀ r ∈ rs, r.ok) :
    Calls Try.prog 12 #[.agg #[.slice A0 n0 c0, .slice A1 n1 c1, .slice A2 n2 c2, .slice B m e, .int .u8 N], .int .i64 K] w fun e w' => ∃ A c B' m' c' Ls ts d, e = .returned (.agg #[.slice A 3 c, .slice B' m' c']) ∧ ST w' A 3 c Ls ∧ TM w' B' m' c' ts ∧ OkS Ls ts d ∧ d ≤ K ∧ Ls.length = 3 ∧ ts.length ≤ 4 ∧ Below w.heap.size w w' := by
  have hcap := hR.cap
  have htop := hR.top
  have H0 := Lib.hid h0
  have H1 := Lib.hid h1
  have H2 := Lib.hid h2
  have W0 := Lib.hid w0
  have W1 := Lib.hid w1
  have W2 := Lib.hid w2
  have HR := Lib.hid hR
  have WR := Lib.hid wR
  have hN0 := hN.1
  have hN1 := hN.2
  clear h0 h1 h2 w0 w1 w2 hR wR hN
  go_enter Try.func12, Try.ntmps12
  go_wp2_with fail
  obtain ⟨d, hd, hdK⟩ : ∃ d : Nat, N % ((K : Int) + 1) = (d : Int) ∧ d ≤ K := ⟨(N % ((K : Int) + 1)).toNat, by have := Int.emod_nonneg N (show (K : Int) + 1 ≠ 0 by omega); omega, by have := Int.emod_lt_of_pos N (show (0 : Int) < (K : Int) + 1 by omega); omega⟩
  rw [hd]
  refine wp_named3 (fun V hb g0 g1 g2 hz => ?_)
  have XR := Lib.hid (show Five V w.heap.size 26 (.slice A0 n0 c0) (.slice A1 n1 c1) (.slice A2 n2 c2) (.slice B m e) (.int .u8 N) from g0)
  have XO := Lib.hid (show Two V (w.heap.size + 1) 30 (.slice none 0 0) (.slice none 0 0) from g1)
  have XS := Lib.hid (show Two V (w.heap.size + 1 + 1) 30 (.slice none 0 0) (.slice none 0 0) from g2)
  have hVz : w.heap.size + 1 + 1 < V.heap.size := XS.out.lt
  have HB := Lib.hid hb
  have h2d : 2 ^ d ≤ 65536 := Nat.le_trans (Nat.pow_le_pow_right (by omega) (show d ≤ 16 by omega)) (by decide)
  obtain ⟨M, hM⟩ : ∃ M : Nat, 2 ^ d = M := ⟨_, rfl⟩
  have HM := Lib.hid hM
  have HMs := Lib.hid (hM ▸ h2d)
  clear hb g0 g1 g2 h2d
  go_loopw [7] (fun s wr => ∃ (k : Nat) (v : Value) (Ps : List (List E2)), k ≤ 3 ∧ s = .int .i64 k ∧ OwR wr V.heap.size v k Ps ∧ (∀ L ∈ Ps, L.length = M) ∧ Two wr (w.heap.size + 1 + 1) 30 v (.slice none 0 0) ∧ Two wr (w.heap.size + 1) 30 (.slice none 0 0) (.slice none 0 0) ∧ Five wr w.heap.size 26 (.slice A0 n0 c0) (.slice A1 n1 c1) (.slice A2 n2 c2) (.slice B m e) (.int .u8 N) ∧ Below w.heap.size w wr ∧ V.heap.size ≤ wr.heap.size) (fun s _ => 3 - (intOf s).toNat)
  case atStart => exact ⟨0, _, [], Nat.zero_le _, rfl, OwR.nil _ _, (fun L hL => by cases hL), XS.out, XO.out, XR.out, HB.out, Nat.le_refl _⟩
  case round =>
    obtain ⟨k, v, Ps, hk, rfl, ho, hPs, hs, hr, hx, hb, hV⟩ := hrel
    clear XR XO XS HB
    have HO := Lib.hid ho
    have HP := Lib.hid hPs
    have HS := Lib.hid hs
    have HR2 := Lib.hid hr
    have HX := Lib.hid hx
    have HBr := Lib.hid hb
    clear ho hs hr hx hb hPs
    by_cases hk3 : k < 3
    · have hk3' : (k : Int) < 3 := by omega
      obtain ⟨Aq, nq, cq, q, hcell, hsr, hnq⟩ : ∃ Aq nq cq q, wr.cell? ⟨w.heap.size, k, none⟩ = some (.slice Aq nq cq) ∧ Sr wr Aq nq cq q ∧ Nums q := by
        match k, hk3 with
        | 0, _ => exact ⟨_, _, _, q0, HX.out.c0, Sr.keep H0.out HBr.out, W0.out⟩
        | 1, _ => exact ⟨_, _, _, q1, HX.out.c1, Sr.keep H1.out HBr.out, W1.out⟩
        | 2, _ => exact ⟨_, _, _, q2, HX.out.c2, Sr.keep H2.out HBr.out, W2.out⟩
      have HQ := Lib.hid hsr
      have HNQ := Lib.hid hnq
      have hw : IntKind.i64.wrap (2 ^ d) = (M : Int) := by
        rw [← HM.out, show ((2 : Int) ^ d) = ((2 ^ d : Nat) : Int) by rw [Int.natCast_pow]; rfl]
        exact IntWalk.i64_in _ (by have := HMs.out; have := HM.out; omega)
      have hw' : wrap64 (2 ^ d) = (M : Int) := by rw [← HM.out]; exact wrap_pow2 (by omega)
      have hvs := HO.out.shape
      have l0 := LaterB.cell (B := V.heap.size) HS.out.c0 hVz
      have l1 := LaterB.cell (B := V.heap.size) hcell (show w.heap.size < V.heap.size by omega)
      clear hsr hnq hcell
      go_upto_region 6 with fail
      refine wp_held_tailB 12 V.heap.size (by kernel_rfl) (lexOK_of (by kernel_rfl) (by kernel_rfl)) (chainOK_of (by kernel_rfl)) rfl (by kernel_rfl) (by kernel_rfl) (fun W0 hbW hSW => ?_)
      have HO0 := Lib.hid (HO.out.keep hbW)
      have HS0 := Lib.hid (HS.out.keep hbW)
      have HR0 := Lib.hid (HR2.out.keep hbW)
      have HX0 := Lib.hid (HX.out.keep hbW)
      have HQ0 := Lib.hid (Sr.keep HQ.out hbW)
      have HB0 := Lib.hid (below_step HBr.out hbW)
      have HSS := Lib.hid hSW
      have hz0 : V.heap.size ≤ W0.heap.size := by have := hbW.size; omega
      clear hbW hSW
      refine wpHeld_seg 8 HSS.out (by kernel_rfl) ?_
      simp only [List.take_succ_cons, List.take_zero, List.drop_succ_cons, List.drop_zero]
      repeat (go_big_quiet_step (fail))
      refine wpQuiet_nil ?_
      clear l0 l1
      refine wpHeld_call 14 Try.func14 (by kernel_rfl) (by kernel_rfl) _ _ #[.slice Aq nq cq, .int .i64 M] rfl (by kernel_rfl) (by kernel_rfl) ?_
      refine (rPExactlyO_any Aq nq cq q M _ HQ0.out HNQ.out HMs.out).mono ?_
      rintro e Wa ⟨A', c', rfl, hoA, hba⟩
      have hza := hba.size
      have HOA := Lib.hid hoA
      have HBa := Lib.hid hba
      have HSa := Lib.hid (LaterB.step HSS.out (hba.mono hz0))
      clear hoA hba
      refine ⟨_, rfl, HSa.out, ?_⟩
      simp only [Act.put, List.setIfInBounds_toArray, List.set_cons_zero, List.set_cons_succ]
      have HSb := Lib.hid (LaterB.step HSa.out ((Below.refl V.heap.size Wa).alloc (by omega) (.cells #[.slice A' M c'] 22)))
      refine wpHeld_run _ _ (by kernel_rfl) (by kernel_rfl) (run_buildT A' M c' rfl rfl _) HSb.out ?_
      simp only [Act.put, List.setIfInBounds_toArray, List.set_cons_zero, List.set_cons_succ]
      have HBb := Lib.hid (HBa.out.alloc HBa.out.size (.cells #[.slice A' M c'] 22))
      refine wpHeld_op (by kernel_rfl) (by kernel_rfl) ?_
      refine hOp_appendT W0 (.tmp 23) (.tmp 31) rfl V.heap.size _ k _ rfl HO0.out HBb.out Wa.heap.size 1 A' M c' (exactE q M) rfl (One.new Wa _ _) (HOA.out.keep ((Below.refl _ _).alloc (Nat.le_refl _) _)) (by omega) hz0 ?_
      intro v1 w1 hown1 hg1
      have hlv : ∀ q, v.ownBlock = some q → V.heap.size ≤ q := fun q hq => HO0.out.lt hq
      have HO1 := Lib.hid hown1
      have HS1 := Lib.hid (two_grownR (HS0.out.keep HBb.out) hg1 hlv hVz)
      have HR1 := Lib.hid (two_grownR (HR0.out.keep HBb.out) hg1 hlv (by omega))
      have HX1 := Lib.hid (five_grownR (HX0.out.keep HBb.out) hg1 hlv (by omega))
      have HB1 := Lib.hid (Below.grown (below_step HB0.out HBb.out) hg1 (by have := HB0.out.size; have := HBb.out.size; omega) (fun q hq => by have := hlv q hq; omega))
      have HSz := Lib.hid (LaterB.step HSb.out (Below.grown (Below.refl V.heap.size _) hg1 (by have := HBb.out.size; omega) hlv))
      have hz1 : V.heap.size ≤ w1.heap.size := by have := hg1.size; have := HBb.out.size; omega
      clear hown1 hg1
      refine ⟨HSz.out, ?_⟩
      simp only [Act.put, List.setIfInBounds_toArray, List.set_cons_zero, List.set_cons_succ]
      obtain ⟨A1, c1, rfl, _⟩ := HO1.out.shape
      refine wpHeld_seg 1 HSz.out (by kernel_rfl) ?_
      simp only [List.take_succ_cons, List.take_zero, List.drop_succ_cons, List.drop_zero]
      repeat (go_big_quiet_step (fail))
      refine wpQuiet_nil (wpHeld_nil ?_)
      refine mOp_run0 _ rfl rfl (run_storeTs (w.heap.size + 1 + 1) _ ⟨_, _, _, rfl⟩ rfl rfl rfl HS1.out) ?_
      go_wp2_with fail
      go_roundw
      case rel => exact ⟨k + 1, _, Ps ++ [exactE q M], by omega, by go_num, HO1.out.far _ hVz, (fun L hL => by rcases List.mem_append.1 hL with h | h; exact HP.out L h; rw [List.mem_singleton.1 h]; exact exactE_length _ _), HS1.out.set0 _, HR1.out.far _ (by show w.heap.size + 1 ≠ w.heap.size + 1 + 1; omega), HX1.out.far _ (by show w.heap.size ≠ w.heap.size + 1 + 1; omega), HB1.out.setCell (by show w.heap.size ≤ w.heap.size + 1 + 1; omega) _, by simpa using hz1⟩
      case measure => simp [intOf]; omega
    · have hk4 : k = 3 := by omega
      subst hk4
      obtain ⟨At, ct, rfl, hct, hctt⟩ := HO.out.shape
      clear hk3 hk
      obtain ⟨Wa, hWa⟩ : ∃ Wa : World, Wa = wr := ⟨_, rfl⟩
      subst hWa
      go_wp2_with fail
      go_loopw [8] (fun s w2 => ∃ (j : Nat) (u : Value) (ts : List Tm), j ≤ m ∧ j ≤ 4 ∧ s = .int .i64 j ∧ OwM3 w2 Wa.heap.size u j ts ∧ (∀ t ∈ ts, (1 ≤ t.2.length ∧ t.2.length ≤ 3) ∧ ∀ x ∈ t.2, x < 3) ∧ Two w2 (w.heap.size + 1 + 1) 30 (.slice At 3 ct) u ∧ Two w2 (w.heap.size + 1) 30 (.slice none 0 0) (.slice none 0 0) ∧ Five w2 w.heap.size 26 (.slice A0 n0 c0) (.slice A1 n1 c1) (.slice A2 n2 c2) (.slice B m e) (.int .u8 N) ∧ Below w.heap.size w w2 ∧ (∀ b, b < Wa.heap.size → b ≠ w.heap.size + 1 + 1 → w2.heap[b]? = Wa.heap[b]?) ∧ Wa.heap.size ≤ w2.heap.size) (fun s _ => 4 - (intOf s).toNat)
      case atStart => exact ⟨0, _, [], Nat.zero_le _, Nat.zero_le _, rfl, OwM3.nil _ _, (fun L hL => by cases hL), HS.out, HR2.out, HX.out, HBr.out, (fun _ _ _ => rfl), Nat.le_refl _⟩
      case round =>
        obtain ⟨j, u, ts, hjm, hj4, rfl, hu, hts, hs2, hr2, hx2, hb2, hk2, hz2⟩ := hrel
        have HU := Lib.hid hu
        have HTS := Lib.hid hts
        have HS2 := Lib.hid hs2
        have HRr := Lib.hid hr2
        have HX2 := Lib.hid hx2
        have HB2 := Lib.hid hb2
        have HK2 := Lib.hid hk2
        clear hu hts hs2 hr2 hx2 hb2 hk2
        have x1 := HX2.out.c3
        by_cases hlt : j < m ∧ j < 4
        · obtain ⟨r, hr⟩ := HR.out.get hlt.1
          have hok := WR.out r (List.mem_of_getElem? hr)
          obtain ⟨ad, rfl, y0, y1, yt, yn⟩ := HR.out.cells j r hr
          replace y0 := cell_keep y0 HB2.out
          replace y1 := cell_keep y1 HB2.out
          have YT := Lib.hid (fun k (hk : k < 3) => cell_keep (yt k hk) HB2.out)
          replace yn := cell_keep yn HB2.out
          have HOK := Lib.hid hok
          have hn0 := hok.n.1
          have hn1 := hok.n.2
          have j1 : (j : Int) < (m : Int) := by omega
          have j2 : (j : Int) < 4 := by omega
          clear hr hok yt
          go_wp2_with fail
          refine (rMade_any r.a r.b _ HOK.out.a HOK.out.b).mono ?_
          rintro e W8 ⟨rfl, hb8⟩
          have HB8 := Lib.hid hb8
          clear hb8
          obtain ⟨Wi, hWi⟩ : ∃ Wi : World, Wi = wr := ⟨_, rfl⟩
          subst hWi
          have HYn := Lib.hid yn
          go_upto_region 11 with fail
          refine wp_named1 (fun V9 hb9 g9 hz9 => ?_)
          have XT := Lib.hid (show Tri V9 W8.heap.size 65 (.int .u64 (vF (toE r.a r.b).A)) (.int .u64 (vF (toE r.a r.b).B)) (.slice none 0 0) from g9)
          have HB9 := Lib.hid (below_step HB8.out hb9)
          have hz8 := HB8.out.size
          have hx9 : W8.heap.size < V9.heap.size := XT.out.lt
          clear hb9 g9 y0 y1 yn x1
          obtain ⟨nn, hnn, hn3⟩ : ∃ nn : Nat, r.n % 3 = (nn : Int) ∧ nn < 3 := ⟨(r.n % 3).toNat, by omega, by omega⟩
          generalize hbT : W8.heap.size = bT at *
          go_wp2_with fail
          go_loopw [10] (fun s w3 => ∃ (k : Nat) (z : Value) (zs : List Nat), k ≤ nn + 1 ∧ s = .int .i64 k ∧ OwI w3 (bT + 1) z k zs ∧ (∀ x ∈ zs, x < 3) ∧ Tri w3 bT 65 (.int .u64 (vF (toE r.a r.b).A)) (.int .u64 (vF (toE r.a r.b).B)) z ∧ Below Wi.heap.size Wi w3 ∧ bT + 1 ≤ w3.heap.size) (fun s _ => nn + 1 - (intOf s).toNat)
          case atStart => exact ⟨0, _, [], Nat.zero_le _, rfl, OwI.nil _ _, (fun x hx => by cases hx), XT.out, HB9.out, hx9⟩
          case round =>
            obtain ⟨k, z, zs, hk, rfl, hz, hzs, ht, hb3, hw3⟩ := hrel
            have HZ := Lib.hid hz
            have HZS := Lib.hid hzs
            have HT := Lib.hid ht
            have HB3 := Lib.hid hb3
            have hzw := hb3.size
            clear hz hzs ht hb3 XT
            have x3 := (HX2.out.keep HB3.out).c3
            have xn := cell_keep HYn.out HB3.out
            by_cases hkn : k < nn + 1
            · have hkn' : (k : Int) ≤ (nn : Int) := by omega
              have hk3 : (k : Int) < 3 := by omega
              have xt := cell_keep (YT.out k (by omega)) HB3.out
              have ht8 : U8 (r.t k) := by
                have := HOK.out
                unfold RawT.t
                split
                · exact this.t0
                · split
                  · exact this.t1
                  · exact this.t2
              have ht0 := ht8.1
              have ht1 := ht8.2
              obtain ⟨y, hy, hy3⟩ : ∃ y : Nat, r.t k % 3 = (y : Int) ∧ y < 3 := ⟨(r.t k % 3).toNat, by omega, by omega⟩
              have hbT' : bT < bT + 1 := Nat.lt_succ_self _
              have hzsh : ∃ A c, z = .slice A k c := by obtain ⟨A, c, e, _⟩ := HZ.out.si; exact ⟨A, c, e⟩
              have hiT : Wi.heap.size ≤ bT := by omega
              have l0 := LaterB.cell (B := bT + 1) HT.out.c2 hbT'
              have l1 := LaterB.cell (B := bT + 1) x3 (show w.heap.size < bT + 1 by have := HB2.out.size; omega)
              have l2 := LaterB.cell (B := bT + 1) xt (by have := World.block_lt_of_cell? _ _ (YT.out k (by omega)); show _ < bT + 1; omega)
              clear ht8
              go_upto_region 14 with fail
              clear x3 xn xt
              refine wp_held_tailB 15 (bT + 1) (by kernel_rfl) (lexOK_of (by kernel_rfl) (by kernel_rfl)) (chainOK_of (by kernel_rfl)) rfl (by kernel_rfl) (by kernel_rfl) (fun W0 hbW hSW => ?_)
              have HZ0 := Lib.hid (HZ.out.keep hbW)
              have HT0 := Lib.hid (HT.out.keep hbW)
              have HB0 := Lib.hid (below_step HB3.out hbW)
              have HSS := Lib.hid hSW
              have hz0 : bT + 1 ≤ W0.heap.size := by have := hbW.size; omega
              clear hbW hSW
              refine wpHeld_seg 12 HSS.out (by kernel_rfl) ?_
              simp only [List.take_succ_cons, List.take_zero, List.drop_succ_cons, List.drop_zero]
              repeat (go_big_quiet_step (fail))
              refine wpQuiet_nil ?_
              clear l0 l1 l2
              have HSb := Lib.hid (LaterB.step HSS.out ((Below.refl (bT + 1) W0).alloc hz0 (.cells #[.int .i64 y] 3)))
              refine wpHeld_run _ _ (by kernel_rfl) (by kernel_rfl) (run_buildI (y : Int) rfl rfl _) HSb.out ?_
              simp only [Act.put, List.setIfInBounds_toArray, List.set_cons_zero, List.set_cons_succ]
              have hbB : Below W0.heap.size W0 (W0.alloc (.cells #[.int .i64 y] 3)) := (Below.refl _ _).alloc (Nat.le_refl _) _
              have HBb := Lib.hid hbB
              clear hbB
              refine wpHeld_op (by kernel_rfl) (by kernel_rfl) ?_
              refine hOp_appendI (.tmp 66) (.tmp 77) rfl (bT + 1) _ k _ rfl (HZ0.out.keep HBb.out) W0.heap.size 1 y rfl (One.new W0 _ _) (by omega) (by have := HBb.out.size; omega) ?_
              intro v1 w1 hown1 hg1
              have hlv : ∀ q, z.ownBlock = some q → bT + 1 ≤ q := fun q hq => (World.ownsRow.lt HZ0.out q hq).1
              have HZ1 := Lib.hid hown1
              have HT1 := Lib.hid (tri_grownR (HT0.out.keep HBb.out) hg1 hlv hbT')
              have HB1 := Lib.hid (Below.grown (below_step HB0.out HBb.out) hg1 (by have := HB0.out.size; have := HBb.out.size; omega) (fun q hq => by have := hlv q hq; omega))
              have HSz := Lib.hid (LaterB.step HSb.out (Below.grown (Below.refl (bT + 1) _) hg1 (by have := HBb.out.size; omega) hlv))
              have hz1 : bT + 1 ≤ w1.heap.size := by have := hg1.size; have := HBb.out.size; omega
              clear hown1 hg1
              refine ⟨HSz.out, ?_⟩
              simp only [Act.put, List.setIfInBounds_toArray, List.set_cons_zero, List.set_cons_succ]
              obtain ⟨A1, c1, rfl, _⟩ := HZ1.out.si
              refine wpHeld_seg 1 HSz.out (by kernel_rfl) ?_
              simp only [List.take_succ_cons, List.take_zero, List.drop_succ_cons, List.drop_zero]
              repeat (go_big_quiet_step (fail))
              refine wpQuiet_nil (wpHeld_nil ?_)
              refine mOp_run0 _ rfl rfl (run_storeIs bT _ ⟨_, _, _, rfl⟩ rfl rfl rfl HT1.out) ?_
              go_wp2_with fail
              go_roundw
              case rel => exact ⟨k + 1, _, zs ++ [y], by omega, by go_num, OwI.far HZ1.out _ hbT', (fun x hx => by rcases List.mem_append.1 hx with h | h; exact HZS.out x h; rw [List.mem_singleton.1 h]; exact hy3), HT1.out.set2 _, HB1.out.setCell hiT _, by simpa using hz1⟩
              case measure => simp [intOf]; omega
            · have hkn1 : ¬ ((k : Int) ≤ (nn : Int)) := by omega
              have hk1 := Lib.hid (show k = nn + 1 by omega)
              obtain ⟨Az, cz, rfl, _⟩ := HZ.out.si
              have hzl := Lib.hid (show k = zs.length by have := HZ.out.len; omega)
              have XS3 := Lib.hid (show Two wr (w.heap.size + 1 + 1) 30 (.slice At 3 ct) u from HS2.out.keep HB3.out)
              have t0 := HT.out.c0
              have t1 := HT.out.c1
              have t2 := HT.out.c2
              have s0 := XS3.out.c1
              have f0 := XS3.out.f1
              obtain ⟨Au, cu, rfl, hcu, hcuu⟩ := HU.out.shape
              have hbA : Below Wi.heap.size Wi (wr.alloc (.cells #[.int .u64 (vF (toE r.a r.b).A), .int .u64 (vF (toE r.a r.b).B), .slice Az k cz] 65)) := HB3.out.alloc HB3.out.size _
              have HBA := Lib.hid hbA
              have hiT2 : Wi.heap.size ≤ bT + 1 := by omega
              have hlu : ∀ q, (Value.slice Au j cu).ownBlock = some q → Wa.heap.size ≤ q := fun q hq => HU.out.lt q hq
              have hb6 : w.heap.size + 1 + 1 < Wa.heap.size := by omega
              clear hbA
              go_wp2_with (at_builtin; refine wpList_appendM Wi rfl (.tmp 81) (.tmp 83) rfl Wa.heap.size _ j _ rfl HU.out HBA.out wr.heap.size 1 Az k cz ((toE r.a r.b), zs) rfl (Tri.new wr _ _ _ _) ((HZ.out.low hiT2).keep ((Below.refl _ _).alloc (Nat.le_refl _) _)) (by omega) hz2 ?_; intro v1 w1 hown1 hg1; have HU1 := Lib.hid hown1; have HG1 := Lib.hid hg1; have HS1 := Lib.hid (two_grownR (HS2.out.keep HBA.out) hg1 hlu hb6); have s1 := HS1.out.c1; have f1 := HS1.out.f1; obtain ⟨A1, c1, rfl, _⟩ := hown1.shape; clear hown1 hg1)
              go_roundw
              case rel =>
                have hsz1 := HG1.out.size
                have hszA := HBA.out.size
                refine ⟨j + 1, by omega, by omega, by go_num, _, ts ++ [(toE r.a r.b, zs)], HU1.out.far _ hb6, (fun ta tb ht => ?_), HS1.out.set1 _, (two_grownR (HRr.out.keep HBA.out) HG1.out hlu (by omega)).far _ (by show w.heap.size + 1 ≠ w.heap.size + 1 + 1; omega), (five_grownR (HX2.out.keep HBA.out) HG1.out hlu (by omega)).far _ (by show w.heap.size ≠ w.heap.size + 1 + 1; omega), (Below.grown (below_step HB2.out HBA.out) HG1.out (by have := HB2.out.size; omega) (fun q hq => by have := hlu q hq; omega)).setCell (by show w.heap.size ≤ w.heap.size + 1 + 1; omega) _, (fun b hb hne => ?_), by omega⟩
                · rcases List.mem_append.1 ht with h | h
                  · exact HTS.out _ h
                  · have h2 := List.mem_singleton.1 h
                    injection h2 with h2 h3
                    subst h3
                    have e1 := hk1.out
                    have e2 := hzl.out
                    exact ⟨⟨by omega, by omega⟩, fun x hx => HZS.out x hx⟩
                · rw [Below.heap_setCell _ _ _ b hne, HG1.out.block b (by omega) (fun k => by have := hlu b k.symm; omega), HBA.out.block b (by omega), HK2.out b hb hne]
              case measure => simp [intOf]; omega
        · have he : (j : Int) < (m : Int) ∨ ¬ ((j : Int) < (m : Int)) := by omega
          obtain ⟨Au, cu, rfl, hcu, hcuu⟩ := HU.out.shape
          have s0 := HS2.out.c0
          have s1 := HS2.out.c1
          have r0 := HRr.out.c0
          have r1 := HRr.out.c1
          have f0 := HRr.out.f0
          have f1 := HRr.out.f1
          have hjl := HU.out.len
          have hok : OkS Ps ts d := by
            have hst := HO.out.st.len
            refine ⟨by omega, by omega, by omega, fun L hL => by rw [HP.out L hL, HM.out], by omega, fun t ht => (HTS.out t ht).1, fun t ht x hx => by have := (HTS.out t ht).2 x hx; omega⟩
          have HOK := Lib.hid hok
          have hfin : ∀ (u1 u2 : Value), ST ((wr.setCell ⟨w.heap.size + 1, 0, none⟩ u1).setCell ⟨w.heap.size + 1, 1, none⟩ u2) At 3 ct Ps := fun u1 u2 => by
            have k1 := OwR.same HO.out (w' := wr) fun b hb1 hb2 => HK2.out b hb2 (by omega)
            exact ((k1.far (a := ⟨w.heap.size + 1, 0, none⟩) u1 (show w.heap.size + 1 < V.heap.size by omega)).far (a := ⟨w.heap.size + 1, 1, none⟩) u2 (show w.heap.size + 1 < V.heap.size by omega)).st
          have hfin2 : ∀ (u1 u2 : Value), TM ((wr.setCell ⟨w.heap.size + 1, 0, none⟩ u1).setCell ⟨w.heap.size + 1, 1, none⟩ u2) Au j cu ts := fun u1 u2 =>
            ((HU.out.far (a := ⟨w.heap.size + 1, 0, none⟩) u1 (show w.heap.size + 1 < Wa.heap.size by omega)).far (a := ⟨w.heap.size + 1, 1, none⟩) u2 (show w.heap.size + 1 < Wa.heap.size by omega)).tm
          have HF1 := Lib.hid hfin
          have HF2 := Lib.hid hfin2
          have hPl : Ps.length = 3 := by have := HO.out.st.len; omega
          clear hok hfin hfin2
          rcases he with he | he
          all_goals
            try have he6 : ¬ ((j : Int) < 4) := by omega
            go_wp2_with fail
            have YF := (HRr.out.set0 (.slice At 3 ct)).set1 (.slice Au j cu)
            have y0 := YF.c0
            have y1 := YF.c1
            refine bodyPost_ret (v := .agg #[.slice At 3 ct, .slice Au j cu]) (by simp [results, Try.results12, go_sem, y0, y1]) rfl ?_
            exact ⟨At, ct, Au, j, cu, rfl, Ps, HF1.out _ _, ts, HF2.out _ _, d, HOK.out, hdK, hPl, by omega, (HB2.out.setCell (by show w.heap.size ≤ w.heap.size + 1; omega) _).setCell (by show w.heap.size ≤ w.heap.size + 1; omega) _⟩
            --exact ⟨At, ct, Au, j, cu, Ps, ts, d, rfl, HF1.out _ _, HF2.out _ _, HOK.out, hdK, hPl, by omega, (HB2.out.setCell (by show w.heap.size ≤ w.heap.size + 1; omega) _).setCell (by show w.heap.size ≤ w.heap.size + 1; omega) _⟩

/-- a raw description of a sum that came in -/
structure RawS (w : World) (v : Value) : Prop where
  ex : ∃ (A0 A1 A2 B : Option Addr) (n0 c0 n1 c1 n2 c2 m e : Nat) (q0 q1 q2 : List (Int × Int)) (rs : List RawT) (N : Int), v = .agg #[.slice A0 n0 c0, .slice A1 n1 c1, .slice A2 n2 c2, .slice B m e, .int .u8 N] ∧ U8 N ∧
    Sr w A0 n0 c0 q0 ∧ Sr w A1 n1 c1 q1 ∧ Sr w A2 n2 c2 q2 ∧ Nums q0 ∧ Nums q1 ∧ Nums q2 ∧ SlK w B m e rs ∧ ∀ r ∈ rs, r.ok
theorem SlK.keep {w w' : World} {A : Option Addr} {n c : Nat} {rs : List RawT} (h : SlK w A n c rs) (hb : Below w.heap.size w w') : SlK w' A n c rs :=
  ⟨h.len, h.cap, h.top, fun i r hr => by
    obtain ⟨ad, e, k0, k1, k2, k3⟩ := h.cells i r hr
    exact ⟨ad, e, cell_keep k0 hb, cell_keep k1 hb, fun k hk => cell_keep (k2 k hk) hb, cell_keep k3 hb⟩⟩
/-- a valid sum that lies in memory -/
structure SumIn (w : World) (A : Option Addr) (n c : Nat) (B : Option Addr) (m d : Nat) (Ls : List (List E2)) (ts : List Tm) (K : Nat) : Prop where
  t : ST w A n c Ls
  m : TM w B m d ts
  ok : OkS Ls ts K
theorem SumIn.keep {w w' : World} {A : Option Addr} {n c : Nat} {B : Option Addr} {m d : Nat} {Ls : List (List E2)} {ts : List Tm} {K : Nat} (h : SumIn w A n c B m d Ls ts K) (hb : Below w.heap.size w w') : SumIn w' A n c B m d Ls ts K := ⟨h.t.keep hb, h.m.keep hb, h.ok⟩

end Go.Proofs.Ytombcjdhjcmhhaa

/- The mathematics of the laws of package sumcheck: round polynomials as polynomials, honest rounds, changed rounds, linearity in the coefficients; no conditions but that the sums are valid. -/
namespace Go.Proofs.Ytombcjdhjcmhhaa
set_option maxRecDepth 8000
open Go.RowKit Gold

/-! ### Polynomials in one variable -/
def IsP (n : Nat) (f : E2 → E2) : Prop := ∃ ys : List E2, ys.length ≤ n ∧ ∀ r, evE ys r = f r
theorem IsP.const (c : E2) : IsP 1 fun _ => c := ⟨[c], Nat.le_refl _, fun r => by rw [evE_cons, evE_nil, E2.mul_zero, E2.add_zero]⟩
theorem IsP.line (a b : E2) : IsP 2 fun r => a + r * b := ⟨[a, b], Nat.le_refl _, fun r => evE_pair a b r⟩
theorem IsP.up {n m : Nat} {f : E2 → E2} (h : IsP n f) (e : n ≤ m) : IsP m f := by
  obtain ⟨ys, h1, h2⟩ := h
  exact ⟨ys, by omega, h2⟩
theorem IsP.add {n : Nat} {f g : E2 → E2} (h1 : IsP n f) (h2 : IsP n g) : IsP n fun r => f r + g r := by
  obtain ⟨xs, a1, a2⟩ := h1
  obtain ⟨ys, b1, b2⟩ := h2
  exact ⟨addE xs ys, by have := addE_length xs ys; omega, fun r => by rw [evE_addE, a2, b2]⟩
theorem IsP.mul {n : Nat} {f g : E2 → E2} (h1 : IsP (n + 1) f) (h2 : IsP 2 g) : IsP (n + 1 + 1) fun r => f r * g r := by
  obtain ⟨xs, a1, a2⟩ := h1
  obtain ⟨ys, b1, b2⟩ := h2
  exact ⟨mulE xs ys, by have := @mulE_length' xs ys; omega, fun r => by rw [evE_mulE, a2, b2]⟩
theorem IsP.prod {v : E2 → Nat → E2} (hv : ∀ j, IsP 2 fun r => v r j) : ∀ (l : List Nat) (n : Nat) (f : E2 → E2), IsP (n + 1) f → IsP (n + l.length + 1) fun r => l.foldl (fun p j => p * v r j) (f r)
  | [], _, _, h => h
  | j :: l, n, f, h => by
    have := IsP.prod hv l (n + 1) _ (IsP.mul h (hv j))
    rw [show n + 1 + l.length + 1 = n + (j :: l).length + 1 by simp; omega] at this
    exact this
theorem IsP.fin {v : E2 → Nat → E2} (hv : ∀ j, IsP 2 fun r => v r j) {D : Nat} : ∀ (l : List Tm) (f : E2 → E2), (∀ t ∈ l, t.2.length ≤ D) → IsP (D + 1) f → IsP (D + 1) fun r => l.foldl (fun s t => s + prodT t (v r)) (f r)
  | [], _, _, h => h
  | t :: l, f, hd, h => by
    refine IsP.fin hv l _ (fun u hu => hd u (List.mem_cons_of_mem _ hu)) (IsP.add h ?_)
    have := IsP.prod hv t.2 0 (fun _ => t.1) (IsP.const t.1)
    exact this.up (by have := hd t (List.mem_cons_self ..); omega)
theorem IsP.sum {D : Nat} {F : Nat → E2 → E2} : ∀ (n : Nat), (∀ i, i < n → IsP (D + 1) (F i)) → IsP (D + 1) fun r => sumE n fun i => F i r
  | 0, _ => (IsP.const E2.zero).up (by omega)
  | n + 1, h => IsP.add (IsP.sum n fun i hi => h i (by omega)) (h n (Nat.lt_succ_self n))
theorem IsP.col (Ls : List (List E2)) (i j : Nat) : IsP 2 fun r => cfE (colB Ls r i) j := by
  unfold colB
  simp only [cfE_tabE]
  by_cases h : j < Ls.length
  · simp only [if_pos h]
    exact IsP.line _ _
  · simp only [if_neg h]
    exact (IsP.const E2.zero).up (by omega)
theorem degT_mem {ts : List Tm} {t : Tm} (h : t ∈ ts) : t.2.length ≤ degT ts := by
  have := degZ_mem (rawT ts) (t := (vF t.1.A, vF t.1.B, t.2.map fun k : Nat => (k : Int))) (by unfold rawT; exact List.mem_map_of_mem h)
  unfold degT
  simpa using this
theorem degT_pos (ts : List Tm) : 1 ≤ degT ts := degZ_pos _
theorem tot_pol (Ls : List (List E2)) (ts : List Tm) (N : Nat) : IsP (degT ts + 1) fun r => sumE N fun i => finE ts (colB Ls r i) :=
  IsP.sum N fun i _ => IsP.fin (v := fun r => cfE (colB Ls r i)) (IsP.col Ls i) ts (fun _ => E2.zero) (fun _ ht => degT_mem ht) ((IsP.const E2.zero).up (by omega))

/-- values of a polynomial at 0, 1, .. -/
theorem at_values {f : E2 → E2} {n : Nat} (h : IsP n f) (hn : n ≤ 1000) (y : E2) : atE (tabE n fun x => f (nd x)) y = f y := by
  obtain ⟨ys, h1, h2⟩ := h
  have hI : IsInterp (tabE n fun x => f (nd x)) (trimE ys) := by
    refine ⟨trimE_trimE _, by have := trimE_length ys; rw [tabE_length]; omega, fun k hk => ?_⟩
    rw [tabE_length] at hk
    rw [evE_trimE, h2, cfE_tabE, if_pos hk]
  rw [← evE_interpE, ← hI.eq (by rw [tabE_length]; omega), evE_trimE, h2]

/-! ### Round polynomials -/
theorem tot_bnd {Ls : List (List E2)} {ts : List Tm} {K : Nat} (h : OkS Ls ts (K + 1)) (r : E2) : totE (bndS Ls r) ts (2 ^ K) = sumE (2 ^ K) fun i => finE ts (colB Ls r i) := by
  unfold totE
  exact sumE_congr fun i hi => by rw [colE_bnd h _ hi]
theorem at_rnd {Ls : List (List E2)} {ts : List Tm} {K : Nat} (h : OkS Ls ts (K + 1)) (y : E2) : atE (rndE Ls ts (2 ^ (K + 1))) y = totE (bndS Ls y) ts (2 ^ K) := by
  rw [rndE_get h, tot_bnd h y]
  exact at_values (tot_pol Ls ts (2 ^ K)) (by have := h.deg3; omega) y
theorem rnd_length (Ls : List (List E2)) (ts : List Tm) (n : Nat) : (rndE Ls ts n).length = degT ts + 1 := tabE_length _ _
theorem col_zero (Ls : List (List E2)) (i : Nat) : colB Ls (nd 0) i = colE Ls (2 * i) := by
  unfold colB colE
  exact tabE_congr fun j _ => bndF_start _ _
theorem col_one (Ls : List (List E2)) (i : Nat) : colB Ls (nd 1) i = colE Ls (2 * i + 1) := by
  unfold colB colE
  refine tabE_congr fun j _ => ?_
  rw [← bndF_next, bndF_start]
  unfold slopeE
  rw [E2.add_comm]
  exact E2.sub_add_cancel _ _
theorem rnd_sum {Ls : List (List E2)} {ts : List Tm} {K : Nat} (h : OkS Ls ts (K + 1)) : cfE (rndE Ls ts (2 ^ (K + 1))) 0 + cfE (rndE Ls ts (2 ^ (K + 1))) 1 = totE Ls ts (2 ^ (K + 1)) := by
  have := degT_pos ts
  rw [rndE_get h, cfE_tabE, cfE_tabE, if_pos (by omega), if_pos (by omega), show 2 ^ (K + 1) = 2 * 2 ^ K by rw [Nat.pow_succ, Nat.mul_comm]]
  unfold totE
  rw [sumE_pairs, ← sumE_add]
  exact sumE_congr fun i _ => by rw [col_zero, col_one]

/-! ### Honest rounds -/
theorem bndC_nil (Ls : List (List E2)) : bndC Ls [] = Ls := rfl
theorem clm_zero (v : E2) (Rs : List (List E2)) (cs : List E2) (D : Nat) : clm v Rs cs D 0 = v := rfl
theorem hon_clm {Ls : List (List E2)} {ts : List Tm} {cs : List E2} (h : OkS Ls ts cs.length) : ∀ i, i ≤ cs.length →
    clm (totE Ls ts (2 ^ cs.length)) (proR Ls ts cs) cs (degT ts) i = totE (bndC Ls (cs.take i)) ts (2 ^ (cs.length - i))
  | 0, _ => by rw [clm_zero, List.take_zero, bndC_nil, Nat.sub_zero]
  | i + 1, hi => by
    have ih := hon_clm h i (by omega)
    obtain ⟨x, hx⟩ : ∃ x, cs[i]? = some x := ⟨cs[i]'(by omega), List.getElem?_eq_getElem _⟩
    have ho := h.take i (by omega)
    rw [show cs.length - i = cs.length - (i + 1) + 1 by omega] at ho
    rw [bndC_snoc hx, ← at_rnd ho x]
    unfold clm
    rw [ih]
    unfold redE
    have ht : tbl (proR Ls ts cs) i = rndE (bndC Ls (cs.take i)) ts (2 ^ (cs.length - (i + 1) + 1)) := by
      rw [tbl_some (proR_get (by omega))]
      unfold rndC
      rw [show cs.length - i = cs.length - (i + 1) + 1 by omega]
    rw [ht, rnd_length, if_pos rfl, rnd_sum ho, show cs.length - i = cs.length - (i + 1) + 1 by omega, if_pos rfl, cfE_some hx]
theorem hon_clx {Ls : List (List E2)} {ts : List Tm} {cs : List E2} (h : OkS Ls ts cs.length) (i : Nat) (hi : i < cs.length) :
    (clx (totE Ls ts (2 ^ cs.length)) (proR Ls ts cs) cs (degT ts) i).2 = 0 := by
  have ih := hon_clm h i (by omega)
  have ho := h.take i (by omega)
  rw [show cs.length - i = cs.length - (i + 1) + 1 by omega] at ho ih
  unfold clx
  rw [ih]
  unfold redE
  have ht : tbl (proR Ls ts cs) i = rndE (bndC Ls (cs.take i)) ts (2 ^ (cs.length - (i + 1) + 1)) := by
    rw [tbl_some (proR_get (by omega))]
    unfold rndC
    rw [show cs.length - i = cs.length - (i + 1) + 1 by omega]
  rw [ht, rnd_length, if_pos rfl, rnd_sum ho, if_pos rfl]
theorem proV_eq (Ls : List (List E2)) (cs : List E2) : proV Ls cs = colE (bndC Ls cs) 0 := by
  unfold proV colE
  rw [bndC_length]
theorem tot_last (Ls : List (List E2)) (ts : List Tm) (cs : List E2) : totE (bndC Ls cs) ts 1 = finE ts (proV Ls cs) := by
  rw [proV_eq]
  unfold totE
  show sumE 0 _ + _ = _
  exact E2.zero_add _
theorem hon_ver {Ls : List (List E2)} {ts : List Tm} {cs : List E2} (h : OkS Ls ts cs.length) : verZ (totE Ls ts (2 ^ cs.length)) (proR Ls ts cs) cs (degT ts : Nat) = (finE ts (proV Ls cs), 0) := by
  have h1 := degT_pos ts
  have h3 := h.deg3
  unfold verZ
  rw [if_pos ⟨by omega, by omega, proR_length _ _ _⟩, Int.toNat_natCast, proR_length, verA_ok _ fun i hi => hon_clx h i hi, hon_clm h _ (Nat.le_refl _), List.take_length, Nat.sub_self, ← tot_last]
theorem bnd_mle {Ls : List (List E2)} {ts : List Tm} : ∀ {cs : List E2} (_ : OkS Ls ts cs.length) {j : Nat} (_ : j < Ls.length), cfE (tbl (bndC Ls cs) j) 0 = mleE (tbl Ls j) cs := by
  intro cs
  induction cs generalizing Ls with
  | nil => intro _ j _; rfl
  | cons c cs ih =>
    intro h j hj
    have hb := h.bnd c
    have hl : (tbl Ls j).length = 2 ^ (cs.length + 1) := h.len _ (List.mem_of_getElem? (tbl_get hj))
    show cfE (tbl (bndC (bndS Ls c) cs) j) 0 = _
    rw [ih hb (by unfold bndS; rw [List.length_map]; exact hj), tbl_bnd hj, mleE_cons hl]
theorem proV_get {Ls : List (List E2)} {ts : List Tm} {cs : List E2} (h : OkS Ls ts cs.length) {j : Nat} (hj : j < Ls.length) : (proV Ls cs)[j]? = some (mleE (tbl Ls j) cs) := by
  unfold proV
  rw [tabE_get _ hj, bnd_mle h hj]

/-! ### Wrong claims -/
theorem add_ne {x d : E2} (h : d ≠ E2.zero) : x ≠ x + d := fun e => h (E2.add_right_cancel (x := d) (y := E2.zero) (z := x) (by rw [E2.add_comm, ← e, E2.zero_add]))
theorem ver_claim {Ls : List (List E2)} {ts : List Tm} {cs : List E2} (h : OkS Ls ts cs.length) (hn : 0 < cs.length) {d : E2} (hd : d ≠ E2.zero) : verZ (totE Ls ts (2 ^ cs.length) + d) (proR Ls ts cs) cs (degT ts : Nat) = (E2.zero, 60) := by
  have h1 := degT_pos ts
  have h3 := h.deg3
  unfold verZ
  rw [if_pos ⟨by omega, by omega, proR_length _ _ _⟩, Int.toNat_natCast, proR_length]
  have ho := h.take 0 (by omega)
  rw [List.take_zero, bndC_nil, Nat.sub_zero, show cs.length = cs.length - 1 + 1 by omega] at ho
  have hx : clx (totE Ls ts (2 ^ cs.length) + d) (proR Ls ts cs) cs (degT ts) 0 = (E2.zero, 60) := by
    unfold clx
    rw [clm_zero, tbl_some (proR_get hn)]
    unfold rndC redE
    rw [List.take_zero, bndC_nil, Nat.sub_zero, rnd_length, if_pos rfl, show cs.length = cs.length - 1 + 1 by omega, rnd_sum ho, if_neg (add_ne hd)]
  rw [verA_bad (i := 0) (fun j hj => absurd hj (Nat.not_lt_zero j)) (by rw [hx]; decide) _ hn, hx]
/-- the rounds with another last round -/
def forge (Rs : List (List E2)) (L : List E2) : List (List E2) := Rs.take (Rs.length - 1) ++ [L]
theorem clm_congr {v : E2} {Rs Ss : List (List E2)} {cs : List E2} {D : Nat} : ∀ i, (∀ j, j < i → tbl Rs j = tbl Ss j) → clm v Rs cs D i = clm v Ss cs D i
  | 0, _ => rfl
  | i + 1, h => by
    unfold clm
    rw [clm_congr i (fun j hj => h j (by omega)), h i (Nat.lt_succ_self i)]
theorem forge_tbl {Rs : List (List E2)} {L : List E2} {j : Nat} (h : j < Rs.length - 1) : tbl (forge Rs L) j = tbl Rs j := by
  unfold forge tbl
  rw [List.getElem?_append_left (by rw [List.length_take]; omega), List.getElem?_take_of_lt h]
theorem forge_length {Rs : List (List E2)} (L : List E2) (h : 0 < Rs.length) : (forge Rs L).length = Rs.length := by
  unfold forge
  rw [List.length_append, List.length_take]
  simp
  omega
theorem forge_last {Rs : List (List E2)} (L : List E2) (h : 0 < Rs.length) : tbl (forge Rs L) (Rs.length - 1) = L := by
  unfold forge tbl
  rw [List.getElem?_append_right (by rw [List.length_take]; omega), List.length_take, show Rs.length - 1 - min (Rs.length - 1) Rs.length = 0 by omega]
  rfl
theorem ver_forge {Ls : List (List E2)} {ts : List Tm} {cs : List E2} {L : List E2} {n : Nat} (h : OkS Ls ts cs.length) (hn : cs.length = n + 1) :
    verZ (totE Ls ts (2 ^ cs.length)) (forge (proR Ls ts cs) L) cs (degT ts : Nat) = redE (totE (bndC Ls (cs.take n)) ts 2) L (cfE cs n) (degT ts) := by
  have h1 := degT_pos ts
  have h3 := h.deg3
  have hR := proR_length Ls ts cs
  have hF := forge_length (Rs := proR Ls ts cs) L (by omega)
  unfold verZ
  rw [if_pos ⟨by omega, by omega, by omega⟩, Int.toNat_natCast, hF, hR]
  have hc : ∀ i, i ≤ n → clm (totE Ls ts (2 ^ cs.length)) (forge (proR Ls ts cs) L) cs (degT ts) i = totE (bndC Ls (cs.take i)) ts (2 ^ (cs.length - i)) := fun i hi => by
    rw [clm_congr i (fun j hj => forge_tbl (by omega)), hon_clm h i (by omega)]
  have hz : verA (totE Ls ts (2 ^ cs.length)) (forge (proR Ls ts cs) L) cs (degT ts) n = (totE (bndC Ls (cs.take n)) ts 2, 0) := by
    rw [verA_ok n fun i hi => by
      have := hon_clx h i (by omega)
      unfold clx at this ⊢
      rw [hc i (by omega), ← hon_clm h i (by omega), forge_tbl (by omega)]
      exact this]
    rw [hc n (Nat.le_refl _), show cs.length - n = 1 by omega]
  rw [show ∀ x Rs, verA x Rs cs (degT ts) cs.length = verA x Rs cs (degT ts) (n + 1) from fun x Rs => by rw [hn]]
  show (if (verA _ (forge (proR Ls ts cs) L) cs (degT ts) n).2 = 0 then redE (verA _ (forge (proR Ls ts cs) L) cs (degT ts) n).1 (tbl (forge (proR Ls ts cs) L) n) (cfE cs n) (degT ts) else verA _ (forge (proR Ls ts cs) L) cs (degT ts) n) = _
  rw [hz, if_pos rfl]
  rw [show n = (proR Ls ts cs).length - 1 by omega, forge_last L (by omega)]

/-! ### Linearity -/
def sclT (ts : List Tm) (y : E2) : List Tm := ts.map fun t => (t.1 * y, t.2)
theorem prod_scl (y : E2) (v : Nat → E2) : ∀ (l : List Nat) (c : E2), l.foldl (fun p j => p * v j) (c * y) = l.foldl (fun p j => p * v j) c * y
  | [], _ => rfl
  | j :: l, c => by
    rw [List.foldl_cons, List.foldl_cons, show c * y * v j = c * v j * y by rw [E2.mul_assoc, E2.mul_comm y, ← E2.mul_assoc]]
    exact prod_scl y v l _
theorem fin_scl (y : E2) (v : Nat → E2) : ∀ (l : List Tm) (c : E2), (sclT l y).foldl (fun s t => s + prodT t v) (c * y) = l.foldl (fun s t => s + prodT t v) c * y
  | [], _ => rfl
  | t :: l, c => by
    unfold sclT
    rw [List.map_cons, List.foldl_cons, List.foldl_cons, show prodT (t.1 * y, t.2) v = prodT t v * y from prod_scl y v t.2 t.1, ← E2.add_mul]
    exact fin_scl y v l _
theorem finE_scl (ts : List Tm) (y : E2) (vs : List E2) : finE (sclT ts y) vs = finE ts vs * y := by
  have := fin_scl y (cfE vs) ts E2.zero
  rw [E2.zero_mul] at this
  exact this
theorem tot_scl (Ls : List (List E2)) (ts : List Tm) (y : E2) (n : Nat) : totE Ls (sclT ts y) n = totE Ls ts n * y := by
  unfold totE
  rw [E2.mul_comm, ← sumE_mul]
  exact sumE_congr fun i _ => by rw [finE_scl, E2.mul_comm]
theorem deg_scl (ts : List Tm) (y : E2) : degT (sclT ts y) = degT ts := by
  unfold degT degZ rawT sclT
  rw [List.map_map, List.foldl_map, List.foldl_map]
  rfl
theorem rnd_scl {Ls : List (List E2)} {ts : List Tm} {y : E2} {n i : Nat} (hi : i < degT ts + 1) : cfE (rndE Ls (sclT ts y) n) i = cfE (rndE Ls ts n) i * y := by
  unfold rndE
  rw [deg_scl, cfE_tabE, cfE_tabE, if_pos hi, if_pos hi, tot_scl]
theorem fin_from (v : Nat → E2) : ∀ (l : List Tm) (c : E2), l.foldl (fun s t => s + prodT t v) c = c + l.foldl (fun s t => s + prodT t v) E2.zero
  | [], c => (E2.add_zero c).symm
  | t :: l, c => by rw [List.foldl_cons, List.foldl_cons, fin_from v l (c + prodT t v), fin_from v l (E2.zero + prodT t v), E2.zero_add, E2.add_assoc]
theorem finE_split (ts : List Tm) (n : Nat) (vs : List E2) : finE (ts.take n) vs + finE (ts.drop n) vs = finE ts vs := by
  unfold finE finF
  rw [← fin_from, ← List.foldl_append, List.take_append_drop]
theorem tot_split (Ls : List (List E2)) (ts : List Tm) (n N : Nat) : totE Ls (ts.take n) N + totE Ls (ts.drop n) N = totE Ls ts N := by
  unfold totE
  rw [← sumE_add]
  exact sumE_congr fun i _ => finE_split ts n _
theorem OkS.sub {Ls : List (List E2)} {ts us : List Tm} {K : Nat} (h : OkS Ls ts K) (hu : ∀ t ∈ us, t ∈ ts) (hl : us.length ≤ ts.length) : OkS Ls us K :=
  ⟨h.pos, h.few, by have := h.tfew; omega, h.len, h.k16, fun t ht => h.deg t (hu t ht), fun t ht => h.idx t (hu t ht)⟩
theorem OkS.scl {Ls : List (List E2)} {ts : List Tm} {K : Nat} (h : OkS Ls ts K) (y : E2) : OkS Ls (sclT ts y) K := by
  refine ⟨h.pos, h.few, by unfold sclT; rw [List.length_map]; exact h.tfew, h.len, h.k16, fun t ht => ?_, fun t ht => ?_⟩
  all_goals
    unfold sclT at ht
    rw [List.mem_map] at ht
    obtain ⟨u, hu, rfl⟩ := ht
  · exact h.deg u hu
  · exact h.idx u hu
theorem at_split {Ls : List (List E2)} {ts : List Tm} {K n i : Nat} (h : OkS Ls ts (K + 1)) (hi : i < degT ts + 1) :
    atE (rndE Ls (ts.take n) (2 ^ (K + 1))) (nd i) + atE (rndE Ls (ts.drop n) (2 ^ (K + 1))) (nd i) = cfE (rndE Ls ts (2 ^ (K + 1))) i := by
  rw [at_rnd (h.sub (fun t ht => List.mem_of_mem_take ht) (by rw [List.length_take]; omega)), at_rnd (h.sub (fun t ht => List.mem_of_mem_drop ht) (by rw [List.length_drop]; omega)), tot_split]
  unfold rndE
  rw [cfE_tabE, if_pos hi, show 2 ^ (K + 1) / 2 = 2 ^ K by rw [Nat.pow_succ]; omega]

end Go.Proofs.Ytombcjdhjcmhhaa

/- The frames of the laws of package sumcheck: raw descriptions of sums that come in are opened. -/
namespace Go.Proofs.Ytombcjdhjcmhhaa
set_option maxRecDepth 8000
open Go.ChangeShapes Go.WideShapes Go.ChangeAt Go.RowKit Go.Joins Go.Deep Gold
section
variable {H : Type} {enc : TypeId × Value → H} {W : World} {base : Nat} {sp : Nat → Bool} {b1 : Nat} {hd : Bool} {v : Value} {d : DataW H} {p : List MemPlace}
theorem trod_exts {m : Nat} {c0 : Value} {y : DataW H × List MemPlace} (h : DataW.trod enc Try.prog W b1 sp hd m 22 [c0] = some y) : ∃ (A : Option Addr) (n c : Nat) (ps : List (Int × Int)), c0 = .slice A n c ∧ Sr W A n c ps ∧ Nums ps := by
  obtain ⟨d, p⟩ := y
  rcases open_slice Try.underlying22 h with ⟨hcs, _⟩ | ⟨a, len, cap, m', n', D, Pl, hcs, _, hl, hm, hmm, _, hi⟩
  · injection hcs with hcs
    subst hcs
    exact ⟨none, 0, 0, [], rfl, ⟨rfl, Nat.le_refl _, Nat.zero_le _, fun _ => rfl, fun i p hp => by simp at hp⟩, fun p hp => by cases hp⟩
  · injection hcs with hcs
    subst hcs
    unfold maxLen at hm
    have hC : ∀ i, i < len → ∃ q : Int × Int, AtV W a i (.int .u64 q.1, .int .u64 q.2) ∧ U64 q.1 ∧ U64 q.2 := fun i hin => by
      obtain ⟨cs', hc, ht⟩ := hi i (by rw [hmm]; split <;> omega)
      rw [cellsOfE] at hc
      obtain ⟨_, hcl, hat⟩ := World.cells?_some hc
      match cs', hcl with
      | [c0, c1], _ =>
        obtain ⟨a0, a1, rfl, rfl, u0, u1⟩ := trod_ext ht
        have h0 := hat 0 (by omega)
        have h1 := hat 1 (by omega)
        refine ⟨(a0, a1), ⟨?_, ?_⟩, u0, u1⟩
        · exact h0
        · have e : (a.add (i * 2)).add 1 = ⟨(a.add (i * 2)).block, (a.add (i * 2)).off + 1, none⟩ := by
            unfold Addr.add
            simp
          rw [← e]
          exact h1
    obtain ⟨ps, hpl, hpp⟩ := list_of len _ hC
    refine ⟨some a, len, cap, ps, rfl, ⟨by simp [hpl], hl, by omega, (fun e => by cases e), fun i q hq => ?_⟩, fun q hq => ?_⟩
    · rw [List.getElem?_map] at hq
      cases hx : ps[i]? with
      | none => rw [hx] at hq; cases hq
      | some x =>
        rw [hx] at hq
        injection hq with hq
        subst hq
        exact ⟨a, rfl, (hpp i x hx).1⟩
    · obtain ⟨i, hi'⟩ := List.getElem?_of_mem hq
      exact (hpp i q hi').2
theorem cellsS : Try.prog.cellsOf 22 = 1 := by kernel_rfl
theorem cellsU8 : Try.prog.cellsOf 5 = 1 := by kernel_rfl
theorem cellsT3 : Try.prog.cellsOf 72 = 3 := by kernel_rfl
theorem cellsX : Try.prog.cellsOf 43 = 2 := by kernel_rfl
theorem cellsTm : Try.prog.cellsOf 74 = 6 := by kernel_rfl
theorem cellsL3 : Try.prog.cellsOf 23 = 3 := by kernel_rfl
theorem cellsTs : Try.prog.cellsOf 24 = 1 := by kernel_rfl
theorem cellsRaw : Try.prog.cellsOf 26 = 5 := by kernel_rfl
theorem trod_u8 {m : Nat} {c0 : Value} {y : DataW H × List MemPlace} (h : DataW.trod enc Try.prog W b1 sp hd m 5 [c0] = some y) : ∃ a : Int, c0 = .int .u8 a ∧ U8 a := by
  obtain ⟨a3, e3, _, w3⟩ := DataW.trod_int Try.underlying5 h
  simp at e3
  subst e3
  exact ⟨a3, rfl, bounds_u8 w3⟩
theorem trod_term {m : Nat} {c0 c1 c2 c3 c4 c5 : Value} {y : DataW H × List MemPlace} (h : DataW.trod enc Try.prog W b1 sp hd m 74 [c0, c1, c2, c3, c4, c5] = some y) :
    ∃ r : RawT, r.ok ∧ c0 = .int .u64 r.a ∧ c1 = .int .u64 r.b ∧ c2 = .int .u8 r.t0 ∧ c3 = .int .u8 r.t1 ∧ c4 = .int .u8 r.t2 ∧ c5 = .int .u8 r.n := by
  obtain ⟨xs, m', _, _, _, hn, hel⟩ := DataW.trod_struct Try.underlying74 h
  match xs, hn with
  | [y0, y1, y2], _ =>
    have g0 : DataW.trod enc Try.prog W b1 sp hd m' 43 [c0, c1] = some y0 := by simpa [cellsX, cellsT3, cellsU8] using hel 0 _ rfl
    have g1 : DataW.trod enc Try.prog W b1 sp hd m' 72 [c2, c3, c4] = some y1 := by simpa [cellsX, cellsT3, cellsU8] using hel 1 _ rfl
    have g2 : DataW.trod enc Try.prog W b1 sp hd m' 5 [c5] = some y2 := by simpa [cellsX, cellsT3, cellsU8] using hel 2 _ rfl
    obtain ⟨a, b, rfl, rfl, ua, ub⟩ := trod_ext g0
    obtain ⟨z0, z1, z2, _, _, k0, k1, k2⟩ := trod_array3 Try.underlying72 cellsU8 g1
    obtain ⟨t0, rfl, u0⟩ := trod_u8 k0
    obtain ⟨t1, rfl, u1⟩ := trod_u8 k1
    obtain ⟨t2, rfl, u2⟩ := trod_u8 k2
    obtain ⟨n, rfl, un⟩ := trod_u8 g2
    exact ⟨⟨a, b, t0, t1, t2, n⟩, ⟨ua, ub, u0, u1, u2, un⟩, rfl, rfl, rfl, rfl, rfl, rfl⟩
theorem add_off (a : Addr) (i k : Nat) : a.add (i + k) = ⟨(a.add i).block, (a.add i).off + k, none⟩ ∨ k = 0 := by
  by_cases h : k = 0
  · exact .inr h
  · left
    unfold Addr.add
    rw [if_neg (by omega)]
    by_cases hi : i = 0
    · subst hi
      simp
    · rw [if_neg hi]
      simp [Nat.add_assoc]
theorem trod_terms {m : Nat} {c0 : Value} {y : DataW H × List MemPlace} (h : DataW.trod enc Try.prog W b1 sp hd m 24 [c0] = some y) : ∃ (A : Option Addr) (n c : Nat) (rs : List RawT), c0 = .slice A n c ∧ SlK W A n c rs ∧ ∀ r ∈ rs, r.ok := by
  obtain ⟨d, p⟩ := y
  rcases open_slice Try.underlying24 h with ⟨hcs, _⟩ | ⟨a, len, cap, m', n', D, Pl, hcs, _, hl, hm, hmm, _, hi⟩
  · injection hcs with hcs
    subst hcs
    exact ⟨none, 0, 0, [], rfl, ⟨rfl, Nat.le_refl _, Nat.zero_le _, fun i p hp => by simp at hp⟩, fun p hp => by cases hp⟩
  · injection hcs with hcs
    subst hcs
    unfold maxLen at hm
    have hC : ∀ i, i < len → ∃ r : RawT, (W.cell? (a.add (i * 6)) = some (.int .u64 r.a) ∧ W.cell? ⟨(a.add (i * 6)).block, (a.add (i * 6)).off + 1, none⟩ = some (.int .u64 r.b) ∧
        (∀ k, k < 3 → W.cell? ⟨(a.add (i * 6)).block, (a.add (i * 6)).off + 2 + k, none⟩ = some (.int .u8 (r.t k))) ∧ W.cell? ⟨(a.add (i * 6)).block, (a.add (i * 6)).off + 5, none⟩ = some (.int .u8 r.n)) ∧ r.ok := fun i hin => by
      obtain ⟨cs', hc, ht⟩ := hi i (by rw [hmm]; split <;> omega)
      rw [cellsTm] at hc
      obtain ⟨_, hcl, hat⟩ := World.cells?_some hc
      match cs', hcl with
      | [c0, c1, c2, c3, c4, c5], _ =>
        obtain ⟨r, hok, rfl, rfl, rfl, rfl, rfl, rfl⟩ := trod_term ht
        have key : ∀ k, 0 < k → (a.add (i * 6)).add k = ⟨(a.add (i * 6)).block, (a.add (i * 6)).off + k, none⟩ := fun k hk => by
          unfold Addr.add
          rw [if_neg (by omega)]
        have h0 := hat 0 (by omega)
        have h1 := hat 1 (by omega)
        have h2 := hat 2 (by omega)
        have h3 := hat 3 (by omega)
        have h4 := hat 4 (by omega)
        have h5 := hat 5 (by omega)
        rw [key 1 (by omega)] at h1
        rw [key 2 (by omega)] at h2
        rw [key 3 (by omega)] at h3
        rw [key 4 (by omega)] at h4
        rw [key 5 (by omega)] at h5
        refine ⟨r, ⟨h0, h1, fun k hk => ?_, h5⟩, hok⟩
        match k, hk with
        | 0, _ => exact h2
        | 1, _ => exact h3
        | 2, _ => exact h4
    obtain ⟨rs, hpl, hpp⟩ := list_of len _ hC
    refine ⟨some a, len, cap, rs, rfl, ⟨by simp [hpl], hl, by omega, fun i r hr => ⟨a, rfl, (hpp i r hr).1⟩⟩, fun r hr => ?_⟩
    obtain ⟨i, hi'⟩ := List.getElem?_of_mem hr
    exact (hpp i r hi').2
theorem open_raw (hv : Value.okWide Try.prog W .any base 26 v) (h : DataW.Trod enc Try.prog W b1 sp hd 26 v d p) : RawS W v := by
  obtain ⟨cs, rfl, hsz, _⟩ : ∃ cs, v = .agg cs ∧ cs.size = Try.prog.cellsOf 26 ∧ Row.okWide Try.prog W .any base 26 cs := by
    simpa [Value.okWide, Try.underlying26] using hv
  rw [cellsRaw] at hsz
  obtain ⟨c0, c1, c2, c3, c4, rfl⟩ : ∃ c0 c1 c2 c3 c4, cs = #[c0, c1, c2, c3, c4] := by
    match cs, hsz with
    | ⟨[c0, c1, c2, c3, c4]⟩, _ => exact ⟨c0, c1, c2, c3, c4, rfl⟩
  obtain ⟨fuel, hf⟩ := h
  obtain ⟨xs, m', _, _, _, hn, hel⟩ := DataW.trod_struct Try.underlying26 (show DataW.trod enc Try.prog W b1 sp hd fuel 26 [c0, c1, c2, c3, c4] = some (d, p) by simpa [Value.cells] using hf)
  match xs, hn with
  | [y0, y1, y2], _ =>
    have g0 : DataW.trod enc Try.prog W b1 sp hd m' 23 [c0, c1, c2] = some y0 := by simpa [cellsL3, cellsTs, cellsU8] using hel 0 _ rfl
    have g1 : DataW.trod enc Try.prog W b1 sp hd m' 24 [c3] = some y1 := by simpa [cellsL3, cellsTs, cellsU8] using hel 1 _ rfl
    have g2 : DataW.trod enc Try.prog W b1 sp hd m' 5 [c4] = some y2 := by simpa [cellsL3, cellsTs, cellsU8] using hel 2 _ rfl
    obtain ⟨z0, z1, z2, _, _, k0, k1, k2⟩ := trod_array3 Try.underlying23 cellsS g0
    obtain ⟨A0, n0, c0, q0, rfl, s0, u0⟩ := trod_exts k0
    obtain ⟨A1, n1, c1, q1, rfl, s1, u1⟩ := trod_exts k1
    obtain ⟨A2, n2, c2, q2, rfl, s2, u2⟩ := trod_exts k2
    obtain ⟨B, n3, c3, rs, rfl, s3, u3⟩ := trod_terms g1
    obtain ⟨N, rfl, uN⟩ := trod_u8 g2
    exact ⟨A0, A1, A2, B, n0, c0, n1, c1, n2, c2, n3, c3, q0, q1, q2, rs, N, rfl, uN, s0, s1, s2, u0, u1, u2, s3, u3⟩
end
end Go.Proofs.Ytombcjdhjcmhhaa
