/- As Tail, where what is made or called waits for what came before by way of others. A statement whose order is open, that holds calls whose results lie at unknown places, and whose last operation waits for all the others (a store): one walk in the order of the text serves every order; the last operation may leave any world. No program, no conditions. -/
import Derived.Test.YtliflbelhogopaaDoorFloat3
import Derived.Test.YtliflbelhogopaaDoorTalb
import Derived.StillTail
namespace Go.Proofs.YtliflbelhogopaaDoor.Tl
set_option maxRecDepth 8000
open Go.RowKit Go.Proofs.YtliflbelhogopaaDoor

section
variable {P : Program} {ops : Array Oper} {S : World → Prop} {Q : Exit → Act → World → Prop} {m : Nat}

/-- every later effect waits for this operation -/
def ChainX (ops : Array Oper) (i : Nat) (listed : Array Bool) : Prop := (∀ j, Waits ops i j → listed.getD j false = false) ∧
  ∀ j oj, ops[j]? = some oj → j ≠ i → listed.getD j true = false → stillOp oj = false → Waits ops i j
structure ChainW (ops : Array Oper) : Prop where
  chain : ∀ (k j : Nat) (ok oj : Oper), k < j → ops[k]? = some ok → ops[j]? = some oj → stillOp ok = false → stillOp oj = false → Waits ops k j
theorem wpT_first (hz : ops.size = m + 1) (hs : Region.sinkB .any ops m = true) (hc : Region.chainB .any ops m = true) {i : Nat} {oi : Oper} (him : i < m) (hi : ops[i]? = some oi) (hsel : ∀ (j : Nat) (o : Oper) cs b, ops[j]? = some o → o.op ≠ .select cs b) : ∀ (n : Nat) (listed : Array Bool) (a : Act) (w : World), HeadInv .any ops m listed → S w →
      (∀ j oj, ops[j]? = some oj → j ≠ i → listed.getD j true = false → (∀ e ∈ oj.after, Region.binds .any e = true → e.on ≠ i) → oi.apart ops oj = true) →
      (stillOp oi = false → ChainX ops i listed) → i ∈ Region.ready .any ops listed → sOp P ops S i (wpT P ops S m Q n (listed.setIfInBounds i true)) a w → wpT P ops S m Q (n + 1) listed a w := by
  intro n
  induction n with
  | zero =>
    intro listed a w inv hS _ _ hr H
    refine ⟨fun h => (by rw [h] at hr; cases hr), fun j hj => ?_⟩
    by_cases hji : j = i
    · subst hji; rw [tOp_ne (by omega)]; exact H
    · obtain ⟨a', w', _, h0, _⟩ := sOp_out hS H
      have := ready_mono hj hji
      rw [h0] at this
      cases this
  | succ n ih =>
    intro listed a w inv hS hfree hchain hr H
    refine ⟨fun h => (by rw [h] at hr; cases hr), fun j hj => ?_⟩
    by_cases hji : j = i
    · subst hji; rw [tOp_ne (by omega)]; exact H
    have hjm : j ≠ m := fun e => by
      subst e
      exact tail_waits hs hc (by omega) inv _ i rfl him (mem_ready.1 hr).1 j (Nat.le_refl _) hj
    have hjl := ready_lt hj
    have inv' : HeadInv .any ops m (listed.setIfInBounds j true) := inv.set hj (by omega)
    rw [tOp_ne hjm]
    obtain ⟨hjun, oj, hoj, hall⟩ := mem_ready.1 hj
    have hnot : ∀ e ∈ oj.after, Region.binds .any e = true → e.on ≠ i := fun e he hb heq => by
      have h1 := hall e he hb
      have h0 := (mem_ready.1 hr).1
      rw [heq, getD_both h0] at h1
      cases h1
    have hap := hfree j oj hoj hji hjun hnot
    obtain ⟨p1, p2, p3⟩ := Oper.apart_spec hap
    have hsi := fun cs b => hsel i oi cs b hi
    have hsj := fun cs b => hsel j oj cs b hoj
    have hfree' : ∀ k ok, ops[k]? = some ok → k ≠ i → (listed.setIfInBounds j true).getD k true = false →
        (∀ e ∈ ok.after, Region.binds .any e = true → e.on ≠ i) → oi.apart ops ok = true := fun k ok hk hki hun hno => by
      refine hfree k ok hk hki ?_ hno
      by_cases hjk : j = k
      · subst hjk; exact hjun
      · rw [getD_set_ne true hjk] at hun; exact hun
    have h0i : listed.getD i false = false := getD_both (mem_ready.1 hr).1
    have hjs : stillOp oi = false → stillOp oj = true := fun hs => by
      cases e : stillOp oj with
      | true => rfl
      | false => exact (Waits.not_ready (hchain hs).1 h0i ((hchain hs).2 j oj hoj hji hjun e) hoj hall).elim
    have hchain' : stillOp oi = false → ChainX ops i (listed.setIfInBounds j true) := fun hs => by
      refine ⟨fun k hw => ?_, fun k ok hk hki hun hks => ?_⟩
      · have h1 := (hchain hs).1 k hw
        by_cases hjk : j = k
        · subst hjk
          exact (Waits.not_ready (hchain hs).1 h0i hw hoj hall).elim
        · rw [getD_set_ne false hjk]; exact h1
      · have hjk : j ≠ k := by
          rintro rfl
          rw [hoj] at hk
          injection hk with hk
          rw [← hk, hjs hs] at hks
          cases hks
        rw [getD_set_ne true hjk] at hun
        exact (hchain hs).2 k ok hk hki hun hks
    have hr' := ready_mono hr (Ne.symm hji)
    have hrj := ready_mono hj hji
    unfold sOp at H
    rw [hi] at H
    rcases H with ⟨hq, v, hy, HK⟩ | ⟨hnq, hh⟩
    · have hkj := HK.2 j hrj
      rw [tOp_ne hjm] at hkj
      have h2 := sOp_put hoj hap hsi hsj hq hy hkj
      refine sOp_mono hS (fun a' w' hS' ⟨hq', hy', hk'⟩ => ih (listed.setIfInBounds j true) a' w' inv' hS' hfree' hchain' hr' ?_) h2
      unfold sOp
      rw [hi]
      refine .inl ⟨hq', v, hy', ?_⟩
      rw [Array.setIfInBounds_comm _ _ hji]
      exact hk'
    · have hs : stillOp oi = false := by
        cases e : stillOp oi with
        | false => rfl
        | true => exact absurd (.inl e) hnq
      have hj' := hjs hs
      obtain ⟨v0, w0, hS0, hK0⟩ := hOp_out hh
      have h1 := hK0.2 j hrj
      rw [tOp_ne hjm] at h1
      unfold sOp at h1
      rw [hoj] at h1
      obtain ⟨vj, hyj⟩ : ∃ vj, YieldsIf P ops S oj vj a := by
        rcases h1 with ⟨_, u, hu, _⟩ | ⟨e, _⟩
        · exact ⟨u, hu.of_same (execOp_put oj hsj a oi.dst v0 p1).symm (wanted_put oj a oi.dst v0 p1).symm⟩
        · exact absurd (.inl hj') e
      unfold sOp
      rw [hoj]
      refine .inl ⟨.inl hj', vj, hyj, ih (listed.setIfInBounds j true) (a.put oj.dst vj) w inv' hS hfree' hchain' hr' ?_⟩
      unfold sOp
      rw [hi]
      refine .inr ⟨fun e => hnq ((quietNow_put p3).1 e), hOp_put hsi p3 (hOp_mono (fun v w' ⟨hS', hk'⟩ => ⟨hS', ?_⟩) hh)⟩
      have h2 := hk'.2 j hrj
      rw [tOp_ne hjm] at h2
      unfold sOp at h2
      rw [hoj] at h2
      rcases h2 with ⟨_, u, hu, hk2⟩ | ⟨e, _⟩
      · have hu' : YieldsIf P ops S oj u a := hu.of_same (execOp_put oj hsj a oi.dst v p1).symm (wanted_put oj a oi.dst v p1).symm
        have e := YieldsIf.one hS' hu' hyj
        subst e
        rw [Array.setIfInBounds_comm _ _ hji, ← Act.put_comm a v u p2]
        exact hk2
      · exact absurd (.inl hj') e

theorem wpT_of_lex (hz : ops.size = m + 1) (hs : Region.sinkB .any ops m = true) (hcb : Region.chainB .any ops m = true) (hx : LexOK ops) (hc : ChainW ops) : ∀ (l : List Oper) (k : Nat) (listed : Array Bool) (a : Act) (w : World), HeadInv .any ops m listed → S w →
    (∀ j, j < l.length → l[j]? = ops[k + j]?) → k + l.length = m → (∀ i, i < k → listed.getD i false = true) → (∀ i, k ≤ i → i < ops.size → listed.getD i true = false) →
    wpHeld P ops S (fun _ a w => mOp P ops m (fun a w => Q .normal a w) a w) l a w → wpT P ops S m Q (l.length + 1) listed a w
  | [], k, listed, a, w, inv, _, _, hk, h1, h2, h => by
    obtain rfl : k = m := by simpa using hk
    obtain ⟨om, hom, hw, hh⟩ := h
    have hr : k ∈ Region.ready .any ops listed := mem_ready.2 ⟨h2 k (Nat.le_refl _) (by omega), om, hom, fun e he hb => h1 _ (hx.edge k om hom e he hb)⟩
    refine ⟨fun e => (by rw [e] at hr; cases hr), fun i hi => ?_⟩
    have hil := ready_lt hi
    have hik : k ≤ i := by
      rcases Nat.lt_or_ge i k with h' | h'
      · have h3 := h1 i h'
        rw [getD_both (mem_ready.1 hi).1] at h3
        cases h3
      · exact h'
    obtain rfl : i = k := by omega
    rw [tOp_eq]
    exact ⟨om, hom, hw, hOp_mono (fun v w' hq => ⟨none_left hz hs hcb inv hi, hq⟩) hh⟩
  | o :: l, k, listed, a, w, inv, hS, hl, hk, h1, h2, h => by
    have h0 : ops[k]? = some o := by simpa using (hl 0 (by simp)).symm
    have hlt : k < ops.size := (Array.getElem?_eq_some_iff.1 h0).1
    have hkm : k < m := by simp at hk; omega
    have hst : sOp P ops S k (wpHeld P ops S (fun _ a w => mOp P ops m (fun a w => Q .normal a w) a w) l) a w := by
      unfold sOp
      rw [h0]
      exact h
    have hun : ∀ j, listed.getD j true = false → k ≤ j := fun j hun => by
      rcases Nat.lt_or_ge j k with h' | h'
      · have h3 := h1 j h'
        rw [getD_both hun] at h3
        cases h3
      · exact h'
    have hr : k ∈ Region.ready .any ops listed := mem_ready.2 ⟨h2 k (Nat.le_refl _) hlt, o, h0, fun e he hb => h1 _ (hx.edge k o h0 e he hb)⟩
    refine wpT_first hz hs hcb hkm h0 (Region.noSelect_spec hx.sel) (l.length + 1) listed a w inv hS ?_ ?_ hr ?_
    · intro j oj hj hne hju hno
      refine hx.free k j o oj ?_ h0 hj hno
      have := hun j hju
      omega
    · intro hs'
      refine ⟨fun j hw => ?_, fun j oj hj hne hju hjs => ?_⟩
      · obtain ⟨h3, h4⟩ := hw.lt hx
        exact getD_both (h2 j (by omega) h4)
      · have := hun j hju
        exact hc.chain k j o oj (by omega) h0 hj hs' hjs
    · refine sOp_mono hS (fun a' w' hS' h' => wpT_of_lex hz hs hcb hx hc l (k + 1) _ a' w' (inv.set hr hkm) hS' (fun j hj => by have := hl (j + 1) (by simp; omega); simpa [Nat.add_assoc, Nat.add_comm 1 j] using this) (by simp at hk; omega) ?_ ?_ h') hst
      · intro i hi
        by_cases e : i = k
        · subst e
          simp [inv.size, hlt]
        · exact getD_set_true (h1 i (by omega))
      · intro i hi hi'
        rw [getD_set_ne true (by omega)]
        exact h2 i (by omega) hi'

theorem wp_held_tail {id : Nat} {a : Act} {w : World} {l : List Oper} (n : Nat) (hm : P.follows .mixedOrders = true) (hx : LexOK l.toArray) (hc : ChainW l.toArray) (hz : l.length = n + 1) (hs : Region.sinkB .any l.toArray n = true) (hcb : Region.chainB .any l.toArray n = true) (hS : S w.drew)
    (h : wpHeld P l.toArray S (fun _ a w => mOp P l.toArray n (fun a w => Q .normal a w) a w) (l.take n) a w.drew) : (Code.region id l.toArray true).wp P Q a w := by
  have inv0 : HeadInv .any l.toArray n (Array.replicate l.toArray.size false) :=
    ⟨by simp, fun j oj _ hl => (by rw [getD_replicate_false] at hl; cases hl), fun t _ ht => getD_in (by simpa using ht) (getD_replicate_false _ _)⟩
  have htl : (l.take n).length = n := by simp; omega
  refine wp_region_any hm (wpAny_of_wpT (S := S) (m := n) (by simpa using hz) hs hcb _ _ _ _ inv0 hS ?_)
  have := wpT_of_lex (P := P) (S := S) (Q := Q) (m := n) (ops := l.toArray) (by simpa using hz) hs hcb hx hc (l.take n) 0 (Array.replicate l.toArray.size false) a w.drew inv0 hS (fun j hj => by
    have hj' : j < n := by rw [htl] at hj; exact hj
    simp [hj']) (by simpa using htl) (by intro i hi; omega) (fun i _ hi => getD_in (by simpa using hi) (getD_replicate_false _ _)) h
  rw [htl] at this
  simpa [hz] using this
theorem wp_held_tailB (n B : Nat) {id : Nat} {a : Act} {w : World} {l : List Oper} (hm : P.follows .mixedOrders = true) (hx : LexOK l.toArray) (hc : ChainW l.toArray) (hz : l.length = n + 1) (hs : Region.sinkB .any l.toArray n = true) (hcb : Region.chainB .any l.toArray n = true)
    (h : ∀ W, Below w.heap.size w W → (∃ x : LaterB B w, W = x.at) → wpHeld P l.toArray (fun w' => ∃ x : LaterB B w, w' = x.at) (fun _ a w => mOp P l.toArray n (fun a w => Q .normal a w) a w) (l.take n) a W) : (Code.region id l.toArray true).wp P Q a w :=
  wp_held_tail n hm hx hc hz hs hcb ⟨⟨w.drew, (Below.refl _ _).drew⟩, rfl⟩ (h w.drew (Below.refl _ _).drew ⟨⟨w.drew, (Below.refl _ _).drew⟩, rfl⟩)
end

/-! ### The test -/
def chainV : List Oper → List Nat → List Nat → Bool
  | [], _, _ => true
  | o :: l, ms, hs => (fun m => (stillOp o || hs.all (bitOf m)) && chainV l (ms ++ [m]) (bif stillOp o then hs else ms.length :: hs)) (waitM ms o.after.toList)
theorem chainV_spec {ops : Array Oper} : ∀ (l : List Oper) (ms hs : List Nat), (∀ j, l[j]? = ops[ms.length + j]?) →
    (∀ j i, (ms.getD j 0).testBit i = true → Waits ops i j) → (∀ i o, i < ms.length → ops[i]? = some o → stillOp o = false → i ∈ hs) → chainV l ms hs = true →
    ∀ (j : Nat) (oj : Oper), ms.length ≤ j → ops[j]? = some oj → stillOp oj = false → ∀ (i : Nat) (oi : Oper), i < j → ops[i]? = some oi → stillOp oi = false → Waits ops i j
  | [], ms, _, hl, _, _, _, j, oj, hj, hoj, _ => by
    intro i oi hi hoi _
    have h0 : ops[j]? = none := by
      have := hl (j - ms.length)
      rw [show ms.length + (j - ms.length) = j by omega] at this
      rw [← this]
      rfl
    rw [h0] at hoj
    cases hoj
  | o :: l, ms, hs, hl, hp, hi, h, j, oj, hj, hoj, hjs => by
    have h0 : ops[ms.length]? = some o := by simpa using (hl 0).symm
    have hl' : ∀ m j, l[j]? = ops[(ms ++ [m]).length + j]? := fun m j => by have := hl (j + 1); simpa [Nat.add_assoc, Nat.add_comm 1 j] using this
    have hwm : ∀ i, (waitM ms o.after.toList).testBit i = true → Waits ops i ms.length := fun i hw => by
      obtain ⟨e, he, hb, hon⟩ := waitM_spec _ i hw
      have he' : e ∈ o.after := by simpa using he
      rcases hon with hon | hon
      · exact .on e h0 he' hb hon
      · exact .step e h0 he' hb (hp _ _ hon)
    simp only [chainV, Bool.and_eq_true] at h
    obtain ⟨hm, hrest⟩ := h
    by_cases hjk : j = ms.length
    · subst hjk
      rw [h0] at hoj
      injection hoj with hoj
      subst hoj
      rw [hjs] at hm
      intro i oi hij hoi his
      refine hwm i ?_
      have := List.all_eq_true.1 (by simpa using hm) i (hi i oi hij hoi his)
      rwa [bitOf_eq] at this
    · refine chainV_spec l _ _ (hl' _) ?_ ?_ hrest j oj (by simp; omega) hoj hjs
      · intro j' i' hw
        rcases Nat.lt_trichotomy j' ms.length with h' | h' | h'
        · refine hp j' i' ?_
          rw [List.getD_eq_getElem?_getD, List.getElem?_append_left h', ← List.getD_eq_getElem?_getD] at hw
          exact hw
        · subst h'
          refine hwm i' ?_
          rw [List.getD_eq_getElem?_getD, List.getElem?_append_right (Nat.le_refl _), Nat.sub_self] at hw
          exact hw
        · rw [List.getD_eq_getElem?_getD, List.getElem?_eq_none (by simp; omega)] at hw
          simp at hw
      · intro i' o' hik ho' hs'
        by_cases e : i' = ms.length
        · subst e
          rw [h0] at ho'
          injection ho' with ho'
          subst ho'
          rw [hs']
          simp
        · have := hi i' o' (by simp at hik; omega) ho' hs'
          cases stillOp o
          · exact List.mem_cons_of_mem _ this
          · exact this
theorem chainW_of {l : List Oper} (h : chainV l [] [] = true) : ChainW l.toArray :=
  ⟨fun k j ok oj hkj hok hoj hks hjs => chainV_spec (ops := l.toArray) l [] [] (by simp) (by intro j i hw; simp at hw) (by intro i o hi; simp at hi) h j oj (Nat.zero_le _) hoj hjs k ok hkj hok hks⟩

end Go.Proofs.YtliflbelhogopaaDoor.Tl
