/- Several texts in one: Tai3, Mkg, Rnd, Mki. -/
import Derived.Test.YtgkojdbepgonkaaDoorH04
import Derived.StillTail
import Derived.Test.YtgkojdbepgonkaaDoorH07
import Derived.Test.YtgkojdbepgonkaaDoorH05
import Derived.Laws.Rows
import Derived.Test.YtgkojdbepgonkaaDoorH01
import Derived.RangeFuncCalls
import Derived.OrdersIn
import Derived.OwnWalkIn
import Derived.Sort.CutIn
/- As Tail, where what is made or called waits for what came before by way of others. A statement whose order is open, that holds calls whose results lie at unknown places, and whose last operation waits for all the others (a store): one walk in the order of the text serves every order; the last operation may leave any world. No program, no conditions. -/
namespace Go.Proofs.YtgkojdbepgonkaaDoor.Tl
set_option maxRecDepth 8000
set_option linter.unusedVariables false
set_option linter.unusedSimpArgs false
open Go.RowKit Go.Proofs.YtgkojdbepgonkaaDoor

section
variable {P : Program} {ops : Array Oper} {S : World → Prop} {Q : Exit → Act → World → Prop} {m : Nat}

/-- every later effect waits for this operation -/
def ChainX (ops : Array Oper) (i : Nat) (listed : Array Bool) : Prop := (∀ j, Waits ops i j → listed.getD j false = false) ∧
  ∀ j oj, ops[j]? = some oj → j ≠ i → listed.getD j true = false → stillOp oj = false → Waits ops i j
structure ChainW (ops : Array Oper) : Prop where
  chain : ∀ (k j : Nat) (ok oj : Oper), k < j → ops[k]? = some ok → ops[j]? = some oj → stillOp ok = false → stillOp oj = false → Waits ops k j
theorem wpT_first (hz : ops.size = m + 1) (hs : Region.sinkB .any ops m = true) (hc : Region.chainB .any ops m = true) {i : Nat} {oi : Oper} (him : i < m) (hi : ops[i]? = some oi) (hsel : ∀ (j : Nat) (o : Oper) cs b, ops[j]? = some o → o.op ≠ .select cs b) : ∀ (n : Nat) (listed : Array Bool) (a : Act) (w : World), HeadInv .any ops m listed → S w →
      (∀ j oj, ops[j]? = some oj → j ≠ i → listed.getD j true = false → (∀ e ∈ oj.after, Region.binds .any e = true → e.on ≠ i) → oi.apart ops oj = true) →
      (stillOp oi = false → ChainX ops i listed) → i ∈ Region.ready .any ops listed → sOp P ops S i (wpT P ops S m Q n (listed.setIfInBounds i true)) a w → wpT P ops S m Q (n + 1) listed a w := by
  intro n
  induction n with
  | zero =>
    intro listed a w inv hS _ _ hr H
    refine ⟨fun h => (by rw [h] at hr; cases hr), fun j hj => ?_⟩
    by_cases hji : j = i
    · subst hji; rw [tOp_ne (by omega)]; exact H
    · obtain ⟨a', w', _, h0, _⟩ := sOp_out hS H
      have := ready_mono hj hji
      rw [h0] at this
      cases this
  | succ n ih =>
    intro listed a w inv hS hfree hchain hr H
    refine ⟨fun h => (by rw [h] at hr; cases hr), fun j hj => ?_⟩
    by_cases hji : j = i
    · subst hji; rw [tOp_ne (by omega)]; exact H
    have hjm : j ≠ m := fun e => by
      subst e
      exact tail_waits hs hc (by omega) inv _ i rfl him (mem_ready.1 hr).1 j (Nat.le_refl _) hj
    have hjl := ready_lt hj
    have inv' : HeadInv .any ops m (listed.setIfInBounds j true) := inv.set hj (by omega)
    rw [tOp_ne hjm]
    obtain ⟨hjun, oj, hoj, hall⟩ := mem_ready.1 hj
    have hnot : ∀ e ∈ oj.after, Region.binds .any e = true → e.on ≠ i := fun e he hb heq => by
      have h1 := hall e he hb
      have h0 := (mem_ready.1 hr).1
      rw [heq, getD_both h0] at h1
      cases h1
    have hap := hfree j oj hoj hji hjun hnot
    obtain ⟨p1, p2, p3⟩ := Oper.apart_spec hap
    have hsi := fun cs b => hsel i oi cs b hi
    have hsj := fun cs b => hsel j oj cs b hoj
    have hfree' : ∀ k ok, ops[k]? = some ok → k ≠ i → (listed.setIfInBounds j true).getD k true = false →
        (∀ e ∈ ok.after, Region.binds .any e = true → e.on ≠ i) → oi.apart ops ok = true := fun k ok hk hki hun hno => by
      refine hfree k ok hk hki ?_ hno
      by_cases hjk : j = k
      · subst hjk; exact hjun
      · rw [getD_set_ne true hjk] at hun; exact hun
    have h0i : listed.getD i false = false := getD_both (mem_ready.1 hr).1
    have hjs : stillOp oi = false → stillOp oj = true := fun hs => by
      cases e : stillOp oj with
      | true => rfl
      | false => exact (Waits.not_ready (hchain hs).1 h0i ((hchain hs).2 j oj hoj hji hjun e) hoj hall).elim
    have hchain' : stillOp oi = false → ChainX ops i (listed.setIfInBounds j true) := fun hs => by
      refine ⟨fun k hw => ?_, fun k ok hk hki hun hks => ?_⟩
      · have h1 := (hchain hs).1 k hw
        by_cases hjk : j = k
        · subst hjk
          exact (Waits.not_ready (hchain hs).1 h0i hw hoj hall).elim
        · rw [getD_set_ne false hjk]; exact h1
      · have hjk : j ≠ k := by
          rintro rfl
          rw [hoj] at hk
          injection hk with hk
          rw [← hk, hjs hs] at hks
          cases hks
        rw [getD_set_ne true hjk] at hun
        exact (hchain hs).2 k ok hk hki hun hks
    have hr' := ready_mono hr (Ne.symm hji)
    have hrj := ready_mono hj hji
    unfold sOp at H
    rw [hi] at H
    rcases H with ⟨hq, v, hy, HK⟩ | ⟨hnq, hh⟩
    · have hkj := HK.2 j hrj
      rw [tOp_ne hjm] at hkj
      have h2 := sOp_put hoj hap hsi hsj hq hy hkj
      refine sOp_mono hS (fun a' w' hS' ⟨hq', hy', hk'⟩ => ih (listed.setIfInBounds j true) a' w' inv' hS' hfree' hchain' hr' ?_) h2
      unfold sOp
      rw [hi]
      refine .inl ⟨hq', v, hy', ?_⟩
      rw [Array.setIfInBounds_comm _ _ hji]
      exact hk'
    · have hs : stillOp oi = false := by
        cases e : stillOp oi with
        | false => rfl
        | true => exact absurd (.inl e) hnq
      have hj' := hjs hs
      obtain ⟨v0, w0, hS0, hK0⟩ := hOp_out hh
      have h1 := hK0.2 j hrj
      rw [tOp_ne hjm] at h1
      unfold sOp at h1
      rw [hoj] at h1
      obtain ⟨vj, hyj⟩ : ∃ vj, YieldsIf P ops S oj vj a := by
        rcases h1 with ⟨_, u, hu, _⟩ | ⟨e, _⟩
        · exact ⟨u, hu.of_same (execOp_put oj hsj a oi.dst v0 p1).symm (wanted_put oj a oi.dst v0 p1).symm⟩
        · exact absurd (.inl hj') e
      unfold sOp
      rw [hoj]
      refine .inl ⟨.inl hj', vj, hyj, ih (listed.setIfInBounds j true) (a.put oj.dst vj) w inv' hS hfree' hchain' hr' ?_⟩
      unfold sOp
      rw [hi]
      refine .inr ⟨fun e => hnq ((quietNow_put p3).1 e), hOp_put hsi p3 (hOp_mono (fun v w' ⟨hS', hk'⟩ => ⟨hS', ?_⟩) hh)⟩
      have h2 := hk'.2 j hrj
      rw [tOp_ne hjm] at h2
      unfold sOp at h2
      rw [hoj] at h2
      rcases h2 with ⟨_, u, hu, hk2⟩ | ⟨e, _⟩
      · have hu' : YieldsIf P ops S oj u a := hu.of_same (execOp_put oj hsj a oi.dst v p1).symm (wanted_put oj a oi.dst v p1).symm
        have e := YieldsIf.one hS' hu' hyj
        subst e
        rw [Array.setIfInBounds_comm _ _ hji, ← Act.put_comm a v u p2]
        exact hk2
      · exact absurd (.inl hj') e

theorem wpT_of_lex (hz : ops.size = m + 1) (hs : Region.sinkB .any ops m = true) (hcb : Region.chainB .any ops m = true) (hx : LexOK ops) (hc : ChainW ops) : ∀ (l : List Oper) (k : Nat) (listed : Array Bool) (a : Act) (w : World), HeadInv .any ops m listed → S w →
    (∀ j, j < l.length → l[j]? = ops[k + j]?) → k + l.length = m → (∀ i, i < k → listed.getD i false = true) → (∀ i, k ≤ i → i < ops.size → listed.getD i true = false) →
    wpHeld P ops S (fun _ a w => mOp P ops m (fun a w => Q .normal a w) a w) l a w → wpT P ops S m Q (l.length + 1) listed a w
  | [], k, listed, a, w, inv, _, _, hk, h1, h2, h => by
    obtain rfl : k = m := by simpa using hk
    obtain ⟨om, hom, hw, hh⟩ := h
    have hr : k ∈ Region.ready .any ops listed := mem_ready.2 ⟨h2 k (Nat.le_refl _) (by omega), om, hom, fun e he hb => h1 _ (hx.edge k om hom e he hb)⟩
    refine ⟨fun e => (by rw [e] at hr; cases hr), fun i hi => ?_⟩
    have hil := ready_lt hi
    have hik : k ≤ i := by
      rcases Nat.lt_or_ge i k with h' | h'
      · have h3 := h1 i h'
        rw [getD_both (mem_ready.1 hi).1] at h3
        cases h3
      · exact h'
    obtain rfl : i = k := by omega
    rw [tOp_eq]
    exact ⟨om, hom, hw, hOp_mono (fun v w' hq => ⟨none_left hz hs hcb inv hi, hq⟩) hh⟩
  | o :: l, k, listed, a, w, inv, hS, hl, hk, h1, h2, h => by
    have h0 : ops[k]? = some o := by simpa using (hl 0 (by simp)).symm
    have hlt : k < ops.size := (Array.getElem?_eq_some_iff.1 h0).1
    have hkm : k < m := by simp at hk; omega
    have hst : sOp P ops S k (wpHeld P ops S (fun _ a w => mOp P ops m (fun a w => Q .normal a w) a w) l) a w := by
      unfold sOp
      rw [h0]
      exact h
    have hun : ∀ j, listed.getD j true = false → k ≤ j := fun j hun => by
      rcases Nat.lt_or_ge j k with h' | h'
      · have h3 := h1 j h'
        rw [getD_both hun] at h3
        cases h3
      · exact h'
    have hr : k ∈ Region.ready .any ops listed := mem_ready.2 ⟨h2 k (Nat.le_refl _) hlt, o, h0, fun e he hb => h1 _ (hx.edge k o h0 e he hb)⟩
    refine wpT_first hz hs hcb hkm h0 (Region.noSelect_spec hx.sel) (l.length + 1) listed a w inv hS ?_ ?_ hr ?_
    · intro j oj hj hne hju hno
      refine hx.free k j o oj ?_ h0 hj hno
      have := hun j hju
      omega
    · intro hs'
      refine ⟨fun j hw => ?_, fun j oj hj hne hju hjs => ?_⟩
      · obtain ⟨h3, h4⟩ := hw.lt hx
        exact getD_both (h2 j (by omega) h4)
      · have := hun j hju
        exact hc.chain k j o oj (by omega) h0 hj hs' hjs
    · refine sOp_mono hS (fun a' w' hS' h' => wpT_of_lex hz hs hcb hx hc l (k + 1) _ a' w' (inv.set hr hkm) hS' (fun j hj => by have := hl (j + 1) (by simp; omega); simpa [Nat.add_assoc, Nat.add_comm 1 j] using this) (by simp at hk; omega) ?_ ?_ h') hst
      · intro i hi
        by_cases e : i = k
        · subst e
          simp [inv.size, hlt]
        · exact getD_set_true (h1 i (by omega))
      · intro i hi hi'
        rw [getD_set_ne true (by omega)]
        exact h2 i (by omega) hi'

theorem wp_held_tail {id : Nat} {a : Act} {w : World} {l : List Oper} (n : Nat) (hm : P.follows .mixedOrders = true) (hx : LexOK l.toArray) (hc : ChainW l.toArray) (hz : l.length = n + 1) (hs : Region.sinkB .any l.toArray n = true) (hcb : Region.chainB .any l.toArray n = true) (hS : S w.drew)
    (h : wpHeld P l.toArray S (fun _ a w => mOp P l.toArray n (fun a w => Q .normal a w) a w) (l.take n) a w.drew) : (Code.region id l.toArray true).wp P Q a w := by
  have inv0 : HeadInv .any l.toArray n (Array.replicate l.toArray.size false) :=
    ⟨by simp, fun j oj _ hl => (by rw [getD_replicate_false] at hl; cases hl), fun t _ ht => getD_in (by simpa using ht) (getD_replicate_false _ _)⟩
  have htl : (l.take n).length = n := by simp; omega
  refine wp_region_any hm (wpAny_of_wpT (S := S) (m := n) (by simpa using hz) hs hcb _ _ _ _ inv0 hS ?_)
  have := wpT_of_lex (P := P) (S := S) (Q := Q) (m := n) (ops := l.toArray) (by simpa using hz) hs hcb hx hc (l.take n) 0 (Array.replicate l.toArray.size false) a w.drew inv0 hS (fun j hj => by
    have hj' : j < n := by rw [htl] at hj; exact hj
    simp [hj']) (by simpa using htl) (by intro i hi; omega) (fun i _ hi => getD_in (by simpa using hi) (getD_replicate_false _ _)) h
  rw [htl] at this
  simpa [hz] using this
theorem wp_held_tailB (n B : Nat) {id : Nat} {a : Act} {w : World} {l : List Oper} (hm : P.follows .mixedOrders = true) (hx : LexOK l.toArray) (hc : ChainW l.toArray) (hz : l.length = n + 1) (hs : Region.sinkB .any l.toArray n = true) (hcb : Region.chainB .any l.toArray n = true)
    (h : ∀ W, Below w.heap.size w W → (∃ x : LaterB B w, W = x.at) → wpHeld P l.toArray (fun w' => ∃ x : LaterB B w, w' = x.at) (fun _ a w => mOp P l.toArray n (fun a w => Q .normal a w) a w) (l.take n) a W) : (Code.region id l.toArray true).wp P Q a w :=
  wp_held_tail n hm hx hc hz hs hcb ⟨⟨w.drew, (Below.refl _ _).drew⟩, rfl⟩ (h w.drew (Below.refl _ _).drew ⟨⟨w.drew, (Below.refl _ _).drew⟩, rfl⟩)
end

/-! ### The test -/
def chainV : List Oper → List Nat → List Nat → Bool
  | [], _, _ => true
  | o :: l, ms, hs => (fun m => (stillOp o || hs.all (bitOf m)) && chainV l (ms ++ [m]) (bif stillOp o then hs else ms.length :: hs)) (waitM ms o.after.toList)
theorem chainV_spec {ops : Array Oper} : ∀ (l : List Oper) (ms hs : List Nat), (∀ j, l[j]? = ops[ms.length + j]?) →
    (∀ j i, (ms.getD j 0).testBit i = true → Waits ops i j) → (∀ i o, i < ms.length → ops[i]? = some o → stillOp o = false → i ∈ hs) → chainV l ms hs = true →
    ∀ (j : Nat) (oj : Oper), ms.length ≤ j → ops[j]? = some oj → stillOp oj = false → ∀ (i : Nat) (oi : Oper), i < j → ops[i]? = some oi → stillOp oi = false → Waits ops i j
  | [], ms, _, hl, _, _, _, j, oj, hj, hoj, _ => by
    intro i oi hi hoi _
    have h0 : ops[j]? = none := by
      have := hl (j - ms.length)
      rw [show ms.length + (j - ms.length) = j by omega] at this
      rw [← this]
      rfl
    rw [h0] at hoj
    cases hoj
  | o :: l, ms, hs, hl, hp, hi, h, j, oj, hj, hoj, hjs => by
    have h0 : ops[ms.length]? = some o := by simpa using (hl 0).symm
    have hl' : ∀ m j, l[j]? = ops[(ms ++ [m]).length + j]? := fun m j => by have := hl (j + 1); simpa [Nat.add_assoc, Nat.add_comm 1 j] using this
    have hwm : ∀ i, (waitM ms o.after.toList).testBit i = true → Waits ops i ms.length := fun i hw => by
      obtain ⟨e, he, hb, hon⟩ := waitM_spec _ i hw
      have he' : e ∈ o.after := by simpa using he
      rcases hon with hon | hon
      · exact .on e h0 he' hb hon
      · exact .step e h0 he' hb (hp _ _ hon)
    simp only [chainV, Bool.and_eq_true] at h
    obtain ⟨hm, hrest⟩ := h
    by_cases hjk : j = ms.length
    · subst hjk
      rw [h0] at hoj
      injection hoj with hoj
      subst hoj
      rw [hjs] at hm
      intro i oi hij hoi his
      refine hwm i ?_
      have := List.all_eq_true.1 (by simpa using hm) i (hi i oi hij hoi his)
      rwa [bitOf_eq] at this
    · refine chainV_spec l _ _ (hl' _) ?_ ?_ hrest j oj (by simp; omega) hoj hjs
      · intro j' i' hw
        rcases Nat.lt_trichotomy j' ms.length with h' | h' | h'
        · refine hp j' i' ?_
          rw [List.getD_eq_getElem?_getD, List.getElem?_append_left h', ← List.getD_eq_getElem?_getD] at hw
          exact hw
        · subst h'
          refine hwm i' ?_
          rw [List.getD_eq_getElem?_getD, List.getElem?_append_right (Nat.le_refl _), Nat.sub_self] at hw
          exact hw
        · rw [List.getD_eq_getElem?_getD, List.getElem?_eq_none (by simp; omega)] at hw
          simp at hw
      · intro i' o' hik ho' hs'
        by_cases e : i' = ms.length
        · subst e
          rw [h0] at ho'
          injection ho' with ho'
          subst ho'
          rw [hs']
          simp
        · have := hi i' o' (by simp at hik; omega) ho' hs'
          cases stillOp o
          · exact List.mem_cons_of_mem _ this
          · exact this
theorem chainW_of {l : List Oper} (h : chainV l [] [] = true) : ChainW l.toArray :=
  ⟨fun k j ok oj hkj hok hoj hks hjs => chainV_spec (ops := l.toArray) l [] [] (by simp) (by intro j i hw; simp at hw) (by intro i o hi; simp at hi) h j oj (Nat.zero_le _) hoj hjs k ok hkj hok hks⟩

end Go.Proofs.YtgkojdbepgonkaaDoor.Tl

/- Subtrees of a tree: the whole, the two parts. -/
namespace Go.Proofs.YtgkojdbepgonkaaDoor
set_option linter.unusedVariables false
set_option linter.unusedSimpArgs false
set_option maxRecDepth 8000
open Go.RowKit
/-- a subtree: first and size -/
def subV (f s : Nat) : Value := .agg #[.int .i64 (f : Int), .int .i64 (s : Int)]
theorem results_row_row {P : Program} {fn : Func} {p q : Tmp} {ty ty2 : TypeId} (h : fn.results = #[.cell p ty, .cell q ty2]) (tmps : Array Value) (w : World) (g k : Nat) (t t2 : TypeId) (cs ds : Array Value) (d d2 : TypeDesc)
    (hp : tmps.getD p undef = .pointer (some ⟨g, 0, none⟩)) (hq : tmps.getD q undef = .pointer (some ⟨k, 0, none⟩)) (hg : w.heap[g]? = some (.cells cs t (0, 0))) (hk : w.heap[k]? = some (.cells ds t2 (0, 0)))
    (hu : P.underlying ty = some d) (hd : (match d with | .struct _ | .array _ _ => true | _ => false) = true) (hi : (P.info? ty).map (·.size) = some cs.size)
    (hu2 : P.underlying ty2 = some d2) (hd2 : (match d2 with | .struct _ | .array _ _ => true | _ => false) = true) (hi2 : (P.info? ty2).map (·.size) = some ds.size) :
    (results fn tmps).run P w = .ok (.tuple #[.agg cs, .agg ds]) w := by
  have hp' : tmps[p]?.getD undef = .pointer (some ⟨g, 0, none⟩) := by simpa using hp
  have hq' : tmps[q]?.getD undef = .pointer (some ⟨k, 0, none⟩) := by simpa using hq
  simp [results, h, hp', hq', asAddr, Result.andThen, run_loadVar_row w g t ty cs (0, 0) d hg hu hd hi, run_loadVar_row w k t2 ty2 ds (0, 0) d2 hk hu2 hd2 hi2]
theorem row_set {w : World} {g t : Nat} {cs : Array Value} (h : w.heap[g]? = some (.cells cs t (0, 0))) (ds : Array Value) : (w.setRow g ds).heap[g]? = some (.cells ds t (0, 0)) := by
  simp [World.setRow, Array.getElem?_modify, h]
theorem row_far {w : World} {g k : Nat} (e : g ≠ k) (ds : Array Value) : (w.setRow k ds).heap[g]? = w.heap[g]? := by
  simp [World.setRow, Array.getElem?_modify, Ne.symm e]
theorem whole_any (n : Nat) (w : World) : Calls Tryd.prog 54 #[.int .i64 (n : Int)] w fun e w' => e = .returned (subV 0 n) ∧ Below w.heap.size w w' := by
  go_enter Tryd.func54, Tryd.ntmps54
  go_wp2_with fail
  refine bodyPost_ret (v := subV 0 n) ?_ rfl ⟨rfl, (Below.refl _ _).alloc (Nat.le_refl _) _⟩
  exact results_cell_row rfl _ _ w.heap.size 94 _ (0, 0) _ rfl (heap_new w _) Tryd.underlying94 rfl (by kernel_rfl)
set_option maxHeartbeats 1000000 in
theorem parts_any (f s : Nat) (w : World) (hs2 : 2 ≤ s) (hs : s ≤ 65536) (hf : f ≤ 65536) :
    Calls Tryd.prog 94 #[subV f s] w fun e w' => e = .returned (.tuple #[subV f (leftN s), subV (f + leftN s) (s - leftN s)]) ∧ Below w.heap.size w w' := by
  unfold subV
  obtain ⟨k, hk⟩ : ∃ k, leftN s = k := ⟨_, rfl⟩
  have hks : k < s := by rw [← hk]; exact leftN_lt hs2
  rw [hk]
  have HK := Lib.hid hk
  clear hk
  go_enter Tryd.func94, Tryd.ntmps94
  go_upto_region 1 with fail
  refine wp_named3 (fun w1 hb1 g0 g1 g2 hlt1 => ?_)
  have c0 := cells_at g0 0 (v := .int .i64 (f : Int)) rfl
  have c1 := cells_at g0 1 (v := .int .i64 (s : Int)) rfl
  have HB1 := Lib.hid hb1
  have G1 := Lib.hid g1
  have G2 := Lib.hid g2
  clear hb1 g0 g1 g2
  go_wp2_with fail
  refine (leftSize_any s w1 hs2 (by omega)).mono ?_
  rintro e W ⟨rfl, rfl⟩
  rw [HK.out]
  have hw1 : IntKind.i64.wrap ((f : Int) + (k : Int)) = ((f + k : Nat) : Int) := by rw [IntKind.wrap_i64]; omega
  have hw2 : IntKind.i64.wrap ((s : Int) - (k : Int)) = ((s - k : Nat) : Int) := by rw [IntKind.wrap_i64]; omega
  have c0 : W.cell? ⟨w.heap.size, 0, none⟩ = some (.int .i64 (f : Int)) := c0
  clear HK
  have d10 := cells_at G1.out 0 (v := .int .i64 0) rfl
  have d11 := cells_at G1.out 1 (v := .int .i64 0) rfl
  have d20 := cells_at G2.out 0 (v := .int .i64 0) rfl
  have d21 := cells_at G2.out 1 (v := .int .i64 0) rfl
  have e10 := frozen_of_row W (w.heap.size + 1) 0 _ _ G1.out
  have e11 := frozen_of_row W (w.heap.size + 1) 1 _ _ G1.out
  have e20 := frozen_of_row W (w.heap.size + 1 + 1) 0 _ _ G2.out
  have e21 := frozen_of_row W (w.heap.size + 1 + 1) 1 _ _ G2.out
  have ne1 : w.heap.size ≠ w.heap.size + 1 := by omega
  have ne2 : w.heap.size ≠ w.heap.size + 1 + 1 := by omega
  go_upto_region 2 with fail
  go_region
  have HX : ∀ (v : Int), v = (f : Int) + (k : Int) → ∃ U : World, U = ((((W.setCell { block := w.heap.size + 1, off := 0 } (.int .i64 (f : Int))).setCell { block := w.heap.size + 1, off := 1 } (.int .i64 (k : Int))).setCell { block := w.heap.size + 1 + 1, off := 0 } (.int .i64 v)).setCell { block := w.heap.size + 1 + 1, off := 1 } (.int .i64 ((s - k : Nat) : Int))).drew ∧ U.heap[w.heap.size + 1]? = some (.cells #[.int .i64 (f : Int), .int .i64 (k : Int)] 94 (0, 0)) ∧ U.heap[w.heap.size + 1 + 1]? = some (.cells #[.int .i64 v, .int .i64 ((s - k : Nat) : Int)] 94 (0, 0)) ∧ Below w.heap.size w U := by
    intro v _
    refine ⟨_, rfl, ?_, ?_, ?_⟩
    · show (World.setCell _ _ _).heap[_]? = _
      rw [Below.heap_setCell _ _ _ _ (by simp), Below.heap_setCell _ _ _ _ (by simp)]
      exact heap_setCell_same _ _ 1 _ _ _ (heap_setCell_same _ _ 0 _ _ _ G1.out)
    · show (World.setCell _ _ _).heap[_]? = _
      have e0 : ((W.setCell { block := w.heap.size + 1, off := 0 } (.int .i64 (f : Int))).setCell { block := w.heap.size + 1, off := 1 } (.int .i64 (k : Int))).heap[w.heap.size + 1 + 1]? = some (.cells #[.int .i64 0, .int .i64 0] 94 (0, 0)) := by
        rw [Below.heap_setCell _ _ _ _ (by simp), Below.heap_setCell _ _ _ _ (by simp)]
        exact G2.out
      exact heap_setCell_same _ _ 1 _ _ _ (heap_setCell_same _ _ 0 _ _ _ e0)
    · exact (((((HB1.out.setCell (show w.heap.size ≤ w.heap.size + 1 by omega) _).setCell (show w.heap.size ≤ w.heap.size + 1 by omega) _).setCell (show w.heap.size ≤ w.heap.size + 1 + 1 by omega) _).setCell (show w.heap.size ≤ w.heap.size + 1 + 1 by omega) _)).drew
  obtain ⟨U, hU, hU1, hU2, hUB⟩ := HX _ rfl
  rw [← hU]
  have K1 := Lib.hid hU1
  have K2 := Lib.hid hU2
  have KB := Lib.hid hUB
  clear HX hU hU1 hU2 hUB d10 d11 d20 d21 e10 e11 e20 e21 ne1 ne2 c0 c1 hw1 hw2
  go_wp2_with fail
  refine bodyPost_ret (v := .tuple #[.agg #[.int .i64 (f : Int), .int .i64 (k : Int)], .agg #[.int .i64 ((f : Int) + (k : Int)), .int .i64 ((s - k : Nat) : Int)]]) ?_ rfl ⟨by simp, KB.out⟩
  exact results_row_row rfl _ _ (w.heap.size + 1) (w.heap.size + 1 + 1) 94 94 _ _ _ _ rfl rfl K1.out K2.out Tryd.underlying94 rfl (by kernel_rfl) Tryd.underlying94 rfl (by kernel_rfl)
set_option maxHeartbeats 1000000 in
theorem among_any (f s : Nat) (A : Option Addr) (n c : Nat) (Ls : List (List Nat)) (w : World) (h : Pb w A n c Ls) (hs1 : 1 ≤ s) (hfs : f + s ≤ n) (hn : n ≤ 65536) :
    Calls Tryd.prog 108 #[subV f s, .slice A n c] w fun e w' => ∃ B m, e = .returned (.slice B s m) ∧ Pb w' B s m ((Ls.drop f).take s) ∧ Below w.heap.size w w' := by
  unfold subV
  have hcap := h.cap
  have htop := h.top
  obtain ⟨ad, rfl⟩ := h.some_ (by omega)
  have hne : ¬ c = f := by omega
  have hd := h.drop (k := f) (by omega)
  rw [if_neg hne] at hd
  have HD := Lib.hid (hd.take (k := s) (by omega))
  have hf0 : (0 : Int) ≤ (f : Int) := by omega
  have hf1 : (f : Int) ≤ ((f + s : Nat) : Int) := by omega
  have hf2 : ((f + s : Nat) : Int) ≤ (c : Int) := by omega
  have hw1 : IntKind.i64.wrap ((f : Int) + (s : Int)) = ((f + s : Nat) : Int) := by rw [IntKind.wrap_i64]; omega
  clear h hd
  go_enter Tryd.func108, Tryd.ntmps108
  go_upto_region 1 with fail
  refine wp_named1 (fun w1 hb1 g0 hlt1 => ?_)
  have c0 := cells_at g0 0 (v := .int .i64 (f : Int)) rfl
  have c1 := cells_at g0 1 (v := .int .i64 (s : Int)) rfl
  have HB1 := Lib.hid hb1
  clear hb1 g0 hlt1
  go_wp2_with fail
  go_ret
  exact ⟨some (ad.add f), c - f, by simp, HD.out.keep HB1.out, HB1.out⟩
end Go.Proofs.YtgkojdbepgonkaaDoor

/- A region within a round of a loop over a function, walked as outside of it. No program, no conditions. -/
namespace Go.Proofs.YtgkojdbepgonkaaDoor
set_option linter.unusedVariables false
set_option linter.unusedSimpArgs false
set_option maxRecDepth 8000
open Go.RowKit
theorem callsIn_wr {l m : Nat} {P : Program} {f : FuncId} {args : Array Value} {w : World} {R : Ending → World → Prop} (h : Calls P f args w R) : CallsIn (Fence.wide.inRound l) m P f args w R :=
  CallsIn.inRound l ((callsIn_wide (n := m)).2 h)
theorem rowsIn_wr {l m : Nat} {P : Program} {row : String} {args : Array Value} {w : World} {R : Value → World → Prop} (h : Rows P row args w R) : RowsIn (Fence.wide.inRound l) m P row args w R := by
  intro c cs _
  obtain ⟨v, w', hr, hs⟩ := h c cs
  exact ⟨v, w', hr, stepsIn_wide.2 hs⟩
section
variable {l m : Nat} {P : Program} {ops : Array Oper} {Q : Exit → Act → World → Prop} {md : Region.Mode}
theorem operIn_of_wp {o : Oper} (hd : ∀ c, o.op ≠ .defer c) {a : Act} {w : World} {K K' : Act → World → Prop} (hK : ∀ a w, K a w → K' a w) (h : o.wp P a w K Q) : o.wpIn (Fence.wide.inRound l) m P a w K' Q := by
  refine ⟨fun _ _ => trivial, ?_⟩
  rw [Oper.semAt_plain _ _ _ hd]
  unfold Oper.wp at h
  generalize (execOp a.eval o).run P w = r at h
  unfold Oper.upon at h
  unfold Oper.uponIn
  split at h
  · exact hK _ _ h
  · exact hK _ _ h
  · exact hK _ _ h
  · refine ⟨fun h => (by cases h), callsIn_wr (h.mono ?_)⟩
    intro e W he
    cases e with
    | returned v => exact hK _ _ he
    | panicked c => exact he
    | outgrown => exact he
  · exact ⟨fun h => (by cases h), rowsIn_wr (h.mono fun v W hv => hK _ _ hv)⟩
  · exact h
  · exact h.elim
theorem wpOpIn_of_wpOp (hd : ∀ (i : Nat) (o : Oper) c, ops[i]? = some o → o.op ≠ .defer c) (hQ : ¬ LetsOut Q) {i : Nat} {a : Act} {w : World} {K K' : Act → World → Prop} (hK : ∀ a w, K a w → K' a w) (h : wpOp P ops Q i K a w) : wpOpIn (Fence.wide.inRound l) m P ops Q i K' a w := by
  unfold wpOp at h
  unfold wpOpIn
  split at h
  · rename_i h0
    rw [h0]
    exact hK _ _ h
  · rename_i o h0
    rw [h0]
    simp only
    by_cases hw : Region.wanted o (yielded ops a.tmps) = true
    · rw [if_pos hw] at h ⊢
      rcases h with h | ⟨_, h⟩
      · exact operIn_of_wp (fun c => hd i o c h0) hK h
      · exact absurd h hQ
    · rw [if_neg hw] at h ⊢
      exact ⟨fun _ _ => trivial, hK _ _ h⟩
theorem wpAnyIn_of_wpAny (hd : ∀ (i : Nat) (o : Oper) c, ops[i]? = some o → o.op ≠ .defer c) (hQ : ¬ LetsOut Q) : ∀ (n : Nat) (listed : Array Bool) (a : Act) (w : World), wpAny P md ops Q n listed a w → wpAnyIn (Fence.wide.inRound l) m P md ops Q n listed a w := by
  intro n
  induction n with
  | zero => intro listed a w h; exact h
  | succ n ih =>
    intro listed a w h
    exact ⟨h.1, fun i hi => wpOpIn_of_wpOp hd hQ (fun a w h => ih _ a w h) (h.2 i hi)⟩
end
def noDefer (l : List Oper) : Bool := l.all fun o => match o.op with | .defer _ => false | _ => true
theorem noDefer_spec {l : List Oper} (h : noDefer l = true) : ∀ (i : Nat) (o : Oper) c, l.toArray[i]? = some o → o.op ≠ .defer c := by
  intro i o c hi e
  have hm : o ∈ l := by
    have : l[i]? = some o := by simpa using hi
    exact List.mem_of_getElem? this
  have := List.all_eq_true.1 h o hm
  rw [e] at this
  cases this
section
variable {lp m : Nat} {P : Program} {Q : Exit → Act → World → Prop}
/-- a drawn region in a round that only reads and calls what only adds -/
theorem wpR_later_lex {id : Nat} {a : Act} {w : World} {l : List Oper} (hm : P.follows .mixedOrders = true) (hd : noDefer l = true) (hQ : ¬ LetsOut Q) (hx : LexOK l.toArray)
    (h : wpQuiet P l.toArray (fun w' => ∃ x : Later w, w' = x.at) (fun a' => ∀ x : Later w, Q .normal a' x.at) l a) : (Code.region id l.toArray true).wpIn (Fence.wide.inRound lp) m P Q a w := by
  refine wpIn_region_any hm (wpAnyIn_of_wpAny (noDefer_spec hd) hQ _ _ _ _ ?_)
  have := wpAnyQ_of_lex (P := P) hx l 0 (Array.replicate l.toArray.size false) a (by simp) (by simp) (by simp) (by intro i hi; omega) (fun i _ hi => getD_in (by simpa using hi) (getD_replicate_false _ _)) h
  exact (wpAny_of_quiet (C := fun w' => ∃ x : Later w, w' = x.at) (Q := fun a' => ∀ x : Later w, Q .normal a' x.at) (fun a' w' hw' h => by obtain ⟨x, rfl⟩ := hw'; exact h x) _ _ _ _ ⟨⟨w.drew, (Below.refl _ _).drew⟩, rfl⟩ (by simpa using this))
/-- a drawn region in a round whose last operation stores -/
theorem wpR_held_tailB (n B : Nat) {id : Nat} {a : Act} {w : World} {l : List Oper} (hm : P.follows .mixedOrders = true) (hd : noDefer l = true) (hQ : ¬ LetsOut Q) (hx : LexOK l.toArray) (hc : Tl.ChainW l.toArray) (hz : l.length = n + 1) (hs : Region.sinkB .any l.toArray n = true) (hcb : Region.chainB .any l.toArray n = true)
    (h : ∀ W, Below w.heap.size w W → (∃ x : LaterB B w, W = x.at) → wpHeld P l.toArray (fun w' => ∃ x : LaterB B w, w' = x.at) (fun _ a w => mOp P l.toArray n (fun a w => Q .normal a w) a w) (l.take n) a W) : (Code.region id l.toArray true).wpIn (Fence.wide.inRound lp) m P Q a w := by
  have hS : (fun w' => ∃ x : LaterB B w, w' = x.at) w.drew := ⟨⟨w.drew, (Below.refl _ _).drew⟩, rfl⟩
  have inv0 : HeadInv .any l.toArray n (Array.replicate l.toArray.size false) :=
    ⟨by simp, fun j oj _ hl => (by rw [getD_replicate_false] at hl; cases hl), fun t _ ht => getD_in (by simpa using ht) (getD_replicate_false _ _)⟩
  have htl : (l.take n).length = n := by simp; omega
  refine wpIn_region_any hm (wpAnyIn_of_wpAny (noDefer_spec hd) hQ _ _ _ _ ?_)
  refine wpAny_of_wpT (S := fun w' => ∃ x : LaterB B w, w' = x.at) (m := n) (by simpa using hz) hs hcb _ _ _ _ inv0 hS ?_
  have := Tl.wpT_of_lex (P := P) (S := fun w' => ∃ x : LaterB B w, w' = x.at) (Q := Q) (m := n) (ops := l.toArray) (by simpa using hz) hs hcb hx hc (l.take n) 0 (Array.replicate l.toArray.size false) a w.drew inv0 hS (fun j hj => by
    have hj' : j < n := by rw [htl] at hj; exact hj
    simp [hj']) (by simpa using htl) (by intro i hi; omega) (fun i _ hi => getD_in (by simpa using hi) (getD_replicate_false _ _)) (h w.drew (Below.refl _ _).drew hS)
  rw [htl] at this
  simpa [hz] using this
end
end Go.Proofs.YtgkojdbepgonkaaDoor

/- The maximal closed subtrees of a tree: a list by recursion; the iterator yields it. -/
namespace Go.Proofs.YtgkojdbepgonkaaDoor
set_option linter.unusedVariables false
set_option linter.unusedSimpArgs false
set_option maxRecDepth 8000
open Go.RowKit
open Go.Shelf
attribute [local go_sem] Oper.semAt_some
/-- the two variables of the iterator over the closed subtrees -/
def ClB (b1 b2 f s : Nat) (A : Option Addr) (n c : Nat) (w : World) : Prop :=
  w.heap[b1]? = some (.cells #[.slice A n c] 22 (0, 0)) ∧ w.heap[b2]? = some (.cells #[.int .i64 (f : Int), .int .i64 (s : Int)] 94 (0, 0))
/-- what the iterator reads -/
def ClG (b1 b2 f s : Nat) (A : Option Addr) (n c : Nat) (is : List Int) (w : World) : Prop := ClB b1 b2 f s A n c w ∧ Ib w A n c is
/-- what lies in the frame of a loop -/
def Lies (L : List (Nat × Obj)) (A : World) : Prop := ∀ p ∈ L, A.heap[p.1]? = some p.2
def OkL (N : Nat) (L : List (Nat × Obj)) : Prop := ∀ p ∈ L, N ≤ p.1 ∧ p.2.isCells = true ∧ isDig p.2 = false
theorem Lies.abide {L : List (Nat × Obj)} {A B : World} {M N : Nat} (hL : OkL M L) (h : Lies L A) (hb : Abide N A B) : Lies L B := fun p hp => hb.cells _ _ (h p hp) (hL p hp).2.1
theorem Lies.keepI {L : List (Nat × Obj)} {A B : World} {N : Nat} (hL : OkL N L) (h : Lies L A) (hb : KeepI N A B) : Lies L B := fun p hp => hb.same _ _ (hL p hp).1 (h p hp) (hL p hp).2.2
theorem Lies.four {a b c d : Nat × Obj} {A : World} (h : Lies [a, b, c, d] A) : A.heap[a.1]? = some a.2 ∧ A.heap[b.1]? = some b.2 ∧ A.heap[c.1]? = some c.2 ∧ A.heap[d.1]? = some d.2 :=
  ⟨h a (by simp), h b (by simp), h c (by simp), h d (by simp)⟩
theorem roundIn_wr {l l' m m' : Nat} {P : Program} {f : FuncId} {tmps : Array Value} {assign body : Code} {w : World} {R : Ending → World → Prop} (h : RoundIn Fence.wide m P l f tmps assign body w R) : RoundIn (Fence.wide.inRound l') m' P l f tmps assign body w R :=
  ⟨trivial, fun c cs _ => h.2 c cs (room_wide _)⟩
theorem KeepI.alloc {N : Nat} {A : World} (o : Obj) : KeepI N A (A.alloc o) := KeepI.of_below ((Below.refl _ _).alloc (Nat.le_refl _) o)
theorem Ib.abide {w w' : World} {A : Option Addr} {n c N : Nat} {is : List Int} (h : Ib w A n c is) (hb : Abide N w w') : Ib w' A n c is :=
  ⟨h.len, h.cap, h.top, h.nil, fun i z hz => by obtain ⟨ad, e, hc⟩ := h.cells i z hz; exact ⟨ad, e, hb.cell hc⟩⟩
theorem closed_any (f s : Nat) (A : Option Addr) (n c : Nat) (w : World) :
    Calls Tryd.prog 53 #[subV f s, .slice A n c] w fun e w' => ∃ b1 b2, e = .returned (.func (.func 93) #[] #[.pointer (some ⟨b1, 0, none⟩), .pointer (some ⟨b2, 0, none⟩)]) ∧ ClB b1 b2 f s A n c w' ∧ w.heap.size ≤ b1 ∧ w.heap.size ≤ b2 ∧ Below w.heap.size w w' := by
  unfold subV
  go_enter Tryd.func53, Tryd.ntmps53
  go_wp2
  go_ret
  refine ⟨w.heap.size + 1, w.heap.size, rfl, ⟨?_, ?_⟩, Nat.le_succ _, Nat.le_refl _, ((Below.refl _ w).alloc (Nat.le_refl _) _).alloc (by simp) _⟩
  · have h := heap_new (w.alloc (.cells #[.int .i64 (f : Int), .int .i64 (s : Int)] 94)) (.cells #[.slice A n c] 22)
    rwa [alloc_sz] at h
  · exact heap_old _ (heap_new w _)
set_option maxRecDepth 100000 in
set_option maxHeartbeats 4000000 in
theorem closed_iter : ∀ (K f s : Nat) (A : Option Addr) (n c : Nat) (is : List Int) (b1 b2 : Nat), s ≤ K → 1 ≤ s → f + s ≤ 65536 →
    IterC Tryd.prog 93 #[.pointer (some ⟨b1, 0, none⟩), .pointer (some ⟨b2, 0, none⟩)] (fun x : Nat × Nat => #[subV x.1 x.2]) (closedN f s is) (ClG b1 b2 f s A n c is) := by
  intro K
  induction K with
  | zero => intro f s A n c is b1 b2 h1 h2; omega
  | succ K ih =>
    intro f s A n c is b1 b2 hK hs1 hs l W J hJG hJ hY h0
    have hg := (hJG 0 W h0).1
    have HI := Lib.hid hg.2
    have hlen := hg.2.len
    have hc1 : W.cell? ⟨b1, 0, none⟩ = some (.slice A n c) := cells_at hg.1.1 0 (v := .slice A n c) rfl
    have hc2 : W.cell? ⟨b2, 0, none⟩ = some (.int .i64 (f : Int)) := cells_at hg.1.2 0 (v := .int .i64 (f : Int)) rfl
    have hc3 : W.cell? ⟨b2, 1, none⟩ = some (.int .i64 (s : Int)) := cells_at hg.1.2 1 (v := .int .i64 (s : Int)) rfl
    have HJG := Lib.hid hJG
    have HJ := Lib.hid hJ
    have HY := Lib.hid hY
    have H0 := Lib.hid h0
    have HLN := Lib.hid hlen
    have IH := Lib.hid ih
    clear ih hg hJG hJ hY h0 hlen
    refine callsIn_of_wp_marks Tryd.func93 rfl trivial ?_ rfl
    simp only [Tryd.ntmps93, List.size_toArray, List.length_cons, List.length_nil, Nat.reduceAdd, Nat.reduceSub, Array.replicate_succ, Array.replicate_zero, List.push_toArray, List.append_toArray, List.nil_append, List.cons_append]
    have c1 := cell_alloc hc1 (.cells #[.func (.yield l) #[] #[]] 134)
    have c2 := cell_alloc hc2 (.cells #[.func (.yield l) #[] #[]] 134)
    have c3 := cell_alloc hc3 (.cells #[.func (.yield l) #[] #[]] 134)
    have hJ1 := HJ.out 0 W _ H0.out (Abide.of_below ((Below.refl _ _).alloc (Nat.le_refl _) (.cells #[.func (.yield l) #[] #[]] 134)) (Nat.le_refl _))
    by_cases hn : n = 0
    · subst hn
      obtain rfl : is = [] := List.length_eq_zero_iff.1 HLN.out.symm
      have hcl : closedN f s [] = [(f, s)] := closedN_nil f hs1
      obtain ⟨fn, tmps, assign, body, hy, hR⟩ := HY.out 0 (f, s) _ (by rw [hcl]; rfl) hJ1
      unfold subV at hy
      clear hJ1 H0 HI
      gi_wp2
      refine hR.mono ?_
      clear hR hy
      rintro e B ⟨rfl, hj, _⟩
      gi_wp2
      refine ⟨.tuple #[], results_none rfl _ _ _, ⟨_, rfl⟩, ?_⟩
      rw [hcl]
      exact hj
    · have hni : ¬ ((n : Int) = 0) := by omega
      have hA := HI.out.some_ (by omega)
      have hcap := HI.out.cap
      have htop := HI.out.top
      have hne : is ≠ [] := fun e => hn (by rw [HLN.out, e]; rfl)
      by_cases h1 : s = 1
      · subst h1
        have hcl : closedN f 1 is = [] := closedN_one f hne
        gi_wp2
        refine ⟨.tuple #[], results_none rfl _ _ _, ⟨_, rfl⟩, ?_⟩
        first | exact hJ1 | (rw [hcl]; exact hJ1)
      · have hsi : ¬ ((s : Int) = 1) := by omega
        have hcl := closedN_split f (s := s) hne (by omega)
        have HCL := Lib.hid hcl
        have H1 := Lib.hid hJ1
        clear hcl hJ1 H0
        gi_wp2
        obtain ⟨W1, hW1⟩ : ∃ W1, W.alloc (.cells #[.func (.yield l) #[] #[]] 134) = W1 := ⟨_, rfl⟩
        have hYB : W1.heap[W.heap.size]? = some (.cells #[.func (.yield l) #[] #[]] 134 (0, 0)) := by rw [← hW1]; exact heap_new W _
        have hbW1 : Below W.heap.size W W1 := by rw [← hW1]; exact (Below.refl _ _).alloc (Nat.le_refl _) _
        rw [hW1] at c1 c2 c3 H1 ⊢
        clear hW1
        refine ⟨trivial, (callsIn_wide.2 (parts_any f s _ (by omega) (by omega) (by omega))).mono ?_⟩
        rintro e W2 ⟨rfl, hb2⟩
        obtain ⟨k, hk⟩ : ∃ k, leftN s = k := ⟨_, rfl⟩
        rw [hk]
        unfold subV
        obtain ⟨m, hm⟩ : ∃ m, s - k = m := ⟨_, rfl⟩
        obtain ⟨W3, hW3⟩ : ∃ W3, (W2.alloc (.cells #[.int .i64 (f : Int), .int .i64 (k : Int)] 94)).alloc (.cells #[.int .i64 ((f : Int) + (k : Int)), .int .i64 (m : Int)] 94) = W3 := ⟨_, rfl⟩
        have hL3 : W3.heap[W2.heap.size]? = some (.cells #[.int .i64 (f : Int), .int .i64 (k : Int)] 94 (0, 0)) := by rw [← hW3]; exact heap_old _ (heap_new W2 _)
        have hR3 : W3.heap[W2.heap.size + 1]? = some (.cells #[.int .i64 ((f : Int) + (k : Int)), .int .i64 (m : Int)] 94 (0, 0)) := by
          rw [← hW3]
          have h := heap_new (W2.alloc (.cells #[.int .i64 (f : Int), .int .i64 (k : Int)] 94)) (.cells #[.int .i64 ((f : Int) + (k : Int)), .int .i64 (m : Int)] 94)
          rwa [alloc_sz] at h
        have hb3 : Below W2.heap.size W2 W3 := by rw [← hW3]; exact ((Below.refl _ _).alloc (Nat.le_refl _) _).alloc (by simp) _
        have d1 := cell_keep (cell_keep c1 hb2) hb3
        have d2 := cells_at hR3 0 (v := .int .i64 ((f : Int) + (k : Int))) rfl
        clear c1 c2 c3
        rw [hm]
        gi_wp2
        refine ⟨trivial, (callsIn_wide.2 (below_any A n c is _ W3 (((HJG.out 0 W1 H1.out).1.2.keep hb2).keep hb3))).mono ?_⟩
        rintro e W3 ⟨rfl, rfl⟩
        obtain ⟨j, hj⟩ : ∃ j, belowN is ((f : Int) + (k : Int)) = j := ⟨_, rfl⟩
        have hjn : j ≤ n := by rw [← hj, HLN.out]; exact belowN_le _ _
        obtain ⟨ad, rfl⟩ := hA
        have hj0 : (0 : Int) ≤ (j : Int) := by omega
        have hjc : (j : Int) ≤ (c : Int) := by omega
        have d3 := cells_at hL3 0 (v := .int .i64 (f : Int)) rfl
        have d4 := cells_at hL3 1 (v := .int .i64 (k : Int)) rfl
        rw [hj]
        have HBE := Lib.hid hj
        clear hj hW3
        gi_wp2
        refine wpIn_wide.2 ?_
        have l1 := LaterB.cell (B := W3.heap.size) d1 (cell_lt' d1)
        have l3 := LaterB.cell (B := W3.heap.size) d3 (cell_lt' d3)
        have l4 := LaterB.cell (B := W3.heap.size) d4 (cell_lt' d4)
        refine wp_heldB W3.heap.size (by kernel_rfl) (lexOK_of (by kernel_rfl) (by kernel_rfl)) (chainOK_of (by kernel_rfl)) (fun V hbV hSV => ?_)
        have hzV := hbV.size
        have HSV := Lib.hid hSV
        clear hSV
        refine wpHeld_seg 4 HSV.out (by kernel_rfl) ?_
        simp only [List.take_succ_cons, List.take_zero, List.drop_succ_cons, List.drop_zero]
        iterate 4 (go_big_quiet_step (fail))
        refine wpQuiet_nil ?_
        refine wpHeld_call 53 Tryd.func53 (by kernel_rfl) (by kernel_rfl) _ _ #[.agg #[.int .i64 (f : Int), .int .i64 (k : Int)], .slice (some ad) j c] rfl (by kernel_rfl) (by kernel_rfl) ?_
        refine (closed_any f k (some ad) j c V).mono ?_
        rintro e W4 ⟨b3, b4, rfl, hcl, hge1, hge2, hb4⟩
        refine ⟨_, rfl, LaterB.step HSV.out (hb4.mono (by omega)), ?_⟩
        simp only [Act.put, List.setIfInBounds_toArray, List.set_cons_zero, List.set_cons_succ]
        refine wpHeld_nil ?_
        have hb34 : Below W3.heap.size W3 W4 := bel_step hbV hb4
        clear hb4 HSV d1 d2 d3 d4 l1 l3 l4
        have hs2 : W.heap.size < W1.heap.size := by have := (Array.getElem?_eq_some_iff.1 hYB).1; omega
        have hs3 := hb2.size
        have hs4 := hb3.size
        have hs5 := hb34.size
        have hRlt := (Array.getElem?_eq_some_iff.1 hR3).1
        have hL1 : OkL W.heap.size [(W.heap.size, .cells #[.func (.yield l) #[] #[]] 134 (0, 0)), (W2.heap.size + 1, .cells #[.int .i64 ((f : Int) + (k : Int)), .int .i64 (m : Int)] 94 (0, 0)), (b3, .cells #[.slice (some ad) j c] 22 (0, 0)), (b4, .cells #[.int .i64 (f : Int), .int .i64 (k : Int)] 94 (0, 0))] := by
          intro p hp
          simp only [List.mem_cons, List.not_mem_nil, or_false] at hp
          rcases hp with rfl | rfl | rfl | rfl
          · exact ⟨Nat.le_refl _, rfl, rfl⟩
          · exact ⟨by show W.heap.size ≤ W2.heap.size + 1; omega, rfl, rfl⟩
          · exact ⟨by show W.heap.size ≤ b3; omega, rfl, rfl⟩
          · exact ⟨by show W.heap.size ≤ b4; omega, rfl, rfl⟩
        have hl1 : Lies [(W.heap.size, .cells #[.func (.yield l) #[] #[]] 134 (0, 0)), (W2.heap.size + 1, .cells #[.int .i64 ((f : Int) + (k : Int)), .int .i64 (m : Int)] 94 (0, 0)), (b3, .cells #[.slice (some ad) j c] 22 (0, 0)), (b4, .cells #[.int .i64 (f : Int), .int .i64 (k : Int)] 94 (0, 0))] W4 := by
          intro p hp
          simp only [List.mem_cons, List.not_mem_nil, or_false] at hp
          rcases hp with rfl | rfl | rfl | rfl
          · exact heap_keep (heap_keep (heap_keep hYB hb2) hb3) hb34
          · exact heap_keep hR3 hb34
          · exact hcl.1
          · exact hcl.2
        have hbW4 : Below W.heap.size W W4 := ((hbW1.trans (hb2.mono (by omega))).trans (hb3.mono (by omega))).trans (hb34.mono (by omega))
        have hb14 : Below W1.heap.size W1 W4 := (hb2.trans (hb3.mono (by omega))).trans (hb34.mono (by omega))
        have HL1 := Lib.hid hL1
        have HLL := Lib.hid hl1
        have H4 := Lib.hid (HJ.out 0 W1 W4 H1.out (Abide.of_below hb14 (by omega)))
        have HBW := Lib.hid hbW4
        have HKM := Lib.hid (show k ≤ K ∧ m ≤ K ∧ 1 ≤ k ∧ 1 ≤ m ∧ f + k ≤ 65536 ∧ f + k + m ≤ 65536 ∧ leftN s = k ∧ m = s - k by
          have := leftN_lt (n := s) (by omega)
          have := leftN_pos s
          omega)
        have HSP := Lib.hid (show closedN f s is = closedN f k (is.take j) ++ closedN (f + k) m (is.drop j) by
          rw [HCL.out, HKM.out.2.2.2.2.2.2.1, hm, show ((f + k : Nat) : Int) = (f : Int) + (k : Int) from Int.natCast_add f k, HBE.out])
        clear HCL HBE
        clear hYB hbW1 hb2 hL3 hR3 hb3 hbV hcl hb34 hL1 hl1 hbW4 hb14 H1 HI hc1 hc2 hc3 hm hk
        gi_wp2
        have hs6 : W.heap.size ≤ W4.heap.size := by omega
        generalize hL : [(W.heap.size, (Obj.cells #[.func (.yield l) #[] #[]] 134 (0, 0))), (W2.heap.size + 1, .cells #[.int .i64 ((f : Int) + (k : Int)), .int .i64 (m : Int)] 94 (0, 0)), (b3, .cells #[.slice (some ad) j c] 22 (0, 0)), (b4, .cells #[.int .i64 (f : Int), .int .i64 (k : Int)] 94 (0, 0))] = L1 at HL1 HLL
        have HE1 := Lib.hid hL
        clear hL
        refine wpIn_rangeAll (gf := 93) (lb := #[.pointer (some ⟨b3, 0, none⟩), .pointer (some ⟨b4, 0, none⟩)]) rfl (enters_of Tryd.func93 (by kernel_rfl) rfl) (fun x : Nat × Nat => #[subV x.1 x.2]) (fun _ => rfl)
          (closedN f k (is.take j)) (ClG b3 b4 f k (some ad) j c (is.take j)) (IH.out f k (some ad) j c (is.take j) b3 b4 HKM.out.1 HKM.out.2.2.1 HKM.out.2.2.2.2.1) (fun i A => J i A ∧ W4.heap.size ≤ A.heap.size ∧ Lies L1 A) ?jg ?jj ?j0 2 ?round ?fin
        case jg =>
          rintro i A ⟨h1, _, h2⟩
          rw [← HE1.out] at h2
          obtain ⟨_, _, e3, e4⟩ := h2.four
          exact ⟨⟨e3, e4⟩, ((HJG.out i A h1).1.2).take hjn⟩
        case jj =>
          rintro i A B ⟨h1, h2, h3⟩ hb
          exact ⟨HJ.out i A B h1 (hb.mono hs6), Nat.le_trans h2 hb.below.size, h3.abide HL1.out hb⟩
        case j0 => exact ⟨H4.out, Nat.le_refl _, HLL.out⟩
        case round =>
          rintro l2 i x A hx hl2 ⟨h1, h2, h3⟩
          have HA1 := Lib.hid h1
          have HA3 := Lib.hid h3
          have HX := Lib.hid hx
          clear h1 h3 hx
          have hX : (closedN f s is)[i]? = some x := by
            rw [HSP.out, List.getElem?_append_left (List.getElem?_eq_some_iff.1 HX.out).1]; exact HX.out
          unfold subV
          gi_wp2
          have hbA := (Below.refl A.heap.size A).alloc (Nat.le_refl _) (.cells #[.int .i64 (x.1 : Int), .int .i64 (x.2 : Int)] 94)
          have hcA := heap_new A (.cells #[.int .i64 (x.1 : Int), .int .i64 (x.2 : Int)] 94)
          have hzA : A.heap.size ≤ (A.alloc (.cells #[.int .i64 (x.1 : Int), .int .i64 (x.2 : Int)] 94)).heap.size := hbA.size
          refine ⟨KeepI.alloc _, fun B2 hB2 => ?_⟩
          have hj2 : J i B2 := HJ.out i _ _ (HJ.out i A _ HA1.out (Abide.of_below hbA (by omega))) (hB2.mono hs6)
          have hl2 : Lies L1 B2 := (HA3.out.abide HL1.out (Abide.of_below hbA (Nat.le_refl _))).abide HL1.out hB2
          have HL2 := Lib.hid hl2
          have hl3 := hl2
          rw [← HE1.out] at hl3
          obtain ⟨e1, _, _, _⟩ := hl3.four
          have d0 := cells_at e1 0 (v := .func (.yield l) #[] #[]) rfl
          have ex := hB2.cells _ _ hcA rfl
          have d1 := cells_at ex 0 (v := .int .i64 (x.1 : Int)) rfl
          have d2 := cells_at ex 1 (v := .int .i64 (x.2 : Int)) rfl
          have hz2 : W4.heap.size ≤ B2.heap.size := Nat.le_trans h2 (Nat.le_trans hzA hB2.below.size)
          obtain ⟨fn, tmps, assign, body, hy, hR⟩ := HY.out i x B2 hX hj2
          unfold subV at hy
          clear hbA hcA hzA hj2 hl2 hl3 e1 ex hX hB2 HA1 HA3 HX
          gi_wp2
          refine (roundIn_wr hR).mono ?_
          clear hR hy d0 d1 d2
          rintro e B3 ⟨rfl, hj3, hk3⟩
          gi_wp2
          exact ⟨hk3.mono hs6, hj3, Nat.le_trans hz2 hk3.size, HL2.out.keepI HL1.out hk3⟩
        case fin =>
          rintro D B hD ⟨h1, h2, h3⟩ hd
          rw [← HE1.out] at h3
          obtain ⟨e1, e2, _, _⟩ := h3.four
          have hg := (HJG.out _ B h1).1
          have hDl := (Array.getElem?_eq_some_iff.1 hd).1
          have d1 := cells_at hg.1.1 0 (v := .slice (some ad) n c) rfl
          have d3 := cells_at e2 0 (v := .int .i64 ((f : Int) + (k : Int))) rfl
          have d4 := cells_at e2 1 (v := .int .i64 (m : Int)) rfl
          have HIB := Lib.hid hg.2
          have HJB := Lib.hid h1
          have HE := Lib.hid e1
          have HD := Lib.hid hd
          clear hg h1 h3 e1 e2 hd HL1 HLL HE1 H4 HBW
          clear L1
          have hjn2 : (j : Int) ≤ (n : Int) := by omega
          obtain ⟨C1, hC1⟩ : ∃ C1, closedN f k (is.take j) = C1 := ⟨_, rfl⟩
          rw [hC1] at HJB HSP
          gi_wp2
          refine wpIn_wide.2 ?_
          have l1 := LaterB.cell (B := B.heap.size) d1 (cell_lt' d1)
          have l3 := LaterB.cell (B := B.heap.size) d3 (cell_lt' d3)
          have l4 := LaterB.cell (B := B.heap.size) d4 (cell_lt' d4)
          refine wp_heldB B.heap.size (by kernel_rfl) (lexOK_of (by kernel_rfl) (by kernel_rfl)) (chainOK_of (by kernel_rfl)) (fun V hbV hSV => ?_)
          have hzV := hbV.size
          have HSV := Lib.hid hSV
          clear hSV
          refine wpHeld_seg 4 HSV.out (by kernel_rfl) ?_
          simp only [List.take_succ_cons, List.take_zero, List.drop_succ_cons, List.drop_zero]
          iterate 4 (go_big_quiet_step (fail))
          refine wpQuiet_nil ?_
          obtain ⟨A2, hA2⟩ : ∃ A2, (if c = j then some ad else some (ad.add j)) = A2 := ⟨_, rfl⟩
          have hI2 : ∀ A, Ib A (some ad) n c is → Ib A A2 (n - j) (c - j) (is.drop j) := fun A hI => by
            have := hI.drop hjn
            rw [← hA2]
            by_cases e : c = j
            · rw [if_pos e] at this ⊢; exact this
            · rw [if_neg e] at this ⊢; exact this
          have HI2 := Lib.hid hI2
          have hfk : ((f : Int) + (k : Int)) = ((f + k : Nat) : Int) := (Int.natCast_add f k).symm
          rw [hA2, hfk]
          clear hI2 hA2 HIB hfk
          obtain ⟨g, hg⟩ : ∃ g, f + k = g := ⟨_, rfl⟩
          rw [hg] at HSP ⊢
          have HG := Lib.hid hg
          clear hg
          obtain ⟨n2, hn2⟩ : ∃ n2, n - j = n2 := ⟨_, rfl⟩
          obtain ⟨c2, hc2⟩ : ∃ c2, c - j = c2 := ⟨_, rfl⟩
          rw [hn2, hc2] at HI2 ⊢
          clear hn2 hc2
          refine wpHeld_call 53 Tryd.func53 (by kernel_rfl) (by kernel_rfl) _ _ #[.agg #[.int .i64 (g : Int), .int .i64 (m : Int)], .slice A2 n2 c2] rfl (by kernel_rfl) (by kernel_rfl) ?_
          refine (closed_any g m A2 n2 c2 V).mono ?_
          rintro e W5 ⟨b5, b6, rfl, hcl, hge3, hge4, hb5⟩
          refine ⟨_, rfl, LaterB.step HSV.out (hb5.mono (by omega)), ?_⟩
          simp only [Act.put, List.setIfInBounds_toArray, List.set_cons_zero, List.set_cons_succ]
          refine wpHeld_nil ?_
          have hbB5 : Below B.heap.size B W5 := bel_step hbV hb5
          clear hb5 HSV d1 d3 d4 l1 l3 l4 hbV
          have hs7 := hbB5.size
          have hL1 : OkL W.heap.size [(W.heap.size, .cells #[.func (.yield l) #[] #[]] 134 (0, 0)), (W.heap.size, .cells #[.func (.yield l) #[] #[]] 134 (0, 0)), (b5, .cells #[.slice A2 n2 c2] 22 (0, 0)), (b6, .cells #[.int .i64 (g : Int), .int .i64 (m : Int)] 94 (0, 0))] := by
            intro p hp
            simp only [List.mem_cons, List.not_mem_nil, or_false] at hp
            rcases hp with rfl | rfl | rfl | rfl
            · exact ⟨Nat.le_refl _, rfl, rfl⟩
            · exact ⟨Nat.le_refl _, rfl, rfl⟩
            · exact ⟨by show W.heap.size ≤ b5; omega, rfl, rfl⟩
            · exact ⟨by show W.heap.size ≤ b6; omega, rfl, rfl⟩
          have hl1 : Lies [(W.heap.size, .cells #[.func (.yield l) #[] #[]] 134 (0, 0)), (W.heap.size, .cells #[.func (.yield l) #[] #[]] 134 (0, 0)), (b5, .cells #[.slice A2 n2 c2] 22 (0, 0)), (b6, .cells #[.int .i64 (g : Int), .int .i64 (m : Int)] 94 (0, 0))] W5 := by
            intro p hp
            simp only [List.mem_cons, List.not_mem_nil, or_false] at hp
            rcases hp with rfl | rfl | rfl | rfl
            · exact heap_keep HE.out hbB5
            · exact heap_keep HE.out hbB5
            · exact hcl.1
            · exact hcl.2
          have H5 := Lib.hid (HJ.out C1.length B W5 HJB.out (Abide.of_below hbB5 (by omega)))
          have HD5 := Lib.hid (heap_keep HD.out hbB5)
          have hs8 : W.heap.size ≤ W5.heap.size := by omega
          have hs9 : D < W5.heap.size := by omega
          have HL1 := Lib.hid hL1
          have HLL := Lib.hid hl1
          clear hL1 hl1 hcl hbB5 HE HD HJB
          gi_wp2
          generalize hL : [(W.heap.size, (Obj.cells #[.func (.yield l) #[] #[]] 134 (0, 0))), (W.heap.size, .cells #[.func (.yield l) #[] #[]] 134 (0, 0)), (b5, .cells #[.slice A2 n2 c2] 22 (0, 0)), (b6, .cells #[.int .i64 (g : Int), .int .i64 (m : Int)] 94 (0, 0))] = L1 at HL1 HLL
          have HE1 := Lib.hid hL
          clear hL
          refine wpIn_rangeAll (gf := 93) (lb := #[.pointer (some ⟨b5, 0, none⟩), .pointer (some ⟨b6, 0, none⟩)]) rfl (enters_of Tryd.func93 (by kernel_rfl) rfl) (fun x : Nat × Nat => #[subV x.1 x.2]) (fun _ => rfl)
            (closedN g m (is.drop j)) (ClG b5 b6 g m A2 n2 c2 (is.drop j)) (IH.out g m A2 n2 c2 (is.drop j) b5 b6 HKM.out.2.1 HKM.out.2.2.2.1 (by rw [← HG.out]; exact HKM.out.2.2.2.2.2.1)) (fun i A => J (C1.length + i) A ∧ W5.heap.size ≤ A.heap.size ∧ Lies L1 A ∧ A.heap[D]? = some (.deferred (some []))) ?jg ?jj ?j0 2 ?round ?fin
          case jg =>
            rintro i A ⟨h1, _, h2, _⟩
            rw [← HE1.out] at h2
            obtain ⟨_, _, e3, e4⟩ := h2.four
            exact ⟨⟨e3, e4⟩, HI2.out A (HJG.out _ A h1).1.2⟩
          case jj =>
            rintro i A B ⟨h1, h2, h3, h4⟩ hb
            exact ⟨HJ.out _ A B h1 (hb.mono hs8), Nat.le_trans h2 hb.below.size, h3.abide HL1.out hb, (hb.below.block D hs9).trans h4⟩
          case j0 => exact ⟨H5.out, Nat.le_refl _, HLL.out, HD5.out⟩
          case round =>
            rintro l2 i x A hx hl2 ⟨h1, h2, h3, h4⟩
            have HA1 := Lib.hid h1
            have HA3 := Lib.hid h3
            have HA4 := Lib.hid h4
            have HX := Lib.hid hx
            clear h1 h3 hx h4
            have hX : (closedN f s is)[C1.length + i]? = some x := by
              rw [HSP.out, List.getElem?_append_right (Nat.le_add_right _ _), Nat.add_sub_cancel_left]; exact HX.out
            unfold subV
            gi_wp2
            have hbA := (Below.refl A.heap.size A).alloc (Nat.le_refl _) (.cells #[.int .i64 (x.1 : Int), .int .i64 (x.2 : Int)] 94)
            have hcA := heap_new A (.cells #[.int .i64 (x.1 : Int), .int .i64 (x.2 : Int)] 94)
            have hzA : A.heap.size ≤ (A.alloc (.cells #[.int .i64 (x.1 : Int), .int .i64 (x.2 : Int)] 94)).heap.size := hbA.size
            refine ⟨KeepI.alloc _, fun B2 hB2 => ?_⟩
            have hj2 : J (C1.length + i) B2 := HJ.out _ _ _ (HJ.out _ A _ HA1.out (Abide.of_below hbA (by omega))) (hB2.mono hs8)
            have hl2 : Lies L1 B2 := (HA3.out.abide HL1.out (Abide.of_below hbA (Nat.le_refl _))).abide HL1.out hB2
            have HL2 := Lib.hid hl2
            have HD2 := Lib.hid ((hB2.below.block D hs9).trans ((hbA.block D (by omega)).trans HA4.out))
            have hl3 := hl2
            rw [← HE1.out] at hl3
            obtain ⟨e1, _, _, _⟩ := hl3.four
            have d0 := cells_at e1 0 (v := .func (.yield l) #[] #[]) rfl
            have ex := hB2.cells _ _ hcA rfl
            have d1 := cells_at ex 0 (v := .int .i64 (x.1 : Int)) rfl
            have d2 := cells_at ex 1 (v := .int .i64 (x.2 : Int)) rfl
            have hz2 : W5.heap.size ≤ B2.heap.size := Nat.le_trans h2 (Nat.le_trans hzA hB2.below.size)
            obtain ⟨fn, tmps, assign, body, hy, hR⟩ := HY.out (C1.length + i) x B2 hX hj2
            unfold subV at hy
            clear hbA hcA hzA hj2 hl2 hl3 e1 ex hX hB2 HA1 HA3 HX HA4
            gi_wp2
            refine (roundIn_wr hR).mono ?_
            clear hR hy d0 d1 d2
            rintro e B3 ⟨rfl, hj3, hk3⟩
            gi_wp2
            exact ⟨hk3.mono hs8, hj3, Nat.le_trans hz2 hk3.size, HL2.out.keepI HL1.out hk3, hk3.same D _ (by omega) HD2.out rfl⟩
          case fin =>
            rintro D2 B2 hD2 ⟨h1, h2, h3, h4⟩ hd
            have HF := Lib.hid (show J (closedN f s is).length B2 by rw [HSP.out, List.length_append]; exact h1)
            clear h1 h3 HL1 HLL HE1 H5 HD5
            clear L1
            gi_wp2
            have h4' : (B2.putObj D2 (.deferred none)).heap[D]? = some (.deferred (some [])) := (World.putObj_heap_other (by omega)).trans h4
            have hf1 := HJ.out _ _ _ HF.out (Abide.putObj (N := W.heap.size) (.deferred none) hd rfl (by omega))
            have hf2 := HJ.out _ _ _ hf1 (Abide.putObj (N := W.heap.size) (.deferred none) h4' rfl (by omega))
            exact ⟨by simp, .inl ⟨_, _, rfl, run_takeDeferred hd, by simp, .inl ⟨_, _, rfl, run_takeDeferred h4', .tuple #[], results_none rfl _ _ _, ⟨_, rfl⟩, hf2⟩⟩⟩
end Go.Proofs.YtgkojdbepgonkaaDoor
