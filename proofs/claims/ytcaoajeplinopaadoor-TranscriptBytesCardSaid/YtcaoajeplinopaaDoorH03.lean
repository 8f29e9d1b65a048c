/- Several texts in one: Held2, Talb, Float3, She. -/
import Derived.OrdersHeld
import Derived.Test.YtcaoajeplinopaaDoorH01
import Derived.StillTail
import Derived.Deep.AppendSrc
import Derived.Test.YtcaoajeplinopaaDoorH02
namespace Go.Proofs.YtcaoajeplinopaaDoor
set_option linter.unusedVariables false
set_option linter.unusedSimpArgs false
set_option maxRecDepth 8000
open Go.RowKit

/-- operations that only look -/
def stillOp (o : Oper) : Bool := match o.op with
  | .move _ => true
  | .assign _ => true
  | .pick _ _ _ => true
  | .load _ _ => true
  | .binOp _ _ _ _ _ => true
  | .unOp _ _ _ => true
  | .convert _ _ _ => true
  | .extract _ _ => true
  | .field _ _ _ => true
  | .indexAddr _ _ _ => true
  | .fieldAddr _ _ _ => true
  | .build _ _ => true
  | .slice _ _ _ _ _ => true
  | .call c => match c.callee with
    | .builtin .len => true
    | .builtin .min => true
    | .builtin .max => true
    | _ => false
  | _ => false

theorem andThen_value {P : Program} {α : Type} {s : Sem α} {g : α → Value} {w w' : World} {n : Next} (h : (do let x ← s; pure (Next.value (g x)) : Sem Next).run P w = .ok n w') : ∃ x, n = .value x := by
  rw [Sem.run_bind] at h
  cases hs : s.run P w with
  | ok x w1 =>
    rw [hs, Result.andThen_ok, Sem.run_pure] at h
    injection h with h _
    exact ⟨_, h.symm⟩
  | halt x w1 => rw [hs] at h; cases h
theorem still_value {P : Program} {o : Oper} (h : stillOp o = true) {ev : Operand → Value} {w w' : World} {n : Next} (hr : (execOp ev o).run P w = .ok n w') : ∃ x, n = .value x := by
  unfold stillOp at h
  unfold execOp at hr
  cases ho : o.op with
  | call c =>
    simp only [ho] at h hr
    obtain ⟨callee, args, argTypes⟩ := c
    cases callee with
    | builtin b =>
      cases b <;> first | (cases h; done) | (simp only [resolve, Sem.run_bind, Sem.run_pure, Result.andThen_ok, invoke, builtin] at hr; exact andThen_value (g := fun x => x) (by simpa only [Sem.run_bind, Sem.run_pure] using hr))
    | _ => cases h
  | _ => simp only [ho] at h hr <;> first | (exact absurd h (by decide)) | exact andThen_value (g := fun x => x) hr | exact andThen_value hr | (rw [Sem.run_pure] at hr; injection hr with hr _; exact ⟨_, hr.symm⟩)

section
variable {P : Program} {ops : Array Oper} {S : World → Prop} {Q : Exit → Act → World → Prop}

/-- what an operation that is carried out may leave: its value and the world -/
def heldUpon (P : Program) (K : Value → World → Prop) : Result Next → Prop
  | .ok (.value u) w' => K u w'
  | .ok .skip w' => K undef w'
  | .ok (.enter f args) w' => Calls P f args w' (fun e w'' => ∃ v, e = .returned v ∧ K v w'')
  | _ => False
def hOp (P : Program) (o : Oper) (K : Value → World → Prop) (a : Act) (w : World) : Prop := heldUpon P K ((execOp a.eval o).run P w)
theorem hOp_mono {o : Oper} {K K' : Value → World → Prop} {a : Act} {w : World} (h : ∀ v w', K v w' → K' v w') (hh : hOp P o K a w) : hOp P o K' a w := by
  unfold hOp at *
  generalize (execOp a.eval o).run P w = r at *
  cases r with
  | ok n w' =>
    cases n <;> simp only [heldUpon] at hh ⊢ <;> first | exact h _ _ hh | exact hh.mono fun _ _ ⟨v, he, hk⟩ => ⟨v, he, h _ _ hk⟩
  | halt x w' => exact hh
theorem hOp_out {o : Oper} {K : Value → World → Prop} {a : Act} {w : World} (hh : hOp P o K a w) : ∃ v w', K v w' := by
  unfold hOp at hh
  generalize (execOp a.eval o).run P w = r at hh
  cases r with
  | ok n w' =>
    cases n <;> simp only [heldUpon] at hh
    case value u => exact ⟨_, _, hh⟩
    case skip => exact ⟨_, _, hh⟩
    case enter f args =>
      obtain ⟨e, w1, fr, ⟨v, _, hk⟩, _⟩ := hh []
      exact ⟨v, w1, hk⟩
  | halt x w' => exact hh.elim
theorem hOp_put {o : Oper} (hs : ∀ cs b, o.op ≠ .select cs b) {K : Value → World → Prop} {a : Act} {w : World} {d : Option Tmp} {u : Value} (h : ∀ t, d = some t → t ∉ o.looksAt ops) (hh : hOp P o K a w) : hOp P o K (a.put d u) w := by
  unfold hOp at *
  rw [execOp_put o hs a d u h]
  exact hh

def quietNow (ops : Array Oper) (o : Oper) (a : Act) : Prop := stillOp o = true ∨ Region.wanted o (yielded ops a.tmps) = false
def sOp (P : Program) (ops : Array Oper) (S : World → Prop) (i : Nat) (K : Act → World → Prop) (a : Act) (w : World) : Prop :=
  match ops[i]? with
  | none => K a w
  | some o => (quietNow ops o a ∧ ∃ v, YieldsIf P ops S o v a ∧ K (a.put o.dst v) w) ∨ (¬ quietNow ops o a ∧ hOp P o (fun v w' => S w' ∧ K (a.put o.dst v) w') a w)
theorem sOp_mono {i : Nat} {K K' : Act → World → Prop} {a : Act} {w : World} (hS : S w) (h : ∀ a w, S w → K a w → K' a w) (hh : sOp P ops S i K a w) : sOp P ops S i K' a w := by
  unfold sOp at *
  cases hi : ops[i]? with
  | none => rw [hi] at hh; exact h _ _ hS hh
  | some o =>
    rw [hi] at hh
    rcases hh with ⟨hq, v, hy, hk⟩ | ⟨hq, hh⟩
    · exact .inl ⟨hq, v, hy, h _ _ hS hk⟩
    · exact .inr ⟨hq, hOp_mono (fun _ _ ⟨h1, h2⟩ => ⟨h1, h _ _ h1 h2⟩) hh⟩
theorem sOp_out {i : Nat} {K : Act → World → Prop} {a : Act} {w : World} (hS : S w) (hh : sOp P ops S i K a w) : ∃ a' w', S w' ∧ K a' w' := by
  unfold sOp at hh
  cases hi : ops[i]? with
  | none => rw [hi] at hh; exact ⟨_, _, hS, hh⟩
  | some o =>
    rw [hi] at hh
    rcases hh with ⟨_, v, _, hk⟩ | ⟨_, hh⟩
    · exact ⟨_, _, hS, hk⟩
    · obtain ⟨v, w', h1, h2⟩ := hOp_out hh
      exact ⟨_, _, h1, h2⟩
theorem quietNow_put {o : Oper} {a : Act} {d : Option Tmp} {u : Value} (h : ∀ t, d = some t → t ∉ o.looksAt ops) : quietNow ops o (a.put d u) ↔ quietNow ops o a := by
  unfold quietNow
  rw [wanted_put o a d u h]
theorem wpOp_of_sOp {i : Nat} {K K' : Act → World → Prop} {a : Act} {w : World} (hS : S w) (h : ∀ a w, S w → K a w → K' a w) (hh : sOp P ops S i K a w) : wpOp P ops Q i K' a w := by
  unfold sOp at hh
  cases hi : ops[i]? with
  | none =>
    rw [hi] at hh
    unfold wpOp
    simp only [hi]
    exact h _ _ hS hh
  | some o =>
    rw [hi] at hh
    rcases hh with ⟨_, v, hy, hk⟩ | ⟨hq, hh⟩
    · exact hy.wpOp hi hS (h _ _ hS hk)
    · have hw : Region.wanted o (yielded ops a.tmps) = true := by
        cases e : Region.wanted o (yielded ops a.tmps) with
        | true => rfl
        | false => exact absurd (.inr e) hq
      unfold wpOp
      simp only [hi, hw, if_true]
      refine .inl ?_
      unfold hOp at hh
      unfold Oper.wp
      generalize (execOp a.eval o).run P w = r at *
      cases r with
      | ok n w' =>
        cases n <;> simp only [heldUpon] at hh <;> simp only [Oper.upon]
        case value u => exact h _ _ hh.1 hh.2
        case skip => exact h _ _ hh.1 hh.2
        case enter f args => exact hh.mono fun e w'' ⟨v, he, h1, h2⟩ => by subst he; exact h _ _ h1 h2
      | halt x w' => exact hh.elim

/-- whatever order is picked -/
def wpS (P : Program) (ops : Array Oper) (S : World → Prop) (Q : Exit → Act → World → Prop) : Nat → Array Bool → Act → World → Prop
  | 0, listed, a, w => Region.ready .any ops listed = [] ∧ Q .normal a w
  | n + 1, listed, a, w => (Region.ready .any ops listed = [] → Q .normal a w) ∧ ∀ i, i ∈ Region.ready .any ops listed → sOp P ops S i (wpS P ops S Q n (listed.setIfInBounds i true)) a w
theorem wpAny_of_wpS : ∀ (n : Nat) (listed : Array Bool) (a : Act) (w : World), S w → wpS P ops S Q n listed a w → wpAny P .any ops Q n listed a w
  | 0, _, _, _, _, h => h
  | n + 1, _, _, _, hS, h => ⟨h.1, fun i hi => wpOp_of_sOp hS (fun a' w' hS' h' => wpAny_of_wpS n _ a' w' hS' h') (h.2 i hi)⟩

theorem YieldsIf.one {o : Oper} {u v : Value} {a : Act} {w : World} (hS : S w) (h : YieldsIf P ops S o u a) (k : YieldsIf P ops S o v a) : u = v := by
  rcases h with ⟨h1, h2⟩ | ⟨h1, h2⟩ <;> rcases k with ⟨k1, k2⟩ | ⟨k1, k2⟩
  · have := (h2 w hS).symm.trans (k2 w hS)
    injection this with e
    injection e
  · rw [h1] at k1; cases k1
  · rw [h1] at k1; cases k1
  · rw [h2, k2]

/-- one operation apart from another: its value may be there already -/
theorem sOp_put {j : Nat} {oi oj : Oper} {v : Value} (hj : ops[j]? = some oj) (hap : oi.apart ops oj = true) (hsi : ∀ cs b, oi.op ≠ .select cs b) (hsj : ∀ cs b, oj.op ≠ .select cs b) {K : Act → World → Prop} {a : Act} {w : World}
    (hq : quietNow ops oi a) (hy : YieldsIf P ops S oi v a) (h : sOp P ops S j K (a.put oi.dst v) w) : sOp P ops S j (fun a' w' => quietNow ops oi a' ∧ YieldsIf P ops S oi v a' ∧ K (a'.put oi.dst v) w') a w := by
  obtain ⟨h1, h2, h3⟩ := Oper.apart_spec hap
  have keep : ∀ u, quietNow ops oi (a.put oj.dst u) ∧ YieldsIf P ops S oi v (a.put oj.dst u) := fun u =>
    ⟨(quietNow_put h3).2 hq, hy.of_same (execOp_put oi hsi a oj.dst u h3) (wanted_put oi a oj.dst u h3)⟩
  unfold sOp at *
  rw [hj] at h ⊢
  rcases h with ⟨hqj, u, hu, hk⟩ | ⟨hqj, hh⟩
  · exact .inl ⟨(quietNow_put h1).1 hqj, u, hu.of_same (execOp_put oj hsj a oi.dst v h1).symm (wanted_put oj a oi.dst v h1).symm, (keep u).1, (keep u).2, by rw [← Act.put_comm a v u h2]; exact hk⟩
  · refine .inr ⟨fun e => hqj ((quietNow_put h1).2 e), ?_⟩
    have hh' : hOp P oj (fun v' w' => S w' ∧ K ((a.put oi.dst v).put oj.dst v') w') a w := by
      unfold hOp at *
      rw [execOp_put oj hsj a oi.dst v h1] at hh
      exact hh
    exact hOp_mono (fun u w' ⟨e1, e2⟩ => ⟨e1, (keep u).1, (keep u).2, by rw [← Act.put_comm a v u h2]; exact e2⟩) hh'

/-- every later call waits for a call that has not come up -/
def Chain (ops : Array Oper) (i : Nat) (listed : Array Bool) : Prop := ∀ j oj, ops[j]? = some oj → j ≠ i → listed.getD j true = false → stillOp oj = false →
  ∃ e, e ∈ oj.after ∧ Region.binds .any e = true ∧ listed.getD e.on false = false ∧ ∀ oe, ops[e.on]? = some oe → stillOp oe = false

theorem wpS_first {i : Nat} {oi : Oper} (hi : ops[i]? = some oi) (hsel : ∀ (j : Nat) (o : Oper) cs b, ops[j]? = some o → o.op ≠ .select cs b) : ∀ (n : Nat) (listed : Array Bool) (a : Act) (w : World), S w →
      (∀ j oj, ops[j]? = some oj → j ≠ i → listed.getD j true = false → (∀ e ∈ oj.after, Region.binds .any e = true → e.on ≠ i) → oi.apart ops oj = true) →
      (stillOp oi = false → Chain ops i listed) → i ∈ Region.ready .any ops listed → sOp P ops S i (wpS P ops S Q n (listed.setIfInBounds i true)) a w → wpS P ops S Q (n + 1) listed a w := by
  intro n
  induction n with
  | zero =>
    intro listed a w hS _ _ hr H
    refine ⟨fun h => (by rw [h] at hr; cases hr), fun j hj => ?_⟩
    by_cases hji : j = i
    · subst hji; exact H
    · obtain ⟨a', w', _, h0, _⟩ := sOp_out hS H
      have := ready_mono hj hji
      rw [h0] at this
      cases this
  | succ n ih =>
    intro listed a w hS hfree hchain hr H
    refine ⟨fun h => (by rw [h] at hr; cases hr), fun j hj => ?_⟩
    by_cases hji : j = i
    · subst hji; exact H
    obtain ⟨hjun, oj, hoj, hall⟩ := mem_ready.1 hj
    have hnot : ∀ e ∈ oj.after, Region.binds .any e = true → e.on ≠ i := fun e he hb heq => by
      have h1 := hall e he hb
      have h0 := (mem_ready.1 hr).1
      rw [heq, getD_both h0] at h1
      cases h1
    have hap := hfree j oj hoj hji hjun hnot
    obtain ⟨p1, p2, p3⟩ := Oper.apart_spec hap
    have hsi := fun cs b => hsel i oi cs b hi
    have hsj := fun cs b => hsel j oj cs b hoj
    have hfree' : ∀ k ok, ops[k]? = some ok → k ≠ i → (listed.setIfInBounds j true).getD k true = false →
        (∀ e ∈ ok.after, Region.binds .any e = true → e.on ≠ i) → oi.apart ops ok = true := fun k ok hk hki hun hno => by
      refine hfree k ok hk hki ?_ hno
      by_cases hjk : j = k
      · subst hjk; exact hjun
      · rw [getD_set_ne true hjk] at hun; exact hun
    -- where i calls, j only looks
    have hjs : stillOp oi = false → stillOp oj = true := fun hs => by
      cases e : stillOp oj with
      | true => rfl
      | false =>
        obtain ⟨e, he, hb, hun, _⟩ := hchain hs j oj hoj hji hjun e
        rw [hall e he hb] at hun
        cases hun
    have hchain' : stillOp oi = false → Chain ops i (listed.setIfInBounds j true) := fun hs => by
      intro k ok hk hki hun hks
      have hjk : j ≠ k := by
        rintro rfl
        rw [hoj] at hk
        injection hk with hk
        rw [← hk, hjs hs] at hks
        cases hks
      rw [getD_set_ne true hjk] at hun
      obtain ⟨e, he, hb, h1, h2⟩ := hchain hs k ok hk hki hun hks
      refine ⟨e, he, hb, ?_, h2⟩
      have hje : j ≠ e.on := by
        intro h
        have := h2 oj (by rw [← h]; exact hoj)
        rw [hjs hs] at this
        cases this
      rw [getD_set_ne false hje]
      exact h1
    have hr' := ready_mono hr (Ne.symm hji)
    unfold sOp at H
    rw [hi] at H
    rcases H with ⟨hq, v, hy, HK⟩ | ⟨hnq, hh⟩
    · have h2 := sOp_put hoj hap hsi hsj hq hy (HK.2 j (ready_mono hj hji))
      refine sOp_mono hS (fun a' w' hS' ⟨hq', hy', hk'⟩ => ih (listed.setIfInBounds j true) a' w' hS' hfree' hchain' hr' ?_) h2
      unfold sOp
      rw [hi]
      refine .inl ⟨hq', v, hy', ?_⟩
      rw [Array.setIfInBounds_comm _ _ hji]
      exact hk'
    · have hs : stillOp oi = false := by
        cases e : stillOp oi with
        | false => rfl
        | true => exact absurd (.inl e) hnq
      have hj' := hjs hs
      obtain ⟨v0, w0, hS0, hK0⟩ := hOp_out hh
      have h1 := hK0.2 j (ready_mono hj hji)
      unfold sOp at h1
      rw [hoj] at h1
      obtain ⟨vj, hyj⟩ : ∃ vj, YieldsIf P ops S oj vj a := by
        rcases h1 with ⟨_, u, hu, _⟩ | ⟨e, _⟩
        · exact ⟨u, hu.of_same (execOp_put oj hsj a oi.dst v0 p1).symm (wanted_put oj a oi.dst v0 p1).symm⟩
        · exact absurd (.inl hj') e
      unfold sOp
      rw [hoj]
      refine .inl ⟨.inl hj', vj, hyj, ih (listed.setIfInBounds j true) (a.put oj.dst vj) w hS hfree' hchain' hr' ?_⟩
      unfold sOp
      rw [hi]
      refine .inr ⟨fun e => hnq ((quietNow_put p3).1 e), hOp_put hsi p3 (hOp_mono (fun v w' ⟨hS', hk'⟩ => ⟨hS', ?_⟩) hh)⟩
      have h2 := hk'.2 j (ready_mono hj hji)
      unfold sOp at h2
      rw [hoj] at h2
      rcases h2 with ⟨_, u, hu, hk2⟩ | ⟨e, _⟩
      · have hu' : YieldsIf P ops S oj u a := hu.of_same (execOp_put oj hsj a oi.dst v p1).symm (wanted_put oj a oi.dst v p1).symm
        have e := YieldsIf.one hS' hu' hyj
        subst e
        rw [Array.setIfInBounds_comm _ _ hji, ← Act.put_comm a v u p2]
        exact hk2
      · exact absurd (.inl hj') e

/-- the walk in the order of the text -/
def wpHeld (P : Program) (ops : Array Oper) (S : World → Prop) (Q : Exit → Act → World → Prop) : List Oper → Act → World → Prop
  | [], a, w => Q .normal a w
  | o :: l, a, w => (quietNow ops o a ∧ ∃ v, YieldsIf P ops S o v a ∧ wpHeld P ops S Q l (a.put o.dst v) w) ∨ (¬ quietNow ops o a ∧ hOp P o (fun v w' => S w' ∧ wpHeld P ops S Q l (a.put o.dst v) w') a w)

/-- each call waits for the call before it -/
structure ChainOK (ops : Array Oper) : Prop where
  chain : ∀ (k j : Nat) (ok oj : Oper), k < j → ops[k]? = some ok → ops[j]? = some oj → stillOp ok = false → stillOp oj = false → ∃ e, e ∈ oj.after ∧ Region.binds .any e = true ∧ k ≤ e.on ∧ e.on < j ∧ ∀ oe, ops[e.on]? = some oe → stillOp oe = false

theorem wpS_of_lex (hx : LexOK ops) (hc : ChainOK ops) : ∀ (l : List Oper) (k : Nat) (listed : Array Bool) (a : Act) (w : World), S w →
    (∀ j, l[j]? = ops[k + j]?) → k + l.length = ops.size → listed.size = ops.size → (∀ i, i < k → listed.getD i false = true) → (∀ i, k ≤ i → i < ops.size → listed.getD i true = false) →
    wpHeld P ops S Q l a w → wpS P ops S Q l.length listed a w
  | [], k, listed, a, w, _, _, hk, hz, h1, _, h => by
    refine ⟨?_, h⟩
    refine List.eq_nil_iff_forall_not_mem.2 fun i hi => ?_
    obtain ⟨h0, o, ho, _⟩ := mem_ready.1 hi
    have hlt := (Array.getElem?_eq_some_iff.1 ho).1
    have h3 := h1 i (by simp at hk; omega)
    rw [getD_both h0] at h3
    cases h3
  | o :: l, k, listed, a, w, hS, hl, hk, hz, h1, h2, h => by
    have h0 : ops[k]? = some o := by simpa using (hl 0).symm
    have hlt : k < ops.size := (Array.getElem?_eq_some_iff.1 h0).1
    have hst : sOp P ops S k (wpHeld P ops S Q l) a w := by
      unfold sOp
      rw [h0]
      exact h
    have hun : ∀ j, listed.getD j true = false → k ≤ j := fun j hun => by
      rcases Nat.lt_or_ge j k with h' | h'
      · have h3 := h1 j h'
        rw [getD_both hun] at h3
        cases h3
      · exact h'
    refine wpS_first h0 (Region.noSelect_spec hx.sel) l.length listed a w hS ?_ ?_ (mem_ready.2 ⟨h2 k (Nat.le_refl _) hlt, o, h0, fun e he hb => h1 _ (hx.edge k o h0 e he hb)⟩) ?_
    · intro j oj hj hne hju hno
      refine hx.free k j o oj ?_ h0 hj hno
      have := hun j hju
      omega
    · intro hs j oj hj hne hju hjs
      have := hun j hju
      obtain ⟨e, he, hb, hke, hej, hes⟩ := hc.chain k j o oj (by omega) h0 hj hs hjs
      refine ⟨e, he, hb, ?_, hes⟩
      have hjlt : j < ops.size := (Array.getElem?_eq_some_iff.1 hj).1
      exact getD_both (h2 e.on hke (by omega))
    · refine sOp_mono hS (fun a' w' hS' h' => wpS_of_lex hx hc l (k + 1) _ a' w' hS' (fun j => by have := hl (j + 1); simpa [Nat.add_assoc, Nat.add_comm 1 j] using this) (by simp at hk; omega) (by simpa using hz) ?_ ?_ h') hst
      · intro i hi
        by_cases e : i = k
        · subst e
          simp [hz, hlt]
        · exact getD_set_true (h1 i (by omega))
      · intro i hi hi'
        rw [getD_set_ne true (by omega)]
        exact h2 i (by omega) hi'

theorem wp_held_lex {id : Nat} {a : Act} {w : World} {l : List Oper} (hm : P.follows .mixedOrders = true) (hx : LexOK l.toArray) (hc : ChainOK l.toArray) (hS : S w.drew)
    (h : wpHeld P l.toArray S Q l a w.drew) : (Code.region id l.toArray true).wp P Q a w := by
  refine wp_region_any hm (wpAny_of_wpS (S := S) _ _ _ _ hS ?_)
  have := wpS_of_lex (P := P) (S := S) (Q := Q) hx hc l 0 (Array.replicate l.toArray.size false) a w.drew hS (by simp) (by simp) (by simp) (by intro i hi; omega) (fun i _ hi => getD_in (by simpa using hi) (getD_replicate_false _ _)) h
  simpa using this

theorem wpHeld_nil {a : Act} {w : World} (h : Q .normal a w) : wpHeld P ops S Q [] a w := h
/-- what only looks, by the walk of such -/
theorem wpHeld_still : ∀ (l1 l2 : List Oper) {a : Act} {w : World}, S w → l1.all stillOp = true → wpQuiet P ops S (fun a' => wpHeld P ops S Q l2 a' w) l1 a → wpHeld P ops S Q (l1 ++ l2) a w
  | [], _, _, _, _, _, h => h
  | o :: l1, l2, a, w, hS, hs, h => by
    rw [List.all_cons, Bool.and_eq_true] at hs
    refine .inl ⟨.inl hs.1, ?_⟩
    unfold wpQuiet at h
    by_cases hw : Region.wanted o (yielded ops a.tmps) = true
    · rw [if_pos hw] at h
      obtain ⟨v, hv, hn⟩ := h
      refine ⟨v, .inl ⟨hw, fun w' hS' => ?_⟩, wpHeld_still l1 l2 hS hs.2 hn⟩
      have h1 := hv w' hS'
      unfold Oper.quietAt at h1
      cases hr : (execOp a.eval o).run P w' with
      | ok n w2 =>
        obtain ⟨x, rfl⟩ := still_value hs.1 hr
        rw [hr] at h1
        obtain ⟨e1, e2⟩ := h1
        rw [e1, e2]
      | halt x w2 => rw [hr] at h1; exact h1.elim
    · rw [if_neg hw] at h
      exact ⟨undef, .inr ⟨by simpa using hw, rfl⟩, wpHeld_still l1 l2 hS hs.2 h⟩
theorem wpHeld_seg (n : Nat) {l : List Oper} {a : Act} {w : World} (hS : S w) (hs : (l.take n).all stillOp = true) (h : wpQuiet P ops S (fun a' => wpHeld P ops S Q (l.drop n) a' w) (l.take n) a) : wpHeld P ops S Q l a w := by
  have := wpHeld_still (Q := Q) (l.take n) (l.drop n) hS hs h
  rwa [List.take_append_drop] at this
/-- a call of a function -/
theorem wpHeld_call {o : Oper} {l : List Oper} {a : Act} {w : World} {fn : Func} (f : FuncId) (hf : P.funcs[f]? = some fn) (hname : (fn.name == "runtime.NumGoroutine") = false) (hb : fn.body.isNone = false) (args : Array Operand) (ts : Array TypeId) (vs : Array Value) (ho : o.op = .call { callee := .value (.func f), args := args, argTypes := ts })
    (hw : Region.wanted o (yielded ops a.tmps) = true) (hv : args.map a.eval = vs) (h : Calls P f vs w fun e w' => ∃ v, e = .returned v ∧ S w' ∧ wpHeld P ops S Q l (a.put o.dst v) w') : wpHeld P ops S Q (o :: l) a w := by
  refine .inr ⟨?_, ?_⟩
  · rintro (h1 | h1)
    · unfold stillOp at h1
      simp only [ho] at h1
      cases h1
    · rw [hw] at h1
      cases h1
  · unfold hOp execOp
    simp only [ho]
    have e : (do let d ← resolve a.eval { callee := .value (.func f), args := args, argTypes := ts } o.type; invoke d.target d.args : Sem Next).run P w = .ok (.enter f vs) w := by
      subst hv
      have h1 : fn.name ≠ "runtime.NumGoroutine" := by simpa using hname
      have h2 : fn.body ≠ none := by
        intro e
        rw [e] at hb
        cases hb
      simp [resolve, Deferred.ofValue, invoke, go_sem, Act.eval, callFunc, hf, h1, h2]
    rw [e]
    exact h
/-- any other operation that is carried out -/
theorem wpHeld_op {o : Oper} {l : List Oper} {a : Act} {w : World} (hs : stillOp o = false) (hw : Region.wanted o (yielded ops a.tmps) = true) (h : hOp P o (fun v w' => S w' ∧ wpHeld P ops S Q l (a.put o.dst v) w') a w) : wpHeld P ops S Q (o :: l) a w := by
  refine .inr ⟨?_, h⟩
  rintro (h1 | h1)
  · rw [hs] at h1
    cases h1
  · rw [hw] at h1
    cases h1
/-- one that yields a value and leaves a world -/
theorem wpHeld_run {o : Oper} {l : List Oper} {a : Act} {w : World} (v : Value) (w1 : World) (hs : stillOp o = false) (hw : Region.wanted o (yielded ops a.tmps) = true) (hr : (execOp a.eval o).run P w = .ok (.value v) w1) (hS : S w1) (h : wpHeld P ops S Q l (a.put o.dst v) w1) : wpHeld P ops S Q (o :: l) a w := by
  refine wpHeld_op hs hw ?_
  unfold hOp
  rw [hr]
  exact ⟨hS, h⟩
end

def LaterB (B : Nat) (w : World) : Type := { w' : World // Below B w w' }
instance {B : Nat} {w : World} : Nonempty (LaterB B w) := ⟨⟨w, Below.refl _ _⟩⟩
def LaterB.at {B : Nat} {w : World} (x : LaterB B w) : World := x.1
theorem LaterB.below {B : Nat} {w : World} (x : LaterB B w) : Below B w x.at := x.2
theorem LaterB.cell {B : Nat} {w : World} {a : Addr} {v : Value} (h : w.cell? a = some v) (hB : a.block < B) (x : LaterB B w) : x.at.cell? a = some v := (x.2.cell hB).trans h
theorem LaterB.step {B : Nat} {w w' w1 : World} (h : ∃ x : LaterB B w, w' = x.at) (hb : Below B w' w1) : ∃ x : LaterB B w, w1 = x.at := by
  obtain ⟨x, rfl⟩ := h
  exact ⟨⟨w1, x.2.trans hb⟩, rfl⟩
theorem LaterB.of {B : Nat} {w w' : World} (h : ∃ x : LaterB B w, w' = x.at) : Below B w w' := by
  obtain ⟨x, rfl⟩ := h
  exact x.2
theorem wp_heldB (B : Nat) {P : Program} {Q : Exit → Act → World → Prop} {id : Nat} {a : Act} {w : World} {l : List Oper} (hm : P.follows .mixedOrders = true) (hx : LexOK l.toArray) (hc : ChainOK l.toArray)
    (h : ∀ W, Below w.heap.size w W → (∃ x : LaterB B w, W = x.at) → wpHeld P l.toArray (fun w' => ∃ x : LaterB B w, w' = x.at) Q l a W) : (Code.region id l.toArray true).wp P Q a w :=
  wp_held_lex hm hx hc ⟨⟨w.drew, (Below.refl _ _).drew⟩, rfl⟩ (h w.drew (Below.refl _ _).drew ⟨⟨w.drew, (Below.refl _ _).drew⟩, rfl⟩)

def chainN : List Oper → Nat → Option Nat → Bool
  | [], _, _ => true
  | o :: l, k, last => (stillOp o || (match last with | none => true | some p => Nat.beq (Nat.mod (Nat.shiftRight (afterMask o) p) 2) 1)) && chainN l (k + 1) (if stillOp o then last else some k)
theorem chainN_spec {ops : Array Oper} : ∀ (l : List Oper) (k : Nat) (last : Option Nat), (∀ j, l[j]? = ops[k + j]?) →
    (∀ p, last = some p → p < k ∧ (∀ o, ops[p]? = some o → stillOp o = false) ∧ ∀ j o, p < j → j < k → ops[j]? = some o → stillOp o = true) → (last = none → ∀ j o, j < k → ops[j]? = some o → stillOp o = true) → chainN l k last = true →
    ∀ (j : Nat) (oj : Oper), k ≤ j → ops[j]? = some oj → stillOp oj = false → ∀ (i : Nat) (oi : Oper), i < j → ops[i]? = some oi → stillOp oi = false → ∃ e, e ∈ oj.after ∧ Region.binds .any e = true ∧ i ≤ e.on ∧ e.on < j ∧ ∀ oe, ops[e.on]? = some oe → stillOp oe = false
  | [], k, _, hl, _, _, _, j, oj, hj, hoj, _ => by
    intro i oi hi hoi _
    have h0 : ops[j]? = none := by
      have := hl (j - k)
      rw [show k + (j - k) = j by omega] at this
      rw [← this]
      rfl
    rw [h0] at hoj
    cases hoj
  | o :: l, k, last, hl, hp, hn, h, j, oj, hj, hoj, hjs => by
    intro i oi hi hoi his
    have h0 : ops[k]? = some o := by simpa using (hl 0).symm
    simp only [chainN, Bool.and_eq_true] at h
    by_cases e : j = k
    · subst e
      rw [h0] at hoj
      injection hoj with hoj
      subst hoj
      have h1 := h.1
      rw [hjs, Bool.false_or] at h1
      cases hlast : last with
      | none =>
        have := hn hlast i oi hi hoi
        rw [his] at this
        cases this
      | some p =>
        rw [hlast] at h1
        obtain ⟨q1, q2, q3⟩ := hp p hlast
        have h2 : (afterMask o).testBit p = true := by
          rw [Nat.testBit_eq_decide_div_mod_eq, decide_eq_true_iff, ← Nat.shiftRight_eq_div_pow]
          exact Nat.eq_of_beq_eq_true h1
        obtain ⟨e, he, hb, hk⟩ := afterMask_mem h2
        refine ⟨e, he, hb, ?_, by omega, by rw [hk]; exact q2⟩
        rw [hk]
        rcases Nat.lt_or_ge p i with h' | h'
        · have := q3 i oi h' hi hoi
          rw [his] at this
          cases this
        · exact h'
    · refine chainN_spec l (k + 1) _ (fun j => by have := hl (j + 1); simpa [Nat.add_assoc, Nat.add_comm 1 j] using this) ?_ ?_ h.2 j oj (by omega) hoj hjs i oi hi hoi his
      · intro p hpe
        cases ho : stillOp o with
        | true =>
          rw [ho, if_pos rfl] at hpe
          obtain ⟨q1, q2, q3⟩ := hp p hpe
          refine ⟨by omega, q2, fun j' o' h1 h2 h3 => ?_⟩
          by_cases e' : j' = k
          · subst e'
            rw [h0] at h3
            injection h3 with h3
            rw [← h3, ho]
          · exact q3 j' o' h1 (by omega) h3
        | false =>
          rw [ho, if_neg (by decide)] at hpe
          injection hpe with hpe
          subst hpe
          refine ⟨by omega, fun o' h' => ?_, fun j' o' h1 h2 _ => by omega⟩
          rw [h0] at h'
          injection h' with h'
          rw [← h', ho]
      · intro hpe j' o' h1 h3
        cases ho : stillOp o with
        | true =>
          rw [ho, if_pos rfl] at hpe
          by_cases e' : j' = k
          · subst e'
            rw [h0] at h3
            injection h3 with h3
            rw [← h3, ho]
          · exact hn hpe j' o' (by omega) h3
        | false =>
          rw [ho, if_neg (by decide)] at hpe
          cases hpe
theorem chainOK_of {l : List Oper} (h : chainN l 0 none = true) : ChainOK l.toArray :=
  ⟨fun k j ok oj hkj hok hoj hks hjs => chainN_spec (ops := l.toArray) l 0 none (by simp) (by intro p hp; cases hp) (by intro _ j o hj; omega) h j oj (Nat.zero_le _) hoj hjs k ok hkj hok hks⟩

end Go.Proofs.YtcaoajeplinopaaDoor

namespace Go.Proofs.YtcaoajeplinopaaDoor
set_option linter.unusedVariables false
set_option linter.unusedSimpArgs false
set_option maxRecDepth 8000
open Go.RowKit

section
variable {P : Program} {ops : Array Oper} {S : World → Prop} {Q : Exit → Act → World → Prop} {m : Nat}

/-- the last operation -/
def mOp (P : Program) (ops : Array Oper) (m : Nat) (K : Act → World → Prop) (a : Act) (w : World) : Prop :=
  ∃ o, ops[m]? = some o ∧ Region.wanted o (yielded ops a.tmps) = true ∧ hOp P o (fun v w' => K (a.put o.dst v) w') a w
theorem mOp_mono {K K' : Act → World → Prop} {a : Act} {w : World} (h : ∀ a w, K a w → K' a w) (hh : mOp P ops m K a w) : mOp P ops m K' a w := by
  obtain ⟨o, h1, h2, h3⟩ := hh
  exact ⟨o, h1, h2, hOp_mono (fun _ _ hk => h _ _ hk) h3⟩
theorem wpOp_of_mOp {K : Act → World → Prop} {a : Act} {w : World} (hh : mOp P ops m K a w) : wpOp P ops Q m K a w := by
  obtain ⟨o, hi, hw, hh⟩ := hh
  unfold wpOp
  simp only [hi, hw, if_true]
  refine .inl ?_
  unfold hOp at hh
  unfold Oper.wp
  generalize (execOp a.eval o).run P w = r at *
  cases r with
  | ok n w' =>
    cases n <;> simp only [heldUpon] at hh <;> simp only [Oper.upon]
    case value u => exact hh
    case skip => exact hh
    case enter f args => exact hh.mono fun e w'' ⟨v, he, h2⟩ => by subst he; exact h2
  | halt x w' => exact hh.elim

def tOp (P : Program) (ops : Array Oper) (S : World → Prop) (m i : Nat) (K : Act → World → Prop) (a : Act) (w : World) : Prop := if i = m then mOp P ops m K a w else sOp P ops S i K a w
theorem tOp_ne {i : Nat} {K : Act → World → Prop} {a : Act} {w : World} (h : i ≠ m) : tOp P ops S m i K a w = sOp P ops S i K a w := if_neg h
theorem tOp_eq {K : Act → World → Prop} {a : Act} {w : World} : tOp P ops S m m K a w = mOp P ops m K a w := if_pos rfl
/-- whatever order is picked -/
def wpT (P : Program) (ops : Array Oper) (S : World → Prop) (m : Nat) (Q : Exit → Act → World → Prop) : Nat → Array Bool → Act → World → Prop
  | 0, listed, a, w => Region.ready .any ops listed = [] ∧ Q .normal a w
  | n + 1, listed, a, w => (Region.ready .any ops listed = [] → Q .normal a w) ∧ ∀ i, i ∈ Region.ready .any ops listed → tOp P ops S m i (wpT P ops S m Q n (listed.setIfInBounds i true)) a w

theorem ready_lt {listed : Array Bool} {i : Nat} (h : i ∈ Region.ready .any ops listed) : i < ops.size := by
  obtain ⟨_, o, ho, _⟩ := mem_ready.1 h
  exact (Array.getElem?_eq_some_iff.1 ho).1
theorem none_left {listed : Array Bool} (hz : ops.size = m + 1) (hs : Region.sinkB .any ops m = true) (hc : Region.chainB .any ops m = true) (inv : HeadInv .any ops m listed) (hm : m ∈ Region.ready .any ops listed) : Region.ready .any ops (listed.setIfInBounds m true) = [] := by
  refine List.eq_nil_iff_forall_not_mem.2 fun j hj => ?_
  have hjl := ready_lt hj
  have hju := (mem_ready.1 hj).1
  by_cases e : j = m
  · subst e
    have : (listed.setIfInBounds j true).getD j true = true := by simp [inv.size, hz]
    rw [this] at hju
    cases hju
  · rw [getD_set_ne true (fun k => e k.symm)] at hju
    exact tail_waits hs hc (by omega) inv _ j rfl (by omega) hju m (Nat.le_refl _) hm
theorem wpAny_of_wpT (hz : ops.size = m + 1) (hs : Region.sinkB .any ops m = true) (hc : Region.chainB .any ops m = true) : ∀ (n : Nat) (listed : Array Bool) (a : Act) (w : World), HeadInv .any ops m listed → S w → wpT P ops S m Q n listed a w → wpAny P .any ops Q n listed a w
  | 0, _, _, _, _, _, h => h
  | n + 1, listed, a, w, inv, hS, h => by
    refine ⟨h.1, fun i hi => ?_⟩
    have h2 := h.2 i hi
    by_cases e : i = m
    · subst e
      rw [tOp_eq] at h2
      have hn := none_left hz hs hc inv hi
      refine wpOp_of_mOp (mOp_mono (fun a' w' hk => ?_) h2)
      cases n with
      | zero => exact hk
      | succ n => exact ⟨hk.1, fun j hj => by rw [hn] at hj; cases hj⟩
    · rw [tOp_ne e] at h2
      have hl := ready_lt hi
      exact wpOp_of_sOp hS (fun a' w' hS' h' => wpAny_of_wpT hz hs hc n _ a' w' (inv.set hi (by omega)) hS' h') h2

theorem wpT_first (hz : ops.size = m + 1) (hs : Region.sinkB .any ops m = true) (hc : Region.chainB .any ops m = true) {i : Nat} {oi : Oper} (him : i < m) (hi : ops[i]? = some oi) (hsel : ∀ (j : Nat) (o : Oper) cs b, ops[j]? = some o → o.op ≠ .select cs b) : ∀ (n : Nat) (listed : Array Bool) (a : Act) (w : World), HeadInv .any ops m listed → S w →
      (∀ j oj, ops[j]? = some oj → j ≠ i → listed.getD j true = false → (∀ e ∈ oj.after, Region.binds .any e = true → e.on ≠ i) → oi.apart ops oj = true) →
      (stillOp oi = false → Chain ops i listed) → i ∈ Region.ready .any ops listed → sOp P ops S i (wpT P ops S m Q n (listed.setIfInBounds i true)) a w → wpT P ops S m Q (n + 1) listed a w := by
  intro n
  induction n with
  | zero =>
    intro listed a w inv hS _ _ hr H
    refine ⟨fun h => (by rw [h] at hr; cases hr), fun j hj => ?_⟩
    by_cases hji : j = i
    · subst hji; rw [tOp_ne (by omega)]; exact H
    · obtain ⟨a', w', _, h0, _⟩ := sOp_out hS H
      have := ready_mono hj hji
      rw [h0] at this
      cases this
  | succ n ih =>
    intro listed a w inv hS hfree hchain hr H
    refine ⟨fun h => (by rw [h] at hr; cases hr), fun j hj => ?_⟩
    by_cases hji : j = i
    · subst hji; rw [tOp_ne (by omega)]; exact H
    have hjm : j ≠ m := fun e => by
      subst e
      exact tail_waits hs hc (by omega) inv _ i rfl him (mem_ready.1 hr).1 j (Nat.le_refl _) hj
    have hjl := ready_lt hj
    have inv' : HeadInv .any ops m (listed.setIfInBounds j true) := inv.set hj (by omega)
    rw [tOp_ne hjm]
    obtain ⟨hjun, oj, hoj, hall⟩ := mem_ready.1 hj
    have hnot : ∀ e ∈ oj.after, Region.binds .any e = true → e.on ≠ i := fun e he hb heq => by
      have h1 := hall e he hb
      have h0 := (mem_ready.1 hr).1
      rw [heq, getD_both h0] at h1
      cases h1
    have hap := hfree j oj hoj hji hjun hnot
    obtain ⟨p1, p2, p3⟩ := Oper.apart_spec hap
    have hsi := fun cs b => hsel i oi cs b hi
    have hsj := fun cs b => hsel j oj cs b hoj
    have hfree' : ∀ k ok, ops[k]? = some ok → k ≠ i → (listed.setIfInBounds j true).getD k true = false →
        (∀ e ∈ ok.after, Region.binds .any e = true → e.on ≠ i) → oi.apart ops ok = true := fun k ok hk hki hun hno => by
      refine hfree k ok hk hki ?_ hno
      by_cases hjk : j = k
      · subst hjk; exact hjun
      · rw [getD_set_ne true hjk] at hun; exact hun
    have hjs : stillOp oi = false → stillOp oj = true := fun hs => by
      cases e : stillOp oj with
      | true => rfl
      | false =>
        obtain ⟨e, he, hb, hun, _⟩ := hchain hs j oj hoj hji hjun e
        rw [hall e he hb] at hun
        cases hun
    have hchain' : stillOp oi = false → Chain ops i (listed.setIfInBounds j true) := fun hs => by
      intro k ok hk hki hun hks
      have hjk : j ≠ k := by
        rintro rfl
        rw [hoj] at hk
        injection hk with hk
        rw [← hk, hjs hs] at hks
        cases hks
      rw [getD_set_ne true hjk] at hun
      obtain ⟨e, he, hb, h1, h2⟩ := hchain hs k ok hk hki hun hks
      refine ⟨e, he, hb, ?_, h2⟩
      have hje : j ≠ e.on := by
        intro h
        have := h2 oj (by rw [← h]; exact hoj)
        rw [hjs hs] at this
        cases this
      rw [getD_set_ne false hje]
      exact h1
    have hr' := ready_mono hr (Ne.symm hji)
    have hrj := ready_mono hj hji
    unfold sOp at H
    rw [hi] at H
    rcases H with ⟨hq, v, hy, HK⟩ | ⟨hnq, hh⟩
    · have hkj := HK.2 j hrj
      rw [tOp_ne hjm] at hkj
      have h2 := sOp_put hoj hap hsi hsj hq hy hkj
      refine sOp_mono hS (fun a' w' hS' ⟨hq', hy', hk'⟩ => ih (listed.setIfInBounds j true) a' w' inv' hS' hfree' hchain' hr' ?_) h2
      unfold sOp
      rw [hi]
      refine .inl ⟨hq', v, hy', ?_⟩
      rw [Array.setIfInBounds_comm _ _ hji]
      exact hk'
    · have hs : stillOp oi = false := by
        cases e : stillOp oi with
        | false => rfl
        | true => exact absurd (.inl e) hnq
      have hj' := hjs hs
      obtain ⟨v0, w0, hS0, hK0⟩ := hOp_out hh
      have h1 := hK0.2 j hrj
      rw [tOp_ne hjm] at h1
      unfold sOp at h1
      rw [hoj] at h1
      obtain ⟨vj, hyj⟩ : ∃ vj, YieldsIf P ops S oj vj a := by
        rcases h1 with ⟨_, u, hu, _⟩ | ⟨e, _⟩
        · exact ⟨u, hu.of_same (execOp_put oj hsj a oi.dst v0 p1).symm (wanted_put oj a oi.dst v0 p1).symm⟩
        · exact absurd (.inl hj') e
      unfold sOp
      rw [hoj]
      refine .inl ⟨.inl hj', vj, hyj, ih (listed.setIfInBounds j true) (a.put oj.dst vj) w inv' hS hfree' hchain' hr' ?_⟩
      unfold sOp
      rw [hi]
      refine .inr ⟨fun e => hnq ((quietNow_put p3).1 e), hOp_put hsi p3 (hOp_mono (fun v w' ⟨hS', hk'⟩ => ⟨hS', ?_⟩) hh)⟩
      have h2 := hk'.2 j hrj
      rw [tOp_ne hjm] at h2
      unfold sOp at h2
      rw [hoj] at h2
      rcases h2 with ⟨_, u, hu, hk2⟩ | ⟨e, _⟩
      · have hu' : YieldsIf P ops S oj u a := hu.of_same (execOp_put oj hsj a oi.dst v p1).symm (wanted_put oj a oi.dst v p1).symm
        have e := YieldsIf.one hS' hu' hyj
        subst e
        rw [Array.setIfInBounds_comm _ _ hji, ← Act.put_comm a v u p2]
        exact hk2
      · exact absurd (.inl hj') e

theorem wpT_of_lex (hz : ops.size = m + 1) (hs : Region.sinkB .any ops m = true) (hcb : Region.chainB .any ops m = true) (hx : LexOK ops) (hc : ChainOK ops) : ∀ (l : List Oper) (k : Nat) (listed : Array Bool) (a : Act) (w : World), HeadInv .any ops m listed → S w →
    (∀ j, j < l.length → l[j]? = ops[k + j]?) → k + l.length = m → (∀ i, i < k → listed.getD i false = true) → (∀ i, k ≤ i → i < ops.size → listed.getD i true = false) →
    wpHeld P ops S (fun _ a w => mOp P ops m (fun a w => Q .normal a w) a w) l a w → wpT P ops S m Q (l.length + 1) listed a w
  | [], k, listed, a, w, inv, _, _, hk, h1, h2, h => by
    obtain rfl : k = m := by simpa using hk
    obtain ⟨om, hom, hw, hh⟩ := h
    have hr : k ∈ Region.ready .any ops listed := mem_ready.2 ⟨h2 k (Nat.le_refl _) (by omega), om, hom, fun e he hb => h1 _ (hx.edge k om hom e he hb)⟩
    refine ⟨fun e => (by rw [e] at hr; cases hr), fun i hi => ?_⟩
    have hil := ready_lt hi
    have hik : k ≤ i := by
      rcases Nat.lt_or_ge i k with h' | h'
      · have h3 := h1 i h'
        rw [getD_both (mem_ready.1 hi).1] at h3
        cases h3
      · exact h'
    obtain rfl : i = k := by omega
    rw [tOp_eq]
    exact ⟨om, hom, hw, hOp_mono (fun v w' hq => ⟨none_left hz hs hcb inv hi, hq⟩) hh⟩
  | o :: l, k, listed, a, w, inv, hS, hl, hk, h1, h2, h => by
    have h0 : ops[k]? = some o := by simpa using (hl 0 (by simp)).symm
    have hlt : k < ops.size := (Array.getElem?_eq_some_iff.1 h0).1
    have hkm : k < m := by simp at hk; omega
    have hst : sOp P ops S k (wpHeld P ops S (fun _ a w => mOp P ops m (fun a w => Q .normal a w) a w) l) a w := by
      unfold sOp
      rw [h0]
      exact h
    have hun : ∀ j, listed.getD j true = false → k ≤ j := fun j hun => by
      rcases Nat.lt_or_ge j k with h' | h'
      · have h3 := h1 j h'
        rw [getD_both hun] at h3
        cases h3
      · exact h'
    have hr : k ∈ Region.ready .any ops listed := mem_ready.2 ⟨h2 k (Nat.le_refl _) hlt, o, h0, fun e he hb => h1 _ (hx.edge k o h0 e he hb)⟩
    refine wpT_first hz hs hcb hkm h0 (Region.noSelect_spec hx.sel) (l.length + 1) listed a w inv hS ?_ ?_ hr ?_
    · intro j oj hj hne hju hno
      refine hx.free k j o oj ?_ h0 hj hno
      have := hun j hju
      omega
    · intro hs' j oj hj hne hju hjs
      have := hun j hju
      obtain ⟨e, he, hb, hke, hej, hes⟩ := hc.chain k j o oj (by omega) h0 hj hs' hjs
      refine ⟨e, he, hb, ?_, hes⟩
      have hjlt : j < ops.size := (Array.getElem?_eq_some_iff.1 hj).1
      exact getD_both (h2 e.on hke (by omega))
    · refine sOp_mono hS (fun a' w' hS' h' => wpT_of_lex hz hs hcb hx hc l (k + 1) _ a' w' (inv.set hr hkm) hS' (fun j hj => by have := hl (j + 1) (by simp; omega); simpa [Nat.add_assoc, Nat.add_comm 1 j] using this) (by simp at hk; omega) ?_ ?_ h') hst
      · intro i hi
        by_cases e : i = k
        · subst e
          simp [inv.size, hlt]
        · exact getD_set_true (h1 i (by omega))
      · intro i hi hi'
        rw [getD_set_ne true (by omega)]
        exact h2 i (by omega) hi'

theorem wp_held_tail {id : Nat} {a : Act} {w : World} {l : List Oper} (n : Nat) (hm : P.follows .mixedOrders = true) (hx : LexOK l.toArray) (hc : ChainOK l.toArray) (hz : l.length = n + 1) (hs : Region.sinkB .any l.toArray n = true) (hcb : Region.chainB .any l.toArray n = true) (hS : S w.drew)
    (h : wpHeld P l.toArray S (fun _ a w => mOp P l.toArray n (fun a w => Q .normal a w) a w) (l.take n) a w.drew) : (Code.region id l.toArray true).wp P Q a w := by
  have inv0 : HeadInv .any l.toArray n (Array.replicate l.toArray.size false) :=
    ⟨by simp, fun j oj _ hl => (by rw [getD_replicate_false] at hl; cases hl), fun t _ ht => getD_in (by simpa using ht) (getD_replicate_false _ _)⟩
  have htl : (l.take n).length = n := by simp; omega
  refine wp_region_any hm (wpAny_of_wpT (S := S) (m := n) (by simpa using hz) hs hcb _ _ _ _ inv0 hS ?_)
  have := wpT_of_lex (P := P) (S := S) (Q := Q) (m := n) (ops := l.toArray) (by simpa using hz) hs hcb hx hc (l.take n) 0 (Array.replicate l.toArray.size false) a w.drew inv0 hS (fun j hj => by
    have hj' : j < n := by rw [htl] at hj; exact hj
    simp [hj']) (by simpa using htl) (by intro i hi; omega) (fun i _ hi => getD_in (by simpa using hi) (getD_replicate_false _ _)) h
  rw [htl] at this
  simpa [hz] using this
theorem wp_held_tailB (n B : Nat) {id : Nat} {a : Act} {w : World} {l : List Oper} (hm : P.follows .mixedOrders = true) (hx : LexOK l.toArray) (hc : ChainOK l.toArray) (hz : l.length = n + 1) (hs : Region.sinkB .any l.toArray n = true) (hcb : Region.chainB .any l.toArray n = true)
    (h : ∀ W, Below w.heap.size w W → (∃ x : LaterB B w, W = x.at) → wpHeld P l.toArray (fun w' => ∃ x : LaterB B w, w' = x.at) (fun _ a w => mOp P l.toArray n (fun a w => Q .normal a w) a w) (l.take n) a W) : (Code.region id l.toArray true).wp P Q a w :=
  wp_held_tail n hm hx hc hz hs hcb ⟨⟨w.drew, (Below.refl _ _).drew⟩, rfl⟩ (h w.drew (Below.refl _ _).drew ⟨⟨w.drew, (Below.refl _ _).drew⟩, rfl⟩)
/-- the last operation, a run that yields nothing -/
theorem mOp_run0 {o : Oper} {a : Act} {w : World} {K : Act → World → Prop} (w1 : World) (h0 : ops[m]? = some o) (hg : o.guard = none) (hr : (execOp a.eval o).run P w = .ok .skip w1) (h : K (a.put o.dst undef) w1) : mOp P ops m K a w := by
  refine ⟨o, h0, by unfold Region.wanted; rw [hg], ?_⟩
  unfold hOp
  rw [hr]
  exact h
end

end Go.Proofs.YtcaoajeplinopaaDoor

namespace Go.Proofs.YtcaoajeplinopaaDoor
set_option linter.unusedVariables false
set_option linter.unusedSimpArgs false
set_option maxRecDepth 8000
open Go.RowKit

/-- operations that make a variable or a slice -/
def makerOp (o : Oper) : Bool := match o.op with
  | .alloc _ => true
  | .buildSlice _ _ _ => true
  | .makeSlice _ _ _ => true
  | _ => false
section
variable {P : Program} {ops : Array Oper} {w0 : World} {Q : Exit → Act → World → Prop}

def SL (w0 : World) (w : World) : Prop := ∃ x : Later w0, w = x.at
theorem SL.ext {w W : World} (h : SL w0 w) (hb : Below w.heap.size w W) : SL w0 W := by
  obtain ⟨x, rfl⟩ := h
  exact ⟨⟨W, x.2.trans (hb.mono x.2.size)⟩, rfl⟩
theorem SL.below {w : World} (h : SL w0 w) : Below w0.heap.size w0 w := by
  obtain ⟨x, rfl⟩ := h
  exact x.2
theorem ext_trans {a b c : World} (h : Below a.heap.size a b) (k : Below b.heap.size b c) : Below a.heap.size a c := h.trans (k.mono h.size)

def Makes (P : Program) (_ops : Array Oper) (o : Oper) (z : Obj × (Nat → Value)) (a : Act) : Prop := ∀ w : World, (execOp a.eval o).run P w = .ok (.value (z.2 w.heap.size)) (w.alloc z.1)
theorem Makes.one {o : Oper} {z z' : Obj × (Nat → Value)} {a : Act} (w : World) (h : Makes P ops o z a) (k : Makes P ops o z' a) : z = z' := by
  have e1 : z.1 = z'.1 := by
    have e := (h w).symm.trans (k w)
    injection e with _ e
    have h1 := heap_new w z.1
    have hs : w.heap.size = w.heap.size := rfl
    rw [e, heap_new w z'.1] at h1
    injection h1 with h1
    exact h1.symm
  have e2 : z.2 = z'.2 := by
    funext b
    have e := (h { w with heap := Array.replicate b z.1 }).symm.trans (k { w with heap := Array.replicate b z.1 })
    injection e with e _
    injection e with e
    simpa using e
  exact Prod.ext e1 e2
theorem Makes.of_same {o : Oper} {z : Obj × (Nat → Value)} {a a' : Act} (h : Makes P ops o z a) (he : execOp a'.eval o = execOp a.eval o) : Makes P ops o z a' := by
  unfold Makes at *
  rw [he]
  exact h

def gOp (P : Program) (ops : Array Oper) (w0 : World) (i : Nat) (K : Act → World → Prop) (a : Act) (w : World) : Prop :=
  match ops[i]? with
  | none => K a w
  | some o => (quietNow ops o a ∧ ∃ v, YieldsIf P ops (SL w0) o v a ∧ K (a.put o.dst v) w)
    ∨ ((¬ quietNow ops o a ∧ makerOp o = true) ∧ ∃ z, Makes P ops o z a ∧ ∀ b W, Below w.heap.size w W → W.heap[b]? = some z.1 → w0.heap.size ≤ b → K (a.put o.dst (z.2 b)) W)
    ∨ ((¬ quietNow ops o a ∧ makerOp o = false) ∧ ∀ W, Below w.heap.size w W → hOp P o (fun v w' => (i + 1 < ops.size → Below W.heap.size W w') ∧ SL w0 w' ∧ K (a.put o.dst v) w') a W)
theorem gOp_out {i : Nat} {K : Act → World → Prop} {a : Act} {w : World} (hS : SL w0 w) (hh : gOp P ops w0 i K a w) : ∃ a' w', K a' w' := by
  unfold gOp at hh
  cases hi : ops[i]? with
  | none => rw [hi] at hh; exact ⟨_, _, hh⟩
  | some o =>
    rw [hi] at hh
    rcases hh with ⟨_, v, _, hk⟩ | ⟨_, z, _, hk⟩ | ⟨_, hk⟩
    · exact ⟨_, _, hk⟩
    · exact ⟨_, _, hk w.heap.size (w.alloc z.1) ((Below.refl _ _).alloc (Nat.le_refl _) _) (heap_new w z.1) hS.below.size⟩
    · obtain ⟨v, w', _, _, h3⟩ := hOp_out (hk w (Below.refl _ _))
      exact ⟨_, _, h3⟩
theorem wpOp_of_gOp {i : Nat} {K K' : Act → World → Prop} {a : Act} {w : World} (hS : SL w0 w) (h : ∀ a w, SL w0 w → K a w → K' a w) (hh : gOp P ops w0 i K a w) : wpOp P ops Q i K' a w := by
  unfold gOp at hh
  cases hi : ops[i]? with
  | none =>
    rw [hi] at hh
    unfold wpOp
    simp only [hi]
    exact h _ _ hS hh
  | some o =>
    rw [hi] at hh
    have hw : ¬ quietNow ops o a → Region.wanted o (yielded ops a.tmps) = true := fun hq => by
      cases e : Region.wanted o (yielded ops a.tmps) with
      | true => rfl
      | false => exact absurd (.inr e) hq
    rcases hh with ⟨_, v, hy, hk⟩ | ⟨hq, z, hz, hk⟩ | ⟨hq, hk⟩
    · exact hy.wpOp hi hS (h _ _ hS hk)
    · have hE : Below w.heap.size w (w.alloc z.1) := (Below.refl _ _).alloc (Nat.le_refl _) _
      unfold wpOp
      simp only [hi, hw hq.1, if_true]
      refine .inl ?_
      unfold Oper.wp
      rw [hz w]
      exact h _ _ (hS.ext hE) (hk w.heap.size (w.alloc z.1) hE (heap_new w z.1) hS.below.size)
    · have hh := hk w (Below.refl _ _)
      unfold wpOp
      simp only [hi, hw hq.1, if_true]
      refine .inl ?_
      unfold hOp at hh
      unfold Oper.wp
      generalize (execOp a.eval o).run P w = r at *
      cases r with
      | ok n w' =>
        cases n <;> simp only [heldUpon] at hh <;> simp only [Oper.upon]
        case value u => exact h _ _ hh.2.1 hh.2.2
        case skip => exact h _ _ hh.2.1 hh.2.2
        case enter f args => exact hh.mono fun e w'' ⟨v, he, _, h1, h2⟩ => by subst he; exact h _ _ h1 h2
      | halt x w' => exact hh.elim

/-- whatever order is picked, from every world in which more has been added -/
def wpG (P : Program) (ops : Array Oper) (w0 : World) (Q : Exit → Act → World → Prop) : Nat → Array Bool → Act → World → Prop
  | 0, listed, a, w => Region.ready .any ops listed = [] ∧ ∀ W, Below w.heap.size w W → Q .normal a W
  | n + 1, listed, a, w => (Region.ready .any ops listed = [] → ∀ W, Below w.heap.size w W → Q .normal a W) ∧ ∀ i, i ∈ Region.ready .any ops listed → gOp P ops w0 i (wpG P ops w0 Q n (listed.setIfInBounds i true)) a w
theorem wpAny_of_wpG : ∀ (n : Nat) (listed : Array Bool) (a : Act) (w : World), SL w0 w → wpG P ops w0 Q n listed a w → wpAny P .any ops Q n listed a w
  | 0, _, _, _, _, h => ⟨h.1, h.2 _ (Below.refl _ _)⟩
  | n + 1, _, _, _, hS, h => ⟨fun e => h.1 e _ (Below.refl _ _), fun i hi => wpOp_of_gOp hS (fun a' w' hS' h' => wpAny_of_wpG n _ a' w' hS' h') (h.2 i hi)⟩

/-- an operation that waits for i, by way of others too -/
inductive Waits (ops : Array Oper) (i : Nat) : Nat → Prop
  | on {j : Nat} {oj : Oper} (e : Edge) : ops[j]? = some oj → e ∈ oj.after → Region.binds .any e = true → e.on = i → Waits ops i j
  | step {j : Nat} {oj : Oper} (e : Edge) : ops[j]? = some oj → e ∈ oj.after → Region.binds .any e = true → Waits ops i e.on → Waits ops i j
theorem Waits.not_ready {i j : Nat} {oj : Oper} {listed : Array Bool} (hw : ∀ j, Waits ops i j → listed.getD j false = false) (h0 : listed.getD i false = false) (h : Waits ops i j) (hoj : ops[j]? = some oj)
    (hall : ∀ e ∈ oj.after, Region.binds .any e = true → listed.getD e.on false = true) : False := by
  cases h with
  | on e h1 he hb hon =>
    rw [hoj] at h1
    injection h1 with h1
    subst h1
    have := hall e he hb
    rw [hon, h0] at this
    cases this
  | step e h1 he hb hst =>
    rw [hoj] at h1
    injection h1 with h1
    subst h1
    have := hall e he hb
    rw [hw _ hst] at this
    cases this
/-- every later call waits for this operation -/
def ChainF (ops : Array Oper) (i : Nat) (listed : Array Bool) : Prop := (∀ j, Waits ops i j → listed.getD j false = false) ∧
  ∀ j oj, ops[j]? = some oj → j ≠ i → listed.getD j true = false → stillOp oj = false → makerOp oj = false → Waits ops i j

theorem hOp_unput {o : Oper} (hs : ∀ cs b, o.op ≠ .select cs b) {K : Value → World → Prop} {a : Act} {w : World} {d : Option Tmp} {u : Value} (h : ∀ t, d = some t → t ∉ o.looksAt ops) (hh : hOp P o K (a.put d u) w) : hOp P o K a w := by
  unfold hOp at *
  rw [execOp_put o hs a d u h] at hh
  exact hh

/-- the walk in the order of the text -/
def wpF (P : Program) (ops : Array Oper) (w0 : World) (Q : Exit → Act → World → Prop) : List Oper → Act → World → Prop
  | [], a, w => ∀ W, Below w.heap.size w W → Q .normal a W
  | o :: l, a, w => (quietNow ops o a ∧ ∃ v, YieldsIf P ops (SL w0) o v a ∧ wpF P ops w0 Q l (a.put o.dst v) w)
    ∨ ((¬ quietNow ops o a ∧ makerOp o = true) ∧ ∃ z, Makes P ops o z a ∧ ∀ b W, Below w.heap.size w W → W.heap[b]? = some z.1 → w0.heap.size ≤ b → wpF P ops w0 Q l (a.put o.dst (z.2 b)) W)
    ∨ ((¬ quietNow ops o a ∧ makerOp o = false) ∧ ∀ W, Below w.heap.size w W → hOp P o (fun v w' => (l ≠ [] → Below W.heap.size W w') ∧ SL w0 w' ∧ wpF P ops w0 Q l (a.put o.dst v) w') a W)

structure ChainOF (ops : Array Oper) : Prop where
  chain : ∀ (k j : Nat) (ok oj : Oper), k < j → ops[k]? = some ok → ops[j]? = some oj → stillOp ok = false → stillOp oj = false → makerOp oj = false → Waits ops k j
theorem Waits.lt (hx : LexOK ops) {i j : Nat} (h : Waits ops i j) : i < j ∧ j < ops.size := by
  induction h with
  | on e h1 he hb hon => exact ⟨by have := hx.edge _ _ h1 e he hb; omega, (Array.getElem?_eq_some_iff.1 h1).1⟩
  | step e h1 he hb _ ih => exact ⟨by have := hx.edge _ _ h1 e he hb; omega, (Array.getElem?_eq_some_iff.1 h1).1⟩

theorem wpF_nil {a : Act} {w : World} (h : ∀ W, Below w.heap.size w W → Q .normal a W) : wpF P ops w0 Q [] a w := h
theorem wpF_still : ∀ (l1 l2 : List Oper) {a : Act} {w : World}, l1.all stillOp = true → wpQuiet P ops (fun w' => ∃ x : Later w0, w' = x.at) (fun a' => wpF P ops w0 Q l2 a' w) l1 a → wpF P ops w0 Q (l1 ++ l2) a w
  | [], _, _, _, _, h => h
  | o :: l1, l2, a, w, hs, h => by
    rw [List.all_cons, Bool.and_eq_true] at hs
    refine .inl ⟨.inl hs.1, ?_⟩
    unfold wpQuiet at h
    by_cases hw : Region.wanted o (yielded ops a.tmps) = true
    · rw [if_pos hw] at h
      obtain ⟨v, hv, hn⟩ := h
      refine ⟨v, .inl ⟨hw, fun w' hS' => ?_⟩, wpF_still l1 l2 hs.2 hn⟩
      have h1 := hv w' hS'
      unfold Oper.quietAt at h1
      cases hr : (execOp a.eval o).run P w' with
      | ok n w2 =>
        obtain ⟨x, rfl⟩ := still_value hs.1 hr
        rw [hr] at h1
        obtain ⟨e1, e2⟩ := h1
        rw [e1, e2]
      | halt x w2 => rw [hr] at h1; exact h1.elim
    · rw [if_neg hw] at h
      exact ⟨undef, .inr ⟨by simpa using hw, rfl⟩, wpF_still l1 l2 hs.2 h⟩
theorem wpF_seg (n : Nat) {l : List Oper} {a : Act} {w : World} (hs : (l.take n).all stillOp = true) (h : wpQuiet P ops (fun w' => ∃ x : Later w0, w' = x.at) (fun a' => wpF P ops w0 Q (l.drop n) a' w) (l.take n) a) : wpF P ops w0 Q l a w := by
  have := wpF_still (Q := Q) (l.take n) (l.drop n) hs h
  rwa [List.take_append_drop] at this
theorem not_quiet {o : Oper} {a : Act} (hs : stillOp o = false) (hw : Region.wanted o (yielded ops a.tmps) = true) : ¬ quietNow ops o a := by
  rintro (h1 | h1)
  · rw [hs] at h1; cases h1
  · rw [hw] at h1; cases h1
theorem wpF_call {o : Oper} {l : List Oper} {a : Act} {w : World} {fn : Func} (f : FuncId) (hf : P.funcs[f]? = some fn) (hname : (fn.name == "runtime.NumGoroutine") = false) (hb : fn.body.isNone = false) (args : Array Operand) (ts : Array TypeId) (vs : Array Value) (ho : o.op = .call { callee := .value (.func f), args := args, argTypes := ts })
    (hw : Region.wanted o (yielded ops a.tmps) = true) (hv : args.map a.eval = vs) (hS : SL w0 w) (h : ∀ W, Below w.heap.size w W → Calls P f vs W fun e w' => ∃ v, e = .returned v ∧ Below W.heap.size W w' ∧ wpF P ops w0 Q l (a.put o.dst v) w') : wpF P ops w0 Q (o :: l) a w := by
  have hs : stillOp o = false := by unfold stillOp; simp only [ho]
  have hmk : makerOp o = false := by unfold makerOp; simp only [ho]
  refine .inr (.inr ⟨⟨not_quiet hs hw, hmk⟩, fun W hW => ?_⟩)
  unfold hOp execOp
  simp only [ho]
  have e : (do let d ← resolve a.eval { callee := .value (.func f), args := args, argTypes := ts } o.type; invoke d.target d.args : Sem Next).run P W = .ok (.enter f vs) W := by
    subst hv
    have h1 : fn.name ≠ "runtime.NumGoroutine" := by simpa using hname
    have h2 : fn.body ≠ none := by
      intro e
      rw [e] at hb
      cases hb
    simp [resolve, Deferred.ofValue, invoke, go_sem, Act.eval, callFunc, hf, h1, h2]
  rw [e]
  exact (h W hW).mono fun _ _ ⟨v, h1, h2, h3⟩ => ⟨v, h1, fun _ => h2, hS.ext (ext_trans hW h2), h3⟩
theorem wpF_make {o : Oper} {l : List Oper} {a : Act} {w : World} (z : Obj × (Nat → Value)) (hs : stillOp o = false) (hk : makerOp o = true) (hw : Region.wanted o (yielded ops a.tmps) = true) (hz : Makes P ops o z a)
    (h : ∀ b W, Below w.heap.size w W → W.heap[b]? = some z.1 → w0.heap.size ≤ b → wpF P ops w0 Q l (a.put o.dst (z.2 b)) W) : wpF P ops w0 Q (o :: l) a w :=
  .inr (.inl ⟨⟨not_quiet hs hw, hk⟩, z, hz, h⟩)
/-- the last operation, a store -/
theorem wpF_last {o : Oper} {a : Act} {w : World} (g : World → World) (hs : stillOp o = false) (hk : makerOp o = false) (hw : Region.wanted o (yielded ops a.tmps) = true) (hr : ∀ W, Below w.heap.size w W → (execOp a.eval o).run P W = .ok .skip (g W)) (hS : ∀ W, Below w.heap.size w W → SL w0 (g W))
    (h : ∀ W, Below w.heap.size w W → ∀ X, Below (g W).heap.size (g W) X → Q .normal (a.put o.dst undef) X) : wpF P ops w0 Q [o] a w := by
  refine .inr (.inr ⟨⟨not_quiet hs hw, hk⟩, fun W hW => ?_⟩)
  unfold hOp
  rw [hr W hW]
  exact ⟨fun e => absurd rfl e, hS W hW, h W hW⟩
end

def bitOf (m p : Nat) : Bool := Nat.beq (Nat.mod (Nat.shiftRight m p) 2) 1
/-- the operations that one waits for, by way of those before it (ms: theirs) -/
def waitM (ms : List Nat) : List Edge → Nat
  | [] => 0
  | e :: l => bif Region.binds .any e then Nat.lor (Nat.lor (Nat.shiftLeft 1 e.on) (ms.getD e.on 0)) (waitM ms l) else waitM ms l
theorem bitOf_eq (m p : Nat) : bitOf m p = m.testBit p := by
  unfold bitOf
  rw [Nat.testBit_eq_decide_div_mod_eq]
  have : Nat.mod (Nat.shiftRight m p) 2 = m / 2 ^ p % 2 := by rw [← Nat.shiftRight_eq_div_pow]; rfl
  rw [this]
  by_cases h : m / 2 ^ p % 2 = 1
  · rw [h]; rfl
  · rw [decide_eq_false h]
    exact Bool.eq_false_iff.2 fun h' => h (Nat.eq_of_beq_eq_true h')
theorem waitM_spec {ms : List Nat} : ∀ (es : List Edge) (p : Nat), (waitM ms es).testBit p = true → ∃ e, e ∈ es ∧ Region.binds .any e = true ∧ (e.on = p ∨ (ms.getD e.on 0).testBit p = true)
  | [], p, h => by simp [waitM] at h
  | e :: l, p, h => by
    unfold waitM at h
    cases hb : Region.binds .any e with
    | false =>
      rw [hb] at h
      obtain ⟨e', h1, h2⟩ := waitM_spec l p h
      exact ⟨e', List.mem_cons_of_mem _ h1, h2⟩
    | true =>
      rw [hb] at h
      have h' : ((1 <<< e.on ||| ms.getD e.on 0) ||| waitM ms l).testBit p = true := h
      rw [Nat.testBit_or, Nat.testBit_or, Bool.or_eq_true, Bool.or_eq_true] at h'
      rcases h' with (h' | h') | h'
      · refine ⟨e, by simp, hb, .inl ?_⟩
        rw [Nat.one_shiftLeft, Nat.testBit_two_pow] at h'
        exact of_decide_eq_true h'
      · exact ⟨e, by simp, hb, .inr h'⟩
      · obtain ⟨e', h1, h2⟩ := waitM_spec l p h'
        exact ⟨e', List.mem_cons_of_mem _ h1, h2⟩
end Go.Proofs.YtcaoajeplinopaaDoor

namespace Go.Proofs.YtcaoajeplinopaaDoor
set_option linter.unusedVariables false
set_option linter.unusedSimpArgs false
set_option maxRecDepth 8000
open Go.RowKit

section
variable {P : Program} {ops : Array Oper} {rest : List Oper} {o : Oper} {a : Act}
theorem wpList_val {Q : Exit → Act → World → Prop} {w : World} (hgd : o.guard = none) (v : Value) (w' : World) (hr : (execOp a.eval o).run P w = .ok (.value v) w') (h : wpList P ops Q rest (a.put o.dst v) w') : wpList P ops Q (o :: rest) a w :=
  wpList_plain hgd fun _ hK => by
    unfold Oper.wp
    rw [hr]
    exact hK _ _ h
theorem wpList_skip0 {Q : Exit → Act → World → Prop} {w : World} (hgd : o.guard = none) (w' : World) (hr : (execOp a.eval o).run P w = .ok .skip w') (h : wpList P ops Q rest (a.put o.dst undef) w') : wpList P ops Q (o :: rest) a w :=
  wpList_plain hgd fun _ hK => by
    unfold Oper.wp
    rw [hr]
    exact hK _ _ h
theorem wpQuiet_val {C : World → Prop} {Q : Act → Prop} (hw : Region.wanted o (yielded ops a.tmps) = true) (v : Value) (hr : ∀ w, C w → (execOp a.eval o).run P w = .ok (.value v) w) (h : wpQuiet P ops C Q rest (a.put o.dst v)) : wpQuiet P ops C Q (o :: rest) a :=
  BigFrame.wpQuiet_want hw fun _ hK => ⟨v, fun w hC => by unfold Oper.quietAt; rw [hr w hC]; exact ⟨rfl, rfl⟩, hK _ h⟩
end
section
variable {P : Program} {ev : Operand → Value} {o : Oper} {w : World}
theorem exec_loadRow {ty t n e : TypeId} {x : Operand} (g : Nat) (cs : Array Value) (ho : o.op = .load ty x) (hx : ev x = .pointer (some ⟨g, 0, none⟩)) (hc : w.heap[g]? = some (.cells cs t (0, 0))) (hu : P.underlying ty = some (.array n e)) (hi : (P.info? ty).map (·.size) = some cs.size) :
    (execOp ev o).run P w = .ok (.value (.agg cs)) w := by
  unfold execOp
  simp only [ho, hx, Instr.loadAt, Instr.sureAddr, Sem.run_bind, Sem.run_pure, Result.andThen_ok]
  rw [run_loadVar_row w g t ty cs (0, 0) _ hc hu rfl hi]
  rfl
theorem exec_storeRow {ty t : TypeId} {x y : Operand} (g : Nat) (old cs : Array Value) (ho : o.op = .store ty x y) (hx : ev x = .pointer (some ⟨g, 0, none⟩)) (hy : ev y = .agg cs) (hc : w.heap[g]? = some (.cells old t (0, 0))) (hi : (P.info? ty).map (·.size) = some cs.size) (hl : old.size = cs.size) (h1 : cs.all (·.oneCell') = true) :
    (execOp ev o).run P w = .ok .skip (w.setRow g cs) := by
  unfold execOp
  simp only [ho, hx, hy, Instr.storeAt, Instr.sureAddr, Sem.run_bind, Sem.run_pure, Result.andThen_ok]
  rw [run_storeVar_row w g t ty old cs hc hi hl h1]
  rfl
end
theorem dig_size {bs : List Nat} (h : bs.length = 32) : (Tryd.prog.info? 30).map (·.size) = some (celB bs).toArray.size := by rw [List.size_toArray, celB_length, h]; kernel_rfl
theorem exec_loadD {ev : Operand → Value} {o : Oper} {w : World} {x : Operand} {g t : Nat} {bs : List Nat} (hl : bs.length = 32) (h : RowB w t g bs) (ho : o.op = .load 30 x) (hx : ev x = .pointer (some ⟨g, 0, none⟩)) :
    (execOp ev o).run Tryd.prog w = .ok (.value (.agg (celB bs).toArray)) w := exec_loadRow g _ ho hx h Tryd.underlying30 (dig_size hl)
theorem exec_storeD {ev : Operand → Value} {o : Oper} {w : World} {x y : Operand} {g t : Nat} {old bs : List Nat} (hl : bs.length = 32) (hol : old.length = 32) (h : RowB w t g old) (ho : o.op = .store 30 x y) (hx : ev x = .pointer (some ⟨g, 0, none⟩)) (hy : ev y = .agg (celB bs).toArray) :
    (execOp ev o).run Tryd.prog w = .ok .skip (w.setRow g (celB bs).toArray) := exec_storeRow g _ _ ho hx hy h (dig_size hl) (by simp [celB_length, hl, hol]) celB_one

structure Pb (w : World) (A : Option Addr) (n c : Nat) (Ps : List (List Nat)) : Prop where
  len : n = Ps.length
  cap : n ≤ c
  top : c ≤ 9223372036854775807
  nil : A = none → c = 0
  cells : ∀ (i : Nat) (p : List Nat), Ps[i]? = some p → ∃ ad B m d, A = some ad ∧ w.cell? (ad.add i) = some (.slice B m d) ∧ Sb w B m d p
theorem Pb.keep {w w' : World} {A : Option Addr} {n c : Nat} {Ps : List (List Nat)} (h : Pb w A n c Ps) (hb : Below w.heap.size w w') : Pb w' A n c Ps :=
  ⟨h.len, h.cap, h.top, h.nil, fun i p hp => by obtain ⟨ad, B, m, d, e, hc, hs⟩ := h.cells i p hp; exact ⟨ad, B, m, d, e, cell_keep hc hb, hs.keep hb⟩⟩
theorem Pb.row {w : World} {t g : Nat} {vs : List Value} {Ps : List (List Nat)} {n c : Nat} (hg : w.heap[g]? = some (.cells vs.toArray t (0, 0))) (hn : n = Ps.length) (hc : n ≤ c) (ht : c ≤ 9223372036854775807)
    (hv : ∀ (i : Nat) (p : List Nat), Ps[i]? = some p → ∃ B m d, vs[i]? = some (.slice B m d) ∧ Sb w B m d p) : Pb w (some ⟨g, 0, none⟩) n c Ps :=
  ⟨hn, hc, ht, (fun e => by cases e), fun i p hp => by
    obtain ⟨B, m, d, h1, h2⟩ := hv i p hp
    refine ⟨_, B, m, d, rfl, ?_, h2⟩
    rw [ad_base]
    simp [World.cell?, hg, h1]⟩
/-- the lengths' sum -/
def sumL (Ps : List (List Nat)) : Nat := Ps.flatten.length
theorem sumL_take {Ps : List (List Nat)} {i : Nat} {p : List Nat} (h : Ps[i]? = some p) : sumL (Ps.take (i + 1)) = sumL (Ps.take i) + p.length := by
  obtain ⟨h1, e1⟩ := List.getElem?_eq_some_iff.1 h
  unfold sumL
  rw [List.take_succ_eq_append_getElem h1, e1]
  simp
theorem sumL_le (Ps : List (List Nat)) (i : Nat) : sumL (Ps.take i) ≤ sumL Ps := by
  unfold sumL
  conv => rhs; rw [← List.take_append_drop i Ps]
  rw [List.flatten_append, List.length_append]
  omega
theorem sl_info : (Tryd.prog.info? 22).map (fun i => (i.zero, i.size, i.bytes)) = some (some (.slice none 0 0), 1, 24) := by kernel_rfl
theorem run_buildP1 {ev : Operand → Value} {o : Oper} {x : Operand} (A : Option Addr) (n c : Nat) (ho : o.op = .buildSlice 89 1 #[(0, x)]) (hx : ev x = .slice A n c) (w : World) :
    (execOp ev o).run Tryd.prog w = .ok (.value (.slice (some ⟨w.heap.size, 0, none⟩) 1 1)) (w.alloc (.cells #[.slice A n c] 22)) := by
  unfold execOp
  rw [ho]
  simp only [List.map_toArray, List.map_cons, List.map_nil, hx]
  go_simp
theorem run_buildP2 {ev : Operand → Value} {o : Oper} {x y : Operand} (A : Option Addr) (n c : Nat) (B : Option Addr) (m d : Nat) (ho : o.op = .buildSlice 89 2 #[(0, x), (1, y)]) (hx : ev x = .slice A n c) (hy : ev y = .slice B m d) (w : World) :
    (execOp ev o).run Tryd.prog w = .ok (.value (.slice (some ⟨w.heap.size, 0, none⟩) 2 2)) (w.alloc (.cells #[.slice A n c, .slice B m d] 22)) := by
  unfold execOp
  rw [ho]
  simp only [List.map_toArray, List.map_cons, List.map_nil, hx, hy]
  go_simp
theorem run_buildP3 {ev : Operand → Value} {o : Oper} {x y z : Operand} (A : Option Addr) (n c : Nat) (B : Option Addr) (m d : Nat) (C : Option Addr) (k f : Nat) (ho : o.op = .buildSlice 89 3 #[(0, x), (1, y), (2, z)]) (hx : ev x = .slice A n c) (hy : ev y = .slice B m d) (hz : ev z = .slice C k f) (w : World) :
    (execOp ev o).run Tryd.prog w = .ok (.value (.slice (some ⟨w.heap.size, 0, none⟩) 3 3)) (w.alloc (.cells #[.slice A n c, .slice B m d, .slice C k f] 22)) := by
  unfold execOp
  rw [ho]
  simp only [List.map_toArray, List.map_cons, List.map_nil, hx, hy, hz]
  go_simp
/-- append(s[:n:n], t): a new row -/
theorem run_appendP {w : World} {ty : TypeId} {A : Option Addr} {n : Nat} {Ps : List (List Nat)} (h : Pb w A n n Ps) (g : Nat) (B : Option Addr) (m d : Nat) (q : List Nat) (hg : One w g 22 (.slice B m d)) (hs : Sb w B m d q) (hn : n ≤ 1000) :
    ∃ c w', (Builtin.append_ #[89, 89] ty #[.slice A n n, .slice (some ⟨g, 0, none⟩) 1 1]).run Tryd.prog w = .ok (.slice (some ⟨w.heap.size, 0, none⟩) (n + 1) c) w' ∧ Below w.heap.size w w' ∧ w.heap.size < w'.heap.size ∧ Pb w' (some ⟨w.heap.size, 0, none⟩) (n + 1) c (Ps ++ [q]) := by
  obtain ⟨i, hi, hz, hs2, hb⟩ := info_parts sl_info
  obtain ⟨olds, ho1, ho2, ho3⟩ : ∃ olds : List Value, olds.length = n ∧ (∀ (j : Nat) (p : List Nat), Ps[j]? = some p → ∃ B m d, olds[j]? = some (Value.slice B m d) ∧ Sb w B m d p) ∧ (Builtin.firstCells i.size n (Value.slice A n n)).run Tryd.prog w.drew = .ok olds.toArray w.drew := by
    cases A with
    | none =>
      have h0 := h.nil rfl
      subst h0
      have : Ps = [] := List.eq_nil_of_length_eq_zero h.len.symm
      subst this
      exact ⟨[], rfl, (by intro j p hp; simp at hp), run_firstCells_none w.drew _ 0 0 0⟩
    | some ad =>
      have hex : ∀ j, j < n → ∃ v : Value, w.cell? (ad.add j) = some v ∧ ∀ p, Ps[j]? = some p → ∃ B m d, v = Value.slice B m d ∧ Sb w B m d p := fun j hj => by
        obtain ⟨p, hp⟩ : ∃ p, Ps[j]? = some p := ⟨Ps[j]'(by have := h.len; omega), List.getElem?_eq_getElem _⟩
        obtain ⟨ad', B', m', d', e, hc, hss⟩ := h.cells j p hp
        injection e with e
        subst e
        refine ⟨_, hc, fun p' hp' => ?_⟩
        rw [hp] at hp'
        injection hp' with hp'
        subst hp'
        exact ⟨B', m', d', rfl, hss⟩
      have hch : ∀ N, N ≤ n → ∃ l : List Value, l.length = N ∧ ∀ j, j < N → ∃ v : Value, l[j]? = some v ∧ w.cell? (ad.add j) = some v ∧ ∀ p, Ps[j]? = some p → ∃ B m d, v = Value.slice B m d ∧ Sb w B m d p := by
        intro N
        induction N with
        | zero => exact fun _ => ⟨[], rfl, fun j hj => absurd hj (Nat.not_lt_zero _)⟩
        | succ N ih =>
          intro hN
          obtain ⟨l, hl, hall⟩ := ih (by omega)
          obtain ⟨v, hv1, hv2⟩ := hex N (by omega)
          refine ⟨l ++ [v], by simp [hl], fun j hj => ?_⟩
          by_cases e : j = N
          · subst e
            exact ⟨v, by rw [List.getElem?_append_right (by omega)]; simp [hl], hv1, hv2⟩
          · obtain ⟨u, h1, h2⟩ := hall j (by omega)
            exact ⟨u, by rw [List.getElem?_append_left (by omega)]; exact h1, h2⟩
      obtain ⟨l, hl, hall⟩ := hch n (Nat.le_refl _)
      refine ⟨l, hl, fun j p hp => ?_, run_firstCells_some w.drew i.size n ad n n l (by rw [hl, hs2, Nat.mul_one]) fun j u hu => ?_⟩
      · have hj : j < n := by have := (List.getElem?_eq_some_iff.1 hp).1; have := h.len; omega
        obtain ⟨v, h1, _, h3⟩ := hall j hj
        obtain ⟨B', m', d', rfl, h4⟩ := h3 p hp
        exact ⟨B', m', d', h1, h4⟩
      · have hj : j < n := by have := (List.getElem?_eq_some_iff.1 hu).1; omega
        obtain ⟨v, h1, h2, _⟩ := hall j hj
        rw [h1] at hu
        injection hu with hu
        subst hu
        exact h2
  have hsrc : Src Tryd.prog i.size 89 (.slice (some ⟨g, 0, none⟩) 1 1) 1 [.slice B m d] w := Src.ofSlice w Tryd.underlying89 ⟨g, 0, none⟩ 1 1 [.slice B m d] (by rw [hs2]; rfl) (fun j u hu => by
      rw [ad_base]
      match j, hu with
      | 0, hu => injection hu with hu; subst hu; exact hg.c
      | j + 1, hu => simp at hu) (fun u hu => by simp at hu; subst hu; rfl)
  have hr := run_append_grow_src (P := Tryd.prog) w 89 89 ty 22 i (.slice none 0 0) Tryd.underlying89 hi hz A n n olds ho3 (.slice (some ⟨g, 0, none⟩) 1 1) 1 [.slice B m d] hsrc (by omega) (by omega)
    (by rw [hb]; exact growslice_fits (by omega) (by omega))
  have hgc := grownCap_ge w (n + 1) n 22
  have hgm := grownCap_le_maxLen w (n + 1) n 22 (by unfold maxLen; omega)
  unfold maxLen at hgm
  have hbel : Below w.heap.size w (w.drew.alloc (.cells ((olds ++ [Value.slice B m d]).toArray ++ Builtin.zeroCells (Value.slice none 0 0).cells (grownCap w (n + 1) n 22 - (n + 1))) 22)) := (Below.refl _ _).drew.alloc (Nat.le_refl _) _
  refine ⟨_, _, hr, hbel, by simp, ?_⟩
  obtain ⟨zs, hzs⟩ : ∃ zs : List Value, Builtin.zeroCells (Value.slice none 0 0).cells (grownCap w (n + 1) n 22 - (n + 1)) = zs.toArray := ⟨_, (Array.toArray_toList).symm⟩
  rw [hzs] at hbel ⊢
  rw [List.append_toArray] at hbel ⊢
  refine Pb.row (heap_new w.drew _) (by rw [List.length_append, ← h.len]; rfl) hgc (by omega) fun j p hp => ?_
  by_cases hj : j < n
  · rw [List.getElem?_append_left (by rw [← h.len]; exact hj)] at hp
    obtain ⟨B', m', d', h1, h2⟩ := ho2 j p hp
    exact ⟨B', m', d', by rw [List.append_assoc, List.getElem?_append_left (by omega)]; exact h1, h2.keep hbel⟩
  · have hlt := (List.getElem?_eq_some_iff.1 hp).1
    have hj2 : j = n := by rw [List.length_append, ← h.len] at hlt; simp at hlt; omega
    subst hj2
    rw [List.getElem?_append_right (by rw [← h.len]; exact Nat.le_refl _), ← h.len, Nat.sub_self] at hp
    simp at hp
    subst hp
    exact ⟨B, m, d, by rw [List.append_assoc, List.getElem?_append_right (by omega)]; simp [ho1], hs.keep hbel⟩
theorem hOp_appendP {o : Oper} {a : Act} {w : World} {K : Value → World → Prop} (s x : Operand)
    (ho : o.op = .call { callee := .builtin .append, args := #[s, x], argTypes := #[89, 89] }) {A : Option Addr} {n : Nat} {Ps : List (List Nat)} (h : Pb w A n n Ps) (g : Nat) (B : Option Addr) (m d : Nat) (q : List Nat) (hs : a.eval s = .slice A n n) (hx : a.eval x = .slice (some ⟨g, 0, none⟩) 1 1) (hg : One w g 22 (.slice B m d)) (hq : Sb w B m d q) (hn : n ≤ 1000)
    (hK : ∀ c w', Below w.heap.size w w' → Pb w' (some ⟨w.heap.size, 0, none⟩) (n + 1) c (Ps ++ [q]) → K (.slice (some ⟨w.heap.size, 0, none⟩) (n + 1) c) w') : hOp Tryd.prog o K a w := by
  obtain ⟨c, w', hrun, hb, _, hp⟩ := run_appendP (ty := o.type) h g B m d q hg hq hn
  unfold hOp execOp
  simp only [ho, resolve, invoke, builtin, Sem.run_bind, Sem.run_pure, Result.andThen_ok, List.map_toArray, List.map_cons, List.map_nil, hs, hx, hrun]
  exact hK c w' hb hp
end Go.Proofs.YtcaoajeplinopaaDoor

