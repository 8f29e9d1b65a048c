/- Several texts in one: Held4, Shy, Shz, Shf0. -/
import Derived.Test.YtgkojdbepgonkaaDoorH01
import Derived.OrdersHeld
import Derived.Test.YtgkojdbepgonkaaDoorH11
import Derived.Lib.SlBytesConst
import Derived.Test.YtgkojdbepgonkaaDoorRows
import Derived.Test.YtgkojdbepgonkaaDoorTie
import Derived.ProofKit
import Derived.OpenShut
import Derived.ChangeOld
import Derived.ChangeSlices
import Derived.Below
import Derived.Lib.SmallJoins
import Derived.Lib.LaidTab
import Derived.LaidMore
import Derived.Stop.Joined
import Derived.Stop.BytesEq
/- A statement whose order is open and that holds calls whose results lie at unknown places: one walk in the order of the text serves every order, where what only looks yields one value in every world of a class, and what calls leaves a world of the class. No program, no conditions. -/
namespace Go.Proofs.YtgkojdbepgonkaaDoor.H4
set_option maxRecDepth 8000
set_option linter.unusedVariables false
set_option linter.unusedSimpArgs false
open Go.RowKit Go.Proofs.YtgkojdbepgonkaaDoor

/-- operations that only look -/
def stillOp (o : Oper) : Bool := match o.op with
  | .move _ => true
  | .assign _ => true
  | .pick _ _ _ => true
  | .load _ _ => true
  | .binOp _ _ _ _ _ => true
  | .unOp _ _ _ => true
  | .convert _ _ _ => true
  | .extract _ _ => true
  | .field _ _ _ => true
  | .indexAddr _ _ _ => true
  | .fieldAddr _ _ _ => true
  | .build _ _ => true
  | .slice _ _ _ _ _ => true
  | .index _ _ _ => true
  | .call c => match c.callee with
    | .builtin .len => true
    | .builtin .min => true
    | .builtin .max => true
    | _ => false
  | _ => false

theorem andThen_value {P : Program} {α : Type} {s : Sem α} {g : α → Value} {w w' : World} {n : Next} (h : (do let x ← s; pure (Next.value (g x)) : Sem Next).run P w = .ok n w') : ∃ x, n = .value x := by
  rw [Sem.run_bind] at h
  cases hs : s.run P w with
  | ok x w1 =>
    rw [hs, Result.andThen_ok, Sem.run_pure] at h
    injection h with h _
    exact ⟨_, h.symm⟩
  | halt x w1 => rw [hs] at h; cases h
theorem still_value {P : Program} {o : Oper} (h : stillOp o = true) {ev : Operand → Value} {w w' : World} {n : Next} (hr : (execOp ev o).run P w = .ok n w') : ∃ x, n = .value x := by
  unfold stillOp at h
  unfold execOp at hr
  cases ho : o.op with
  | call c =>
    simp only [ho] at h hr
    obtain ⟨callee, args, argTypes⟩ := c
    cases callee with
    | builtin b =>
      cases b <;> first | (cases h; done) | (simp only [resolve, Sem.run_bind, Sem.run_pure, Result.andThen_ok, invoke, builtin] at hr; exact andThen_value (g := fun x => x) (by simpa only [Sem.run_bind, Sem.run_pure] using hr))
    | _ => cases h
  | _ => simp only [ho] at h hr <;> first | (exact absurd h (by decide)) | exact andThen_value (g := fun x => x) hr | exact andThen_value hr | (rw [Sem.run_pure] at hr; injection hr with hr _; exact ⟨_, hr.symm⟩)

section
variable {P : Program} {ops : Array Oper} {S : World → Prop} {Q : Exit → Act → World → Prop}

/-- what an operation that is carried out may leave: its value and the world -/
def heldUpon (P : Program) (K : Value → World → Prop) : Result Next → Prop
  | .ok (.value u) w' => K u w'
  | .ok .skip w' => K undef w'
  | .ok (.enter f args) w' => Calls P f args w' (fun e w'' => ∃ v, e = .returned v ∧ K v w'')
  | _ => False
def hOp (P : Program) (o : Oper) (K : Value → World → Prop) (a : Act) (w : World) : Prop := heldUpon P K ((execOp a.eval o).run P w)
theorem hOp_mono {o : Oper} {K K' : Value → World → Prop} {a : Act} {w : World} (h : ∀ v w', K v w' → K' v w') (hh : hOp P o K a w) : hOp P o K' a w := by
  unfold hOp at *
  generalize (execOp a.eval o).run P w = r at *
  cases r with
  | ok n w' =>
    cases n <;> simp only [heldUpon] at hh ⊢ <;> first | exact h _ _ hh | exact hh.mono fun _ _ ⟨v, he, hk⟩ => ⟨v, he, h _ _ hk⟩
  | halt x w' => exact hh
theorem hOp_out {o : Oper} {K : Value → World → Prop} {a : Act} {w : World} (hh : hOp P o K a w) : ∃ v w', K v w' := by
  unfold hOp at hh
  generalize (execOp a.eval o).run P w = r at hh
  cases r with
  | ok n w' =>
    cases n <;> simp only [heldUpon] at hh
    case value u => exact ⟨_, _, hh⟩
    case skip => exact ⟨_, _, hh⟩
    case enter f args =>
      obtain ⟨e, w1, fr, ⟨v, _, hk⟩, _⟩ := hh []
      exact ⟨v, w1, hk⟩
  | halt x w' => exact hh.elim
theorem hOp_put {o : Oper} (hs : ∀ cs b, o.op ≠ .select cs b) {K : Value → World → Prop} {a : Act} {w : World} {d : Option Tmp} {u : Value} (h : ∀ t, d = some t → t ∉ o.looksAt ops) (hh : hOp P o K a w) : hOp P o K (a.put d u) w := by
  unfold hOp at *
  rw [execOp_put o hs a d u h]
  exact hh

def quietNow (ops : Array Oper) (o : Oper) (a : Act) : Prop := stillOp o = true ∨ Region.wanted o (yielded ops a.tmps) = false
def sOp (P : Program) (ops : Array Oper) (S : World → Prop) (i : Nat) (K : Act → World → Prop) (a : Act) (w : World) : Prop :=
  match ops[i]? with
  | none => K a w
  | some o => (quietNow ops o a ∧ ∃ v, YieldsIf P ops S o v a ∧ K (a.put o.dst v) w) ∨ (¬ quietNow ops o a ∧ hOp P o (fun v w' => S w' ∧ K (a.put o.dst v) w') a w)
theorem sOp_mono {i : Nat} {K K' : Act → World → Prop} {a : Act} {w : World} (hS : S w) (h : ∀ a w, S w → K a w → K' a w) (hh : sOp P ops S i K a w) : sOp P ops S i K' a w := by
  unfold sOp at *
  cases hi : ops[i]? with
  | none => rw [hi] at hh; exact h _ _ hS hh
  | some o =>
    rw [hi] at hh
    rcases hh with ⟨hq, v, hy, hk⟩ | ⟨hq, hh⟩
    · exact .inl ⟨hq, v, hy, h _ _ hS hk⟩
    · exact .inr ⟨hq, hOp_mono (fun _ _ ⟨h1, h2⟩ => ⟨h1, h _ _ h1 h2⟩) hh⟩
theorem sOp_out {i : Nat} {K : Act → World → Prop} {a : Act} {w : World} (hS : S w) (hh : sOp P ops S i K a w) : ∃ a' w', S w' ∧ K a' w' := by
  unfold sOp at hh
  cases hi : ops[i]? with
  | none => rw [hi] at hh; exact ⟨_, _, hS, hh⟩
  | some o =>
    rw [hi] at hh
    rcases hh with ⟨_, v, _, hk⟩ | ⟨_, hh⟩
    · exact ⟨_, _, hS, hk⟩
    · obtain ⟨v, w', h1, h2⟩ := hOp_out hh
      exact ⟨_, _, h1, h2⟩
theorem quietNow_put {o : Oper} {a : Act} {d : Option Tmp} {u : Value} (h : ∀ t, d = some t → t ∉ o.looksAt ops) : quietNow ops o (a.put d u) ↔ quietNow ops o a := by
  unfold quietNow
  rw [wanted_put o a d u h]
theorem wpOp_of_sOp {i : Nat} {K K' : Act → World → Prop} {a : Act} {w : World} (hS : S w) (h : ∀ a w, S w → K a w → K' a w) (hh : sOp P ops S i K a w) : wpOp P ops Q i K' a w := by
  unfold sOp at hh
  cases hi : ops[i]? with
  | none =>
    rw [hi] at hh
    unfold wpOp
    simp only [hi]
    exact h _ _ hS hh
  | some o =>
    rw [hi] at hh
    rcases hh with ⟨_, v, hy, hk⟩ | ⟨hq, hh⟩
    · exact hy.wpOp hi hS (h _ _ hS hk)
    · have hw : Region.wanted o (yielded ops a.tmps) = true := by
        cases e : Region.wanted o (yielded ops a.tmps) with
        | true => rfl
        | false => exact absurd (.inr e) hq
      unfold wpOp
      simp only [hi, hw, if_true]
      refine .inl ?_
      unfold hOp at hh
      unfold Oper.wp
      generalize (execOp a.eval o).run P w = r at *
      cases r with
      | ok n w' =>
        cases n <;> simp only [heldUpon] at hh <;> simp only [Oper.upon]
        case value u => exact h _ _ hh.1 hh.2
        case skip => exact h _ _ hh.1 hh.2
        case enter f args => exact hh.mono fun e w'' ⟨v, he, h1, h2⟩ => by subst he; exact h _ _ h1 h2
      | halt x w' => exact hh.elim

/-- whatever order is picked -/
def wpS (P : Program) (ops : Array Oper) (S : World → Prop) (Q : Exit → Act → World → Prop) : Nat → Array Bool → Act → World → Prop
  | 0, listed, a, w => Region.ready .any ops listed = [] ∧ Q .normal a w
  | n + 1, listed, a, w => (Region.ready .any ops listed = [] → Q .normal a w) ∧ ∀ i, i ∈ Region.ready .any ops listed → sOp P ops S i (wpS P ops S Q n (listed.setIfInBounds i true)) a w
theorem wpAny_of_wpS : ∀ (n : Nat) (listed : Array Bool) (a : Act) (w : World), S w → wpS P ops S Q n listed a w → wpAny P .any ops Q n listed a w
  | 0, _, _, _, _, h => h
  | n + 1, _, _, _, hS, h => ⟨h.1, fun i hi => wpOp_of_sOp hS (fun a' w' hS' h' => wpAny_of_wpS n _ a' w' hS' h') (h.2 i hi)⟩

theorem YieldsIf.one {o : Oper} {u v : Value} {a : Act} {w : World} (hS : S w) (h : YieldsIf P ops S o u a) (k : YieldsIf P ops S o v a) : u = v := by
  rcases h with ⟨h1, h2⟩ | ⟨h1, h2⟩ <;> rcases k with ⟨k1, k2⟩ | ⟨k1, k2⟩
  · have := (h2 w hS).symm.trans (k2 w hS)
    injection this with e
    injection e
  · rw [h1] at k1; cases k1
  · rw [h1] at k1; cases k1
  · rw [h2, k2]

/-- one operation apart from another: its value may be there already -/
theorem sOp_put {j : Nat} {oi oj : Oper} {v : Value} (hj : ops[j]? = some oj) (hap : oi.apart ops oj = true) (hsi : ∀ cs b, oi.op ≠ .select cs b) (hsj : ∀ cs b, oj.op ≠ .select cs b) {K : Act → World → Prop} {a : Act} {w : World}
    (hq : quietNow ops oi a) (hy : YieldsIf P ops S oi v a) (h : sOp P ops S j K (a.put oi.dst v) w) : sOp P ops S j (fun a' w' => quietNow ops oi a' ∧ YieldsIf P ops S oi v a' ∧ K (a'.put oi.dst v) w') a w := by
  obtain ⟨h1, h2, h3⟩ := Oper.apart_spec hap
  have keep : ∀ u, quietNow ops oi (a.put oj.dst u) ∧ YieldsIf P ops S oi v (a.put oj.dst u) := fun u =>
    ⟨(quietNow_put h3).2 hq, hy.of_same (execOp_put oi hsi a oj.dst u h3) (wanted_put oi a oj.dst u h3)⟩
  unfold sOp at *
  rw [hj] at h ⊢
  rcases h with ⟨hqj, u, hu, hk⟩ | ⟨hqj, hh⟩
  · exact .inl ⟨(quietNow_put h1).1 hqj, u, hu.of_same (execOp_put oj hsj a oi.dst v h1).symm (wanted_put oj a oi.dst v h1).symm, (keep u).1, (keep u).2, by rw [← Act.put_comm a v u h2]; exact hk⟩
  · refine .inr ⟨fun e => hqj ((quietNow_put h1).2 e), ?_⟩
    have hh' : hOp P oj (fun v' w' => S w' ∧ K ((a.put oi.dst v).put oj.dst v') w') a w := by
      unfold hOp at *
      rw [execOp_put oj hsj a oi.dst v h1] at hh
      exact hh
    exact hOp_mono (fun u w' ⟨e1, e2⟩ => ⟨e1, (keep u).1, (keep u).2, by rw [← Act.put_comm a v u h2]; exact e2⟩) hh'

/-- every later call waits for a call that has not come up -/
def Chain (ops : Array Oper) (i : Nat) (listed : Array Bool) : Prop := ∀ j oj, ops[j]? = some oj → j ≠ i → listed.getD j true = false → stillOp oj = false →
  ∃ e, e ∈ oj.after ∧ Region.binds .any e = true ∧ listed.getD e.on false = false ∧ ∀ oe, ops[e.on]? = some oe → stillOp oe = false

theorem wpS_first {i : Nat} {oi : Oper} (hi : ops[i]? = some oi) (hsel : ∀ (j : Nat) (o : Oper) cs b, ops[j]? = some o → o.op ≠ .select cs b) : ∀ (n : Nat) (listed : Array Bool) (a : Act) (w : World), S w →
      (∀ j oj, ops[j]? = some oj → j ≠ i → listed.getD j true = false → (∀ e ∈ oj.after, Region.binds .any e = true → e.on ≠ i) → oi.apart ops oj = true) →
      (stillOp oi = false → Chain ops i listed) → i ∈ Region.ready .any ops listed → sOp P ops S i (wpS P ops S Q n (listed.setIfInBounds i true)) a w → wpS P ops S Q (n + 1) listed a w := by
  intro n
  induction n with
  | zero =>
    intro listed a w hS _ _ hr H
    refine ⟨fun h => (by rw [h] at hr; cases hr), fun j hj => ?_⟩
    by_cases hji : j = i
    · subst hji; exact H
    · obtain ⟨a', w', _, h0, _⟩ := sOp_out hS H
      have := ready_mono hj hji
      rw [h0] at this
      cases this
  | succ n ih =>
    intro listed a w hS hfree hchain hr H
    refine ⟨fun h => (by rw [h] at hr; cases hr), fun j hj => ?_⟩
    by_cases hji : j = i
    · subst hji; exact H
    obtain ⟨hjun, oj, hoj, hall⟩ := mem_ready.1 hj
    have hnot : ∀ e ∈ oj.after, Region.binds .any e = true → e.on ≠ i := fun e he hb heq => by
      have h1 := hall e he hb
      have h0 := (mem_ready.1 hr).1
      rw [heq, getD_both h0] at h1
      cases h1
    have hap := hfree j oj hoj hji hjun hnot
    obtain ⟨p1, p2, p3⟩ := Oper.apart_spec hap
    have hsi := fun cs b => hsel i oi cs b hi
    have hsj := fun cs b => hsel j oj cs b hoj
    have hfree' : ∀ k ok, ops[k]? = some ok → k ≠ i → (listed.setIfInBounds j true).getD k true = false →
        (∀ e ∈ ok.after, Region.binds .any e = true → e.on ≠ i) → oi.apart ops ok = true := fun k ok hk hki hun hno => by
      refine hfree k ok hk hki ?_ hno
      by_cases hjk : j = k
      · subst hjk; exact hjun
      · rw [getD_set_ne true hjk] at hun; exact hun
    -- where i calls, j only looks
    have hjs : stillOp oi = false → stillOp oj = true := fun hs => by
      cases e : stillOp oj with
      | true => rfl
      | false =>
        obtain ⟨e, he, hb, hun, _⟩ := hchain hs j oj hoj hji hjun e
        rw [hall e he hb] at hun
        cases hun
    have hchain' : stillOp oi = false → Chain ops i (listed.setIfInBounds j true) := fun hs => by
      intro k ok hk hki hun hks
      have hjk : j ≠ k := by
        rintro rfl
        rw [hoj] at hk
        injection hk with hk
        rw [← hk, hjs hs] at hks
        cases hks
      rw [getD_set_ne true hjk] at hun
      obtain ⟨e, he, hb, h1, h2⟩ := hchain hs k ok hk hki hun hks
      refine ⟨e, he, hb, ?_, h2⟩
      have hje : j ≠ e.on := by
        intro h
        have := h2 oj (by rw [← h]; exact hoj)
        rw [hjs hs] at this
        cases this
      rw [getD_set_ne false hje]
      exact h1
    have hr' := ready_mono hr (Ne.symm hji)
    unfold sOp at H
    rw [hi] at H
    rcases H with ⟨hq, v, hy, HK⟩ | ⟨hnq, hh⟩
    · have h2 := sOp_put hoj hap hsi hsj hq hy (HK.2 j (ready_mono hj hji))
      refine sOp_mono hS (fun a' w' hS' ⟨hq', hy', hk'⟩ => ih (listed.setIfInBounds j true) a' w' hS' hfree' hchain' hr' ?_) h2
      unfold sOp
      rw [hi]
      refine .inl ⟨hq', v, hy', ?_⟩
      rw [Array.setIfInBounds_comm _ _ hji]
      exact hk'
    · have hs : stillOp oi = false := by
        cases e : stillOp oi with
        | false => rfl
        | true => exact absurd (.inl e) hnq
      have hj' := hjs hs
      obtain ⟨v0, w0, hS0, hK0⟩ := hOp_out hh
      have h1 := hK0.2 j (ready_mono hj hji)
      unfold sOp at h1
      rw [hoj] at h1
      obtain ⟨vj, hyj⟩ : ∃ vj, YieldsIf P ops S oj vj a := by
        rcases h1 with ⟨_, u, hu, _⟩ | ⟨e, _⟩
        · exact ⟨u, hu.of_same (execOp_put oj hsj a oi.dst v0 p1).symm (wanted_put oj a oi.dst v0 p1).symm⟩
        · exact absurd (.inl hj') e
      unfold sOp
      rw [hoj]
      refine .inl ⟨.inl hj', vj, hyj, ih (listed.setIfInBounds j true) (a.put oj.dst vj) w hS hfree' hchain' hr' ?_⟩
      unfold sOp
      rw [hi]
      refine .inr ⟨fun e => hnq ((quietNow_put p3).1 e), hOp_put hsi p3 (hOp_mono (fun v w' ⟨hS', hk'⟩ => ⟨hS', ?_⟩) hh)⟩
      have h2 := hk'.2 j (ready_mono hj hji)
      unfold sOp at h2
      rw [hoj] at h2
      rcases h2 with ⟨_, u, hu, hk2⟩ | ⟨e, _⟩
      · have hu' : YieldsIf P ops S oj u a := hu.of_same (execOp_put oj hsj a oi.dst v p1).symm (wanted_put oj a oi.dst v p1).symm
        have e := YieldsIf.one hS' hu' hyj
        subst e
        rw [Array.setIfInBounds_comm _ _ hji, ← Act.put_comm a v u p2]
        exact hk2
      · exact absurd (.inl hj') e

/-- the walk in the order of the text -/
def wpHeld (P : Program) (ops : Array Oper) (S : World → Prop) (Q : Exit → Act → World → Prop) : List Oper → Act → World → Prop
  | [], a, w => Q .normal a w
  | o :: l, a, w => (quietNow ops o a ∧ ∃ v, YieldsIf P ops S o v a ∧ wpHeld P ops S Q l (a.put o.dst v) w) ∨ (¬ quietNow ops o a ∧ hOp P o (fun v w' => S w' ∧ wpHeld P ops S Q l (a.put o.dst v) w') a w)

/-- each call waits for the call before it -/
structure ChainOK (ops : Array Oper) : Prop where
  chain : ∀ (k j : Nat) (ok oj : Oper), k < j → ops[k]? = some ok → ops[j]? = some oj → stillOp ok = false → stillOp oj = false → ∃ e, e ∈ oj.after ∧ Region.binds .any e = true ∧ k ≤ e.on ∧ e.on < j ∧ ∀ oe, ops[e.on]? = some oe → stillOp oe = false

theorem wpS_of_lex (hx : LexOK ops) (hc : ChainOK ops) : ∀ (l : List Oper) (k : Nat) (listed : Array Bool) (a : Act) (w : World), S w →
    (∀ j, l[j]? = ops[k + j]?) → k + l.length = ops.size → listed.size = ops.size → (∀ i, i < k → listed.getD i false = true) → (∀ i, k ≤ i → i < ops.size → listed.getD i true = false) →
    wpHeld P ops S Q l a w → wpS P ops S Q l.length listed a w
  | [], k, listed, a, w, _, _, hk, hz, h1, _, h => by
    refine ⟨?_, h⟩
    refine List.eq_nil_iff_forall_not_mem.2 fun i hi => ?_
    obtain ⟨h0, o, ho, _⟩ := mem_ready.1 hi
    have hlt := (Array.getElem?_eq_some_iff.1 ho).1
    have h3 := h1 i (by simp at hk; omega)
    rw [getD_both h0] at h3
    cases h3
  | o :: l, k, listed, a, w, hS, hl, hk, hz, h1, h2, h => by
    have h0 : ops[k]? = some o := by simpa using (hl 0).symm
    have hlt : k < ops.size := (Array.getElem?_eq_some_iff.1 h0).1
    have hst : sOp P ops S k (wpHeld P ops S Q l) a w := by
      unfold sOp
      rw [h0]
      exact h
    have hun : ∀ j, listed.getD j true = false → k ≤ j := fun j hun => by
      rcases Nat.lt_or_ge j k with h' | h'
      · have h3 := h1 j h'
        rw [getD_both hun] at h3
        cases h3
      · exact h'
    refine wpS_first h0 (Region.noSelect_spec hx.sel) l.length listed a w hS ?_ ?_ (mem_ready.2 ⟨h2 k (Nat.le_refl _) hlt, o, h0, fun e he hb => h1 _ (hx.edge k o h0 e he hb)⟩) ?_
    · intro j oj hj hne hju hno
      refine hx.free k j o oj ?_ h0 hj hno
      have := hun j hju
      omega
    · intro hs j oj hj hne hju hjs
      have := hun j hju
      obtain ⟨e, he, hb, hke, hej, hes⟩ := hc.chain k j o oj (by omega) h0 hj hs hjs
      refine ⟨e, he, hb, ?_, hes⟩
      have hjlt : j < ops.size := (Array.getElem?_eq_some_iff.1 hj).1
      exact getD_both (h2 e.on hke (by omega))
    · refine sOp_mono hS (fun a' w' hS' h' => wpS_of_lex hx hc l (k + 1) _ a' w' hS' (fun j => by have := hl (j + 1); simpa [Nat.add_assoc, Nat.add_comm 1 j] using this) (by simp at hk; omega) (by simpa using hz) ?_ ?_ h') hst
      · intro i hi
        by_cases e : i = k
        · subst e
          simp [hz, hlt]
        · exact getD_set_true (h1 i (by omega))
      · intro i hi hi'
        rw [getD_set_ne true (by omega)]
        exact h2 i (by omega) hi'

theorem wp_held_lex {id : Nat} {a : Act} {w : World} {l : List Oper} (hm : P.follows .mixedOrders = true) (hx : LexOK l.toArray) (hc : ChainOK l.toArray) (hS : S w.drew)
    (h : wpHeld P l.toArray S Q l a w.drew) : (Code.region id l.toArray true).wp P Q a w := by
  refine wp_region_any hm (wpAny_of_wpS (S := S) _ _ _ _ hS ?_)
  have := wpS_of_lex (P := P) (S := S) (Q := Q) hx hc l 0 (Array.replicate l.toArray.size false) a w.drew hS (by simp) (by simp) (by simp) (by intro i hi; omega) (fun i _ hi => getD_in (by simpa using hi) (getD_replicate_false _ _)) h
  simpa using this

/-! ### The moves of the walk -/
theorem wpHeld_nil {a : Act} {w : World} (h : Q .normal a w) : wpHeld P ops S Q [] a w := h
/-- what only looks, by the walk of such -/
theorem wpHeld_still : ∀ (l1 l2 : List Oper) {a : Act} {w : World}, S w → l1.all stillOp = true → wpQuiet P ops S (fun a' => wpHeld P ops S Q l2 a' w) l1 a → wpHeld P ops S Q (l1 ++ l2) a w
  | [], _, _, _, _, _, h => h
  | o :: l1, l2, a, w, hS, hs, h => by
    rw [List.all_cons, Bool.and_eq_true] at hs
    refine .inl ⟨.inl hs.1, ?_⟩
    unfold wpQuiet at h
    by_cases hw : Region.wanted o (yielded ops a.tmps) = true
    · rw [if_pos hw] at h
      obtain ⟨v, hv, hn⟩ := h
      refine ⟨v, .inl ⟨hw, fun w' hS' => ?_⟩, wpHeld_still l1 l2 hS hs.2 hn⟩
      have h1 := hv w' hS'
      unfold Oper.quietAt at h1
      cases hr : (execOp a.eval o).run P w' with
      | ok n w2 =>
        obtain ⟨x, rfl⟩ := still_value hs.1 hr
        rw [hr] at h1
        obtain ⟨e1, e2⟩ := h1
        rw [e1, e2]
      | halt x w2 => rw [hr] at h1; exact h1.elim
    · rw [if_neg hw] at h
      exact ⟨undef, .inr ⟨by simpa using hw, rfl⟩, wpHeld_still l1 l2 hS hs.2 h⟩
theorem wpHeld_seg (n : Nat) {l : List Oper} {a : Act} {w : World} (hS : S w) (hs : (l.take n).all stillOp = true) (h : wpQuiet P ops S (fun a' => wpHeld P ops S Q (l.drop n) a' w) (l.take n) a) : wpHeld P ops S Q l a w := by
  have := wpHeld_still (Q := Q) (l.take n) (l.drop n) hS hs h
  rwa [List.take_append_drop] at this
/-- a call of a function -/
theorem wpHeld_call {o : Oper} {l : List Oper} {a : Act} {w : World} {fn : Func} (f : FuncId) (hf : P.funcs[f]? = some fn) (hname : (fn.name == "runtime.NumGoroutine") = false) (hb : fn.body.isNone = false) (args : Array Operand) (ts : Array TypeId) (vs : Array Value) (ho : o.op = .call { callee := .value (.func f), args := args, argTypes := ts })
    (hw : Region.wanted o (yielded ops a.tmps) = true) (hv : args.map a.eval = vs) (h : Calls P f vs w fun e w' => ∃ v, e = .returned v ∧ S w' ∧ wpHeld P ops S Q l (a.put o.dst v) w') : wpHeld P ops S Q (o :: l) a w := by
  refine .inr ⟨?_, ?_⟩
  · rintro (h1 | h1)
    · unfold stillOp at h1
      simp only [ho] at h1
      cases h1
    · rw [hw] at h1
      cases h1
  · unfold hOp execOp
    simp only [ho]
    have e : (do let d ← resolve a.eval { callee := .value (.func f), args := args, argTypes := ts } o.type; invoke d.target d.args : Sem Next).run P w = .ok (.enter f vs) w := by
      subst hv
      have h1 : fn.name ≠ "runtime.NumGoroutine" := by simpa using hname
      have h2 : fn.body ≠ none := by
        intro e
        rw [e] at hb
        cases hb
      simp [resolve, Deferred.ofValue, invoke, go_sem, Act.eval, callFunc, hf, h1, h2]
    rw [e]
    exact h
/-- any other operation that is carried out -/
theorem wpHeld_op {o : Oper} {l : List Oper} {a : Act} {w : World} (hs : stillOp o = false) (hw : Region.wanted o (yielded ops a.tmps) = true) (h : hOp P o (fun v w' => S w' ∧ wpHeld P ops S Q l (a.put o.dst v) w') a w) : wpHeld P ops S Q (o :: l) a w := by
  refine .inr ⟨?_, h⟩
  rintro (h1 | h1)
  · rw [hs] at h1
    cases h1
  · rw [hw] at h1
    cases h1
/-- one that yields a value and leaves a world -/
theorem wpHeld_run {o : Oper} {l : List Oper} {a : Act} {w : World} (v : Value) (w1 : World) (hs : stillOp o = false) (hw : Region.wanted o (yielded ops a.tmps) = true) (hr : (execOp a.eval o).run P w = .ok (.value v) w1) (hS : S w1) (h : wpHeld P ops S Q l (a.put o.dst v) w1) : wpHeld P ops S Q (o :: l) a w := by
  refine wpHeld_op hs hw ?_
  unfold hOp
  rw [hr]
  exact ⟨hS, h⟩
/-- one that yields nothing and leaves a world -/
theorem wpHeld_run0 {o : Oper} {l : List Oper} {a : Act} {w : World} (w1 : World) (hs : stillOp o = false) (hw : Region.wanted o (yielded ops a.tmps) = true) (hr : (execOp a.eval o).run P w = .ok .skip w1) (hS : S w1) (h : wpHeld P ops S Q l (a.put o.dst undef) w1) : wpHeld P ops S Q (o :: l) a w := by
  refine wpHeld_op hs hw ?_
  unfold hOp
  rw [hr]
  exact ⟨hS, h⟩
/-- what is passed over -/
theorem wpHeld_skip {o : Oper} {l : List Oper} {a : Act} {w : World} (hw : Region.wanted o (yielded ops a.tmps) = false) (h : wpHeld P ops S Q l (a.put o.dst undef) w) : wpHeld P ops S Q (o :: l) a w :=
  .inl ⟨.inr hw, undef, .inr ⟨hw, rfl⟩, h⟩
end

/-! ### The class: what lies below a block has not changed -/
def LaterB (B : Nat) (w : World) : Type := { w' : World // Below B w w' }
instance {B : Nat} {w : World} : Nonempty (LaterB B w) := ⟨⟨w, Below.refl _ _⟩⟩
def LaterB.at {B : Nat} {w : World} (x : LaterB B w) : World := x.1
theorem LaterB.below {B : Nat} {w : World} (x : LaterB B w) : Below B w x.at := x.2
theorem LaterB.cell {B : Nat} {w : World} {a : Addr} {v : Value} (h : w.cell? a = some v) (hB : a.block < B) (x : LaterB B w) : x.at.cell? a = some v := (x.2.cell hB).trans h
theorem LaterB.step {B : Nat} {w w' w1 : World} (h : ∃ x : LaterB B w, w' = x.at) (hb : Below B w' w1) : ∃ x : LaterB B w, w1 = x.at := by
  obtain ⟨x, rfl⟩ := h
  exact ⟨⟨w1, x.2.trans hb⟩, rfl⟩
theorem LaterB.of {B : Nat} {w w' : World} (h : ∃ x : LaterB B w, w' = x.at) : Below B w w' := by
  obtain ⟨x, rfl⟩ := h
  exact x.2
theorem wp_heldB (B : Nat) {P : Program} {Q : Exit → Act → World → Prop} {id : Nat} {a : Act} {w : World} {l : List Oper} (hm : P.follows .mixedOrders = true) (hx : LexOK l.toArray) (hc : ChainOK l.toArray)
    (h : ∀ W, Below w.heap.size w W → (∃ x : LaterB B w, W = x.at) → wpHeld P l.toArray (fun w' => ∃ x : LaterB B w, w' = x.at) Q l a W) : (Code.region id l.toArray true).wp P Q a w :=
  wp_held_lex hm hx hc ⟨⟨w.drew, (Below.refl _ _).drew⟩, rfl⟩ (h w.drew (Below.refl _ _).drew ⟨⟨w.drew, (Below.refl _ _).drew⟩, rfl⟩)

theorem below_twoSets {B b : Nat} (h : B ≤ b) (W : World) (k l : Nat) (u v : Value) : Below B W ((W.setCell ⟨b, k, none⟩ u).setCell ⟨b, l, none⟩ v) :=
  Below.setCell (Below.setCell (Below.refl _ _) h _) h _
/-! ### The class: worlds that meet a condition -/
def LaterS (S : World → Prop) : Type := { w' : World // S w' }
def LaterS.at {S : World → Prop} (x : LaterS S) : World := x.1
theorem LaterS.get {S : World → Prop} {p : World → Prop} (h : ∀ w, S w → p w) (x : LaterS S) : p x.at := h _ x.2
theorem LaterS.some {S : World → Prop} {w : World} (h : S w) : ∃ x : LaterS S, w = x.at := ⟨⟨w, h⟩, rfl⟩
theorem LaterS.inh {S : World → Prop} {w : World} (h : S w) : Nonempty (LaterS S) := ⟨⟨w, h⟩⟩
theorem wp_heldS (S : World → Prop) {P : Program} {Q : Exit → Act → World → Prop} {id : Nat} {a : Act} {w : World} {l : List Oper} (hm : P.follows .mixedOrders = true) (hx : LexOK l.toArray) (hc : ChainOK l.toArray) (hS : S w.drew)
    (h : ∀ W, Below w.heap.size w W → S W → Nonempty (LaterS S) → wpHeld P l.toArray (fun w' => ∃ x : LaterS S, w' = x.at) Q l a W) : (Code.region id l.toArray true).wp P Q a w :=
  wp_held_lex hm hx hc (LaterS.some hS) (h w.drew (Below.refl _ _).drew hS (LaterS.inh hS))

/-! ### The tests -/
def chainN : List Oper → Nat → Option Nat → Bool
  | [], _, _ => true
  | o :: l, k, last => (stillOp o || (match last with | none => true | some p => Nat.beq (Nat.mod (Nat.shiftRight (afterMask o) p) 2) 1)) && chainN l (k + 1) (if stillOp o then last else some k)
theorem chainN_spec {ops : Array Oper} : ∀ (l : List Oper) (k : Nat) (last : Option Nat), (∀ j, l[j]? = ops[k + j]?) →
    (∀ p, last = some p → p < k ∧ (∀ o, ops[p]? = some o → stillOp o = false) ∧ ∀ j o, p < j → j < k → ops[j]? = some o → stillOp o = true) → (last = none → ∀ j o, j < k → ops[j]? = some o → stillOp o = true) → chainN l k last = true →
    ∀ (j : Nat) (oj : Oper), k ≤ j → ops[j]? = some oj → stillOp oj = false → ∀ (i : Nat) (oi : Oper), i < j → ops[i]? = some oi → stillOp oi = false → ∃ e, e ∈ oj.after ∧ Region.binds .any e = true ∧ i ≤ e.on ∧ e.on < j ∧ ∀ oe, ops[e.on]? = some oe → stillOp oe = false
  | [], k, _, hl, _, _, _, j, oj, hj, hoj, _ => by
    intro i oi hi hoi _
    have h0 : ops[j]? = none := by
      have := hl (j - k)
      rw [show k + (j - k) = j by omega] at this
      rw [← this]
      rfl
    rw [h0] at hoj
    cases hoj
  | o :: l, k, last, hl, hp, hn, h, j, oj, hj, hoj, hjs => by
    intro i oi hi hoi his
    have h0 : ops[k]? = some o := by simpa using (hl 0).symm
    simp only [chainN, Bool.and_eq_true] at h
    by_cases e : j = k
    · subst e
      rw [h0] at hoj
      injection hoj with hoj
      subst hoj
      have h1 := h.1
      rw [hjs, Bool.false_or] at h1
      cases hlast : last with
      | none =>
        have := hn hlast i oi hi hoi
        rw [his] at this
        cases this
      | some p =>
        rw [hlast] at h1
        obtain ⟨q1, q2, q3⟩ := hp p hlast
        have h2 : (afterMask o).testBit p = true := by
          rw [Nat.testBit_eq_decide_div_mod_eq, decide_eq_true_iff, ← Nat.shiftRight_eq_div_pow]
          exact Nat.eq_of_beq_eq_true h1
        obtain ⟨e, he, hb, hk⟩ := afterMask_mem h2
        refine ⟨e, he, hb, ?_, by omega, by rw [hk]; exact q2⟩
        rw [hk]
        rcases Nat.lt_or_ge p i with h' | h'
        · have := q3 i oi h' hi hoi
          rw [his] at this
          cases this
        · exact h'
    · refine chainN_spec l (k + 1) _ (fun j => by have := hl (j + 1); simpa [Nat.add_assoc, Nat.add_comm 1 j] using this) ?_ ?_ h.2 j oj (by omega) hoj hjs i oi hi hoi his
      · intro p hpe
        cases ho : stillOp o with
        | true =>
          rw [ho, if_pos rfl] at hpe
          obtain ⟨q1, q2, q3⟩ := hp p hpe
          refine ⟨by omega, q2, fun j' o' h1 h2 h3 => ?_⟩
          by_cases e' : j' = k
          · subst e'
            rw [h0] at h3
            injection h3 with h3
            rw [← h3, ho]
          · exact q3 j' o' h1 (by omega) h3
        | false =>
          rw [ho, if_neg (by decide)] at hpe
          injection hpe with hpe
          subst hpe
          refine ⟨by omega, fun o' h' => ?_, fun j' o' h1 h2 _ => by omega⟩
          rw [h0] at h'
          injection h' with h'
          rw [← h', ho]
      · intro hpe j' o' h1 h3
        cases ho : stillOp o with
        | true =>
          rw [ho, if_pos rfl] at hpe
          by_cases e' : j' = k
          · subst e'
            rw [h0] at h3
            injection h3 with h3
            rw [← h3, ho]
          · exact hn hpe j' o' (by omega) h3
        | false =>
          rw [ho, if_neg (by decide)] at hpe
          cases hpe
theorem chainOK_of {l : List Oper} (h : chainN l 0 none = true) : ChainOK l.toArray :=
  ⟨fun k j ok oj hkj hok hoj hks hjs => chainN_spec (ops := l.toArray) l 0 none (by simp) (by intro p hp; cases hp) (by intro _ j o hj; omega) h j oj (Nat.zero_le _) hoj hjs k ok hkj hok hks⟩

end Go.Proofs.YtgkojdbepgonkaaDoor.H4

/- The reference's Hex. -/
namespace Go.Proofs.YtgkojdbepgonkaaDoor
set_option linter.unusedVariables false
set_option linter.unusedSimpArgs false
set_option maxRecDepth 8000
open Go.RowKit
attribute [local simp] z32_ne z32_run
attribute [-simp] Tryd.zeroValue34 Tryd.isAgg34 Tryd.sizeOf34
def hexd (i : Nat) : Nat := [48, 49, 50, 51, 52, 53, 54, 55, 56, 57, 97, 98, 99, 100, 101, 102].getD i 0
def hexN (bs : List Nat) : List Nat := bs.flatMap fun b => [hexd (b / 16), hexd (b % 16)]
theorem hexN_length (bs : List Nat) : (hexN bs).length = 2 * bs.length := by
  unfold hexN
  induction bs with
  | nil => rfl
  | cons b bs ih => rw [List.flatMap_cons, List.length_append, ih]; simp; omega
theorem hexN_snoc (bs : List Nat) (b : Nat) : hexN (bs ++ [b]) = hexN bs ++ [hexd (b / 16), hexd (b % 16)] := by
  unfold hexN
  rw [List.flatMap_append]
  simp
def hexS (bs : List Nat) : ByteArray := ⟨((hexN bs).map UInt8.ofNat).toArray⟩
theorem run_hexS {P : Program} {w : World} {src dst e : TypeId} {A : Option Addr} {n c : Nat} {bs : List Nat} (h : Sb w A n c bs) (hn : 0 < n) (hs : P.underlying src = some (.slice e)) (he : P.underlying e = some (.int .u8)) (hd : P.underlying dst = some .string) :
    (convert src dst (.slice A n c)).run P w = .ok (.string ⟨(bs.map UInt8.ofNat).toArray⟩) w := by
  obtain ⟨ad, rfl⟩ := h.some_ hn
  have hl : n = (bs.map UInt8.ofNat).length := by rw [List.length_map]; exact h.len
  rw [hl]
  refine run_convert_bytes_back w src dst e ad c (bs.map UInt8.ofNat) hs he hd (fun j hj => ?_)
  have hj2 : j < bs.length := by simpa using hj
  have h1 := h.at_ (i := j) (by rw [h.len]; exact hj2)
  rw [h1]
  have hb := h.byte (bs.getD j 0) (by rw [List.getD_eq_getElem?_getD, List.getElem?_eq_getElem hj2]; exact List.getElem_mem hj2)
  simp only [List.getElem_map, UInt8.toNat_ofNat']
  rw [List.getD_eq_getElem?_getD, List.getElem?_eq_getElem hj2] at hb ⊢
  simp only [Option.getD_some] at hb ⊢
  rw [Nat.mod_eq_of_lt hb]
def hexA : ByteArray := ⟨#[48, 49, 50, 51, 52, 53, 54, 55, 56, 57, 97, 98, 99, 100, 101, 102]⟩
theorem hexd_lt (i : Nat) : hexd i < 256 := by
  unfold hexd
  exact getD_byte (by decide) i
theorem run_hexd {ev : Operand → Value} {o : Oper} {s p : Operand} (i : Nat) (hi : i < 16) (ho : o.op = .index 9 s p) (hs : ev s = .string hexA) (hp : ev p = .int .u8 (i : Int)) (w : World) :
    (execOp ev o).run Tryd.prog w = .ok (.value (.int .u8 (hexd i : Nat))) w := by
  unfold execOp
  rw [ho]
  simp only [hs, hp]
  rcases (by omega : i = 0 ∨ i = 1 ∨ i = 2 ∨ i = 3 ∨ i = 4 ∨ i = 5 ∨ i = 6 ∨ i = 7 ∨ i = 8 ∨ i = 9 ∨ i = 10 ∨ i = 11 ∨ i = 12 ∨ i = 13 ∨ i = 14 ∨ i = 15) with rfl | rfl | rfl | rfl | rfl | rfl | rfl | rfl | rfl | rfl | rfl | rfl | rfl | rfl | rfl | rfl <;> kernel_rfl
theorem run_buildB2 {ev : Operand → Value} {o : Oper} {x y : Operand} (u v : Nat) (ho : o.op = .buildSlice 29 2 #[(0, x), (1, y)]) (hx : ev x = .int .u8 (u : Int)) (hy : ev y = .int .u8 (v : Int)) (w : World) :
    (execOp ev o).run Tryd.prog w = .ok (.value (.slice (some ⟨w.heap.size, 0, none⟩) 2 2)) (w.alloc (.cells #[.int .u8 (u : Int), .int .u8 (v : Int)] 5)) := by
  unfold execOp
  rw [ho]
  simp only [List.map_toArray, List.map_cons, List.map_nil, hx, hy]
  go_simp
theorem hOp_appendB2 {o : Oper} {a : Act} {w : World} {K : Value → World → Prop} (s x : Operand)
    (ho : o.op = .call { callee := .builtin .append, args := #[s, x], argTypes := #[29, 29] }) (base : Nat) (v : Value) (n : Nat) (bs : List Nat) (hs : a.eval s = v) (hown : OwB w base v n bs)
    (ad : Addr) (m c : Nat) (ys : List Nat) (hx : a.eval x = .slice (some ad) m c) (hy : Sb w (some ad) m c ys) (hn : n + m ≤ 140737488353000) (hbase : base ≤ w.heap.size)
    (h : ∀ v' w', OwB w' base v' (n + m) (bs ++ ys) → Below base w w' → K v' w') : H4.hOp Tryd.prog o K a w := by
  obtain ⟨i, hi, hz, hs2, hb⟩ := info_parts u8_info
  obtain ⟨v', w', hrun, hown', hg, _⟩ := run_append_own (P := Tryd.prog) w base 29 o.type 5 i (.int .u8 0) 1 1 Tryd.underlying29 hi hz hs2 hb rfl (by omega) v n (celB bs) hown.1 ad m c (celB ys) (by rw [celB_length, ← hy.len, Nat.mul_one]) (celB_src hy) (fun u hu => celB_one' hu) (by unfold maxLen; omega) (by omega) hbase
  unfold H4.hOp execOp
  simp only [ho, resolve, invoke, builtin, Sem.run_bind, Sem.run_pure, Result.andThen_ok, List.map_toArray, List.map_cons, List.map_nil, hs, hx, hrun]
  refine h v' w' ⟨?_, fun z hz => ?_⟩ (OwB.below hown hg hbase)
  · rw [celB_append]
    exact hown'
  · rcases List.mem_append.1 hz with hz | hz
    · exact hown.2 z hz
    · exact hy.byte z hz
set_option maxHeartbeats 2000000 in
theorem rhex_any (x : List Nat) (w : World) (hl : x.length = 32) (hb : ∀ z ∈ x, z < 256) :
    Calls Tryd.prog 67 #[.agg (celB x).toArray] w fun e w' => e = .returned (.string (hexS x)) ∧ Below w.heap.size w w' := by
  have HL := Lib.hid hl
  have HXB := Lib.hid hb
  clear hl hb
  go_enter Tryd.func67, Tryd.ntmps67
  go_wp2_with fail
  refine wp_named2 (fun w1 hb1 g0 g1 hlt1 => ?_)
  have H0 : Hid (RowB w1 34 w.heap.size x) := Lib.hid g0
  have hrow : w1.heap[w.heap.size + 1]? = some (.cells #[] 5 (0, 0)) := g1
  have HB1 := Lib.hid hb1
  have HO0 := Lib.hid (OwB.nil1 g1 (Nat.le_refl _))
  clear g0 g1 hb1 hrow
  go_loopw [4, 5] (fun v s wr => ∃ k : Nat, k ≤ 32 ∧ s = .int .i64 k ∧ RowB wr 34 w.heap.size x ∧ OwB wr (w.heap.size + 1) v (2 * k) (hexN (x.take k)) ∧ Below w.heap.size w wr ∧ w.heap.size + 1 ≤ wr.heap.size) (fun _ s _ => 32 - (intOf s).toNat)
  case atStart => exact ⟨0, by omega, rfl, H0.out, HO0.out, HB1.out, by omega⟩
  case round =>
    clear H0 HO0 HB1
    obtain ⟨k, hk, rfl, hr, ho, hb, hz⟩ := hrel
    have HR := Lib.hid hr
    have HO := Lib.hid ho
    have HB := Lib.hid hb
    obtain ⟨C, f, rfl, hsl⟩ := ho.sl
    have HSL := Lib.hid hsl
    clear hr ho hb hsl
    by_cases hlt : k < 32
    · have hk1 : (k : Int) < 32 := by omega
      have hk0 : (0 : Int) ≤ (k : Int) := by omega
      have c0 := H4.LaterB.cell (B := w.heap.size + 1) (HR.out.at_ (some_getD (show k < x.length by rw [HL.out]; exact hlt))) (show w.heap.size < w.heap.size + 1 by omega)
      have hxb := getD_byte HXB.out k
      have HTS := Lib.hid (take_snoc (show k < x.length by rw [HL.out]; exact hlt))
      generalize x.getD k 0 = y at *
      go_wp2_with fail
      refine H4.wp_heldB (w.heap.size + 1) (by kernel_rfl) (lexOK_of (by kernel_rfl) (by kernel_rfl)) (H4.chainOK_of (by kernel_rfl)) (fun W0 hbW hSW => ?_)
      have HR0 := Lib.hid (HR.out.keep hbW)
      have HO0 := Lib.hid (HO.out.keep hbW)
      have HB0 := Lib.hid (bel_step HB.out hbW)
      have HS0 := Lib.hid hSW
      have hz0 : w.heap.size + 1 ≤ W0.heap.size := by have := hbW.size; omega
      clear hbW hSW
      refine H4.wpHeld_seg 13 HS0.out (by kernel_rfl) ?_
      simp only [List.take_succ_cons, List.take_zero, List.drop_succ_cons, List.drop_zero]
      repeat (go_big_quiet_step (fail))
      refine wpQuiet_val (by kernel_rfl) _ (fun v _ => run_hexd (y / 16) (by omega) rfl rfl rfl v) ?_
      simp only [Act.put, List.setIfInBounds_toArray, List.set_cons_zero, List.set_cons_succ]
      repeat (go_big_quiet_step (fail))
      refine wpQuiet_val (by kernel_rfl) _ (fun v _ => run_hexd (y % 16) (by omega) rfl rfl rfl v) ?_
      simp only [Act.put, List.setIfInBounds_toArray, List.set_cons_zero, List.set_cons_succ]
      refine wpQuiet_nil ?_
      have hb1 : Below W0.heap.size W0 (W0.alloc (.cells #[.int .u8 ((hexd (y / 16) : Nat) : Int), .int .u8 ((hexd (y % 16) : Nat) : Int)] 5)) := (Below.refl _ _).alloc (Nat.le_refl _) _
      refine H4.wpHeld_run _ _ (by kernel_rfl) (by kernel_rfl) (run_buildB2 (hexd (y / 16)) (hexd (y % 16)) rfl rfl rfl _) (H4.LaterB.step HS0.out (hb1.mono hz0)) ?_
      simp only [Act.put, List.setIfInBounds_toArray, List.set_cons_zero, List.set_cons_succ]
      have hrw : RowB (W0.alloc (.cells #[.int .u8 ((hexd (y / 16) : Nat) : Int), .int .u8 ((hexd (y % 16) : Nat) : Int)] 5)) 5 W0.heap.size [hexd (y / 16), hexd (y % 16)] := heap_new W0 _
      have hs2 := hrw.all (n := 2) (c := 2) (by intro z hz; simp at hz; rcases hz with rfl | rfl <;> exact hexd_lt _) rfl (Nat.le_refl _) (by omega)
      have HO1 := Lib.hid (HO0.out.keep hb1)
      have HS1 := Lib.hid (H4.LaterB.step HS0.out (hb1.mono hz0))
      have HB1 := Lib.hid (hb1.mono hz0)
      have hz1 : w.heap.size + 1 ≤ (W0.alloc (.cells #[.int .u8 ((hexd (y / 16) : Nat) : Int), .int .u8 ((hexd (y % 16) : Nat) : Int)] 5)).heap.size := Nat.le_trans hz0 hb1.size
      clear hb1 hrw
      generalize W0.alloc (.cells #[.int .u8 ((hexd (y / 16) : Nat) : Int), .int .u8 ((hexd (y % 16) : Nat) : Int)] 5) = W1 at *
      refine H4.wpHeld_op (by kernel_rfl) (by kernel_rfl) ?_
      refine hOp_appendB2 (.tmp 11) (.tmp 24) rfl (w.heap.size + 1) _ (2 * k) _ rfl HO1.out ⟨W0.heap.size, 0, none⟩ 2 2 _ rfl hs2 (by omega) hz1 ?_
      intro v2 W2 ho2 hb2
      obtain ⟨C2, f2, rfl, _⟩ := ho2.sl
      have HO2 := Lib.hid ho2
      have HB2 := Lib.hid (HB1.out.trans hb2)
      have HS2 := Lib.hid (H4.LaterB.step HS1.out hb2)
      clear ho2 hb2
      refine ⟨HS2.out, ?_⟩
      simp only [Act.put, List.setIfInBounds_toArray, List.set_cons_zero, List.set_cons_succ]
      refine H4.wpHeld_seg 1 HS2.out (by kernel_rfl) ?_
      simp only [List.take_succ_cons, List.take_zero, List.drop_succ_cons, List.drop_zero]
      repeat (go_big_quiet_step (fail))
      refine wpQuiet_nil (H4.wpHeld_nil ?_)
      go_wp2_with fail
      go_roundw
      case rel => exact ⟨k + 1, by omega, by go_num, HR0.out.same (HB2.out.block _ (by omega)), by rw [← HTS.out, hexN_snoc]; exact HO2.out, HB0.out.trans (HB2.out.mono (by omega)), Nat.le_trans hz0 HB2.out.size⟩
      case measure => simp [intOf]; omega
    · obtain rfl : k = 32 := by omega
      have hcv : ∀ dst, Tryd.prog.underlying dst = some .string → (convert 29 dst (.slice C (2 * 32) f)).run Tryd.prog wr = .ok (.string (hexS x)) wr := fun dst hd => by
        have := run_hexS (P := Tryd.prog) (dst := dst) HSL.out (by omega) Tryd.underlying29 Tryd.underlying5 hd
        rw [List.take_of_length_le (by rw [HL.out]; exact Nat.le_refl _)] at this
        exact this
      have hcv2 := hcv 9 Tryd.underlying9
      clear hcv
      obtain ⟨hx, HX⟩ : ∃ h, Hid (hexS x = h) := ⟨_, Lib.hid rfl⟩
      rw [HX.out] at hcv2
      go_wp2_with fail
      refine bodyPost_ret (v := .string hx) ?_ rfl ⟨by rw [HX.out], HB.out⟩
      simp [results, Tryd.results67, go_sem]
end Go.Proofs.YtgkojdbepgonkaaDoor

/- sanity of the laws of stage 7: the fixed examples. -/
namespace Go.Proofs.YtgkojdbepgonkaaDoor
set_option linter.unusedVariables false
set_option linter.unusedSimpArgs false
set_option maxRecDepth 8000
open Go.RowKit
attribute [local simp] z32_ne z32_run
attribute [-simp] Tryd.zeroValue34 Tryd.isAgg34 Tryd.sizeOf34
theorem exs1 : hexN (shaN [97, 98, 99]) = [98, 97, 55, 56, 49, 54, 98, 102, 56, 102, 48, 49, 99, 102, 101, 97, 52, 49, 52, 49, 52, 48, 100, 101, 53, 100, 97, 101, 50, 50, 50, 51, 98, 48, 48, 51, 54, 49, 97, 51, 57, 54, 49, 55, 55, 97, 57, 99, 98, 52, 49, 48, 102, 102, 54, 49, 102, 50, 48, 48, 49, 53, 97, 100] := by kernel_rfl
theorem exS1 : ∃ R, shaN [97, 98, 99] = R ∧ R.length = 32 ∧ (∀ x ∈ R, x < 256) ∧ hexS R = ⟨#[98, 97, 55, 56, 49, 54, 98, 102, 56, 102, 48, 49, 99, 102, 101, 97, 52, 49, 52, 49, 52, 48, 100, 101, 53, 100, 97, 101, 50, 50, 50, 51, 98, 48, 48, 51, 54, 49, 97, 51, 57, 54, 49, 55, 55, 97, 57, 99, 98, 52, 49, 48, 102, 102, 54, 49, 102, 50, 48, 48, 49, 53, 97, 100]⟩ := ⟨_, rfl, shaN_length _, shaN_lt _, by unfold hexS; rw [exs1]; rfl⟩
theorem exs2 : hexN (shaN []) = [101, 51, 98, 48, 99, 52, 52, 50, 57, 56, 102, 99, 49, 99, 49, 52, 57, 97, 102, 98, 102, 52, 99, 56, 57, 57, 54, 102, 98, 57, 50, 52, 50, 55, 97, 101, 52, 49, 101, 52, 54, 52, 57, 98, 57, 51, 52, 99, 97, 52, 57, 53, 57, 57, 49, 98, 55, 56, 53, 50, 98, 56, 53, 53] := by kernel_rfl
theorem exS2 : ∃ R, shaN [] = R ∧ R.length = 32 ∧ (∀ x ∈ R, x < 256) ∧ hexS R = ⟨#[101, 51, 98, 48, 99, 52, 52, 50, 57, 56, 102, 99, 49, 99, 49, 52, 57, 97, 102, 98, 102, 52, 99, 56, 57, 57, 54, 102, 98, 57, 50, 52, 50, 55, 97, 101, 52, 49, 101, 52, 54, 52, 57, 98, 57, 51, 52, 99, 97, 52, 57, 53, 57, 57, 49, 98, 55, 56, 53, 50, 98, 56, 53, 53]⟩ := ⟨_, rfl, shaN_length _, shaN_lt _, by unfold hexS; rw [exs2]; rfl⟩
theorem exs3 : hexN (shaN (0 :: [])) = [54, 101, 51, 52, 48, 98, 57, 99, 102, 102, 98, 51, 55, 97, 57, 56, 57, 99, 97, 53, 52, 52, 101, 54, 98, 98, 55, 56, 48, 97, 50, 99, 55, 56, 57, 48, 49, 100, 51, 102, 98, 51, 51, 55, 51, 56, 55, 54, 56, 53, 49, 49, 97, 51, 48, 54, 49, 55, 97, 102, 97, 48, 49, 100] := by kernel_rfl
theorem exS3 : ∃ R, shaN (0 :: []) = R ∧ R.length = 32 ∧ (∀ x ∈ R, x < 256) ∧ hexS R = ⟨#[54, 101, 51, 52, 48, 98, 57, 99, 102, 102, 98, 51, 55, 97, 57, 56, 57, 99, 97, 53, 52, 52, 101, 54, 98, 98, 55, 56, 48, 97, 50, 99, 55, 56, 57, 48, 49, 100, 51, 102, 98, 51, 51, 55, 51, 56, 55, 54, 56, 53, 49, 49, 97, 51, 48, 54, 49, 55, 97, 102, 97, 48, 49, 100]⟩ := ⟨_, rfl, shaN_length _, shaN_lt _, by unfold hexS; rw [exs3]; rfl⟩
theorem exs4 : hexN (shaN (1 :: (List.replicate 32 0 ++ List.replicate 32 0))) = [97, 101, 48, 55, 57, 56, 100, 48, 101, 99, 97, 101, 100, 50, 98, 55, 55, 56, 101, 100, 100, 101, 98, 102, 49, 56, 102, 48, 55, 49, 97, 53, 54, 49, 99, 53, 51, 54, 53, 56, 99, 48, 53, 101, 55, 54, 99, 101, 100, 101, 99, 99, 50, 55, 99, 97, 102, 98, 100, 98, 99, 53, 55, 55] := by kernel_rfl
theorem exS4 : ∃ R, shaN (1 :: (List.replicate 32 0 ++ List.replicate 32 0)) = R ∧ R.length = 32 ∧ (∀ x ∈ R, x < 256) ∧ hexS R = ⟨#[97, 101, 48, 55, 57, 56, 100, 48, 101, 99, 97, 101, 100, 50, 98, 55, 55, 56, 101, 100, 100, 101, 98, 102, 49, 56, 102, 48, 55, 49, 97, 53, 54, 49, 99, 53, 51, 54, 53, 56, 99, 48, 53, 101, 55, 54, 99, 101, 100, 101, 99, 99, 50, 55, 99, 97, 102, 98, 100, 98, 99, 53, 55, 55]⟩ := ⟨_, rfl, shaN_length _, shaN_lt _, by unfold hexS; rw [exs4]; rfl⟩
theorem exs5 : hexN (hmacN (List.replicate 32 0) []) = [98, 54, 49, 51, 54, 55, 57, 97, 48, 56, 49, 52, 100, 57, 101, 99, 55, 55, 50, 102, 57, 53, 100, 55, 55, 56, 99, 51, 53, 102, 99, 53, 102, 102, 49, 54, 57, 55, 99, 52, 57, 51, 55, 49, 53, 54, 53, 51, 99, 54, 99, 55, 49, 50, 49, 52, 52, 50, 57, 50, 99, 53, 97, 100] := by kernel_rfl
theorem exS5 : ∃ R, hmacN (List.replicate 32 0) [] = R ∧ R.length = 32 ∧ (∀ x ∈ R, x < 256) ∧ hexS R = ⟨#[98, 54, 49, 51, 54, 55, 57, 97, 48, 56, 49, 52, 100, 57, 101, 99, 55, 55, 50, 102, 57, 53, 100, 55, 55, 56, 99, 51, 53, 102, 99, 53, 102, 102, 49, 54, 57, 55, 99, 52, 57, 51, 55, 49, 53, 54, 53, 51, 99, 54, 99, 55, 49, 50, 49, 52, 52, 50, 57, 50, 99, 53, 97, 100]⟩ := ⟨_, rfl, shaN_length _, shaN_lt _, by unfold hexS; rw [exs5]; rfl⟩
theorem rhex_as (x : List Nat) (s : ByteArray) (w : World) (hl : x.length = 32) (hb : ∀ z ∈ x, z < 256) (hs : hexS x = s) :
    Calls Tryd.prog 67 #[.agg (celB x).toArray] w fun e w' => e = .returned (.string s) ∧ Below w.heap.size w w' := by
  have := rhex_any x w hl hb
  rwa [hs] at this
end Go.Proofs.YtgkojdbepgonkaaDoor

/- The frames of the laws of stage 7: bytes that come in are opened, the listed variables are read, digests are compared. -/
namespace Go.Proofs.YtgkojdbepgonkaaDoor
set_option linter.unusedVariables false
set_option linter.unusedSimpArgs false
set_option maxRecDepth 8000
open Go.ChangeShapes Go.WideShapes Go.ChangeAt Go.RowKit Go.Joins

theorem own : ownKnob Tryd.prog.godebug = none := by kernel_rfl
theorem laidOut : laidOutB Tryd.prog = true := by kernel_rfl
theorem cellsB : Tryd.prog.cellsOf 5 = 1 := by kernel_rfl
section
variable {H : Type} {enc : TypeId × Value → H} {W : World} {base : Nat} {sp : Nat → Bool} {b1 : Nat} {hd : Bool} {v : Value} {d : DataW H} {p : List MemPlace}
theorem open_bytes (hv : Value.okWide Tryd.prog W .any base 29 v) (h : DataW.Trod enc Tryd.prog W b1 sp hd 29 v d p) : ∃ (A : Option Addr) (n c : Nat) (bs : List Nat), v = .slice A n c ∧ Sb W A n c bs := by
  obtain ⟨A, n, c, rfl⟩ : ∃ A n c, v = .slice A n c := okWide_slice Tryd.underlying29 hv
  obtain ⟨fuel, hf⟩ := h
  rcases open_ints Tryd.underlying29 Tryd.underlying5 cellsB (show DataW.trod enc Tryd.prog W b1 sp hd fuel 29 [.slice A n c] = some (d, p) from by simpa [Value.cells] using hf) with ⟨hcs, _⟩ | ⟨a, len, cap, zs, hcs, _, hl, hm, hlen, _, hcell, hwf⟩
  · injection hcs with hcs
    injection hcs with e1 e2 e3
    subst e1 e2 e3
    exact ⟨none, 0, 0, [], rfl, Sb.nil_ _⟩
  · injection hcs with hcs
    injection hcs with e1 e2 e3
    subst e1 e2 e3
    unfold maxLen at hm
    have hnl : n ≤ zs.length := by rw [hlen]; split <;> omega
    have hbd : ∀ z ∈ zs, 0 ≤ z ∧ z ≤ 255 := fun z hz => bounds_u8 (hwf z hz)
    refine ⟨some a, n, c, (zs.take n).map Int.toNat, rfl, ⟨by rw [List.length_map, List.length_take]; omega, hl, by omega, (fun e => by cases e), fun x hx => ?_, fun i z hz => ⟨a, rfl, ?_⟩⟩⟩
    · obtain ⟨z, hz, rfl⟩ := List.mem_map.1 hx
      have := hbd z (List.mem_of_mem_take hz)
      omega
    · rw [List.getElem?_map] at hz
      cases hx : (zs.take n)[i]? with
      | none => rw [hx] at hz; cases hz
      | some x =>
        rw [hx] at hz
        injection hz with hz
        subst hz
        have hi := (List.getElem?_eq_some_iff.1 hx).1
        rw [List.length_take] at hi
        have hxz := hbd x (List.mem_of_mem_take (List.mem_of_getElem? hx))
        rw [List.getElem?_take_of_lt (by omega)] at hx
        have h1 := hcell i (by omega)
        rw [List.getD_eq_getElem?_getD, hx] at h1
        rw [Int.toNat_of_nonneg hxz.1]
        exact h1
end
/-! ### The listed variables -/
def laid7 : List (String × DataW Unit) := [("attestor/sha256.initialChain", Rows.laid_attestor_sha256_initialChain), ("attestor/sha256.roundConstants", Rows.laid_attestor_sha256_roundConstants)]
theorem of_laid {W : World} (h : laidMetH Tryd.prog laid7 W) : Gl W := by
  rw [MakeChecks.laidMetH_plain _ _ _ (by kernel_rfl)] at h
  have h1 : laidMet Tryd.prog (("attestor/sha256.initialChain", Lib.tabData .u32 ((chL ch0).map fun x : Nat => (x : Int))) :: [("attestor/sha256.roundConstants", Rows.laid_attestor_sha256_roundConstants)]) W := h
  have h2 : laidMet Tryd.prog (("attestor/sha256.roundConstants", Lib.tabData .u32 (kN.map fun x : Nat => (x : Int))) :: []) W := by
    have hk := laidMet.filter (fun x => x.1 == "attestor/sha256.roundConstants") h
    rwa [show (laid7.filter fun x => x.1 == "attestor/sha256.roundConstants") = [("attestor/sha256.roundConstants", Lib.tabData .u32 (kN.map fun x : Nat => (x : Int)))] by kernel_rfl] at hk
  have g1 : Tryd.prog.globalNamed "attestor/sha256.initialChain" = some 0 := by kernel_rfl
  have g2 : Tryd.prog.globalNamed "attestor/sha256.roundConstants" = some 1 := by kernel_rfl
  have t1 := Lib.tabIs_of_head g1 (t := 151) (by kernel_rfl) Tryd.underlying151 Tryd.underlying126 (by kernel_rfl) (by kernel_rfl) h1
  have t2 := Lib.tabIs_of_head g2 (t := 146) (by kernel_rfl) Tryd.underlying146 Tryd.underlying126 (by kernel_rfl) (by kernel_rfl) h2
  refine ⟨fun i hi => ?_, fun i hi => ?_⟩
  · have := t2.cell g2 i (by rw [List.length_map, kN_length]; exact hi)
    rw [this, List.getD_eq_getElem?_getD, List.getElem?_map, List.getD_eq_getElem?_getD, List.getElem?_eq_getElem (by rw [kN_length]; exact hi)]
    rfl
  · have := t1.cell g1 i (by rw [List.length_map, chL_length]; exact hi)
    rw [this, List.getD_eq_getElem?_getD, List.getElem?_map, List.getD_eq_getElem?_getD, List.getElem?_eq_getElem (by rw [chL_length]; exact hi)]
    rfl
theorem door_met (os : Os) (args : Array Value) : laidMetH Tryd.prog laid7 ((World.doorLaid Tryd.prog 400 os).forCall (fun _ _ => 0) ⟨#[], args, []⟩).memory :=
  laidMetH_of_parts3 (fuel := 8) (laidMet_of_run' 8 (by kernel_rfl) (by kernel_rfl)) (by kernel_rfl) (by kernel_rfl)

/-! ### Digests compared -/
theorem celB_cell {xs : List Nat} (h : ∀ x ∈ xs, x < 256) : celB xs = (xs.map UInt8.ofNat).map Extern.Stop.cell := by
  unfold celB
  rw [List.map_map]
  refine List.map_congr_left fun x hx => ?_
  have := h x hx
  show Value.int .u8 (x : Int) = Value.int .u8 ((UInt8.ofNat x).toNat : Int)
  rw [UInt8.toNat_ofNat', Nat.mod_eq_of_lt this]
theorem ofNat_inj {xs ys : List Nat} (hx : ∀ x ∈ xs, x < 256) (hy : ∀ y ∈ ys, y < 256) : (xs.map UInt8.ofNat == ys.map UInt8.ofNat) = decide (xs = ys) := by
  by_cases h : xs = ys
  · subst h
    simp
  · rw [decide_eq_false h]
    refine beq_false_of_ne fun e => h ?_
    have e2 := congrArg (List.map UInt8.toNat) e
    rw [List.map_map, List.map_map] at e2
    have key : ∀ (l : List Nat), (∀ x ∈ l, x < 256) → l.map (UInt8.toNat ∘ UInt8.ofNat) = l := fun l hl => by
      conv => rhs; rw [← List.map_id l]
      refine List.map_congr_left fun x hx => ?_
      show (UInt8.ofNat x).toNat = x
      rw [UInt8.toNat_ofNat', Nat.mod_eq_of_lt (hl x hx)]
    rwa [key xs hx, key ys hy] at e2
theorem run_eqD (w : World) (xs ys : List Nat) (hx : xs.length = 32) (hy : ys.length = 32) (bx : ∀ x ∈ xs, x < 256) (b2 : ∀ y ∈ ys, y < 256) :
    (binOp .eql 34 (.agg (celB xs).toArray) (.agg (celB ys).toArray)).run Tryd.prog w = .ok (.bool (decide (xs = ys))) w := by
  rw [celB_cell bx, celB_cell b2, run_eql_bytes w 34 5 32 Tryd.underlying34 Tryd.underlying5 (fun w => by kernel_rfl) _ _ (by rw [List.length_map, hx]) (by rw [List.length_map, hy]), ofNat_inj bx b2]
theorem run_eqD_same (xs : List Nat) (hx : xs.length = 32) (bx : ∀ x ∈ xs, x < 256) (w : World) :
    (binOp .eql 34 (.agg (celB xs).toArray) (.agg (celB xs).toArray)).run Tryd.prog w = .ok (.bool true) w := by
  rw [run_eqD w xs xs hx hx bx bx, decide_eq_true rfl]
end Go.Proofs.YtgkojdbepgonkaaDoor
