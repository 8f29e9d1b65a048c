/- Several texts in one: Kd, Ke, Qa. -/
import Derived.Test.YtopicjdmajlndaaDoorJ01
import Derived.Laws.CopyRow
import Derived.Laws.IdiomCopy
import Derived.Great.FillDense
import Derived.Great.BuildSlice
namespace Go.Proofs.YtopicjdmajlndaaDoor.K
set_option linter.unusedVariables false
set_option linter.unusedSimpArgs false
set_option linter.unusedSectionVars false
set_option maxRecDepth 8000
open Go.RowKit
section
variable {P : Program} {Q : Exit → Act → World → Prop}
/-- whose slot is t -/
def ownF (l : List Oper) (t : Nat) : Option Nat := l.findIdx? fun o => o.dst == some t
theorem ownF_spec {l : List Oper} {t j : Nat} (h : ownF l t = some j) : ∃ o, l[j]? = some o ∧ o.dst = some t := by
  unfold ownF at h
  obtain ⟨hl, hp, _⟩ := List.findIdx?_eq_some_iff_getElem.1 h
  exact ⟨_, List.getElem?_eq_getElem hl, by simpa using hp⟩
def dstOK (l : List Oper) (n : Nat) : Bool := l.zipIdx.all fun x => match x.1.dst with | some d => Nat.blt d n && (ownF l d == some x.2) | none => true
theorem dstOK_spec {l : List Oper} {n i : Nat} {o : Oper} {d : Tmp} (h : dstOK l n = true) (hi : l[i]? = some o) (hd : o.dst = some d) : d < n ∧ ownF l d = some i := by
  unfold dstOK at h
  have h1 := List.all_eq_true.1 h (o, i) (List.mem_zipIdx_iff_getElem?.2 hi)
  simp only [hd, Bool.and_eq_true] at h1
  exact ⟨Nat.lt_of_succ_le (Nat.le_of_ble_eq_true h1.1), by simpa using h1.2⟩
def depB (o : Oper) (k : Nat) : Bool := o.after.any fun e => Region.binds .any e && (e.on == k)
def depsOK (l : List Oper) : Bool := l.all fun o => o.op.operands.all fun x => match x with | .tmp t => (match ownF l t with | some j => depB o j | none => true) | _ => true
/-- the frame when the operations of m are done -/
def frameF (l : List Oper) (a0 : Act) (m : Nat → Bool) (vs : Nat → Value) : Act := { a0 with tmps := a0.tmps.mapIdx fun t x => match ownF l t with | some j => if m j then vs j else x | none => x }
theorem frameF_none {l : List Oper} {a0 : Act} {m : Nat → Bool} (hm : ∀ i, m i = false) (vs : Nat → Value) : frameF l a0 m vs = a0 := by
  unfold frameF
  have : (a0.tmps.mapIdx fun t x => match ownF l t with | some j => if m j then vs j else x | none => x) = a0.tmps := by
    refine Array.ext (by simp) fun i h1 h2 => ?_
    rw [Array.getElem_mapIdx]
    cases ownF l i with
    | none => rfl
    | some j => simp [hm]
  rw [this]
theorem frameF_put {l : List Oper} {a0 : Act} {m m' : Nat → Bool} {vs vs' : Nat → Value} {i : Nat} {o : Oper} {v : Value} (hd : dstOK l a0.tmps.size = true) (hi : l[i]? = some o) (hm : ∀ j, j ≠ i → m' j = m j) (hmi : m' i = true) (hv : ∀ j, j ≠ i → vs' j = vs j) (hvi : vs' i = v) :
    (frameF l a0 m vs).put o.dst v = frameF l a0 m' vs' := by
  cases hod : o.dst with
  | none =>
    have hne : ∀ t j, ownF l t = some j → j ≠ i := fun t j h e => by
      obtain ⟨o', h1, h2⟩ := ownF_spec h
      subst e
      rw [hi] at h1
      injection h1 with h1
      subst h1
      rw [hod] at h2
      cases h2
    show frameF l a0 m vs = _
    unfold frameF
    congr 1
    refine Array.ext (by simp) fun t h1 h2 => ?_
    rw [Array.getElem_mapIdx, Array.getElem_mapIdx]
    cases ho : ownF l t with
    | none => rfl
    | some j => simp [hm j (hne t j ho), hv j (hne t j ho)]
  | some d =>
    obtain ⟨hdn, hown⟩ := dstOK_spec hd hi hod
    have e : (a0.tmps.mapIdx fun t x => match ownF l t with | some j => if m j then vs j else x | none => x).setIfInBounds d v = a0.tmps.mapIdx fun t x => match ownF l t with | some j => if m' j then vs' j else x | none => x := by
      refine Array.ext_getElem? fun t => ?_
      rw [Array.getElem?_setIfInBounds, Array.getElem?_mapIdx, Array.getElem?_mapIdx]
      by_cases ht : d = t
      · subst ht
        simp [hown, hmi, hvi, hdn]
      · rw [if_neg ht]
        cases ho : ownF l t with
        | none => rfl
        | some j =>
          have hji : j ≠ i := fun e => by
            obtain ⟨o', h3, h4⟩ := ownF_spec ho
            subst e
            rw [hi] at h3
            injection h3 with h3
            subst h3
            rw [hod] at h4
            injection h4 with h4
            exact ht h4
          simp [hm j hji, hv j hji]
    exact congrArg (fun t => ({ a0 with tmps := t } : Act)) e
theorem frameF_eval {l : List Oper} {a0 : Act} {m m' : Nat → Bool} {vs : Nat → Value} {x : Operand} (h : ∀ t j, x = .tmp t → ownF l t = some j → m j = m' j) : (frameF l a0 m vs).eval x = (frameF l a0 m' vs).eval x := by
  cases x with
  | tmp t =>
    show (frameF l a0 m vs).tmps.getD t undef = (frameF l a0 m' vs).tmps.getD t undef
    unfold frameF
    have e : ∀ k : Nat → Bool, (a0.tmps.mapIdx fun t x => match ownF l t with | some j => if k j then vs j else x | none => x).getD t undef = match ownF l t with | some j => if k j then (if t < a0.tmps.size then vs j else undef) else a0.tmps.getD t undef | none => a0.tmps.getD t undef := fun k => by
      by_cases ht : t < a0.tmps.size
      · cases ho : ownF l t with
        | none => simp [Array.getD, ht, ho]
        | some j => simp [Array.getD, ht, ho]
      · cases ho : ownF l t with
        | none => simp [Array.getD, ht]
        | some j => simp [Array.getD, ht]
    rw [e m, e m']
    cases ho : ownF l t with
    | none => rfl
    | some j => simp only [h t j rfl ho]
  | _ => rfl
/-- the frame of the text's own order -/
def putsT (vs : Nat → Value) : List Oper → Nat → Act → Act
  | [], _, a => a
  | o :: l, k, a => putsT vs l (k + 1) (a.put o.dst (vs k))
theorem putsT_frame {l : List Oper} {a0 : Act} {vs : Nat → Value} (hd : dstOK l a0.tmps.size = true) : ∀ (r : List Oper) (k : Nat), (∀ j o, r[j]? = some o → l[k + j]? = some o) → putsT vs r k (frameF l a0 (fun j => decide (j < k)) vs) = frameF l a0 (fun j => decide (j < k + r.length)) vs
  | [], k, _ => rfl
  | o :: r, k, h => by
    have hk : l[k]? = some o := h 0 o rfl
    unfold putsT
    rw [frameF_put (m' := fun j => decide (j < k + 1)) (vs' := vs) hd hk (fun j hj => by simp only [decide_eq_decide]; omega) (by simp) (fun _ _ => rfl) rfl, putsT_frame hd r (k + 1) (fun j o' hj => by
      have := h (j + 1) o' (by simpa using hj)
      rwa [show k + 1 + j = k + (j + 1) by omega])]
    congr 1
    funext j
    simp only [List.length_cons, decide_eq_decide]
    omega
end
end Go.Proofs.YtopicjdmajlndaaDoor.K

namespace Go.Proofs.YtopicjdmajlndaaDoor.K
set_option linter.unusedVariables false
set_option linter.unusedSimpArgs false
set_option linter.unusedSectionVars false
open Go.RowKit
theorem heap_farRow {w : World} {g k : Nat} {o : Obj} (h : w.heap[g]? = some o) (e : g ≠ k) (cs : Array Value) : (w.setRow k cs).heap[g]? = some o := by
  simp [World.setRow, Array.getElem?_modify, Ne.symm e, h]
section
variable {ev : Operand → Value} {o : Oper}
end
end Go.Proofs.YtopicjdmajlndaaDoor.K

namespace Go.Proofs.YtopicjdmajlndaaDoor.K
set_option linter.unusedVariables false
set_option linter.unusedSimpArgs false
set_option linter.unusedSectionVars false
open Go.RowKit
open Go.RowKit
end Go.Proofs.YtopicjdmajlndaaDoor.K

namespace Go.Proofs.YtopicjdmajlndaaDoor.K
set_option linter.unusedVariables false
set_option linter.unusedSimpArgs false
set_option linter.unusedSectionVars false
open Go.RowKit
section
variable {P : Program} {Q : Exit → Act → World → Prop}
/-- one operation, a round of the caller's loop among them -/
def heldUponI (P : Program) (K : Value → World → Prop) : Result Next → Prop
  | .ok (.value u) w' => K u w'
  | .ok .skip w' => K undef w'
  | .ok (.enter f args) w' => Calls P f args w' (fun e w'' => ∃ v, e = .returned v ∧ K v w'')
  | .ok (.round l f tmps assign body) w' => RoundIn Fence.wide 1 P l f tmps assign body w' (fun e w'' => ∃ v, e = .returned v ∧ K v w'')
  | _ => False
def hOpI (P : Program) (o : Oper) (K : Value → World → Prop) (a : Act) (w : World) : Prop := heldUponI P K ((execOp a.eval o).run P w)
theorem hOpI_of {o : Oper} {K : Value → World → Prop} {a : Act} {w : World} (h : hOp P o K a w) : hOpI P o K a w := by
  unfold hOp at h
  unfold hOpI
  generalize (execOp a.eval o).run P w = r at *
  cases r with
  | ok n w' => cases n <;> simp only [heldUpon] at h <;> simp only [heldUponI] <;> exact h
  | halt x w' => exact h
theorem hOpI_mono {o : Oper} {K K' : Value → World → Prop} {a : Act} {w : World} (h : ∀ v w', K v w' → K' v w') (hh : hOpI P o K a w) : hOpI P o K' a w := by
  unfold hOpI at *
  generalize (execOp a.eval o).run P w = r at *
  cases r with
  | ok n w' =>
    cases n <;> simp only [heldUponI] at hh ⊢ <;> first | exact h _ _ hh | exact hh.mono fun _ _ ⟨v, he, hk⟩ => ⟨v, he, h _ _ hk⟩
  | halt x w' => exact hh
theorem wpOpIn_of_hOpI {ops : Array Oper} {i : Nat} {o : Oper} {K : Act → World → Prop} {a : Act} {w : World} (hi : ops[i]? = some o) (hg : o.guard = none) (h : hOpI P o (fun v w' => K (a.put o.dst v) w') a w) : wpOpIn Fence.wide 2 P ops Q i K a w := by
  unfold wpOpIn
  rw [hi]
  simp only [show Region.wanted o (yielded ops a.tmps) = true by unfold Region.wanted; rw [hg], if_true]
  refine ⟨fun _ _ => trivial, ?_⟩
  show Oper.uponIn Fence.wide 2 P o a K Q ((o.semAt none a.eval).run P w)
  rw [Oper.semAt_none]
  unfold hOpI at h
  generalize (execOp a.eval o).run P w = r at *
  cases r with
  | ok n w' =>
    cases n <;> simp only [heldUponI] at h <;> unfold Oper.uponIn
    case value u => exact h
    case skip => exact h
    case enter f args =>
      refine ⟨fun h => (by cases h), callsIn_wide.2 (h.mono ?_)⟩
      rintro e w2 ⟨v, rfl, hk⟩
      exact hk
    case round l f tmps assign body =>
      refine ⟨fun h => (by cases h), h.mono ?_⟩
      rintro e w2 ⟨v, rfl, hk⟩
      exact hk
  | halt x w' => exact h.elim
def setT (m : Nat → Bool) (i : Nat) : Nat → Bool := fun j => if j = i then true else m j
def setV (vs : Nat → Value) (i : Nat) (v : Value) : Nat → Value := fun j => if j = i then v else vs j
/-- what is done is done with all that it waits for -/
def ClosT (l : List Oper) (m : Nat → Bool) : Prop := ∀ j o, l[j]? = some o → m j = true → ∀ k, depB o k = true → m k = true
def oblM (P : Program) (l0 : List Oper) (I : (Nat → Bool) → (Nat → Value) → World → Prop) : List Oper → Nat → ((Nat → Value) → Act) → Prop
  | [], _, _ => True
  | o :: r, i, A => (∀ m vs W, ClosT l0 m → m i = false → (∀ k, depB o k = true → m k = true) → I m vs W → hOpI P o (fun v W' => I (setT m i) (setV vs i v) W') (A vs) W) ∧ oblM P l0 I r (i + 1) (fun vs => (A vs).put o.dst (vs i))
theorem oblM_get {l0 : List Oper} {I : (Nat → Bool) → (Nat → Value) → World → Prop} : ∀ (l : List Oper) (k : Nat) (A : (Nat → Value) → Act), oblM P l0 I l k A → ∀ i o, l[i]? = some o → ∀ m vs W, ClosT l0 m → m (k + i) = false → (∀ j, depB o j = true → m j = true) → I m vs W →
    hOpI P o (fun v W' => I (setT m (k + i)) (setV vs (k + i) v) W') (putsT vs (l.take i) k (A vs)) W
  | [], _, _, _, i, o, hi => by simp at hi
  | x :: r, k, A, h, 0, o, hi => by
    obtain rfl : x = o := by simpa using hi
    exact h.1
  | x :: r, k, A, h, i + 1, o, hi => by
    have := oblM_get r (k + 1) _ h.2 i o (by simpa using hi)
    rw [show k + (i + 1) = k + 1 + i by omega]
    exact this
theorem wpIn_freeM_any {I : (Nat → Bool) → (Nat → Value) → World → Prop} {a0 : Act} {l : List Oper} (hx : LexOK l.toArray) (hd : dstOK l a0.tmps.size = true) (hp : depsOK l = true) (hg : (l.all fun o => o.guard.isNone) = true) (ho : oblM P l I l 0 (fun _ => a0))
    (hext : ∀ m m' vs W, (∀ i, i < l.length → m i = m' i) → I m vs W → I m' vs W)
    (hfin : ∀ m vs W, (∀ i, i < l.length → m i = true) → I m vs W → Q .normal (putsT vs l 0 a0) W) : ∀ (fuel : Nat) (listed : Array Bool) (vs : Nat → Value) (W : World), listed.size = l.length → ((List.range l.length).filter fun i => !listed.getD i true).length ≤ fuel → ClosT l (fun j => listed.getD j false) → I (fun j => listed.getD j false) vs W →
    wpAnyIn Fence.wide 2 P .any l.toArray Q fuel listed (frameF l a0 (fun j => listed.getD j false) vs) W := by
  have h0 : frameF l a0 (fun j => decide (j < 0)) = fun _ => a0 := by funext vs; exact frameF_none (fun i => by simp) vs
  have hall : ∀ (listed : Array Bool), listed.size = l.length → Region.ready .any l.toArray listed = [] → ∀ j, j < l.length → listed.getD j false = true := fun listed hsz hr j => by
    induction j using Nat.strongRecOn with
    | _ j ih =>
      intro hj
      cases hl : listed.getD j false with
      | true => rfl
      | false =>
        have hmem : j ∈ Region.ready .any l.toArray listed := mem_ready.2 ⟨getD_in (by omega) hl, l[j], by simp [hj], fun e he hb => by
          have := hx.edge j l[j] (by simp [hj]) e he hb
          exact ih e.on this (by omega)⟩
        rw [hr] at hmem
        cases hmem
  have hend : ∀ (listed : Array Bool) (vs : Nat → Value) (W : World), listed.size = l.length → Region.ready .any l.toArray listed = [] → I (fun j => listed.getD j false) vs W → Q .normal (frameF l a0 (fun j => listed.getD j false) vs) W := fun listed vs W hsz hr hI => by
    have hA : frameF l a0 (fun j => listed.getD j false) vs = putsT vs l 0 a0 := by
      have h1 := putsT_frame (vs := vs) hd l 0 (fun j o h => by rwa [Nat.zero_add])
      rw [h0] at h1
      rw [h1, Nat.zero_add]
      refine congrArg (fun m => frameF l a0 m vs) ?_
      funext j
      by_cases hj : j < l.length
      · rw [hall listed hsz hr j hj, decide_eq_true hj]
      · rw [decide_eq_false hj]
        simp [show listed.size ≤ j by omega]
    rw [hA]
    exact hfin _ vs W (fun i hi => hall listed hsz hr i hi) hI
  intro fuel
  induction fuel with
  | zero =>
    intro listed vs W hsz hc hcl hI
    have hr : Region.ready .any l.toArray listed = [] := by
      refine List.eq_nil_iff_forall_not_mem.2 fun j hj => ?_
      obtain ⟨h1, o, h2, _⟩ := mem_ready.1 hj
      have hjl : j < l.length := by have := (Array.getElem?_eq_some_iff.1 h2).1; simpa using this
      have : j ∈ (List.range l.length).filter fun i => !listed.getD i true := List.mem_filter.2 ⟨List.mem_range.2 hjl, by rw [h1]; rfl⟩
      rw [List.eq_nil_of_length_eq_zero (Nat.le_zero.1 hc)] at this
      cases this
    exact wpAnyIn_done hr (hend listed vs W hsz hr hI) 0
  | succ fuel ih =>
    intro listed vs W hsz hc hcl hI
    by_cases hr : Region.ready .any l.toArray listed = []
    · exact wpAnyIn_done hr (hend listed vs W hsz hr hI) _
    · refine wpAnyIn_all rfl hr fun i hi => ?_
      obtain ⟨h1, o, h2, h3⟩ := mem_ready.1 hi
      have hil : i < l.length := by have := (Array.getElem?_eq_some_iff.1 h2).1; simpa using this
      have hlo : l[i]? = some o := by simpa using h2
      have hsel := Region.noSelect_spec hx.sel i o
      have hdep : ∀ j, depB o j = true → listed.getD j false = true := fun j hj => by
        unfold depB at hj
        obtain ⟨e, he, hb⟩ := Array.any_eq_true'.1 hj
        rw [Bool.and_eq_true] at hb
        obtain rfl : e.on = j := by simpa using hb.2
        exact h3 e he hb.1
      have hob := oblM_get l 0 _ ho i o hlo (fun j => listed.getD j false) vs W hcl (by rw [Nat.zero_add]; exact getD_both h1) hdep hI
      have hgo : o.guard = none := by
        have := List.all_eq_true.1 hg o (List.mem_of_getElem? hlo)
        simpa using this
      have hset : ∀ j, j < l.length → setT (fun j => listed.getD j false) i j = (listed.setIfInBounds i true).getD j false := fun j hj => by
        unfold setT
        by_cases e : j = i
        · subst e; simp [hsz, hil]
        · rw [if_neg e, getD_set_ne false (Ne.symm e)]
      refine wpOpIn_of_hOpI h2 hgo ?_
      have hfr : hOpI P o (fun v W' => I (setT (fun j => listed.getD j false) (0 + i)) (setV vs (0 + i) v) W') (frameF l a0 (fun j => listed.getD j false) vs) W := by
        unfold hOpI at hob ⊢
        have e2 : execOp (frameF l a0 (fun j => listed.getD j false) vs).eval o = execOp (putsT vs (l.take i) 0 a0).eval o := by
          refine execOp_congr o (fun cs b => hsel cs b h2) fun x hxm => ?_
          have e1 := putsT_frame (vs := vs) hd (l.take i) 0 (fun j o' h => by
            rw [Nat.zero_add]
            have hj : j < i := by have := (List.getElem?_eq_some_iff.1 h).1; rw [List.length_take] at this; omega
            rwa [List.getElem?_take_of_lt hj] at h)
          rw [h0] at e1
          rw [e1]
          refine frameF_eval fun t j hxt hown => ?_
          have hdp := List.all_eq_true.1 hp o (List.mem_of_getElem? hlo)
          have hdx := Array.all_eq_true_iff_forall_mem.1 hdp x hxm
          subst hxt
          simp only [hown] at hdx
          unfold depB at hdx
          obtain ⟨e, he, hb⟩ := Array.any_eq_true'.1 hdx
          rw [Bool.and_eq_true] at hb
          obtain rfl : e.on = j := by simpa using hb.2
          have hlt := hx.edge i o h2 e he hb.1
          rw [h3 e he hb.1, Nat.zero_add, List.length_take, Nat.min_eq_left (by omega), decide_eq_true hlt]
        rw [e2]
        exact hob
      refine hOpI_mono (fun v W' hk => ?_) hfr
      rw [Nat.zero_add] at hk
      rw [frameF_put (m' := fun j => (listed.setIfInBounds i true).getD j false) (vs' := setV vs i v) hd hlo (fun j hj => getD_set_ne false (Ne.symm hj)) (by simp [hsz, hil]) (fun j hj => by unfold setV; rw [if_neg hj]) (by unfold setV; rw [if_pos rfl])]
      refine ih _ _ W' (by simp [hsz]) ?_ (fun j o' hj hm k hk2 => ?_) (hext _ _ _ _ hset hk)
      · have hlt := filter_lt (fun j => !listed.getD j true) (fun j => !(listed.setIfInBounds i true).getD j true) (fun j hj => by
          by_cases e : i = j
          · subst e; rw [h1]; rfl
          · rwa [getD_set_ne true e] at hj) i (by rw [h1]; rfl) (by simp [hsz, hil]) (List.range l.length) (List.mem_range.2 hil)
        omega
      · have hjl := (List.getElem?_eq_some_iff.1 hj).1
        have hm : (listed.setIfInBounds i true).getD j false = true := hm
        rw [← hset j hjl] at hm
        unfold setT at hm
        refine getD_set_true ?_
        by_cases e : j = i
        · subst e
          rw [hlo] at hj
          injection hj with hj
          subst hj
          exact hdep k hk2
        · rw [if_neg e] at hm
          exact hcl j o' hj hm k hk2
theorem wpIn_freeM (I : (Nat → Bool) → (Nat → Value) → World → Prop) {id : Nat} {a0 : Act} {w : World} {l : List Oper} (hm : P.follows .mixedOrders = true) (hx : LexOK l.toArray) (hd : dstOK l a0.tmps.size = true) (hp : depsOK l = true) (hg : (l.all fun o => o.guard.isNone) = true) (hI : I (fun _ => false) (fun _ => undef) w.drew) (ho : oblM P l I l 0 (fun _ => a0))
    (hext : ∀ m m' vs W, (∀ i, i < l.length → m i = m' i) → I m vs W → I m' vs W)
    (hfin : ∀ m vs W, (∀ i, i < l.length → m i = true) → I m vs W → Q .normal (putsT vs l 0 a0) W) : (Code.region id l.toArray true).wpIn Fence.wide 2 P Q a0 w := by
  refine wpIn_region_any hm ?_
  have hf : (fun j => (Array.replicate l.toArray.size false).getD j false) = fun _ => false := funext fun i => getD_replicate_false _ _
  have h := wpIn_freeM_any (Q := Q) hx hd hp hg ho hext hfin l.length (Array.replicate l.toArray.size false) (fun _ => undef) w.drew (by simp) (Nat.le_trans (List.length_filter_le _ _) (by simp)) (by rw [hf]; intro j o _ hm; cases hm) (by rw [hf]; exact hI)
  rw [frameF_none (fun i => getD_replicate_false _ _)] at h
  simpa using h
end
end Go.Proofs.YtopicjdmajlndaaDoor.K

namespace Go.Proofs.YtopicjdmajlndaaDoor.K
set_option linter.unusedVariables false
set_option linter.unusedSimpArgs false
set_option linter.unusedSectionVars false
open Go.RowKit
end Go.Proofs.YtopicjdmajlndaaDoor.K

namespace Go.Proofs.YtopicjdmajlndaaDoor.K
set_option linter.unusedVariables false
set_option linter.unusedSimpArgs false
set_option linter.unusedSectionVars false
open Go.RowKit
theorem results_row_tmp {P : Program} {fn : Func} {p u : Tmp} {ty : TypeId} (h : fn.results = #[.cell p ty, .tmp u]) (tmps : Array Value) (w : World) (g : Nat) (t : TypeId) (cs : Array Value) (fr : Nat × Nat) (d : TypeDesc) (v : Value)
    (hp : tmps.getD p undef = .pointer (some ⟨g, 0, none⟩)) (hv : tmps.getD u undef = v) (hg : w.heap[g]? = some (.cells cs t fr))
    (hu : P.underlying ty = some d) (hd : (match d with | .struct _ | .array _ _ => true | _ => false) = true) (hi : (P.info? ty).map (·.size) = some cs.size) :
    (results fn tmps).run P w = .ok (.tuple #[.agg cs, v]) w := by
  rw [results_cell_tmp h, hp, hv]
  simp [asAddr, Result.andThen, run_loadVar_row w g t ty cs fr d hg hu hd hi]
end Go.Proofs.YtopicjdmajlndaaDoor.K

namespace Go.Proofs.YtopicjdmajlndaaDoor.K
set_option linter.unusedVariables false
set_option linter.unusedSimpArgs false
set_option linter.unusedSectionVars false
open Go.RowKit
section
variable {P : Program} {Q : Exit → Act → World → Prop} {ops : Array Oper}
/-- a call -/
theorem wpList_call {rest : List Oper} {o : Oper} {a : Act} {w : World} {fn : Func} (hw : Region.wanted o (yielded ops a.tmps) = true) (f : FuncId) (hf : P.funcs[f]? = some fn) (hname : (fn.name == "runtime.NumGoroutine") = false) (hb : fn.body.isNone = false) (args : Array Operand) (ts : Array TypeId) (vs : Array Value) (ho : o.op = .call { callee := .value (.func f), args := args, argTypes := ts })
    (hv : args.map a.eval = vs) (h : Calls P f vs w fun e w' => ∃ v, e = .returned v ∧ wpList P ops Q rest (a.put o.dst v) w') : wpList P ops Q (o :: rest) a w :=
  wpList_op hw (hOp_call f hf hname hb args ts vs ho hv h)
/-- what is made lies somewhere new -/
theorem wpList_mk {rest : List Oper} {o : Oper} {a : Act} {w : World} (hw : Region.wanted o (yielded ops a.tmps) = true) (cs : Array Value) (t : TypeId) (n c : Nat) (hr : (execOp a.eval o).run P w = .ok (.value (.slice (some ⟨w.heap.size, 0, none⟩) n c)) (w.alloc (.cells cs t)))
    (h : ∀ b W, w.heap.size ≤ b → W.heap[b]? = some (.cells cs t (0, 0)) → Below w.heap.size w W → wpList P ops Q rest (a.put o.dst (.slice (some ⟨b, 0, none⟩) n c)) W) : wpList P ops Q (o :: rest) a w :=
  wpList_run hw _ _ hr (h _ _ (Nat.le_refl _) (heap_new w _) ((Below.refl _ _).alloc (Nat.le_refl _) _))
/-- a new variable and its first store -/
theorem wpList_decl {rest : List Oper} {o1 o2 : Oper} {a : Act} {w : World} (z row : Array Value) (t : TypeId) (hw1 : Region.wanted o1 (yielded ops a.tmps) = true) (hr : (execOp a.eval o1).run P w = .ok (.value (ptr w.heap.size)) (w.alloc (.cells z t)))
    (hw2 : ∀ b, Region.wanted o2 (yielded ops (a.put o1.dst (ptr b)).tmps) = true) (hs : ∀ b W, W.heap[b]? = some (.cells z t (0, 0)) → (execOp (a.put o1.dst (ptr b)).eval o2).run P W = .ok .skip (W.setRow b row))
    (h : ∀ b W, w.heap.size ≤ b → W.heap[b]? = some (.cells row t (0, 0)) → Below w.heap.size w W → wpList P ops Q rest ((a.put o1.dst (ptr b)).put o2.dst undef) W) : wpList P ops Q (o1 :: o2 :: rest) a w := by
  refine wpList_run hw1 _ _ hr ?_
  refine wpList_run0 (hw2 _) _ (hs w.heap.size _ (heap_new w _)) ?_
  refine h _ _ (Nat.le_refl _) ?_ (bel_setRow ((Below.refl _ _).alloc (Nat.le_refl _) _) (Nat.le_refl _) _)
  have h0 := heap_new w (.cells z t)
  obtain ⟨hlt, hk⟩ := Array.getElem?_eq_some_iff.1 h0
  show ((w.alloc (.cells z t)).heap.modify w.heap.size _)[w.heap.size]? = _
  rw [Array.getElem?_eq_getElem (by rw [Array.size_modify]; exact hlt), Array.getElem_modify_self, hk]
end
section
variable {ev : Operand → Value} {o : Oper}
/-- the element of a list of byte lists -/
structure El (w : World) (ad : Addr) (i : Nat) (B : Option Addr) (m d : Nat) (p : List Nat) : Prop where
  cell : w.cell? (ad.add i) = some (.slice B m d)
  sb : Sb w B m d p
theorem El.keep {w w' : World} {ad : Addr} {i : Nat} {B : Option Addr} {m d : Nat} {p : List Nat} (h : El w ad i B m d p) (hb : Below w.heap.size w w') : El w' ad i B m d p := ⟨cell_keep h.cell hb, h.sb.keep hb⟩
end
end Go.Proofs.YtopicjdmajlndaaDoor.K

namespace Go.Proofs.YtopicjdmajlndaaDoor.K
set_option linter.unusedVariables false
set_option linter.unusedSimpArgs false
set_option linter.unusedSectionVars false
open Go.RowKit
section
variable {P : Program} {Q : Exit → Act → World → Prop} {ops : Array Oper}
theorem wpList_skip {rest : List Oper} {o : Oper} {a : Act} {w : World} (hw : Region.wanted o (yielded ops a.tmps) = false) (h : wpList P ops Q rest (a.put o.dst undef) w) : wpList P ops Q (o :: rest) a w := by
  unfold wpList
  rw [if_neg (by rw [hw]; simp)]
  exact h
end
section
variable {ev : Operand → Value} {o : Oper}
end
end Go.Proofs.YtopicjdmajlndaaDoor.K

namespace Go.Proofs.YtopicjdmajlndaaDoor.K
set_option linter.unusedVariables false
set_option linter.unusedSimpArgs false
set_option linter.unusedSectionVars false
open Go.RowKit
section
variable {I : World → Prop} {F : Nat → Value → World → Prop} {d N : Nat} {t : TypeId} {old : Array Value} {G : Array Value → World → Prop} {m m' : Nat → Bool} {vs : Nat → Value} {W W' : World}
end
section
variable {ev : Operand → Value} {o : Oper}
end
end Go.Proofs.YtopicjdmajlndaaDoor.K

namespace Go.Proofs.YtopicjdmajlndaaDoor.K
set_option linter.unusedVariables false
set_option linter.unusedSimpArgs false
set_option linter.unusedSectionVars false
open Go.RowKit
section
variable {ev : Operand → Value} {o : Oper}
end
theorem laterF {w0 v : World} (hv : ∃ x : Later w0, v = x.at) : Below w0.heap.size w0 v := by
  obtain ⟨x, rfl⟩ := hv
  exact x.below
end Go.Proofs.YtopicjdmajlndaaDoor.K

namespace Go.Proofs.YtopicjdmajlndaaDoor.K
set_option linter.unusedVariables false
set_option linter.unusedSimpArgs false
set_option linter.unusedSectionVars false
open Go.RowKit
open Go.RowKit
theorem later_bel {w v : World} (h : ∃ x : Later w, v = x.at) : Below w.heap.size w v := by obtain ⟨x, rfl⟩ := h; exact x.below
end Go.Proofs.YtopicjdmajlndaaDoor.K


namespace Go.Proofs.YtopicjdmajlndaaDoor.K
set_option linter.unusedVariables false
set_option linter.unusedSimpArgs false
set_option linter.unusedSectionVars false
set_option maxRecDepth 8000
open Go.RowKit
section
variable {P : Program} {ev : Operand → Value} {o : Oper} {w : World} {ty t : TypeId} {x y z : Operand}
theorem wrapI {z : Int} (h1 : -9223372036854775808 ≤ z) (h2 : z < 9223372036854775808) : IntKind.i64.wrap z = z := by rw [IntKind.wrap_i64]; omega
theorem xo_arith (b : BinOp) (k : IntKind) (u v r : Int) (hr : (Op.intArith b k u v).run P w = .ok (.int k r) w) (hb : b = .add ∨ b = .sub ∨ b = .mul) (ho : o.op = .binOp b ty x y t) (hx : ev x = .int k u) (hy : ev y = .int k v) :
    (execOp ev o).run P w = .ok (.value (.int k r)) w := by
  unfold execOp
  rcases hb with rfl | rfl | rfl <;> simp [ho, hx, hy, eqGuard, binOp, Sem.run_bind, hr]
theorem xo_add (k : IntKind) (u v r : Int) (h : k.wrap (u + v) = r) (ho : o.op = .binOp .add ty x y t) (hx : ev x = .int k u) (hy : ev y = .int k v) : (execOp ev o).run P w = .ok (.value (.int k r)) w :=
  xo_arith .add k u v r (by rw [← h]; rfl) (.inl rfl) ho hx hy
theorem xo_sub (k : IntKind) (u v r : Int) (h : k.wrap (u - v) = r) (ho : o.op = .binOp .sub ty x y t) (hx : ev x = .int k u) (hy : ev y = .int k v) : (execOp ev o).run P w = .ok (.value (.int k r)) w :=
  xo_arith .sub k u v r (by rw [← h]; rfl) (.inr (.inl rfl)) ho hx hy
theorem xo_mul (k : IntKind) (u v r : Int) (h : k.wrap (u * v) = r) (ho : o.op = .binOp .mul ty x y t) (hx : ev x = .int k u) (hy : ev y = .int k v) : (execOp ev o).run P w = .ok (.value (.int k r)) w :=
  xo_arith .mul k u v r (by rw [← h]; rfl) (.inr (.inr rfl)) ho hx hy
theorem xo_addI (u v r : Int) (h : u + v = r) (h1 : -9223372036854775808 ≤ r) (h2 : r < 9223372036854775808) (ho : o.op = .binOp .add ty x y t) (hx : ev x = .int .i64 u) (hy : ev y = .int .i64 v) : (execOp ev o).run P w = .ok (.value (.int .i64 r)) w :=
  xo_add _ u v r (by rw [h, wrapI h1 h2]) ho hx hy
theorem xo_subI (u v r : Int) (h : u - v = r) (h1 : -9223372036854775808 ≤ r) (h2 : r < 9223372036854775808) (ho : o.op = .binOp .sub ty x y t) (hx : ev x = .int .i64 u) (hy : ev y = .int .i64 v) : (execOp ev o).run P w = .ok (.value (.int .i64 r)) w :=
  xo_sub _ u v r (by rw [h, wrapI h1 h2]) ho hx hy
theorem xo_mulI (u v r : Int) (h : u * v = r) (h1 : -9223372036854775808 ≤ r) (h2 : r < 9223372036854775808) (ho : o.op = .binOp .mul ty x y t) (hx : ev x = .int .i64 u) (hy : ev y = .int .i64 v) : (execOp ev o).run P w = .ok (.value (.int .i64 r)) w :=
  xo_mul _ u v r (by rw [h, wrapI h1 h2]) ho hx hy
theorem xo_div (b : BinOp) (k : IntKind) (u v r : Int) (hv : v ≠ 0) (hb : (b = .quo ∧ k.wrap (u.tdiv v) = r) ∨ (b = .rem ∧ u.tmod v = r)) (ho : o.op = .binOp b ty x y t) (hx : ev x = .int k u) (hy : ev y = .int k v) :
    (execOp ev o).run P w = .ok (.value (.int k r)) w := by
  unfold execOp
  rcases hb with ⟨rfl, rfl⟩ | ⟨rfl, rfl⟩ <;> simp [ho, hx, hy, eqGuard, binOp, Sem.run_bind, Op.intDiv, hv]
theorem xo_remN (k : IntKind) (u v r : Nat) (hv : 1 ≤ v) (h : u % v = r) (ho : o.op = .binOp .rem ty x y t) (hx : ev x = .int k (u : Int)) (hy : ev y = .int k (v : Int)) : (execOp ev o).run P w = .ok (.value (.int k (r : Int))) w :=
  xo_div .rem k (u : Int) (v : Int) (r : Int) (by omega) (.inr ⟨rfl, by rw [Int.tmod_eq_emod_of_nonneg (by omega), ← h]; simp⟩) ho hx hy
theorem xo_shrN (k kk : IntKind) (u n r : Nat) (hn : n < k.bits) (h : u / 2 ^ n = r) (ho : o.op = .binOp .shr ty x y t) (hx : ev x = .int k (u : Int)) (hy : ev y = .int kk (n : Int)) : (execOp ev o).run P w = .ok (.value (.int k (r : Int))) w := by
  have e : (u : Int).fdiv (2 ^ n) = ((u / 2 ^ n : Nat) : Int) := by
    rw [Int.fdiv_eq_ediv_of_nonneg _ (by exact Int.le_of_lt (Int.pow_pos (by decide)))]
    simp
  have hm : min (n : Int).toNat k.bits = n := by rw [Int.toNat_natCast]; omega
  have hs : (Op.shift .shr k (u : Int) kk (n : Int)).run P w = .ok (.int k (r : Int)) w := by
    unfold Op.shift
    rw [if_neg (by omega), hm]
    show (Pure.pure (Value.int k ((u : Int).fdiv (2 ^ n))) : Sem Value).run P w = _
    rw [e, h]
    rfl
  unfold execOp
  simp [ho, hx, hy, eqGuard, binOp, Sem.run_bind, hs]
theorem xo_cmp (b : BinOp) (k : IntKind) (u v : Int) (r : Bool) (hr : (b = .eql ∧ (u == v) = r) ∨ (b = .neq ∧ (u != v) = r) ∨ (b = .lss ∧ decide (u < v) = r) ∨ (b = .leq ∧ decide (u ≤ v) = r) ∨ (b = .gtr ∧ decide (u > v) = r) ∨ (b = .geq ∧ decide (u ≥ v) = r))
    (ho : o.op = .binOp b ty x y t) (hx : ev x = .int k u) (hy : ev y = .int k v) : (execOp ev o).run P w = .ok (.value (.bool r)) w := by
  unfold execOp
  rcases hr with ⟨rfl, rfl⟩ | ⟨rfl, rfl⟩ | ⟨rfl, rfl⟩ | ⟨rfl, rfl⟩ | ⟨rfl, rfl⟩ | ⟨rfl, rfl⟩ <;> simp [ho, hx, hy, eqGuard, binOp, Sem.run_bind, Op.intCmp]
theorem xo_eqlT (k : IntKind) (u v : Int) (h : u = v) (ho : o.op = .binOp .eql ty x y t) (hx : ev x = .int k u) (hy : ev y = .int k v) : (execOp ev o).run P w = .ok (.value (.bool true)) w := xo_cmp _ k u v _ (.inl ⟨rfl, by simp [h]⟩) ho hx hy
theorem xo_eqlF (k : IntKind) (u v : Int) (h : u ≠ v) (ho : o.op = .binOp .eql ty x y t) (hx : ev x = .int k u) (hy : ev y = .int k v) : (execOp ev o).run P w = .ok (.value (.bool false)) w := xo_cmp _ k u v _ (.inl ⟨rfl, by simp [h]⟩) ho hx hy
theorem xo_neqT (k : IntKind) (u v : Int) (h : u ≠ v) (ho : o.op = .binOp .neq ty x y t) (hx : ev x = .int k u) (hy : ev y = .int k v) : (execOp ev o).run P w = .ok (.value (.bool true)) w := xo_cmp _ k u v _ (.inr (.inl ⟨rfl, by simp [h]⟩)) ho hx hy
theorem xo_neqF (k : IntKind) (u v : Int) (h : u = v) (ho : o.op = .binOp .neq ty x y t) (hx : ev x = .int k u) (hy : ev y = .int k v) : (execOp ev o).run P w = .ok (.value (.bool false)) w := xo_cmp _ k u v _ (.inr (.inl ⟨rfl, by simp [h]⟩)) ho hx hy
theorem xo_lssT (k : IntKind) (u v : Int) (h : u < v) (ho : o.op = .binOp .lss ty x y t) (hx : ev x = .int k u) (hy : ev y = .int k v) : (execOp ev o).run P w = .ok (.value (.bool true)) w := xo_cmp _ k u v _ (.inr (.inr (.inl ⟨rfl, decide_eq_true h⟩))) ho hx hy
theorem xo_lssF (k : IntKind) (u v : Int) (h : ¬ u < v) (ho : o.op = .binOp .lss ty x y t) (hx : ev x = .int k u) (hy : ev y = .int k v) : (execOp ev o).run P w = .ok (.value (.bool false)) w := xo_cmp _ k u v _ (.inr (.inr (.inl ⟨rfl, decide_eq_false h⟩))) ho hx hy
theorem xo_leqT (k : IntKind) (u v : Int) (h : u ≤ v) (ho : o.op = .binOp .leq ty x y t) (hx : ev x = .int k u) (hy : ev y = .int k v) : (execOp ev o).run P w = .ok (.value (.bool true)) w := xo_cmp _ k u v _ (.inr (.inr (.inr (.inl ⟨rfl, decide_eq_true h⟩)))) ho hx hy
theorem xo_leqF (k : IntKind) (u v : Int) (h : ¬ u ≤ v) (ho : o.op = .binOp .leq ty x y t) (hx : ev x = .int k u) (hy : ev y = .int k v) : (execOp ev o).run P w = .ok (.value (.bool false)) w := xo_cmp _ k u v _ (.inr (.inr (.inr (.inl ⟨rfl, decide_eq_false h⟩)))) ho hx hy
theorem xo_gtrT (k : IntKind) (u v : Int) (h : u > v) (ho : o.op = .binOp .gtr ty x y t) (hx : ev x = .int k u) (hy : ev y = .int k v) : (execOp ev o).run P w = .ok (.value (.bool true)) w := xo_cmp _ k u v _ (.inr (.inr (.inr (.inr (.inl ⟨rfl, decide_eq_true h⟩))))) ho hx hy
theorem xo_gtrF (k : IntKind) (u v : Int) (h : ¬ u > v) (ho : o.op = .binOp .gtr ty x y t) (hx : ev x = .int k u) (hy : ev y = .int k v) : (execOp ev o).run P w = .ok (.value (.bool false)) w := xo_cmp _ k u v _ (.inr (.inr (.inr (.inr (.inl ⟨rfl, decide_eq_false h⟩))))) ho hx hy
theorem xo_geqT (k : IntKind) (u v : Int) (h : u ≥ v) (ho : o.op = .binOp .geq ty x y t) (hx : ev x = .int k u) (hy : ev y = .int k v) : (execOp ev o).run P w = .ok (.value (.bool true)) w := xo_cmp _ k u v _ (.inr (.inr (.inr (.inr (.inr ⟨rfl, decide_eq_true h⟩))))) ho hx hy
theorem xo_geqF (k : IntKind) (u v : Int) (h : ¬ u ≥ v) (ho : o.op = .binOp .geq ty x y t) (hx : ev x = .int k u) (hy : ev y = .int k v) : (execOp ev o).run P w = .ok (.value (.bool false)) w := xo_cmp _ k u v _ (.inr (.inr (.inr (.inr (.inr ⟨rfl, decide_eq_false h⟩))))) ho hx hy
theorem xo_cvt {src dst : TypeId} (k1 k : IntKind) (u r : Int) (h : k.wrap u = r) (hu : P.underlying dst = some (.int k)) (hs : P.underlying src = some (.int k1)) (ho : o.op = .convert src dst x) (hx : ev x = .int k1 u) : (execOp ev o).run P w = .ok (.value (.int k r)) w := by
  unfold execOp
  simp only [ho, hx, convert, Sem.run_bind]
  rw [run_underlying hs, Result.andThen_ok, run_underlying hu, Result.andThen_ok]
  simp only [Conv.intToInt, h]
  rfl
theorem xo_not (b : Bool) (ho : o.op = .unOp .not t x) (hx : ev x = .bool b) : (execOp ev o).run P w = .ok (.value (.bool !b)) w := by
  unfold execOp
  simp [ho, hx, Op.unary, Sem.run_bind]
theorem xo_len {e : TypeId} (A : Option Addr) (n c : Nat) (hu : P.underlying ty = some (.slice e)) (ho : o.op = .call { callee := .builtin .len, args := #[x], argTypes := #[ty] }) (hx : ev x = .slice A n c) : (execOp ev o).run P w = .ok (.value (.int .i64 (n : Int))) w := by
  unfold execOp
  simp only [ho, resolve, invoke, builtin, Builtin.len_, Sem.run_bind, Sem.run_pure, Result.andThen_ok, List.map_toArray, List.map_cons, List.map_nil, hx, List.getElem?_toArray, List.getElem?_cons_zero]
  rw [run_underlying hu, Result.andThen_ok]
  rfl
theorem xo_field (i g off : Nat) (fs : Array Field) (f : Field) (inf : TypeInfo) (hu : P.underlying ty = some (.struct fs)) (hf : fs[i]? = some f) (hi : P.info? f.type = some inf) (hs : inf.size ≠ 0) (ho : o.op = .fieldAddr ty x i) (hx : ev x = .pointer (some ⟨g, off, none⟩)) :
    (execOp ev o).run P w = .ok (.value (.pointer (some ⟨g, off + f.offset, none⟩))) w := by
  have hz : (sizeOf f.type).run P w = .ok inf.size w := by simp [sizeOf, typeInfo, Sem.run_bind, hi]
  unfold execOp
  simp only [ho, hx, Instr.fieldAt, Sem.run_bind]
  rw [run_underlying hu, Result.andThen_ok]
  simp only [hf, Sem.run_bind, Instr.sureAddr, Sem.run_pure, Result.andThen_ok, fieldPlace]
  rw [hz, Result.andThen_ok, if_neg hs]
  simp [Addr.add_mid]
/-- the field's place, as the program lays it out -/
def fldOK (P : Program) (ty : TypeId) (i j : Nat) : Bool :=
  match P.underlying ty with
  | some (.struct fs) => (match fs[i]? with
    | some f => f.offset == j && (match P.info? f.type with
      | some inf => inf.size != 0
      | none => false)
    | none => false)
  | _ => false
theorem xo_fld (i g off j : Nat) (h : fldOK P ty i j = true) (ho : o.op = .fieldAddr ty x i) (hx : ev x = .pointer (some ⟨g, off, none⟩)) : (execOp ev o).run P w = .ok (.value (.pointer (some ⟨g, off + j, none⟩))) w := by
  unfold fldOK at h
  split at h
  · rename_i fs hu
    split at h
    · rename_i f hf
      simp only [Bool.and_eq_true, beq_iff_eq] at h
      obtain ⟨rfl, h⟩ := h
      split at h
      · rename_i inf hi
        exact xo_field i g off fs f inf hu hf hi (by simpa using h) ho hx
      · cases h
    · cases h
  · cases h
theorem xo_fld0 (i g j : Nat) (h : fldOK P ty i j = true) (ho : o.op = .fieldAddr ty x i) (hx : ev x = .pointer (some ⟨g, 0, none⟩)) : (execOp ev o).run P w = .ok (.value (.pointer (some ⟨g, j, none⟩))) w := by
  have := xo_fld (w := w) i g 0 j h ho hx
  rw [Nat.zero_add] at this
  exact this
theorem xo_index {e : TypeId} (k : IntKind) (ad : Addr) (n c i s : Nat) (hi : i < n) (hu : P.underlying ty = some (.slice e)) (hs : (P.info? e).map (·.size) = some s) (ho : o.op = .indexAddr ty x y) (hx : ev x = .slice (some ad) n c) (hy : ev y = .int k (i : Int)) :
    (execOp ev o).run P w = .ok (.value (.pointer (some (ad.add (i * s))))) w := by
  cases hq : P.info? e with
  | none => simp [hq] at hs
  | some inf =>
    have hz : (sizeOf e).run P w = .ok s w := by simp [sizeOf, typeInfo, Sem.run_bind, hq]; simpa [hq] using hs
    unfold execOp
    simp only [ho, hx, hy, Instr.indexAt, asIntOf, Sem.run_bind, Sem.run_pure, Result.andThen_ok]
    rw [run_underlying hu, Result.andThen_ok]
    simp only [Sem.run_bind, Sem.run_pure, Result.andThen_ok]
    rw [run_underlying hu, Result.andThen_ok]
    simp only [Sem.run_bind, Sem.run_pure, Result.andThen_ok]
    rw [if_pos (by omega), Sem.run_bind, hz]
    simp
theorem xo_index1 {e : TypeId} (k : IntKind) (ad : Addr) (n c i : Nat) (hi : i < n) (hu : P.underlying ty = some (.slice e)) (hs : (P.info? e).map (·.size) = some 1) (ho : o.op = .indexAddr ty x y) (hx : ev x = .slice (some ad) n c) (hy : ev y = .int k (i : Int)) :
    (execOp ev o).run P w = .ok (.value (.pointer (some (ad.add i)))) w := by
  have h := xo_index (w := w) k ad n c i 1 hi hu hs ho hx hy
  rw [Nat.mul_one] at h
  exact h
theorem xo_load1 {d : TypeDesc} (a : Addr) (v : Value) (hc : w.cell? a = some v) (hu : P.underlying ty = some d) (hd : (match d with | .struct _ | .array _ _ => true | _ => false) = false) (ho : o.op = .load ty x) (hx : ev x = .pointer (some a)) : (execOp ev o).run P w = .ok (.value v) w := by
  unfold execOp
  simp only [ho, hx, Instr.loadAt, Instr.sureAddr, loadVar, Sem.run_bind, Sem.run_pure, Result.andThen_ok]
  rw [run_isAgg_plain hu hd]
  simp [hc]
theorem xo_loadR {d : TypeDesc} (b off : Nat) (cs : List Value) (hc : w.rangeAt b off cs) (hu : P.underlying ty = some d) (hd : d.isRow = true) (hi : (P.info? ty).map (·.size) = some cs.length) (ho : o.op = .load ty x) (hx : ev x = .pointer (some ⟨b, off, none⟩)) :
    (execOp ev o).run P w = .ok (.value (.agg cs.toArray)) w := by
  unfold execOp
  simp only [ho, hx, Sem.run_bind]
  rw [run_loadAt_mid w b off ty cs d hc hu hd hi]
  rfl
theorem xo_loadW {d : TypeDesc} {tt : TypeId} (g : Nat) (cs : Array Value) (hc : w.heap[g]? = some (.cells cs tt (0, 0))) (hu : P.underlying ty = some d) (hd : (match d with | .struct _ | .array _ _ => true | _ => false) = true) (hi : (P.info? ty).map (·.size) = some cs.size) (ho : o.op = .load ty x) (hx : ev x = .pointer (some ⟨g, 0, none⟩)) :
    (execOp ev o).run P w = .ok (.value (.agg cs)) w := by
  unfold execOp
  simp only [ho, hx, Instr.loadAt, Instr.sureAddr, Sem.run_bind, Sem.run_pure, Result.andThen_ok]
  rw [run_loadVar_row w g tt ty cs (0, 0) d hc hu hd hi]
  rfl
theorem xo_storeW {tt : TypeId} (g : Nat) (old cs : Array Value) (hc : w.heap[g]? = some (.cells old tt (0, 0))) (hi : (P.info? ty).map (·.size) = some cs.size) (hl : old.size = cs.size) (h1 : cs.all (·.oneCell') = true) (ho : o.op = .store ty x y) (hx : ev x = .pointer (some ⟨g, 0, none⟩)) (hy : ev y = .agg cs) :
    (execOp ev o).run P w = .ok .skip (w.setRow g cs) := by
  unfold execOp
  simp only [ho, hx, hy, Instr.storeAt, Instr.sureAddr, Sem.run_bind, Sem.run_pure, Result.andThen_ok]
  rw [run_storeVar_row w g tt ty old cs hc hi hl h1]
  rfl
theorem setCell_row (w : World) (g i : Nat) (cs : Array Value) (tt : TypeId) (fr : Nat × Nat) (v : Value) (hg : w.heap[g]? = some (.cells cs tt fr)) : (w.setCell ⟨g, i, none⟩ v).heap[g]? = some (.cells (cs.setIfInBounds i v) tt fr) := heap_setCell_at hg v
theorem xo_store1 {tt : TypeId} (g i : Nat) (cs : Array Value) (u v : Value) (hg : w.heap[g]? = some (.cells cs tt (0, 0))) (hi : cs[i]? = some u) (hz : (P.info? ty).map (·.size) = some 1) (h1 : v.oneCell' = true) (ho : o.op = .store ty x y) (hx : ev x = .pointer (some ⟨g, i, none⟩)) (hy : ev y = v) :
    (execOp ev o).run P w = .ok .skip (w.setCell ⟨g, i, none⟩ v) := by
  have hc : w.cell? ⟨g, i, none⟩ = some u := by rw [cell_of_row w g i cs tt (0, 0) hg]; exact hi
  have hfz : w.frozen? ⟨g, i, none⟩ = false := by simp [World.frozen?, hg]
  have hcell : v.cells = #[v] := by cases v <;> first | rfl | simp [Value.oneCell'] at h1
  cases hq : P.info? ty with
  | none => simp [hq] at hz
  | some inf =>
    have hs : inf.size = 1 := by simpa [hq] using hz
    unfold execOp
    simp only [ho, hx, hy, Instr.storeAt, Instr.sureAddr, Sem.run_bind, Sem.run_pure, Result.andThen_ok, storeVar, sizeOf, typeInfo, run_program, hq, hs, hcell]
    have ha : (⟨g, i, none⟩ : Addr).add 0 = ⟨g, i, none⟩ := by rw [Addr.add_mid, Nat.add_zero]
    simp [storeCells, Sem.run_bind, run_store P w _ v _ h1, ha, hc, hfz]
theorem xo_alloc (cs : Array Value) (hz : (zeroValue ty).run P w = .ok (.agg cs) w) (ho : o.op = .alloc ty) : (execOp ev o).run P w = .ok (.value (.pointer (some ⟨w.heap.size, 0, none⟩))) (w.alloc (.cells cs ty)) := by
  unfold execOp
  simp [ho, Instr.alloc, Sem.run_bind, hz, newVar, newRow, Value.cells]
theorem xo_alloc1 (v : Value) (h1 : v.oneCell' = true) (hz : (zeroValue ty).run P w = .ok v w) (ho : o.op = .alloc ty) : (execOp ev o).run P w = .ok (.value (.pointer (some ⟨w.heap.size, 0, none⟩))) (w.alloc (.cells #[v] ty)) := by
  have hcell : v.cells = #[v] := by cases v <;> first | rfl | simp [Value.oneCell'] at h1
  unfold execOp
  simp [ho, Instr.alloc, Sem.run_bind, hz, newVar, newRow, hcell]
end
end Go.Proofs.YtopicjdmajlndaaDoor.K

namespace Go.Proofs.YtopicjdmajlndaaDoor.K
set_option linter.unusedVariables false
set_option linter.unusedSimpArgs false
set_option linter.unusedSectionVars false
open Go.RowKit
section
variable {P : Program} {Q : Exit → Act → World → Prop} {ops : Array Oper}
theorem xp_lt {w : World} {g : Nat} {o : Obj} (h : w.heap[g]? = some o) : g < w.heap.size := (Array.getElem?_eq_some_iff.1 h).1
theorem xp_lt0 {w : World} {g : Nat} {b : Nat} {o : Obj} (h : w.heap[g]? = some o) (hb : w.heap.size ≤ b) : g ≠ b := Nat.ne_of_lt (Nat.lt_of_lt_of_le (xp_lt h) hb)
/-- a new variable, before its first store -/
theorem wpList_new {rest : List Oper} {o : Oper} {a : Act} {w : World} (z : Array Value) (t : TypeId) (hw : Region.wanted o (yielded ops a.tmps) = true) (hr : (execOp a.eval o).run P w = .ok (.value (.pointer (some ⟨w.heap.size, 0, none⟩))) (w.alloc (.cells z t)))
    (h : ∀ b W, w.heap.size ≤ b → W.heap[b]? = some (.cells z t (0, 0)) → Below w.heap.size w W → wpList P ops Q rest (a.put o.dst (.pointer (some ⟨b, 0, none⟩))) W) : wpList P ops Q (o :: rest) a w :=
  wpList_run hw _ _ hr (h _ _ (Nat.le_refl _) (heap_new w _) ((Below.refl _ _).alloc (Nat.le_refl _) _))
/-- a store of a whole row -/
theorem wpList_storeW {rest : List Oper} {o : Oper} {a : Act} {w : World} (g : Nat) (old row : Array Value) (t : TypeId) (hw : Region.wanted o (yielded ops a.tmps) = true) (hg : w.heap[g]? = some (.cells old t (0, 0))) (hr : (execOp a.eval o).run P w = .ok .skip (w.setRow g row))
    (h : ∀ W, W.heap[g]? = some (.cells row t (0, 0)) → (∀ k o, k ≠ g → w.heap[k]? = some o → W.heap[k]? = some o) → (∀ B v0, B ≤ g → Below B v0 w → Below B v0 W) → W.heap.size = w.heap.size → wpList P ops Q rest (a.put o.dst undef) W) : wpList P ops Q (o :: rest) a w := by
  refine wpList_run0 hw _ hr (h _ ?_ (fun k o hk h0 => ?_) (fun B v0 hB hb => bel_setRow hb hB _) (by simp [World.setRow]))
  · simp [World.setRow, Array.getElem?_modify, hg]
  · simp [World.setRow, Array.getElem?_modify, Ne.symm hk, h0]
/-- a store of one cell -/
theorem wpList_store1 {rest : List Oper} {o : Oper} {a : Act} {w : World} (g i : Nat) (cs : Array Value) (v : Value) (t : TypeId) (hw : Region.wanted o (yielded ops a.tmps) = true) (hg : w.heap[g]? = some (.cells cs t (0, 0))) (hr : (execOp a.eval o).run P w = .ok .skip (w.setCell ⟨g, i, none⟩ v))
    (h : ∀ W, W.heap[g]? = some (.cells (cs.setIfInBounds i v) t (0, 0)) → (∀ k o, k ≠ g → w.heap[k]? = some o → W.heap[k]? = some o) → (∀ B v0, B ≤ g → Below B v0 w → Below B v0 W) → W.heap.size = w.heap.size → wpList P ops Q rest (a.put o.dst undef) W) : wpList P ops Q (o :: rest) a w := by
  refine wpList_run0 hw _ hr (h _ (setCell_row w g i cs t (0, 0) v hg) (fun k o hk h0 => ?_) (fun B v0 hB hb => hb.setCell hB _) (by simp [World.setCell]))
  exact (Below.heap_setCell w _ _ k hk).trans h0
end
end Go.Proofs.YtopicjdmajlndaaDoor.K

namespace Go.Proofs.YtopicjdmajlndaaDoor.K
set_option linter.unusedVariables false
set_option linter.unusedSimpArgs false
set_option linter.unusedSectionVars false
open Go.RowKit
section
variable {P : Program} {ev : Operand → Value} {o : Oper} {w : World} {ty e : TypeId} {x y : Operand}
end
/-- m elements of so many cells each, read behind an address (none, if there are none) -/
structure SrcC (w : World) (A : Option Addr) (m size : Nat) (cs : List Value) : Prop where
  len : cs.length = m * size
  nil : A = none → m = 0
  cell : ∀ j u, cs[j]? = some u → ∃ ad, A = some ad ∧ w.cell? (ad.add j) = some u
  one : ∀ u ∈ cs, u.oneCell' = true
theorem SrcC.keep {w w' : World} {A : Option Addr} {m size : Nat} {cs : List Value} (h : SrcC w A m size cs) (hb : Below w.heap.size w w') : SrcC w' A m size cs :=
  ⟨h.len, h.nil, fun j u hj => by obtain ⟨ad, e, hc⟩ := h.cell j u hj; exact ⟨ad, e, cell_keep hc hb⟩, h.one⟩
section
variable {P : Program} {w w' : World} {base : Nat} {e : TypeId} {size n : Nat} {v : Value} {cs : List Value}
theorem own_keep (h : w.ownsRow base e size v n cs) (hb : Below w.heap.size w w') : w'.ownsRow base e size v n cs := by
  refine ⟨h.1, ?_⟩
  rcases h.2 with hn | ⟨g, cap, cur, rfl, hbs, hgg, rest⟩
  · exact .inl hn
  · exact .inr ⟨g, cap, cur, rfl, hbs, heap_keep hgg hb, rest⟩
theorem own_form (h : w.ownsRow base e size v n cs) : ∃ A c, v = .slice A n c := by
  rcases h.2 with ⟨rfl, rfl⟩ | ⟨g, cap, cur, rfl, _⟩ <;> exact ⟨_, _, rfl⟩
theorem own_below (h : w.ownsRow base e size v n cs) (hg : w.grownBy w' v.ownBlock) (hbase : base ≤ w.heap.size) : Below base w w' :=
  ⟨hg.os, hg.tape, hg.output, hg.size, fun k hk => hg.block k (by omega) (fun he => by
    rcases h.2 with ⟨rfl, _⟩ | ⟨g, cap, cur, rfl, hbs, _⟩
    · cases he
    · simp only [Value.ownBlock] at he
      injection he with he
      omega)⟩
/-- a new empty slice -/
theorem own_new {b : Nat} (h : w.heap[b]? = some (.cells #[] e (0, 0))) (hb : base ≤ b) : w.ownsRow base e size (.slice (some ⟨b, 0, none⟩) 0 0) 0 [] :=
  ⟨by simp, .inr ⟨b, 0, #[], rfl, hb, h, Nat.le_refl _, Nat.zero_le _, by simp, by simp⟩⟩
theorem xo_empty {ev : Operand → Value} {o : Oper} {t : TypeId} (hu : P.underlying t = some (.slice e)) (hs : (P.info? e).map (·.size) = some size) (ho : o.op = .buildSlice t 0 #[]) (w : World) :
    (execOp ev o).run P w = .ok (.value (.slice (some ⟨w.heap.size, 0, none⟩) 0 0)) (w.alloc (.cells #[] e)) := by
  cases hq : P.info? e with
  | none => simp [hq] at hs
  | some inf =>
    unfold execOp
    simp only [ho, Instr.buildSlice, Sem.run_bind, List.map_toArray, List.map_nil]
    rw [run_underlying hu, Result.andThen_ok]
    have h0 : ∀ f : Nat → Value, Array.map f (Array.range 0) = #[] := fun f => by apply Array.ext' ; simp
    simp [sizeOf, typeInfo, hq, Instr.fill, newRow, Sem.run_bind, h0]
/-- two slices in different blocks -/
def ApartV (u v : Value) : Prop := ∀ k, u.ownBlock = some k → v.ownBlock ≠ some k
theorem ApartV.symm {u v : Value} (h : ApartV u v) : ApartV v u := fun k hk e => h k e hk
theorem own_mono {base' : Nat} (h : w.ownsRow base e size v n cs) (hb : base' ≤ base) : w.ownsRow base' e size v n cs :=
  ⟨h.1, h.2.elim .inl fun ⟨g, cap, cur, h1, h2, h3⟩ => .inr ⟨g, cap, cur, h1, Nat.le_trans hb h2, h3⟩⟩
/-- what is grown lies elsewhere -/
theorem own_other {u : Value} (h : w.ownsRow base e size v n cs) (hg : w.grownBy w' u.ownBlock) (ha : ApartV u v) : w'.ownsRow base e size v n cs := by
  have hlt := World.ownsRow.lt h
  refine ⟨h.1, ?_⟩
  rcases h.2 with hn | ⟨g, cap, cur, rfl, hbs, hgg, rest⟩
  · exact .inl hn
  · refine .inr ⟨g, cap, cur, rfl, hbs, ?_, rest⟩
    have h1 := hlt g rfl
    exact (hg.block g h1.2 (fun e => ha g e.symm rfl)).trans hgg
theorem ApartV.grow {u u' : Value} (ha : ApartV u v) (hw : ∀ k, u'.ownBlock = some k → u.ownBlock = some k ∨ w.heap.size ≤ k) (h : w.ownsRow base e size v n cs) : ApartV u' v := fun k hk e => by
  rcases hw k hk with h1 | h1
  · exact ha k h1 e
  · have := (World.ownsRow.lt h k e).2
    omega
theorem ApartV.new {b m c : Nat} (h : w.ownsRow base e size v n cs) (hb : w.heap.size ≤ b) : ApartV v (.slice (some ⟨b, 0, none⟩) m c) := fun k hk e => by
  have := (World.ownsRow.lt h k hk).2
  simp only [Value.ownBlock] at e
  injection e with e
  omega
theorem hOp_app {o : Oper} {a : Act} {K : Value → World → Prop} (s x : Operand) (t : TypeId) (ho : o.op = .call { callee := .builtin .append, args := #[s, x], argTypes := #[t, t] })
    (z : Value) (bytes : Nat) (ht : P.underlying t = some (.slice e)) (hinf : (P.info? e).map (fun i => (i.zero, i.size, i.bytes)) = some (some z, size, bytes)) (hzs : z.cells.size = size) (hsz : 0 < size)
    (hs : a.eval s = v) (hown : w.ownsRow base e size v n cs) (A : Option Addr) (m c : Nat) (ds : List Value) (hx : a.eval x = .slice A m c) (hd : SrcC w A m size ds) (h63 : n + m ≤ maxLen) (hbytes : (n + m) * bytes ≤ 140737488355328) (hbase : base ≤ w.heap.size)
    (h : ∀ v' w', w'.ownsRow base e size v' (n + m) (cs ++ ds) → w.grownBy w' v.ownBlock → (∀ k, v'.ownBlock = some k → v.ownBlock = some k ∨ w.heap.size ≤ k) → K v' w') : hOp P o K a w := by
  obtain ⟨i, hi, hz, hsize, hby⟩ := info_parts hinf
  cases A with
  | some ad =>
    have hnews : ∀ j u, ds[j]? = some u → w.cell? (ad.add j) = some u := fun j u hj => by
      obtain ⟨ad', e, hc⟩ := hd.cell j u hj
      injection e with e
      subst e
      exact hc
    obtain ⟨v', w', hr, h2, h3, _⟩ := run_append_own (P := P) w base t o.type e i z size bytes ht hi hz hsize hby hzs hsz v n cs hown ad m c ds hd.len hnews hd.one h63 hbytes hbase
    have hw : ∀ k, v'.ownBlock = some k → v.ownBlock = some k ∨ w.heap.size ≤ k := by
      intro k hk
      rcases hown.2 with ⟨rfl, rfl⟩ | ⟨g1, cap, cur, rfl, hb1, hg1, hcap, hmax, hsz1, htake⟩
      · have hcs : cs = [] := List.eq_nil_of_length_eq_zero (by have := hown.1; omega)
        subst hcs
        obtain ⟨v2, w2, hr2, hown2, _⟩ := run_append_own (P := P) w w.heap.size t o.type e i z size bytes ht hi hz hsize hby hzs hsz (.slice none 0 0) 0 [] (World.ownsRow_nil w _ _ _) ad m c ds hd.len hnews hd.one h63 hbytes (Nat.le_refl _)
        rw [hr] at hr2
        injection hr2 with e1 e2
        subst e1 e2
        exact .inr (World.ownsRow.lt hown2 k hk).1
      · by_cases hroom : n + m ≤ cap
        · have hle : n * i.size + ds.length ≤ cap * i.size := by rw [hsize, hd.len, ← Nat.add_mul]; exact Nat.mul_le_mul_right _ hroom
          have hr2 := run_append_room_cells (P := P) w t o.type e i ht hi g1 0 n cap ad m c ds (by rw [hsize, hd.len]) hnews hd.one hroom
            (fun j hj => by
              simp [World.cell?, hg1]
              rw [hsz1, ← hsize]
              omega) (fun j hj => by simp [World.frozen?, hg1])
          rw [hr] at hr2
          injection hr2 with e1 e2
          subst e1
          exact .inl hk
        · obtain ⟨v2, w2, hr2, hown2, _⟩ := run_append_arg_grows (P := P) w t o.type e i z size bytes ht hi hz hsize hby hzs hsz ⟨g1, 0, none⟩ n cap cs hown.1
            (fun j u hj => by
              rw [Addr.add_lit, Nat.zero_add]
              rw [← htake] at hj
              have hk := (List.getElem?_eq_some_iff.1 hj).1
              rw [List.getElem?_take_of_lt (by simp at hk; omega)] at hj
              simpa [World.cell?, hg1] using hj) ad m c ds hd.len hnews (by omega) h63 hbytes
          rw [hr] at hr2
          injection hr2 with e1 e2
          subst e1 e2
          exact .inr (World.ownsRow.lt hown2 k hk).1
    unfold hOp execOp
    simp only [ho, resolve, invoke, builtin, Sem.run_bind, Sem.run_pure, Result.andThen_ok, List.map_toArray, List.map_cons, List.map_nil, hs, hx, hr]
    exact h v' w' h2 h3 hw
  | none =>
    obtain rfl := hd.nil rfl
    have hl := hd.len
    rw [Nat.zero_mul] at hl
    obtain rfl : ds = [] := List.eq_nil_of_length_eq_zero hl
    obtain ⟨A, k, rfl⟩ := own_form hown
    have hnk : n ≤ k := by
      rcases hown.2 with ⟨e1, _⟩ | ⟨g, cap, cur, e1, hb, hg, hc, hm, hs, ht⟩
      · injection e1 with e1 e2 e3; omega
      · injection e1 with e1 e2 e3; omega
    have hr : (Builtin.append_ #[t, t] o.type #[.slice A n k, .slice none 0 c]).run P w = .ok (.slice A n k) w := by
      cases A <;> simp [Builtin.append_, run_underlying ht, sizeOf, typeInfo, hi, Builtin.lenOf, Builtin.firstCells, hnk, storeCells]
    unfold hOp execOp
    simp only [ho, resolve, invoke, builtin, Sem.run_bind, Sem.run_pure, Result.andThen_ok, List.map_toArray, List.map_cons, List.map_nil, hs, hx, hr]
    exact h _ w (by simpa using hown) ⟨rfl, rfl, rfl, Nat.le_refl _, fun _ _ _ => rfl⟩ fun k hk => .inl hk
variable {Q : Exit → Act → World → Prop} {ops : Array Oper}
theorem wpList_app2 {rest : List Oper} {o : Oper} {a : Act} (hw : Region.wanted o (yielded ops a.tmps) = true) (s x : Operand) (t : TypeId) (ho : o.op = .call { callee := .builtin .append, args := #[s, x], argTypes := #[t, t] })
    (z : Value) (bytes : Nat) (ht : P.underlying t = some (.slice e)) (hinf : (P.info? e).map (fun i => (i.zero, i.size, i.bytes)) = some (some z, size, bytes)) (hzs : z.cells.size = size) (hsz : 0 < size)
    (hs : a.eval s = v) (hown : w.ownsRow base e size v n cs) (A : Option Addr) (m c : Nat) (ds : List Value) (hx : a.eval x = .slice A m c) (hd : SrcC w A m size ds) (h63 : n + m ≤ maxLen) (hbytes : (n + m) * bytes ≤ 140737488355328) (hbase : base ≤ w.heap.size)
    (h : ∀ v' w', w'.ownsRow base e size v' (n + m) (cs ++ ds) → Below base w w' → w.grownBy w' v.ownBlock → (∀ k, v'.ownBlock = some k → v.ownBlock = some k ∨ w.heap.size ≤ k) → wpList P ops Q rest (a.put o.dst v') w') : wpList P ops Q (o :: rest) a w :=
  wpList_op hw (hOp_app s x t ho z bytes ht hinf hzs hsz hs hown A m c ds hx hd h63 hbytes hbase fun v' w' h1 h2 h3 => h v' w' h1 (own_below hown h2 hbase) h2 h3)
end
end Go.Proofs.YtopicjdmajlndaaDoor.K

namespace Go.Proofs.YtopicjdmajlndaaDoor.K
set_option linter.unusedVariables false
set_option linter.unusedSimpArgs false
set_option linter.unusedSectionVars false
open Go.RowKit
section
variable {P : Program} {Q : Exit → Act → World → Prop} {ops : Array Oper} {S : World → Prop}
theorem wpO_w {i : Nat} {is : List (Nat × Bool)} {o : Oper} {l : List Oper} {a : Act} {w : World} (v : Value) (hi : l[i]? = some o) (hw : Region.wanted o (yielded l.toArray a.tmps) = true) (hr : ∀ w', S w' → (execOp a.eval o).run P w' = .ok (.value v) w') (h : wpO P l.toArray S Q is (a.put o.dst v) w) : wpO P l.toArray S Q ((i, true) :: is) a w :=
  ⟨o, by simpa using hi, v, .inl ⟨hw, hr⟩, h⟩
end
end Go.Proofs.YtopicjdmajlndaaDoor.K


namespace Go.Proofs.YtopicjdmajlndaaDoor.K
set_option linter.unusedVariables false
set_option linter.unusedSimpArgs false
set_option linter.unusedSectionVars false
set_option maxRecDepth 8000
open Go.RowKit
/-- how an element lies in cells -/
class Enc {α : Type} (E : α → List Value) (k : outParam Nat) : Prop where
  len : ∀ x, (E x).length = k
  one : ∀ x, ∀ u ∈ E x, u.oneCell' = true
  pos : 0 < k
section
variable {α : Type} {E : α → List Value} {k : Nat} [hE : Enc E k]
theorem fl_length (xs : List α) : (xs.flatMap E).length = xs.length * k := by
  induction xs with
  | nil => simp
  | cons x xs ih => simp only [List.flatMap_cons, List.length_append, ih, hE.len, List.length_cons, Nat.add_mul]; omega
include hE in
theorem fl_one (xs : List α) : ∀ u ∈ xs.flatMap E, u.oneCell' = true := by
  intro u hu
  obtain ⟨x, _, h⟩ := List.mem_flatMap.1 hu
  exact hE.one x u h
theorem fl_take (xs : List α) : ∀ i, (xs.flatMap E).take (i * k) = (xs.take i).flatMap E := by
  induction xs with
  | nil => simp
  | cons x xs ih =>
    intro i
    cases i with
    | zero => simp
    | succ i =>
      have h1 : (i + 1) * k = (E x).length + i * k := by rw [hE.len, Nat.add_mul]; omega
      rw [List.flatMap_cons, h1, List.take_length_add_append, ih, List.take_succ_cons, List.flatMap_cons]
theorem fl_drop (xs : List α) : ∀ i, (xs.flatMap E).drop (i * k) = (xs.drop i).flatMap E := by
  induction xs with
  | nil => simp
  | cons x xs ih =>
    intro i
    cases i with
    | zero => simp
    | succ i =>
      have h1 : (i + 1) * k = (E x).length + i * k := by rw [hE.len, Nat.add_mul]; omega
      rw [List.flatMap_cons, h1, List.drop_length_add_append, ih, List.drop_succ_cons]
theorem fl_get {xs : List α} {i : Nat} {x : α} (h : xs[i]? = some x) (j : Nat) (hj : j < k) : (xs.flatMap E)[i * k + j]? = (E x)[j]? := by
  have hd : (xs.flatMap E)[i * k + j]? = ((xs.flatMap E).drop (i * k))[j]? := by rw [List.getElem?_drop]
  obtain ⟨hi, rfl⟩ := List.getElem?_eq_some_iff.1 h
  rw [hd, fl_drop, List.drop_eq_getElem_cons hi, List.flatMap_cons, List.getElem?_append_left (by rw [hE.len]; exact hj)]
theorem fl_set (xs : List α) (i : Nat) (y : α) (hi : i < xs.length) : (xs.flatMap E).take (i * k) ++ E y ++ (xs.flatMap E).drop (i * k + (E y).length) = (xs.set i y).flatMap E := by
  have h1 : i * k + (E y).length = (i + 1) * k := by rw [hE.len, Nat.add_mul]; omega
  rw [h1, fl_take, fl_drop, List.set_eq_take_append_cons_drop, if_pos hi, List.flatMap_append, List.flatMap_cons, List.append_assoc]
/-- the address of a cell behind a slice's head -/
def gad (A : Option Addr) (j : Nat) : Addr := match A with
  | some a => a.add j
  | none => ⟨0, 0, none⟩
theorem gad_base (b j : Nat) : gad (some ⟨b, 0, none⟩) j = ⟨b, j, none⟩ := by simp [gad, Addr.add_mid]
/-- a slice that reads as xs -/
structure Sg {α : Type} (E : α → List Value) (k : Nat) (w : World) (A : Option Addr) (n c : Nat) (xs : List α) : Prop where
  len : xs.length = n
  cap : n ≤ c
  top : c ≤ 9223372036854775807
  nil : A = none → c = 0
  at_ : ∀ i x, xs[i]? = some x → ∃ g off, A = some ⟨g, off, none⟩ ∧ w.rangeAt g (off + i * k) (E x)
variable {w w' : World} {A : Option Addr} {n c : Nat} {xs : List α}
theorem Sg.keep (h : Sg E k w A n c xs) (hb : Below w.heap.size w w') : Sg E k w' A n c xs :=
  ⟨h.len, h.cap, h.top, h.nil, fun i x hx => by obtain ⟨g, off, e, hr⟩ := h.at_ i x hx; exact ⟨g, off, e, fun j v hj => cell_keep (hr j v hj) hb⟩⟩
theorem Sg.nil_ (w : World) : Sg E k w none 0 0 ([] : List α) := ⟨rfl, Nat.le_refl _, by omega, fun _ => rfl, fun i x h => by simp at h⟩
theorem Sg.src (h : Sg E k w A n c xs) : SrcC w A n k (xs.flatMap E) :=
  ⟨by rw [fl_length, h.len], fun e => by have := h.nil e; have := h.cap; omega, fun j u hu => by
    have hk := hE.pos
    have hj : j < xs.length * k := by rw [← fl_length (E := E)]; exact (List.getElem?_eq_some_iff.1 hu).1
    have hi : j / k < xs.length := (Nat.div_lt_iff_lt_mul hk).2 hj
    have hm : j / k * k + j % k = j := Nat.div_add_mod' j k
    have hg := fl_get (E := E) (List.getElem?_eq_getElem hi) (j % k) (Nat.mod_lt _ hk)
    rw [hm, hu] at hg
    obtain ⟨g, off, e, hr⟩ := h.at_ (j / k) _ (List.getElem?_eq_getElem hi)
    refine ⟨_, e, ?_⟩
    have := hr (j % k) u hg.symm
    rw [Addr.add_mid]
    rwa [Nat.add_assoc, hm] at this, fl_one xs⟩
theorem Sg.take {m : Nat} (h : Sg E k w A n c xs) (hm : m ≤ n) : Sg E k w A m c (xs.take m) :=
  ⟨by rw [List.length_take, h.len]; omega, by have := h.cap; omega, h.top, h.nil, fun i x hx => h.at_ i x (by rw [List.getElem?_take] at hx; split at hx <;> simp_all)⟩
/-- a block that holds xs -/
def RowG {α : Type} (E : α → List Value) (w : World) (b : Nat) (t : TypeId) (xs : List α) : Prop := w.heap[b]? = some (.cells (xs.flatMap E).toArray t (0, 0))
theorem RowG.sg {b : Nat} {t : TypeId} (h : RowG E w b t xs) (hn : xs.length = n) (hc : n ≤ c) (ht : c ≤ 9223372036854775807) : Sg E k w (some ⟨b, 0, none⟩) n c xs :=
  ⟨hn, hc, ht, fun e => (by cases e), fun i x hx => ⟨b, 0, rfl, fun j v hv => by
    have hj : j < k := by rw [← hE.len x]; exact (List.getElem?_eq_some_iff.1 hv).1
    rw [cell_of_row w b _ _ t (0, 0) h, Nat.zero_add]
    rw [← hv, ← fl_get hx j hj]
    simp⟩⟩
theorem RowG.keep {b : Nat} {t : TypeId} (h : RowG E w b t xs) (hb : Below w.heap.size w w') : RowG E w' b t xs := heap_keep h hb
theorem rng_of {b : Nat} {t : TypeId} {cs : Array Value} {w : World} (h : w.heap[b]? = some (.cells cs t (0, 0))) (off : Nat) (l : List Value) (hl : ∀ j v, l[j]? = some v → cs[off + j]? = some v) : w.rangeAt b off l := fun j v hv => by
  rw [cell_of_row w b _ _ t (0, 0) h]
  exact hl j v hv
theorem ne_types {w : World} {a b : Nat} {cs ds : Array Value} {t u : TypeId} (h1 : w.heap[a]? = some (.cells cs t (0, 0))) (h2 : w.heap[b]? = some (.cells ds u (0, 0))) (h : t ≠ u) : a ≠ b := fun e => by
  subst e
  rw [h1] at h2
  injection h2 with h2
  injection h2 with _ h3
  exact h h3
theorem RowG.h {b : Nat} {t : TypeId} (h : RowG E w b t xs) : w.heap[b]? = some (.cells (xs.flatMap E).toArray t (0, 0)) := h
theorem RowG.lt {b : Nat} {t : TypeId} (h : RowG E w b t xs) : b < w.heap.size := xp_lt h
/-- a slice of the call's own -/
theorem Sg.own {base : Nat} {e : TypeId} {v : Value} (h : w.ownsRow base e k v n (xs.flatMap E)) : ∃ A c, v = .slice A n c ∧ Sg E k w A n c xs := by
  have hn : xs.length = n := by
    have h1 := h.1
    rw [fl_length] at h1
    exact Nat.eq_of_mul_eq_mul_right hE.pos h1
  rcases h.2 with ⟨rfl, rfl⟩ | ⟨g, cap, cur, rfl, hb, hg, hc, hm, hs, ht⟩
  · have : xs = [] := List.eq_nil_of_length_eq_zero hn
    subst this
    exact ⟨_, _, rfl, Sg.nil_ w⟩
  · refine ⟨_, cap, rfl, hn, hc, by unfold maxLen at hm; omega, fun e => (by cases e), fun i x hx => ⟨g, 0, rfl, fun j v hv => ?_⟩⟩
    have hj : j < k := by rw [← hE.len x]; exact (List.getElem?_eq_some_iff.1 hv).1
    have hi := (List.getElem?_eq_some_iff.1 hx).1
    have hlt : i * k + j < n * k := by
      have h1 : (i + 1) * k ≤ n * k := Nat.mul_le_mul_right _ (by omega)
      rw [Nat.add_mul] at h1
      omega
    rw [cell_of_row w g _ cur e (0, 0) hg, Nat.zero_add, ← hv, ← fl_get hx j hj, ← ht, List.getElem?_take, if_pos hlt]
    simp
theorem Sg.ownS {base : Nat} {e : TypeId} (h : w.ownsRow base e k (.slice A n c) n (xs.flatMap E)) : Sg E k w A n c xs := by
  obtain ⟨A2, c2, e1, hs⟩ := Sg.own h
  injection e1 with e1 _ e2
  subst e1 e2
  exact hs
variable {P : Program} {ev : Operand → Value} {o : Oper} {ty t : TypeId} {x y : Operand}
theorem xg_idx {e : TypeId} {i : Nat} {a : α} (kk : IntKind) (h : Sg E k w A n c xs) (ha : xs[i]? = some a) (hu : P.underlying ty = some (.slice e)) (hs : (P.info? e).map (·.size) = some k) (ho : o.op = .indexAddr ty x y) (hx : ev x = .slice A n c) (hy : ev y = .int kk (i : Int)) :
    (execOp ev o).run P w = .ok (.value (.pointer (some (gad A (i * k))))) w := by
  obtain ⟨g, off, rfl, _⟩ := h.at_ i a ha
  have hi := (List.getElem?_eq_some_iff.1 ha).1
  rw [h.len] at hi
  exact xo_index kk _ n c i k hi hu hs ho hx hy
/-- a cell of an element -/
theorem xg_load1 {d : TypeDesc} {i j q : Nat} {a : α} {v : Value} (h : Sg E k w A n c xs) (ha : xs[i]? = some a) (hq : q = i * k + j) (hv : (E a)[j]? = some v) (hu : P.underlying ty = some d) (hd : (match d with | .struct _ | .array _ _ => true | _ => false) = false) (ho : o.op = .load ty x) (hx : ev x = .pointer (some (gad A q))) :
    (execOp ev o).run P w = .ok (.value v) w := by
  obtain ⟨g, off, rfl, hr⟩ := h.at_ i a ha
  refine xo_load1 _ v ?_ hu hd ho hx
  subst hq
  have := hr j v hv
  simp only [gad, Addr.add_mid]
  rwa [← Nat.add_assoc]
/-- cells of an element, together -/
theorem xg_loadR {d : TypeDesc} {i j q : Nat} {a : α} {cs : List Value} (h : Sg E k w A n c xs) (ha : xs[i]? = some a) (hq : q = i * k + j) (hv : ∀ m u, cs[m]? = some u → (E a)[j + m]? = some u) (hu : P.underlying ty = some d) (hd : d.isRow = true) (hi : (P.info? ty).map (·.size) = some cs.length) (ho : o.op = .load ty x) (hx : ev x = .pointer (some (gad A q))) :
    (execOp ev o).run P w = .ok (.value (.agg cs.toArray)) w := by
  obtain ⟨g, off, rfl, hr⟩ := h.at_ i a ha
  subst hq
  refine xo_loadR g (off + (i * k + j)) cs (fun m u hm => ?_) hu hd hi ho (by rw [hx]; simp [gad, Addr.add_mid])
  have := hr (j + m) u (hv m u hm)
  rwa [show off + (i * k + j) + m = off + i * k + (j + m) by omega]
theorem xg_loadE {d : TypeDesc} {i : Nat} {a : α} (h : Sg E k w A n c xs) (ha : xs[i]? = some a) (hu : P.underlying ty = some d) (hd : d.isRow = true) (hi : (P.info? ty).map (·.size) = some k) (ho : o.op = .load ty x) (hx : ev x = .pointer (some (gad A (i * k)))) :
    (execOp ev o).run P w = .ok (.value (.agg (E a).toArray)) w :=
  xg_loadR (j := 0) h ha rfl (fun m u hm => by rw [Nat.zero_add]; exact hm) hu hd (by rw [hi, hE.len]) ho hx
/-- a field of an element -/
theorem xg_fld {i q j : Nat} {a : α} (f : Nat) (h : Sg E k w A n c xs) (ha : xs[i]? = some a) (hf : fldOK P ty f j = true) (ho : o.op = .fieldAddr ty x f) (hx : ev x = .pointer (some (gad A q))) :
    (execOp ev o).run P w = .ok (.value (.pointer (some (gad A (q + j))))) w := by
  obtain ⟨g, off, rfl, hr⟩ := h.at_ i a ha
  have hx' : ev x = .pointer (some ⟨g, off + q, none⟩) := by rw [hx]; simp [gad, Addr.add_mid]
  have := xo_fld (P := P) (w := w) f g (off + q) j hf ho hx'
  rw [this]
  simp [gad, Addr.add_mid, Nat.add_assoc]
/-- an element of an array inside of an element -/
theorem xg_arr {e : TypeId} {i q j s : Nat} {a : α} {N : Nat} (kk : IntKind) (h : Sg E k w A n c xs) (ha : xs[i]? = some a) (hu : P.underlying ty = some (.array N e)) (hj : j < N) (hs : (P.info? e).map (·.size) = some s) (ho : o.op = .indexAddr ty x y) (hx : ev x = .pointer (some (gad A q))) (hy : ev y = .int kk (j : Int)) :
    (execOp ev o).run P w = .ok (.value (.pointer (some (gad A (q + j * s))))) w := by
  obtain ⟨g, off, rfl, hr⟩ := h.at_ i a ha
  cases hq : P.info? e with
  | none => simp [hq] at hs
  | some inf =>
    have hz : (sizeOf e).run P w = .ok s w := by simp [sizeOf, typeInfo, Sem.run_bind, hq]; simpa [hq] using hs
    unfold execOp
    simp [ho, hx, hy, Instr.indexAt, asIntOf, Sem.run_bind, run_underlying hu, Instr.sureAddr, hz, hj, gad, Addr.add_mid, Nat.add_assoc]
/-- an element is stored into a block -/
theorem xg_store {b i : Nat} (h : RowG E w b t xs) (hi : i < xs.length) (a : α) (hs : (P.info? ty).map (·.size) = some k) (ho : o.op = .store ty x y) (hx : ev x = .pointer (some (gad (some ⟨b, 0, none⟩) (i * k)))) (hy : (ev y).cells = (E a).toArray) :
    (execOp ev o).run P w = .ok .skip (w.setRow b ((xs.set i a).flatMap E).toArray) := by
  have hst := run_storeCells_at P b (i * k) t (E a) 0 (xs.flatMap E).toArray w h (by
    have h1 : (i + 1) * k ≤ xs.length * k := Nat.mul_le_mul_right _ hi
    rw [Nat.add_mul] at h1
    simp only [List.size_toArray, fl_length, hE.len]
    omega) (hE.one a)
  rw [Nat.add_zero, List.toList_toArray] at hst
  rw [fl_set xs i a hi] at hst
  rw [gad_base] at hx
  cases hq : P.info? ty with
  | none => simp [hq] at hs
  | some inf =>
    have hsz : inf.size = k := by simpa [hq] using hs
    unfold execOp
    simp only [ho, hx, Instr.storeAt, Instr.sureAddr, Sem.run_bind, Sem.run_pure, Result.andThen_ok, storeVar, sizeOf, typeInfo, run_program, hq, hsz, hy]
    simp [hE.len, hst, Sem.run_bind]
/-- n new elements -/
theorem mk_cells (z : Value) (a : α) (hz : z.cells = (E a).toArray) (n : Nat) : madeCells z.cells (n * k) = ((List.replicate n a).flatMap E).toArray := by
  have hk := hE.pos
  apply Array.ext'
  apply List.ext_getElem?
  intro j
  by_cases hj : j < n * k
  · have hi : j / k < n := (Nat.div_lt_iff_lt_mul hk).2 hj
    have hm : j / k * k + j % k = j := Nat.div_add_mod' j k
    have hg := fl_get (E := E) (xs := List.replicate n a) (i := j / k) (x := a) (by simp [List.getElem?_replicate, hi]) (j % k) (Nat.mod_lt _ hk)
    rw [hm] at hg
    rw [List.toList_toArray, hg, hz]
    have hlt : j % (E a).length < (E a).length := by rw [hE.len]; exact Nat.mod_lt _ hk
    simp only [madeCells, Array.toList_map, Array.toList_range, List.getElem?_map, List.size_toArray, List.getElem?_range hj, Option.map_some]
    rw [← hE.len a, List.getElem?_eq_getElem hlt]
    simp [hlt]
  · rw [List.getElem?_eq_none (by rw [Array.length_toList, size_madeCells]; omega), List.getElem?_eq_none (by rw [List.toList_toArray, fl_length, List.length_replicate]; omega)]
theorem xg_make {e : TypeId} {bytes : Nat} (z : Value) (a : α) (m : Nat) (kl : IntKind) (ht : P.underlying ty = some (.slice e)) (hinf : (P.info? e).map (fun i => (i.zero, i.size, i.bytes)) = some (some z, k, bytes)) (hz : z.cells = (E a).toArray) (hb : bytes * m ≤ 281474976710656) (h63 : m ≤ 9223372036854775807)
    (ho : o.op = .makeSlice ty x y) (hx : ev x = .int kl (m : Int)) (hy : ev y = .int kl (m : Int)) :
    (execOp ev o).run P w = .ok (.value (.slice (some ⟨w.heap.size, 0, none⟩) m m)) (w.alloc (.cells ((List.replicate m a).flatMap E).toArray e)) := by
  obtain ⟨i, hi, hiz, hs, hby⟩ := info_parts hinf
  have hb' : (i.bytes : Int) * (m : Int) ≤ 281474976710656 := by
    have h : ((i.bytes * m : Nat) : Int) ≤ 281474976710656 := by rw [hby]; omega
    rwa [Int.natCast_mul] at h
  have hr := run_make (P := P) w ty e i z ht hi hiz kl kl m m (by omega) (Int.le_refl _) hb' (by omega)
  simp only [Int.toNat_natCast] at hr
  rw [hs, mk_cells z a hz] at hr
  unfold execOp
  simp [ho, hx, hy, Sem.run_bind, hr]
/-- bits in common, shifts -/
theorem xo_and (kk : IntKind) (u v r : Nat) (hu : u < 2 ^ kk.bits) (hv : v < 2 ^ kk.bits) (h : u &&& v = r) (hr : kk.wrap (r : Int) = (r : Int)) (ho : o.op = .binOp .and ty x y t) (hx : ev x = .int kk (u : Int)) (hy : ev y = .int kk (v : Int)) :
    (execOp ev o).run P w = .ok (.value (.int kk (r : Int))) w := by
  have e : (Op.intBits .and kk (u : Int) (v : Int)).run P w = .ok (.int kk (r : Int)) w := by
    have e1 : (BitVec.ofInt kk.bits (u : Int) &&& BitVec.ofInt kk.bits (v : Int)).toNat = r := by
      rw [BitVec.toNat_and]
      simp only [BitVec.ofInt_natCast, BitVec.toNat_ofNat, Nat.mod_eq_of_lt hu, Nat.mod_eq_of_lt hv, h]
    simp only [Op.intBits, e1, hr]
    rfl
  unfold execOp
  simp [ho, hx, hy, eqGuard, binOp, Sem.run_bind, e]
theorem xo_shlI (kk : IntKind) (u n r : Nat) (h : u * 2 ^ n = r) (hr : r < 9223372036854775808) (ho : o.op = .binOp .shl ty x y t) (hx : ev x = .int .i64 (u : Int)) (hy : ev y = .int kk (n : Int)) (hn : n < 63 := by omega) :
    (execOp ev o).run P w = .ok (.value (.int .i64 (r : Int))) w := by
  have hm : min (n : Int).toNat IntKind.i64.bits = n := by rw [Int.toNat_natCast]; show min n 64 = n; omega
  have e : (u : Int) * 2 ^ n = (r : Int) := by rw [← h]; simp
  have e0 : IntKind.i64.wrap ((u : Int) * 2 ^ n) = (r : Int) := by rw [e, wrapI (by omega) (by omega)]
  unfold execOp
  simp [ho, hx, hy, eqGuard, binOp, Sem.run_bind, hm]
  exact e0
theorem xo_quoN (kk : IntKind) (u v r : Nat) (hv : 1 ≤ v) (h : u / v = r) (hr : kk.wrap (r : Int) = (r : Int)) (ho : o.op = .binOp .quo ty x y t) (hx : ev x = .int kk (u : Int)) (hy : ev y = .int kk (v : Int)) : (execOp ev o).run P w = .ok (.value (.int kk (r : Int))) w :=
  xo_div .quo kk (u : Int) (v : Int) (r : Int) (by omega) (.inl ⟨rfl, by rw [Int.tdiv_eq_ediv_of_nonneg (by omega), ← Int.natCast_ediv, h, hr]⟩) ho hx hy
/-- an element of one cell of an array that is a value -/
theorem xo_elt {e : TypeId} {d : TypeDesc} (kk : IntKind) (cs : Array Value) (i N : Nat) (v : Value) (hi : i < N) (hv : cs[i]? = some v) (hu : P.underlying ty = some (.array N e)) (hs : (P.info? e).map (·.size) = some 1) (hd : P.underlying e = some d) (hdr : (match d with | .struct _ | .array _ _ => true | _ => false) = false)
    (ho : o.op = .index ty x y) (hx : ev x = .agg cs) (hy : ev y = .int kk (i : Int)) : (execOp ev o).run P w = .ok (.value v) w := by
  cases hq : P.info? e with
  | none => simp [hq] at hs
  | some inf =>
    have hz : (sizeOf e).run P w = .ok 1 w := by simp [sizeOf, typeInfo, Sem.run_bind, hq]; simpa [hq] using hs
    unfold execOp
    simp only [ho, hx, hy, Instr.index, asIntOf, Sem.run_bind, Sem.run_pure, Result.andThen_ok]
    rw [run_underlying hu, Result.andThen_ok]
    simp only [Sem.run_bind, Sem.run_pure, Result.andThen_ok]
    rw [if_pos (by omega), Sem.run_bind, hz, Result.andThen_ok]
    simp [part, Sem.run_bind, run_isAgg_plain hd hdr, hv]
/-- a slice literal -/
theorem xg_lit {e : TypeId} {bytes : Nat} (z : Value) (ys : List Operand) (xs : List α) (n : Nat) (ht : P.underlying ty = some (.slice e)) (hinf : (P.info? e).map (fun i => (i.zero, i.size, i.bytes)) = some (some z, k, bytes)) (hn : ys.length = n) (hsmall : ¬ n * k > 2 ^ 24) (hpos : ¬ n = 0)
    (ho : o.op = .buildSlice ty n ((ys.zipIdx 0).map fun x => (x.2, x.1)).toArray) (hv : ys.map (fun y => (ev y).cells.toList) = xs.map E) :
    (execOp ev o).run P w = .ok (.value (.slice (some ⟨w.heap.size, 0, none⟩) n n)) (w.alloc (.cells (xs.flatMap E).toArray e)) := by
  obtain ⟨i, hi, hz, hs, hby⟩ := info_parts hinf
  have hk := hE.pos
  have hxs : xs.length = ys.length := by have := congrArg List.length hv; simpa using this.symm
  have h1 : ∀ v ∈ ys.map ev, v.cells.size = k := by
    intro v hm
    obtain ⟨y, hy, rfl⟩ := List.mem_map.1 hm
    have : (ev y).cells.toList ∈ xs.map E := by rw [← hv]; exact List.mem_map.2 ⟨y, hy, rfl⟩
    obtain ⟨x, _, hx⟩ := List.mem_map.1 this
    have h2 := hE.len x
    rw [hx, Array.length_toList] at h2
    exact h2
  have hf := Great.fill_whole hk (ys.map ev) ((Array.range (n * k)).map (z.cells[· % z.cells.size]!)) h1 (by simp [hn])
  have he : ((ys.map ev).flatMap fun v => v.cells.toList) = xs.flatMap E := by
    rw [List.flatMap_map, List.flatMap_def, List.flatMap_def]
    exact congrArg List.flatten hv
  rw [he] at hf
  have hp : (((ys.zipIdx 0).map fun x => (x.2, x.1)).toArray.map fun (i, x) => (i, ev x)).toList = ((ys.map ev).zipIdx 0).map fun x => (x.2, x.1) := by
    rw [List.zipIdx_map, List.map_map]
    simp [List.map_map]
  have hr := run_buildSlice (P := P) w ty e n (((ys.zipIdx 0).map fun x => (x.2, x.1)).toArray.map fun (i, x) => (i, ev x)) (xs.flatMap E).toArray i z ht hi hz (by rw [hs]; exact hsmall) (by rw [hs]; intro h0; rcases Nat.mul_eq_zero.1 h0 with h0 | h0 <;> omega) (by rw [hs, hp]; exact hf)
  unfold execOp
  simp only [ho, Sem.run_bind, hr, Result.andThen_ok]
  rfl
/-- a copy into a block -/
theorem xg_copy {e : TypeId} {b dl dc m d : Nat} {ts : TypeId} {B : Option Addr} {ys : List α} (h : RowG E w b t xs) (hd : dl = xs.length) (hsrc : Sg E k w B m d ys) (hm : m ≤ dl) (hu : P.underlying ty = some (.slice e)) (hs : (P.info? e).map (·.size) = some k)
    (ho : o.op = .call { callee := .builtin .copy, args := #[x, y], argTypes := #[ty, ts] }) (hx : ev x = .slice (some ⟨b, 0, none⟩) dl dc) (hy : ev y = .slice B m d) :
    (execOp ev o).run P w = .ok (.value (.int .i64 (m : Int))) (w.setRow b ((ys ++ xs.drop m).flatMap E).toArray) := by
  have hmin : Nat.min m dl = m := Nat.min_eq_left hm
  have hl := hsrc.len
  have hlen : (ys.flatMap E).length = m * k := by rw [fl_length, hl]
  have hst := run_storeCells_at P b 0 t (ys.flatMap E) 0 (xs.flatMap E).toArray w h (by
    rw [hlen, List.size_toArray, fl_length, ← hd]
    have := Nat.mul_le_mul_right k hm
    omega) (fl_one ys)
  rw [Nat.add_zero, List.toList_toArray, List.take_zero, List.nil_append, hlen, Nat.zero_add, fl_drop, ← List.flatMap_append] at hst
  cases hq : P.info? e with
  | none => simp [hq] at hs
  | some i =>
    have hi : i.size = k := by simpa [hq] using hs
    unfold execOp
    cases B with
    | some a =>
      have hld := run_loadCells_list (P := P) w a (ys.flatMap E) (fun j u hj => by
        obtain ⟨ad, e1, hc⟩ := hsrc.src.cell j u hj
        injection e1 with e1
        subst e1
        exact hc)
      rw [hlen] at hld
      simp [ho, hx, hy, resolve, invoke, builtin, Builtin.copy_, run_underlying hu, Builtin.lenOf, Builtin.firstCells, sizeOf, typeInfo, hq, hi, hmin, hld, hst, Sem.run_bind, goInt]
    | none =>
      have h0 := hsrc.nil rfl
      have h1 := hsrc.cap
      obtain rfl : m = 0 := by omega
      have hys : ys = [] := List.eq_nil_of_length_eq_zero hl
      subst hys
      rw [List.nil_append, List.drop_zero, setRow_self w b _ t (0, 0) h]
      simp [ho, hx, hy, resolve, invoke, builtin, Builtin.copy_, run_underlying hu, Builtin.lenOf, Builtin.firstCells, sizeOf, typeInfo, hq, hi, storeCells, Sem.run_bind, goInt]
variable {Q : Exit → Act → World → Prop} {ops : Array Oper}
/-- a write of a whole row that yields a value -/
theorem wpList_rowV {rest : List Oper} {o : Oper} {a : Act} {w : World} (v : Value) (g : Nat) (old row : Array Value) (t : TypeId) (hw : Region.wanted o (yielded ops a.tmps) = true) (hg : w.heap[g]? = some (.cells old t (0, 0))) (hr : (execOp a.eval o).run P w = .ok (.value v) (w.setRow g row))
    (h : ∀ W, W.heap[g]? = some (.cells row t (0, 0)) → (∀ k o, k ≠ g → w.heap[k]? = some o → W.heap[k]? = some o) → (∀ B v0, B ≤ g → Below B v0 w → Below B v0 W) → W.heap.size = w.heap.size → wpList P ops Q rest (a.put o.dst v) W) : wpList P ops Q (o :: rest) a w := by
  refine wpList_run hw v _ hr (h _ ?_ (fun k o hk h0 => ?_) (fun B v0 hB hb => bel_setRow hb hB _) (by simp [World.setRow]))
  · simp [World.setRow, Array.getElem?_modify, hg]
  · simp [World.setRow, Array.getElem?_modify, Ne.symm hk, h0]
end
end Go.Proofs.YtopicjdmajlndaaDoor.K

