/- Several texts in one: JLex, JExtR, JDecl, JHeld, JSli, JApp, JLin, FieldR, NttM, JNsl, JNbit, Rj. -/
import Derived.Test.YtnekndakipggbaaM04
import Derived.Test.YtnekndakipggbaaM03
import Derived.OrdersHeld
import Derived.Laws.MakeOwn
import Derived.Laws.AppendOwn
import Derived.Laws.OwnMore
import Derived.Deep.AppendLies
import Derived.IntWalk
import Derived.Deep.LoopGhost
import Derived.RangeFuncNested
import Derived.RangeFuncBound
import Derived.RangeFuncCalls
import Derived.RangeFuncLeaves
import Derived.RangeFuncBox
import Derived.Shelf.Abstract
import Derived.Shelf.RegionOpen
import Derived.OwnWalkIn
import Derived.TacticsInMore
import Derived.LoopNIn
import Derived.LoopIn
import Derived.Laws.EntriesVeiled
import Derived.OwnWalk
import Derived.Laws.AppendOwnNone
import Derived.Sort.QuietThIn
import Derived.Sort.BigQuietIn
import Derived.ArgAppend
import Derived.Laws.Bits64
namespace Go.Proofs.Ytnekndakipggbaa.J
set_option linter.unusedVariables false
set_option linter.unusedSimpArgs false
set_option linter.unusedSectionVars false
set_option maxRecDepth 8000
open Go.RowKit

/-- what the one walk leans on -/
structure LexOK (ops : Array Oper) : Prop where
  sel : Region.noSelect ops = true
  edge : ∀ (j : Nat) (o : Oper), ops[j]? = some o → ∀ e, e ∈ o.after → Region.binds .any e = true → e.on < j
  free : ∀ (k j : Nat) (ok oj : Oper), k < j → ops[k]? = some ok → ops[j]? = some oj → (∀ e, e ∈ oj.after → Region.binds .any e = true → e.on ≠ k) → ok.apart ops oj = true

theorem wpAnyQ_of_lex {P : Program} {ops : Array Oper} {C : World → Prop} {Q : Act → Prop} (hx : LexOK ops) : ∀ (l : List Oper) (k : Nat) (listed : Array Bool) (a : Act),
    (∀ j, l[j]? = ops[k + j]?) → k + l.length = ops.size → listed.size = ops.size → (∀ i, i < k → listed.getD i false = true) → (∀ i, k ≤ i → i < ops.size → listed.getD i true = false) →
    wpQuiet P ops C Q l a → wpAnyQ P .any ops C Q l.length listed a
  | [], k, listed, a, _, hk, hz, h1, _, h => by
    refine ⟨?_, h⟩
    refine List.eq_nil_iff_forall_not_mem.2 fun i hi => ?_
    obtain ⟨h0, o, ho, _⟩ := mem_ready.1 hi
    have hlt := (Array.getElem?_eq_some_iff.1 ho).1
    have h3 := h1 i (by simp at hk; omega)
    rw [getD_both h0] at h3
    cases h3
  | o :: l, k, listed, a, hl, hk, hz, h1, h2, h => by
    have h0 : ops[k]? = some o := by simpa using (hl 0).symm
    have hlt : k < ops.size := (Array.getElem?_eq_some_iff.1 h0).1
    have hst : qOp P ops C k (wpQuiet P ops C Q l) a := by unfold qOp; simp only [h0]; exact h
    obtain ⟨v, hy, hK⟩ := yieldsIn_of_qOp h0 hst
    refine wpAnyQ_first h0 (Region.noSelect_spec hx.sel) l.length listed a ?_ (mem_ready.2 ⟨h2 k (Nat.le_refl _) hlt, o, h0, fun e he hb => h1 _ (hx.edge k o h0 e he hb)⟩) hy ?_
    · intro j oj hj hne hun hno
      refine hx.free k j o oj ?_ h0 hj hno
      rcases Nat.lt_trichotomy k j with h' | h' | h'
      · exact h'
      · exact absurd h'.symm hne
      · have h3 := h1 j h'
        rw [getD_both hun] at h3
        cases h3
    · refine wpAnyQ_of_lex hx l (k + 1) _ _ (fun j => by have := hl (j + 1); simpa [Nat.add_assoc, Nat.add_comm 1 j] using this) (by simp at hk; omega) (by simpa using hz) ?_ ?_ hK
      · intro i hi
        by_cases e : i = k
        · subst e
          simp [hz, hlt]
        · exact getD_set_true (h1 i (by omega))
      · intro i hi hi'
        rw [getD_set_ne true (by omega)]
        exact h2 i (by omega) hi'

theorem wp_later_lex {P : Program} {id : Nat} {Q : Exit → Act → World → Prop} {a : Act} {w : World} {l : List Oper} (hm : P.follows .mixedOrders = true) (hx : LexOK l.toArray)
    (h : wpQuiet P l.toArray (fun w' => ∃ x : Later w, w' = x.at) (fun a' => ∀ x : Later w, Q .normal a' x.at) l a) : (Code.region id l.toArray true).wp P Q a w := by
  refine wp_region_any hm (wpAny_of_quiet (C := fun w' => ∃ x : Later w, w' = x.at) (Q := fun a' => ∀ x : Later w, Q .normal a' x.at) (fun a' w' hw' h => by obtain ⟨x, rfl⟩ := hw'; exact h x) _ _ _ _ ⟨⟨w.drew, (Below.refl _ _).drew⟩, rfl⟩ ?_)
  have := wpAnyQ_of_lex (P := P) hx l 0 (Array.replicate l.toArray.size false) a (by simp) (by simp) (by simp) (by intro i hi; omega) (fun i _ hi => getD_in (by simpa using hi) (getD_replicate_false _ _)) h
  simpa using this

def dstMask (o : Oper) : Nat := match o.dst with | some d => Nat.shiftLeft 1 d | none => 0
def lookMask (ops : Array Oper) (o : Oper) : Nat := (o.looksAt ops).foldr (fun t m => Nat.lor (Nat.shiftLeft 1 t) m) 0
def afterMask (o : Oper) : Nat := o.after.toList.foldr (fun e m => match Region.binds .any e with | true => Nat.lor (Nat.shiftLeft 1 e.on) m | false => m) 0
/-- op number k (masks D, R) before op number j (masks A, R', D') -/
def pairOK (A R' D' : Nat) (k D R : Nat) : Bool :=
  Nat.beq (Nat.mod (Nat.shiftRight A k) 2) 1 || (Nat.beq (Nat.land D R') 0 && (Nat.beq (Nat.land D D') 0 && Nat.beq (Nat.land D' R) 0))
/-- all earlier ones, the last first -/
def prevOK (A R' D' : Nat) : List (Nat × Nat) → Bool
  | [] => true
  | (D, R) :: l => pairOK A R' D' l.length D R && prevOK A R' D' l
def lexN (ops : Array Oper) : List Oper → List (Nat × Nat) → Bool
  | [], _ => true
  | o :: l, prev => Nat.beq (Nat.shiftRight (afterMask o) prev.length) 0 && (prevOK (afterMask o) (lookMask ops o) (dstMask o) prev && lexN ops l ((dstMask o, lookMask ops o) :: prev))

theorem testBit_one (d i : Nat) : (Nat.shiftLeft 1 d).testBit i = decide (d = i) := by
  show (1 <<< d).testBit i = _
  rw [Nat.one_shiftLeft, Nat.testBit_two_pow]
theorem mem_lookMask {ops : Array Oper} {o : Oper} {t : Nat} (h : t ∈ o.looksAt ops) : (lookMask ops o).testBit t = true := by
  unfold lookMask
  generalize o.looksAt ops = l at h
  induction l with
  | nil => cases h
  | cons x l ih =>
    show (Nat.lor (Nat.shiftLeft 1 x) _).testBit t = true
    rw [show ∀ a b : Nat, Nat.lor a b = a ||| b from fun _ _ => rfl, Nat.testBit_or, testBit_one]
    rcases List.mem_cons.1 h with rfl | h
    · simp
    · rw [ih h, Bool.or_true]
theorem dstMask_bit {o : Oper} {d : Nat} (h : o.dst = some d) : (dstMask o).testBit d = true := by
  unfold dstMask
  simp only [h]
  rw [testBit_one]
  simp
theorem mem_afterMask {o : Oper} {e : Edge} (h : e ∈ o.after) (hb : Region.binds .any e = true) : (afterMask o).testBit e.on = true := by
  unfold afterMask
  have h' : e ∈ o.after.toList := by simpa using h
  generalize o.after.toList = l at h'
  induction l with
  | nil => cases h'
  | cons x l ih =>
    rw [List.foldr_cons]
    rcases List.mem_cons.1 h' with rfl | h'
    · rw [hb]
      show (Nat.lor (Nat.shiftLeft 1 e.on) _).testBit e.on = true
      rw [show ∀ a b : Nat, Nat.lor a b = a ||| b from fun _ _ => rfl, Nat.testBit_or, testBit_one]
      simp
    · cases Region.binds .any x with
      | true =>
        show (Nat.lor (Nat.shiftLeft 1 x.on) _).testBit e.on = true
        rw [show ∀ a b : Nat, Nat.lor a b = a ||| b from fun _ _ => rfl, Nat.testBit_or, ih h']
        simp
      | false => exact ih h'
theorem afterMask_mem {o : Oper} {k : Nat} (h : (afterMask o).testBit k = true) : ∃ e, e ∈ o.after ∧ Region.binds .any e = true ∧ e.on = k := by
  unfold afterMask at h
  suffices H : ∀ l : List Edge, (l.foldr (fun e m => match Region.binds .any e with | true => Nat.lor (Nat.shiftLeft 1 e.on) m | false => m) 0).testBit k = true → ∃ e, e ∈ l ∧ Region.binds .any e = true ∧ e.on = k by
    obtain ⟨e, he, h1, h2⟩ := H _ h
    exact ⟨e, by simpa using he, h1, h2⟩
  intro l
  induction l with
  | nil => intro h; simp at h
  | cons x l ih =>
    intro h
    rw [List.foldr_cons] at h
    cases hx : Region.binds .any x with
    | true =>
      rw [hx] at h
      have h : (Nat.lor (Nat.shiftLeft 1 x.on) (l.foldr (fun e m => match Region.binds .any e with | true => Nat.lor (Nat.shiftLeft 1 e.on) m | false => m) 0)).testBit k = true := h
      rw [show ∀ a b : Nat, Nat.lor a b = a ||| b from fun _ _ => rfl, Nat.testBit_or, testBit_one, Bool.or_eq_true] at h
      rcases h with h | h
      · exact ⟨x, by simp, hx, by simpa using h⟩
      · obtain ⟨e, he, h1⟩ := ih h
        exact ⟨e, List.mem_cons_of_mem _ he, h1⟩
    | false =>
      rw [hx] at h
      obtain ⟨e, he, h1⟩ := ih h
      exact ⟨e, List.mem_cons_of_mem _ he, h1⟩
theorem land_zero {a b t : Nat} (h : Nat.beq (Nat.land a b) 0 = true) (ha : a.testBit t = true) : b.testBit t = false := by
  have h1 : a &&& b = 0 := Nat.eq_of_beq_eq_true h
  have h2 : (a &&& b).testBit t = false := by rw [h1]; simp
  rw [Nat.testBit_and, ha] at h2
  simpa using h2
theorem pairOK_spec {ops : Array Oper} {ok oj : Oper} {k : Nat} (h : pairOK (afterMask oj) (lookMask ops oj) (dstMask oj) k (dstMask ok) (lookMask ops ok) = true)
    (hno : ∀ e, e ∈ oj.after → Region.binds .any e = true → e.on ≠ k) : ok.apart ops oj = true := by
  unfold pairOK at h
  rw [Bool.or_eq_true] at h
  rcases h with h | h
  · have h1 : Nat.mod (Nat.shiftRight (afterMask oj) k) 2 = 1 := Nat.eq_of_beq_eq_true h
    have h2 : (afterMask oj).testBit k = true := by
      rw [Nat.testBit_eq_decide_div_mod_eq, decide_eq_true_iff, ← Nat.shiftRight_eq_div_pow]
      exact h1
    obtain ⟨e, he, hb, hk⟩ := afterMask_mem h2
    exact absurd hk (hno e he hb)
  · rw [Bool.and_eq_true, Bool.and_eq_true] at h
    obtain ⟨h1, h2, h3⟩ := h
    unfold Oper.apart
    rw [Bool.and_eq_true]
    constructor
    · cases hd : ok.dst with
      | none => rfl
      | some d =>
        have b1 := land_zero h1 (dstMask_bit hd)
        have b2 := land_zero h2 (dstMask_bit hd)
        simp only [Bool.and_eq_true, Bool.not_eq_true', bne_iff_ne, ne_eq]
        constructor
        · cases hc : (oj.looksAt ops).contains d with
          | false => rfl
          | true =>
            rw [mem_lookMask (by simpa using hc)] at b1
            cases b1
        · intro e
          rw [dstMask_bit e] at b2
          cases b2
    · cases hd : oj.dst with
      | none => rfl
      | some d =>
        have b1 := land_zero h3 (dstMask_bit hd)
        simp only [Bool.not_eq_true']
        cases hc : (ok.looksAt ops).contains d with
        | false => rfl
        | true =>
          rw [mem_lookMask (by simpa using hc)] at b1
          cases b1
theorem prevOK_spec {A R' D' : Nat} : ∀ {prev : List (Nat × Nat)}, prevOK A R' D' prev = true → ∀ (k : Nat) (x : Nat × Nat), prev.reverse[k]? = some x → pairOK A R' D' k x.1 x.2 = true
  | [], _, k, x, hx => by simp at hx
  | (D, R) :: l, h, k, x, hx => by
    simp only [prevOK, Bool.and_eq_true] at h
    rw [List.reverse_cons] at hx
    by_cases hk : k < l.length
    · rw [List.getElem?_append_left (by simpa using hk)] at hx
      exact prevOK_spec h.2 k x hx
    · rw [List.getElem?_append_right (by simp; omega)] at hx
      have e : k = l.length := by
        have := (List.getElem?_eq_some_iff.1 hx).1
        simp at this
        omega
      subst e
      simp at hx
      subst hx
      exact h.1
theorem lexN_spec {ops : Array Oper} : ∀ (l : List Oper) (prev : List (Nat × Nat)) (done : List Oper), ops.toList = done ++ l → prev.reverse = done.map (fun o => (dstMask o, lookMask ops o)) → lexN ops l prev = true →
    ∀ (j : Nat) (o : Oper), done.length ≤ j → ops[j]? = some o → Nat.beq (Nat.shiftRight (afterMask o) j) 0 = true ∧ ∀ (k : Nat) (ok : Oper), k < j → ops[k]? = some ok → pairOK (afterMask o) (lookMask ops o) (dstMask o) k (dstMask ok) (lookMask ops ok) = true
  | [], prev, done, hd, _, _, j, o, hj, ho => by
    have := (Array.getElem?_eq_some_iff.1 ho).1
    have hz : ops.size = done.length := by rw [← Array.length_toList, hd]; simp
    omega
  | x :: l, prev, done, hd, hp, h, j, o, hj, ho => by
    simp only [lexN, Bool.and_eq_true] at h
    have hlen : prev.length = done.length := by rw [← List.length_reverse, hp]; simp
    by_cases e : j = done.length
    · subst e
      have hx : x = o := by
        rw [← Array.getElem?_toList, hd] at ho
        simpa using ho
      subst hx
      refine ⟨by rw [← hlen]; exact h.1, fun k ok hk hok => ?_⟩
      refine prevOK_spec h.2.1 k (dstMask ok, lookMask ops ok) ?_
      rw [← Array.getElem?_toList, hd, List.getElem?_append_left hk] at hok
      rw [hp, List.getElem?_map, hok]
      rfl
    · refine lexN_spec l _ (done ++ [x]) (by rw [hd]; simp) ?_ h.2.2 j o (by simp; omega) ho
      rw [List.reverse_cons, hp]
      simp
theorem lexOK_of {l : List Oper} (hs : Region.noSelect l.toArray = true) (h : lexN l.toArray l [] = true) : LexOK l.toArray := by
  have H := lexN_spec (ops := l.toArray) l [] [] (by simp) (by simp) h
  refine ⟨hs, fun j o ho e he hb => ?_, fun k j ok oj hk hok hoj hno => pairOK_spec ((H j oj (by simp) hoj).2 k ok hk hok) hno⟩
  have h1 : (afterMask o) >>> j = 0 := Nat.eq_of_beq_eq_true (H j o (by simp) ho).1
  have h2 := mem_afterMask he hb
  rcases Nat.lt_or_ge e.on j with h' | h'
  · exact h'
  · obtain ⟨d, hd⟩ : ∃ d, e.on = j + d := ⟨e.on - j, by omega⟩
    have h3 : ((afterMask o) >>> j).testBit d = true := by rw [Nat.testBit_shiftRight, ← hd]; exact h2
    rw [h1] at h3
    simp at h3

end Go.Proofs.Ytnekndakipggbaa.J

namespace Go.Proofs.Ytnekndakipggbaa.J
set_option linter.unusedVariables false
set_option linter.unusedSimpArgs false
set_option linter.unusedSectionVars false
set_option maxRecDepth 8000
open Go.RowKit Gold
set_option maxHeartbeats 400000 in
theorem rNeg_any (x : E2) (w : World) :
    Calls Try.prog 43 #[.agg #[.int .u64 (vF x.A), .int .u64 (vF x.B)]] w fun e w' => e = .returned (.agg #[.int .u64 (vF (-x).A), .int .u64 (vF (-x).B)]) ∧ Below w.heap.size w w' := by
  go_enter Try.func43, Try.ntmps43
  go_wp2_with fail
  refine wp_named2 (fun W hB g0 g1 hz => ?_)
  have HB := Lib.hid hB
  have c00 := Two.c0 g0; have c01 := Two.c1 g0; have c10 := Two.c0 g1; have c11 := Two.c1 g1; have f10 := Two.f0 g1; have f11 := Two.f1 g1
  clear hB g0 g1
  have l00 := Later.cell c00; have l01 := Later.cell c01
  refine wp_later_tail 7 (by kernel_rfl) (by kernel_rfl) ?_
  simp only [List.take_succ_cons, List.take_zero, List.drop_succ_cons, List.drop_zero]
  repeat (go_big_quiet_step (((go_at_call 37; with_reducible exact Calls.later_same (rnegF _ _)))))
  refine wpQuiet_nil ?_
  intro X
  clear l00 l01
  have hb := X.below; replace f10 := free_after hb c10 f10; replace f11 := free_after hb c11 f11; replace c00 := cell_after hb c00; replace c01 := cell_after hb c01; replace c10 := cell_after hb c10; replace c11 := cell_after hb c11; replace HB := Lib.hid (HB.out.trans (hb.mono HB.out.size)); replace hz := Nat.lt_of_lt_of_le hz hb.size; clear hb
  go_wp2
  refine bodyPost_ret (v := .agg #[.int .u64 (vF (-x.A)), .int .u64 (vF (-x.B))]) (by simp [results, Try.results43, go_sem, c10, c11]) rfl ⟨ret_E2 (x := -x) rfl rfl, ?_⟩
  exact (HB.out.setCell (by simp; try omega) _).setCell (by simp; try omega) _

end Go.Proofs.Ytnekndakipggbaa.J

namespace Go.Proofs.Ytnekndakipggbaa.J
set_option linter.unusedVariables false
set_option linter.unusedSimpArgs false
set_option linter.unusedSectionVars false
set_option maxRecDepth 8000
open Go.RowKit

/-- what is asked once an operation, carried out in w, has yielded this: the value v in the very world; or a call that hands back v and only adds to memory -/
def Oper.calmUpon (P : Program) (w : World) (v : Value) : Result Next → Prop
  | .ok (.value u) w' => w' = w ∧ u = v
  | .ok .skip w' => w' = w ∧ v = undef
  | .ok (.enter f args) w' => w' = w ∧ Calls P f args w (fun e w'' => e = .returned v ∧ Below w.heap.size w w'')
  | _ => False
/-- one value, in every later world -/
def Oper.calm (P : Program) (w0 : World) (o : Oper) (a : Act) (next : Act → Prop) : Prop := ∃ v, (∀ x : Later w0, Oper.calmUpon P x.at v ((execOp a.eval o).run P x.at)) ∧ next (a.put o.dst v)
attribute [go_sem] Oper.calm Oper.calmUpon

section
variable {P : Program} {ops : Array Oper} {w0 : World} {mk : Nat → Option Obj}
/-- which variable lies where -/
def upd (bs : Nat → Option Nat) (i b : Nat) : Nat → Option Nat := fun k => if k = i then some b else bs k
def ptr (b : Nat) : Value := .pointer (some ⟨b, 0, none⟩)

/-- what is free of all that is not listed -/
def FreeOf (ops : Array Oper) (listed : Array Bool) (i : Nat) (oi : Oper) : Prop :=
  ∀ j oj, ops[j]? = some oj → j ≠ i → listed.getD j true = false → (∀ e ∈ oj.after, Region.binds .any e = true → e.on ≠ i) → oi.apart ops oj = true
theorem FreeOf.set {listed : Array Bool} {i j : Nat} {oi : Oper} (h : FreeOf ops listed i oi) (hjun : listed.getD j true = false) : FreeOf ops (listed.setIfInBounds j true) i oi := fun k ok hk hki hku hkn => by
  refine h k ok hk hki ?_ hkn
  by_cases hjk : j = k
  · rw [← hjk]; exact hjun
  · rw [getD_set_ne true hjk] at hku; exact hku
variable {n : Nat} {L : Array Bool → Act → (Nat → Option Nat) → Prop}
/-- just the operations before k are listed -/
structure Pref (ops : Array Oper) (k : Nat) (listed : Array Bool) : Prop where
  size : listed.size = ops.size
  yes : ∀ i, i < k → listed.getD i false = true
  no : ∀ i, k ≤ i → i < ops.size → listed.getD i true = false
theorem Pref.start : Pref ops 0 (Array.replicate ops.size false) := ⟨by simp, by intro i hi; omega, fun i _ hi => getD_in (by simpa using hi) (getD_replicate_false _ _)⟩
theorem Pref.next {k : Nat} {listed : Array Bool} (h : Pref ops k listed) (hk : k < ops.size) : Pref ops (k + 1) (listed.setIfInBounds k true) := by
  refine ⟨by simpa using h.size, fun i hi => ?_, fun i hi hi' => ?_⟩
  · by_cases e : i = k
    · subst e
      simp [h.size, hk]
    · exact getD_set_true (h.yes i (by omega))
  · rw [getD_set_ne true (by omega)]
    exact h.no i (by omega) hi'
theorem Pref.at {k i : Nat} {listed : Array Bool} (h : Pref ops k listed) (hi : listed.getD i true = false) : k ≤ i := by
  rcases Nat.lt_or_ge i k with h' | h'
  · have h1 := h.yes i h'
    rw [getD_both hi] at h1
    cases h1
  · exact h'
theorem Pref.ready {k : Nat} {listed : Array Bool} {o : Oper} (h : Pref ops k listed) (hx : LexOK ops) (ho : ops[k]? = some o) : k ∈ Region.ready .any ops listed :=
  mem_ready.2 ⟨h.no k (Nat.le_refl _) (Array.getElem?_eq_some_iff.1 ho).1, o, ho, fun e he hb => h.yes _ (hx.edge k o ho e he hb)⟩
theorem Pref.inv {k n : Nat} {listed : Array Bool} (h : Pref ops k listed) (hx : LexOK ops) (hkn : k ≤ n) : HeadInv .any ops n listed := by
  refine ⟨h.size, fun j oj hj hl e he hb => ?_, fun t ht ht' => h.no t (by omega) ht'⟩
  have hlt := (Array.getElem?_eq_some_iff.1 hj).1
  have hjk : j < k := by
    rcases Nat.lt_or_ge j k with h' | h'
    · exact h'
    · have h1 := h.no j h' hlt
      rw [getD_both h1] at hl
      cases hl
  exact h.yes _ (Nat.lt_trans (hx.edge j oj hj e he hb) hjk)
theorem Pref.free {k : Nat} {listed : Array Bool} {o : Oper} (h : Pref ops k listed) (hx : LexOK ops) (ho : ops[k]? = some o) : FreeOf ops listed k o := fun j oj hj hne hun hno => by
  have := h.at hun
  exact hx.free k j o oj (by omega) ho hj hno

/-- the variables lie where they are said to lie -/
structure Fx (w0 : World) (mk : Nat → Option Obj) (bs : Nat → Option Nat) (w : World) : Prop where
  below : Below w0.heap.size w0 w
  here : ∀ i b, bs i = some b → ∃ z, mk i = some z ∧ w.heap[b]? = some z ∧ w0.heap.size ≤ b
  apart : ∀ i j b, bs i = some b → bs j = some b → i = j
theorem Fx.later {bs : Nat → Option Nat} {w w' : World} (h : Fx w0 mk bs w) (hb : Below w.heap.size w w') : Fx w0 mk bs w' :=
  ⟨h.below.trans (hb.mono h.below.size), fun i b e => by obtain ⟨z, h1, h2, h3⟩ := h.here i b e; exact ⟨z, h1, heap_keep h2 hb, h3⟩, h.apart⟩
theorem Fx.alloc {bs : Nat → Option Nat} {w : World} {i : Nat} {z : Obj} (h : Fx w0 mk bs w) (hm : mk i = some z) : Fx w0 mk (upd bs i w.heap.size) (w.alloc z) := by
  have new : ∀ j b, bs j = some b → b < w.heap.size := fun j b e => by
    obtain ⟨z', _, h2, _⟩ := h.here j b e
    exact (Array.getElem?_eq_some_iff.1 h2).1
  refine ⟨h.below.alloc h.below.size _, fun j b e => ?_, fun j k b e e' => ?_⟩
  · unfold upd at e
    by_cases hj : j = i
    · subst hj
      simp only [if_true, Option.some.injEq] at e
      subst e
      exact ⟨z, hm, heap_new w z, h.below.size⟩
    · simp only [hj, if_false] at e
      obtain ⟨z', h1, h2, h3⟩ := h.here j b e
      exact ⟨z', h1, heap_old _ h2, h3⟩
  · unfold upd at e e'
    by_cases hj : j = i
    · by_cases hk : k = i
      · rw [hj, hk]
      · simp only [hj, hk, if_true, if_false, Option.some.injEq] at e e'
        have := new k b e'
        omega
    · by_cases hk : k = i
      · simp only [hj, hk, if_true, if_false, Option.some.injEq] at e e'
        have := new j b e
        omega
      · simp only [hj, hk, if_false] at e e'
        exact h.apart j k b e e'

/-- the variables of a statement, by their list -/
def mkOf (m : Nat) (zs : List Obj) (i : Nat) : Option Obj := if i < m then none else zs[i - m]?
theorem Fx.get {m : Nat} {zs : List Obj} {bs : Nat → Option Nat} {X : World} (h : Fx w0 (mkOf m zs) bs X) (i b : Nat) (z : Obj) (e : bs i = some b) (e' : mkOf m zs i = some z) : X.heap[b]? = some z ∧ w0.heap.size ≤ b := by
  obtain ⟨z', h1, h2, h3⟩ := h.here i b e
  rw [h1] at e'
  cases e'
  exact ⟨h2, h3⟩
theorem all_cons {α : Type} {p : α → Prop} {x : α} {l : List α} (h : p x) (k : ∀ y, y ∈ l → p y) : ∀ y, y ∈ x :: l → p y := fun y hy => (List.mem_cons.1 hy).elim (fun e => e ▸ h) (k y)
theorem cells_at {W : World} {b : Nat} {cs : Array Value} {t : TypeId} (h : W.heap[b]? = some (.cells cs t (0, 0))) (i : Nat) {v : Value} (e : cs[i]? = some v) : W.cell? ⟨b, i, none⟩ = some v := by
  simp [World.cell?, h, e]
end


theorem Calls.calm {P : Program} {f : FuncId} {args : Array Value} {W : World} {v : Value} (h : Calls P f args W fun e w' => e = .returned v ∧ Below W.heap.size W w') : Calls P f args W fun e w'' => e = .returned v ∧ Below W.heap.size W w'' := h
end Go.Proofs.Ytnekndakipggbaa.J

namespace Go.Proofs.Ytnekndakipggbaa.J
set_option linter.unusedVariables false
set_option linter.unusedSimpArgs false
set_option linter.unusedSectionVars false
set_option maxRecDepth 8000
open Go.RowKit

/-- operations that only look -/
def stillOp (o : Oper) : Bool := match o.op with
  | .move _ => true
  | .assign _ => true
  | .pick _ _ _ => true
  | .load _ _ => true
  | .binOp _ _ _ _ _ => true
  | .unOp _ _ _ => true
  | .convert _ _ _ => true
  | .extract _ _ => true
  | .field _ _ _ => true
  | .indexAddr _ _ _ => true
  | .fieldAddr _ _ _ => true
  | .build _ _ => true
  | .slice _ _ _ _ _ => true
  | _ => false

theorem andThen_value {P : Program} {α : Type} {s : Sem α} {g : α → Value} {w w' : World} {n : Next} (h : (do let x ← s; pure (Next.value (g x)) : Sem Next).run P w = .ok n w') : ∃ x, n = .value x := by
  rw [Sem.run_bind] at h
  cases hs : s.run P w with
  | ok x w1 =>
    rw [hs, Result.andThen_ok, Sem.run_pure] at h
    injection h with h _
    exact ⟨_, h.symm⟩
  | halt x w1 => rw [hs] at h; cases h
theorem still_value {P : Program} {o : Oper} (h : stillOp o = true) {ev : Operand → Value} {w w' : World} {n : Next} (hr : (execOp ev o).run P w = .ok n w') : ∃ x, n = .value x := by
  unfold stillOp at h
  unfold execOp at hr
  cases ho : o.op <;> simp only [ho] at h hr <;> first | (exact absurd h (by decide)) | exact andThen_value (g := fun x => x) hr | exact andThen_value hr | (rw [Sem.run_pure] at hr; injection hr with hr _; exact ⟨_, hr.symm⟩)

section
variable {P : Program} {ops : Array Oper} {S : World → Prop} {Q : Exit → Act → World → Prop}

/-- what an operation that is carried out may leave: its value and the world -/
def heldUpon (P : Program) (K : Value → World → Prop) : Result Next → Prop
  | .ok (.value u) w' => K u w'
  | .ok .skip w' => K undef w'
  | .ok (.enter f args) w' => Calls P f args w' (fun e w'' => ∃ v, e = .returned v ∧ K v w'')
  | _ => False
def hOp (P : Program) (o : Oper) (K : Value → World → Prop) (a : Act) (w : World) : Prop := heldUpon P K ((execOp a.eval o).run P w)
theorem hOp_mono {o : Oper} {K K' : Value → World → Prop} {a : Act} {w : World} (h : ∀ v w', K v w' → K' v w') (hh : hOp P o K a w) : hOp P o K' a w := by
  unfold hOp at *
  generalize (execOp a.eval o).run P w = r at *
  cases r with
  | ok n w' =>
    cases n <;> simp only [heldUpon] at hh ⊢ <;> first | exact h _ _ hh | exact hh.mono fun _ _ ⟨v, he, hk⟩ => ⟨v, he, h _ _ hk⟩
  | halt x w' => exact hh
theorem hOp_out {o : Oper} {K : Value → World → Prop} {a : Act} {w : World} (hh : hOp P o K a w) : ∃ v w', K v w' := by
  unfold hOp at hh
  generalize (execOp a.eval o).run P w = r at hh
  cases r with
  | ok n w' =>
    cases n <;> simp only [heldUpon] at hh
    case value u => exact ⟨_, _, hh⟩
    case skip => exact ⟨_, _, hh⟩
    case enter f args =>
      obtain ⟨e, w1, fr, ⟨v, _, hk⟩, _⟩ := hh []
      exact ⟨v, w1, hk⟩
  | halt x w' => exact hh.elim
theorem hOp_put {o : Oper} (hs : ∀ cs b, o.op ≠ .select cs b) {K : Value → World → Prop} {a : Act} {w : World} {d : Option Tmp} {u : Value} (h : ∀ t, d = some t → t ∉ o.looksAt ops) (hh : hOp P o K a w) : hOp P o K (a.put d u) w := by
  unfold hOp at *
  rw [execOp_put o hs a d u h]
  exact hh

def quietNow (ops : Array Oper) (o : Oper) (a : Act) : Prop := stillOp o = true ∨ Region.wanted o (yielded ops a.tmps) = false
def sOp (P : Program) (ops : Array Oper) (S : World → Prop) (i : Nat) (K : Act → World → Prop) (a : Act) (w : World) : Prop :=
  match ops[i]? with
  | none => K a w
  | some o => (quietNow ops o a ∧ ∃ v, YieldsIf P ops S o v a ∧ K (a.put o.dst v) w) ∨ (¬ quietNow ops o a ∧ hOp P o (fun v w' => S w' ∧ K (a.put o.dst v) w') a w)
theorem sOp_mono {i : Nat} {K K' : Act → World → Prop} {a : Act} {w : World} (hS : S w) (h : ∀ a w, S w → K a w → K' a w) (hh : sOp P ops S i K a w) : sOp P ops S i K' a w := by
  unfold sOp at *
  cases hi : ops[i]? with
  | none => rw [hi] at hh; exact h _ _ hS hh
  | some o =>
    rw [hi] at hh
    rcases hh with ⟨hq, v, hy, hk⟩ | ⟨hq, hh⟩
    · exact .inl ⟨hq, v, hy, h _ _ hS hk⟩
    · exact .inr ⟨hq, hOp_mono (fun _ _ ⟨h1, h2⟩ => ⟨h1, h _ _ h1 h2⟩) hh⟩
theorem sOp_out {i : Nat} {K : Act → World → Prop} {a : Act} {w : World} (hS : S w) (hh : sOp P ops S i K a w) : ∃ a' w', S w' ∧ K a' w' := by
  unfold sOp at hh
  cases hi : ops[i]? with
  | none => rw [hi] at hh; exact ⟨_, _, hS, hh⟩
  | some o =>
    rw [hi] at hh
    rcases hh with ⟨_, v, _, hk⟩ | ⟨_, hh⟩
    · exact ⟨_, _, hS, hk⟩
    · obtain ⟨v, w', h1, h2⟩ := hOp_out hh
      exact ⟨_, _, h1, h2⟩
theorem quietNow_put {o : Oper} {a : Act} {d : Option Tmp} {u : Value} (h : ∀ t, d = some t → t ∉ o.looksAt ops) : quietNow ops o (a.put d u) ↔ quietNow ops o a := by
  unfold quietNow
  rw [wanted_put o a d u h]
theorem wpOp_of_sOp {i : Nat} {K K' : Act → World → Prop} {a : Act} {w : World} (hS : S w) (h : ∀ a w, S w → K a w → K' a w) (hh : sOp P ops S i K a w) : wpOp P ops Q i K' a w := by
  unfold sOp at hh
  cases hi : ops[i]? with
  | none =>
    rw [hi] at hh
    unfold wpOp
    simp only [hi]
    exact h _ _ hS hh
  | some o =>
    rw [hi] at hh
    rcases hh with ⟨_, v, hy, hk⟩ | ⟨hq, hh⟩
    · exact hy.wpOp hi hS (h _ _ hS hk)
    · have hw : Region.wanted o (yielded ops a.tmps) = true := by
        cases e : Region.wanted o (yielded ops a.tmps) with
        | true => rfl
        | false => exact absurd (.inr e) hq
      unfold wpOp
      simp only [hi, hw, if_true]
      refine .inl ?_
      unfold hOp at hh
      unfold Oper.wp
      generalize (execOp a.eval o).run P w = r at *
      cases r with
      | ok n w' =>
        cases n <;> simp only [heldUpon] at hh <;> simp only [Oper.upon]
        case value u => exact h _ _ hh.1 hh.2
        case skip => exact h _ _ hh.1 hh.2
        case enter f args => exact hh.mono fun e w'' ⟨v, he, h1, h2⟩ => by subst he; exact h _ _ h1 h2
      | halt x w' => exact hh.elim

theorem YieldsIf.one {o : Oper} {u v : Value} {a : Act} {w : World} (hS : S w) (h : YieldsIf P ops S o u a) (k : YieldsIf P ops S o v a) : u = v := by
  rcases h with ⟨h1, h2⟩ | ⟨h1, h2⟩ <;> rcases k with ⟨k1, k2⟩ | ⟨k1, k2⟩
  · have := (h2 w hS).symm.trans (k2 w hS)
    injection this with e
    injection e
  · rw [h1] at k1; cases k1
  · rw [h1] at k1; cases k1
  · rw [h2, k2]

/-- one operation apart from another: its value may be there already -/
theorem sOp_put {j : Nat} {oi oj : Oper} {v : Value} (hj : ops[j]? = some oj) (hap : oi.apart ops oj = true) (hsi : ∀ cs b, oi.op ≠ .select cs b) (hsj : ∀ cs b, oj.op ≠ .select cs b) {K : Act → World → Prop} {a : Act} {w : World}
    (hq : quietNow ops oi a) (hy : YieldsIf P ops S oi v a) (h : sOp P ops S j K (a.put oi.dst v) w) : sOp P ops S j (fun a' w' => quietNow ops oi a' ∧ YieldsIf P ops S oi v a' ∧ K (a'.put oi.dst v) w') a w := by
  obtain ⟨h1, h2, h3⟩ := Oper.apart_spec hap
  have keep : ∀ u, quietNow ops oi (a.put oj.dst u) ∧ YieldsIf P ops S oi v (a.put oj.dst u) := fun u =>
    ⟨(quietNow_put h3).2 hq, hy.of_same (execOp_put oi hsi a oj.dst u h3) (wanted_put oi a oj.dst u h3)⟩
  unfold sOp at *
  rw [hj] at h ⊢
  rcases h with ⟨hqj, u, hu, hk⟩ | ⟨hqj, hh⟩
  · exact .inl ⟨(quietNow_put h1).1 hqj, u, hu.of_same (execOp_put oj hsj a oi.dst v h1).symm (wanted_put oj a oi.dst v h1).symm, (keep u).1, (keep u).2, by rw [← Act.put_comm a v u h2]; exact hk⟩
  · refine .inr ⟨fun e => hqj ((quietNow_put h1).2 e), ?_⟩
    have hh' : hOp P oj (fun v' w' => S w' ∧ K ((a.put oi.dst v).put oj.dst v') w') a w := by
      unfold hOp at *
      rw [execOp_put oj hsj a oi.dst v h1] at hh
      exact hh
    exact hOp_mono (fun u w' ⟨e1, e2⟩ => ⟨e1, (keep u).1, (keep u).2, by rw [← Act.put_comm a v u h2]; exact e2⟩) hh'

/-- every later call waits for a call that has not come up -/
def Chain (ops : Array Oper) (i : Nat) (listed : Array Bool) : Prop := ∀ j oj, ops[j]? = some oj → j ≠ i → listed.getD j true = false → stillOp oj = false →
  ∃ e, e ∈ oj.after ∧ Region.binds .any e = true ∧ listed.getD e.on false = false ∧ ∀ oe, ops[e.on]? = some oe → stillOp oe = false

end

def LaterB (B : Nat) (w : World) : Type := { w' : World // Below B w w' }
instance {B : Nat} {w : World} : Nonempty (LaterB B w) := ⟨⟨w, Below.refl _ _⟩⟩
def LaterB.at {B : Nat} {w : World} (x : LaterB B w) : World := x.1
theorem LaterB.below {B : Nat} {w : World} (x : LaterB B w) : Below B w x.at := x.2
theorem LaterB.cell {B : Nat} {w : World} {a : Addr} {v : Value} (h : w.cell? a = some v) (hB : a.block < B) (x : LaterB B w) : x.at.cell? a = some v := (x.2.cell hB).trans h
theorem LaterB.step {B : Nat} {w w' w1 : World} (h : ∃ x : LaterB B w, w' = x.at) (hb : Below B w' w1) : ∃ x : LaterB B w, w1 = x.at := by
  obtain ⟨x, rfl⟩ := h
  exact ⟨⟨w1, x.2.trans hb⟩, rfl⟩
end Go.Proofs.Ytnekndakipggbaa.J

namespace Go.Proofs.Ytnekndakipggbaa.J
set_option linter.unusedVariables false
set_option linter.unusedSimpArgs false
set_option linter.unusedSectionVars false
set_option maxRecDepth 8000
open Go.RowKit Gold

/-- the two cells of an element -/
def AtV (w : World) (ad : Addr) (i : Nat) (p : Value × Value) : Prop :=
  w.cell? (ad.add (i * 2)) = some p.1 ∧ w.cell? ⟨(ad.add (i * 2)).block, (ad.add (i * 2)).off + 1, none⟩ = some p.2
theorem add_add' (a : Addr) (i j : Nat) : (a.add i).add j = a.add (i + j) := by
  unfold Addr.add
  by_cases hi : i = 0 <;> by_cases hj : j = 0 <;> simp [hi, hj, Nat.add_assoc]
theorem AtV.keep {w w' : World} {ad : Addr} {i : Nat} {p : Value × Value} (h : AtV w ad i p) (hb : Below w.heap.size w w') : AtV w' ad i p := ⟨cell_keep h.1 hb, cell_keep h.2 hb⟩

/-- a slice value that reads as the pairs of cells ps -/
structure SlR (w : World) (A : Option Addr) (n c : Nat) (ps : List (Value × Value)) : Prop where
  len : n = ps.length
  cap : n ≤ c
  top : c ≤ 9223372036854775807
  nil : A = none → c = 0
  cells : ∀ i p, ps[i]? = some p → ∃ ad, A = some ad ∧ AtV w ad i p
def valE (x : E2) : Value × Value := (.int .u64 (vF x.A), .int .u64 (vF x.B))
/-- a slice value that reads as the elements xs -/
def Sl (w : World) (A : Option Addr) (n c : Nat) (xs : List E2) : Prop := SlR w A n c (xs.map valE)

section
variable {w w' : World} {A : Option Addr} {n c : Nat} {ps : List (Value × Value)} {xs : List E2}
theorem SlR.keep (h : SlR w A n c ps) (hb : Below w.heap.size w w') : SlR w' A n c ps :=
  ⟨h.len, h.cap, h.top, h.nil, fun i p hp => by obtain ⟨ad, e, ha⟩ := h.cells i p hp; exact ⟨ad, e, ha.keep hb⟩⟩
theorem Sl.keep (h : Sl w A n c xs) (hb : Below w.heap.size w w') : Sl w' A n c xs := SlR.keep h hb
theorem Sl.len (h : Sl w A n c xs) : n = xs.length := by simpa using SlR.len h
theorem Sl.cap (h : Sl w A n c xs) : n ≤ c := SlR.cap h
theorem Sl.top (h : Sl w A n c xs) : c ≤ 9223372036854775807 := SlR.top h
theorem Sl.at_ {i : Nat} {x : E2} (h : Sl w A n c xs) (hx : xs[i]? = some x) : ∃ ad, A = some ad ∧ w.cell? (ad.add (i * 2)) = some (.int .u64 (vF x.A)) ∧ w.cell? ⟨(ad.add (i * 2)).block, (ad.add (i * 2)).off + 1, none⟩ = some (.int .u64 (vF x.B)) := by
  obtain ⟨ad, e, h1, h2⟩ := SlR.cells h i (valE x) (by simp [hx])
  exact ⟨ad, e, h1, h2⟩
theorem Sl.get {i : Nat} (h : Sl w A n c xs) (hi : i < n) : ∃ x, xs[i]? = some x := ⟨xs[i]'(by have := h.len; omega), List.getElem?_eq_getElem _⟩
theorem Sl.take (h : Sl w A n c xs) {k : Nat} (hk : k ≤ n) : Sl w A k c (xs.take k) := by
  refine ⟨by have := h.len; simp; omega, by have := h.cap; omega, h.top, SlR.nil h, fun i p hp => ?_⟩
  refine SlR.cells h i p ?_
  rw [List.map_take] at hp
  have hl := (List.getElem?_eq_some_iff.1 hp).1
  rw [List.getElem?_take_of_lt (by simp at hl; omega)] at hp
  exact hp
theorem Sl.drop (h : Sl w A n c xs) {k : Nat} (hk : k ≤ n) : Sl w (if c = k then A else A.map (·.add (k * 2))) (n - k) (c - k) (xs.drop k) := by
  refine ⟨by have := h.len; simp; omega, by have := h.cap; omega, by have := h.top; omega, ?_, fun i p hp => ?_⟩
  · intro e
    by_cases hck : c = k
    · omega
    · rw [if_neg hck] at e
      cases A with
      | none => have := SlR.nil h rfl; omega
      | some a => cases e
  rw [List.map_drop, List.getElem?_drop] at hp
  obtain ⟨ad, e, h1, h2⟩ := SlR.cells h _ p hp
  have hl := (List.getElem?_eq_some_iff.1 hp).1
  have hn := SlR.len h
  have hc := h.cap
  have hck : c ≠ k := by simp at hl hn; omega
  rw [if_neg hck, e]
  refine ⟨_, rfl, ?_, ?_⟩
  · rw [add_add', show k * 2 + i * 2 = (k + i) * 2 by omega]; exact h1
  · rw [add_add', show k * 2 + i * 2 = (k + i) * 2 by omega]; exact h2
theorem Sl.nil (w : World) : Sl w none 0 0 [] := ⟨rfl, Nat.le_refl _, Nat.zero_le _, fun _ => rfl, fun i p hp => by simp at hp⟩
theorem Sl.none (h : Sl w none n c xs) : n = 0 ∧ c = 0 ∧ xs = [] := by
  have h1 := SlR.nil h rfl
  have h2 := SlR.cap h
  have h3 : n = xs.length := by simpa using SlR.len h
  exact ⟨by omega, h1, List.eq_nil_of_length_eq_zero (by omega)⟩
end

theorem below_step {w W W1 : World} (h : Below w.heap.size w W) (h1 : Below W.heap.size W W1) : Below w.heap.size w W1 := h.trans (h1.mono h.size)
section
variable {w w' : World} {g : Nat} {xs : List E2}
end

end Go.Proofs.Ytnekndakipggbaa.J

namespace Go.Proofs.Ytnekndakipggbaa.J
set_option linter.unusedVariables false
set_option linter.unusedSimpArgs false
set_option linter.unusedSectionVars false
set_option maxRecDepth 8000
open Go.RowKit Gold

section
variable {w w' : World} {base : Nat} {v : Value} {n : Nat} {xs : List E2}
end

/-- a slice value that reads as the integers ls -/
structure Si (w : World) (A : Option Addr) (n c : Nat) (ls : List Nat) : Prop where
  len : n = ls.length
  cap : n ≤ c
  top : c ≤ 9223372036854775807
  cells : ∀ (i k : Nat), ls[i]? = some k → ∃ ad, A = some ad ∧ w.cell? (ad.add i) = some (.int .i64 (k : Int))
theorem Si.keep {w w' : World} {A : Option Addr} {n c : Nat} {ls : List Nat} (h : Si w A n c ls) (hb : Below w.heap.size w w') : Si w' A n c ls :=
  ⟨h.len, h.cap, h.top, fun i k hk => by obtain ⟨ad, e, hc⟩ := h.cells i k hk; exact ⟨ad, e, cell_keep hc hb⟩⟩
section
variable {w w' : World} {base : Nat} {v : Value} {n : Nat} {ls : List Nat}
end
end Go.Proofs.Ytnekndakipggbaa.J

namespace Go.Proofs.Ytnekndakipggbaa.J
set_option linter.unusedVariables false
set_option linter.unusedSimpArgs false
set_option linter.unusedSectionVars false
set_option maxRecDepth 8000
open Go.RowKit

section
variable {F : Fence} {m : Nat} {P : Program} {ops : Array Oper} {md : Region.Mode} {C : World → Prop}

end

section
variable {F : Fence} {m : Nat} {P : Program} {w : World}
/-- a callee that only adds to memory, inside the fence -/
theorem CallsIn.later {f : FuncId} {args : Array Value} {v : Value} {k : Nat} {x : Later w} (h : CallsIn F k P f args x.at fun e w' => e = .returned v ∧ Below x.at.heap.size x.at w') : CallsIn F k P f args x.at fun e w'' => e = .returned v ∧ ∃ y : Later w, w'' = y.at :=
  h.mono fun _ _ ⟨he, hb⟩ => ⟨he, ⟨⟨_, x.2.trans (hb.mono x.2.size)⟩, rfl⟩⟩
end

end Go.Proofs.Ytnekndakipggbaa.J

namespace Gold
set_option linter.unusedVariables false
set_option linter.unusedSimpArgs false
set_option linter.unusedSectionVars false
set_option maxRecDepth 8000

def froot (k : Int) : Int := fpow 7 (18446744069414584320 / 2 ^ k.toNat)
theorem El_froot (k : Int) : Gold.El (froot k) := El_fpow _ _
theorem El_seven : Gold.El 7 := by unfold Gold.El; omega

theorem halves : ∀ t : Fin 32, 18446744069414584320 / (2 : Int) ^ (t.val + 1) + 18446744069414584320 / (2 : Int) ^ (t.val + 1) = 18446744069414584320 / (2 : Int) ^ t.val := by decide
theorem halves_nonneg (k : Nat) : (0 : Int) ≤ 18446744069414584320 / 2 ^ k := Int.ediv_nonneg (by decide) (Int.le_of_lt (Int.pow_pos (by decide)))
theorem seven_half : fpow 7 9223372034707292160 = 18446744069414584320 := by
  have h := fpow_nat El_seven 9223372034707292160
  have e := pm_eq 64 7 9223372034707292160 (by decide)
  rw [show Int.toNat 7 = 7 from rfl, ← e, minus_one] at h
  exact h

theorem froot_nat (k : Int) (t : Nat) (h : k.toNat = t) : froot k = fpow 7 (18446744069414584320 / 2 ^ t) := by unfold froot; rw [h]

theorem froot_sq (k : Int) (h : 0 ≤ k ∧ k < 32) : fmul (froot (1 + k)) (froot (1 + k)) = froot (1 + k - 1) := by
  rw [froot_nat (1 + k) (k.toNat + 1) (by omega), froot_nat (1 + k - 1) k.toNat (by omega), fpow_add _ _ _ (halves_nonneg _) (halves_nonneg _), halves ⟨k.toNat, by omega⟩]

end Gold

namespace Gold
set_option linter.unusedVariables false
set_option linter.unusedSimpArgs false
set_option linter.unusedSectionVars false
set_option maxRecDepth 8000

theorem F_pow_zero (x : F) : x ^ 0 = 1 := by grind
theorem F_pow_one (x : F) : x ^ 1 = x := by grind
theorem F_pow_succ (x : F) (n : Nat) : x ^ (n + 1) = x ^ n * x := by grind
theorem F_pow_add (x : F) (m n : Nat) : x ^ (m + n) = x ^ m * x ^ n := by grind
theorem F_one_pow (n : Nat) : (1 : F) ^ n = 1 := by
  induction n with
  | zero => exact F_pow_zero _
  | succ n ih => rw [F_pow_succ, ih]; grind
theorem F_mul_comm (x y : F) : x * y = y * x := by grind
theorem F_one_mul (x : F) : 1 * x = x := by grind
theorem F_mul_zero (x : F) : x * 0 = 0 := by grind
theorem F_zero_add (x : F) : 0 + x = x := by grind

/-- f 0 + .. + f (n - 1) -/
def sumF (f : Nat → F) : Nat → F
  | 0 => 0
  | n + 1 => sumF f n + f n
theorem sumF_congr {f g : Nat → F} : ∀ {n : Nat}, (∀ i, i < n → f i = g i) → sumF f n = sumF g n
  | 0, _ => rfl
  | n + 1, h => by
    show sumF f n + f n = sumF g n + g n
    rw [sumF_congr (fun i hi => h i (by omega)), h n (by omega)]
theorem sumF_zero : ∀ n, sumF (fun _ => 0) n = 0
  | 0 => rfl
  | n + 1 => by
    show sumF (fun _ => 0) n + 0 = 0
    rw [sumF_zero n]
    grind
theorem sumF_add (f g : Nat → F) : ∀ n, sumF (fun i => f i + g i) n = sumF f n + sumF g n
  | 0 => by show (0 : F) = 0 + 0; grind
  | n + 1 => by
    show sumF (fun i => f i + g i) n + (f n + g n) = sumF f n + f n + (sumF g n + g n)
    rw [sumF_add f g n]
    grind
theorem sumF_mul (c : F) (f : Nat → F) : ∀ n, sumF (fun i => c * f i) n = c * sumF f n
  | 0 => by show (0 : F) = c * 0; grind
  | n + 1 => by
    show sumF (fun i => c * f i) n + c * f n = c * (sumF f n + f n)
    rw [sumF_mul c f n]
    grind
theorem sumF_swap (f : Nat → Nat → F) (m : Nat) : ∀ n, sumF (fun i => sumF (fun j => f i j) m) n = sumF (fun j => sumF (fun i => f i j) n) m
  | 0 => (sumF_zero m).symm
  | n + 1 => by
    show sumF (fun i => sumF (fun j => f i j) m) n + sumF (fun j => f n j) m = sumF (fun j => sumF (fun i => f i j) n + f n j) m
    rw [sumF_swap f m n, sumF_add]
theorem sumF_split (f : Nat → F) (m : Nat) : ∀ n, sumF f (m + n) = sumF f m + sumF (fun i => f (m + i)) n
  | 0 => by show sumF f m = sumF f m + 0; grind
  | n + 1 => by
    show sumF f (m + n) + f (m + n) = sumF f m + (sumF (fun i => f (m + i)) n + f (m + n))
    rw [sumF_split f m n]
    grind
theorem sumF_tail {f : Nat → F} {m n : Nat} (hmn : m ≤ n) (h : ∀ i, m ≤ i → i < n → f i = 0) : sumF f n = sumF f m := by
  obtain ⟨d, rfl⟩ : ∃ d, n = m + d := ⟨n - m, by omega⟩
  rw [sumF_split, sumF_congr (g := fun _ => 0) (fun i hi => h (m + i) (by omega) (by omega)), sumF_zero]
  grind
theorem sumF_one {f : Nat → F} {m n : Nat} (hm : m < n) (h : ∀ i, i < n → i ≠ m → f i = 0) : sumF f n = f m := by
  rw [sumF_tail (m := m + 1) (by omega) (fun i h1 h2 => h i h2 (by omega))]
  show sumF f m + f m = f m
  rw [sumF_tail (m := 0) (by omega) (fun i h1 h2 => h i (by omega) (by omega))]
  show 0 + f m = f m
  grind
/-- the value at x of the polynomial with the first n coefficients of a -/
def evF (a : Nat → F) (n : Nat) (x : F) : F := sumF (fun j => a j * x ^ j) n
/-- coefficient -/
def cfF (xs : List F) (i : Nat) : F := (xs[i]?).getD 0
theorem cfF_some {xs : List F} {i : Nat} {x : F} (h : xs[i]? = some x) : cfF xs i = x := by unfold cfF; rw [h]; rfl
theorem cfF_none {xs : List F} {i : Nat} (h : xs.length ≤ i) : cfF xs i = 0 := by unfold cfF; rw [List.getElem?_eq_none h]; rfl
theorem evF_congr {a b : Nat → F} {n : Nat} (h : ∀ i, i < n → a i = b i) (x : F) : evF a n x = evF b n x := sumF_congr fun i hi => by rw [h i hi]
theorem evF_add (a b : Nat → F) (n : Nat) (x : F) : evF (fun i => a i + b i) n x = evF a n x + evF b n x := by
  unfold evF
  rw [← sumF_add]
  exact sumF_congr fun i _ => by grind
theorem evF_mul (c : F) (a : Nat → F) (n : Nat) (x : F) : evF (fun i => c * a i) n x = c * evF a n x := by
  unfold evF
  rw [← sumF_mul]
  exact sumF_congr fun i _ => by grind
theorem evF_pad {a : Nat → F} {m n : Nat} (hmn : m ≤ n) (h : ∀ i, m ≤ i → a i = 0) (x : F) : evF a n x = evF a m x := sumF_tail hmn fun i hi _ => by rw [h i hi]; grind
theorem evF_one (a : Nat → F) (x : F) : evF a 1 x = a 0 := by
  show 0 + a 0 * x ^ 0 = a 0
  rw [F_pow_zero]
  grind
theorem evF_halves (a : Nat → F) (x : F) : ∀ n, evF a (n + n) x = evF (fun i => a (2 * i)) n (x * x) + x * evF (fun i => a (2 * i + 1)) n (x * x)
  | 0 => by show (0 : F) = 0 + x * 0; grind
  | n + 1 => by
    have ih := evF_halves a x n
    have e1 : evF a (n + 1 + (n + 1)) x = evF a (n + n) x + a (n + n) * x ^ (n + n) + a (n + n + 1) * x ^ (n + n + 1) := by
      rw [show n + 1 + (n + 1) = n + n + 1 + 1 by omega]
      rfl
    have e2 : (x * x) ^ n = x ^ (n + n) := by rw [F_pow_add, F_mul_pow]
    rw [e1, ih]
    show _ = evF (fun i => a (2 * i)) n (x * x) + a (2 * n) * (x * x) ^ n + x * (evF (fun i => a (2 * i + 1)) n (x * x) + a (2 * n + 1) * (x * x) ^ n)
    rw [e2, F_pow_succ, show n + n = 2 * n by omega]
    grind
/-- Horner's rule -/
def evL : List F → F → F
  | [], _ => 0
  | a :: l, x => evL l x * x + a
theorem sumF_front (f : Nat → F) (n : Nat) : sumF f (n + 1) = f 0 + sumF (fun i => f (i + 1)) n := by
  have h := sumF_split f 1 n
  rw [Nat.add_comm] at h
  rw [h]
  show 0 + f 0 + _ = _
  rw [sumF_congr (g := fun i => f (i + 1)) (fun i _ => by show f _ = f _; congr 1; omega)]
  grind
theorem evL_evF (x : F) : ∀ xs : List F, evL xs x = evF (cfF xs) xs.length x
  | [] => rfl
  | a :: l => by
    show evL l x * x + a = sumF _ (l.length + 1)
    rw [evL_evF x l, sumF_front]
    show evF (cfF l) l.length x * x + a = a * x ^ 0 + sumF (fun i => cfF l i * x ^ (i + 1)) l.length
    rw [sumF_congr (g := fun i => x * (cfF l i * x ^ i)) (fun i _ => by rw [F_pow_succ]; grind), sumF_mul, F_pow_zero]
    show _ = a * 1 + x * evF (cfF l) l.length x
    grind
theorem evL_evF' {xs : List F} {n : Nat} (h : xs.length ≤ n) (x : F) : evF (cfF xs) n x = evL xs x := by rw [evL_evF, evF_pad h fun i hi => cfF_none hi]

/-- the root of unity of order 2^k -/
def rootF (k : Nat) : F := toF (froot k)
theorem vF_root (k : Nat) : vF (rootF k) = froot k := vF_toF_El (El_froot _)
theorem rootF_sq {k : Nat} (h : k < 32) : rootF (k + 1) * rootF (k + 1) = rootF k := by
  apply vF_inj
  rw [← vF_mul, vF_root, vF_root]
  have := froot_sq (k : Int) ⟨by omega, by omega⟩
  rw [show ((k + 1 : Nat) : Int) = 1 + (k : Int) by omega]
  rw [this, show 1 + (k : Int) - 1 = (k : Int) by omega]
theorem rootF_zero : rootF 0 = 1 := by
  apply vF_inj
  rw [vF_root, vF_one]
  have h7 := fpow_fermat (a := 7) (by unfold El; omega) (by omega)
  unfold froot
  exact h7
theorem pow2_succ (k : Nat) : 2 ^ (k + 1) = 2 ^ k + 2 ^ k := by rw [Nat.pow_succ]; omega
theorem rootF_full : ∀ {k : Nat}, k ≤ 32 → rootF k ^ (2 ^ k) = 1
  | 0, _ => by rw [rootF_zero]; exact F_one_pow _
  | k + 1, h => by
    rw [pow2_succ, F_pow_add, ← F_mul_pow, rootF_sq (by omega)]
    exact rootF_full (by omega)
theorem rootF_one : rootF 1 = -1 := by
  apply vF_inj
  rw [vF_root]
  have := seven_half
  unfold froot
  exact this
theorem rootF_half : ∀ {k : Nat}, k < 32 → rootF (k + 1) ^ (2 ^ k) = -1
  | 0, _ => by rw [show 2 ^ 0 = 1 from rfl, F_pow_one]; exact rootF_one
  | k + 1, h => by
    rw [pow2_succ, F_pow_add, ← F_mul_pow, rootF_sq (by omega)]
    exact rootF_half (by omega)
theorem neg_one_odd : ∀ e : Nat, (-1 : F) ^ (2 * e + 1) = -1
  | 0 => F_pow_one _
  | e + 1 => by
    rw [show 2 * (e + 1) + 1 = 2 * e + 1 + 1 + 1 by omega, F_pow_succ, F_pow_succ, neg_one_odd e]
    decide
theorem rootF_ne : ∀ (k : Nat), k ≤ 32 → ∀ d, 0 < d → d < 2 ^ k → rootF k ^ d ≠ 1
  | 0, _, d, h0, h1 => by simp at h1; omega
  | k + 1, hk, d, h0, h1 => by
    rcases Nat.mod_two_eq_zero_or_one d with he | he
    · obtain ⟨e, rfl⟩ : ∃ e, d = e + e := ⟨d / 2, by omega⟩
      rw [F_pow_add, ← F_mul_pow, rootF_sq (by omega)]
      exact rootF_ne k (by omega) e (by omega) (by rw [pow2_succ] at h1; omega)
    · intro h
      obtain ⟨e, rfl⟩ : ∃ e, d = 2 * e + 1 := ⟨d / 2, by omega⟩
      have h2 : (rootF (k + 1) ^ (2 * e + 1)) ^ (2 ^ k) = -1 := by
        rw [← F_pow_mul, Nat.mul_comm, F_pow_mul, rootF_half (by omega)]
        exact neg_one_odd e
      rw [h, F_one_pow] at h2
      exact absurd h2 (by decide)

theorem geo (z : F) : ∀ n, (z - 1) * sumF (fun j => z ^ j) n = z ^ n - 1
  | 0 => by rw [F_pow_zero]; show (z - 1) * 0 = 1 - 1; grind
  | n + 1 => by
    show (z - 1) * (sumF (fun j => z ^ j) n + z ^ n) = _
    have := geo z n
    rw [F_pow_succ]
    grind
/-- n times one -/
def natF (n : Nat) : F := toF n
theorem natF_zero : natF 0 = 0 := by decide
theorem natF_succ (n : Nat) : natF (n + 1) = natF n + 1 := by
  apply vF_inj
  rw [← vF_add]
  unfold natF
  rw [vF_toF, vF_toF, vF_one]
  unfold fred fadd
  omega
theorem sumF_ones : ∀ n, sumF (fun _ => 1) n = natF n
  | 0 => natF_zero.symm
  | n + 1 => by
    show sumF (fun _ => 1) n + 1 = _
    rw [sumF_ones n, natF_succ]
theorem natF_ne {n : Nat} (h0 : 0 < n) (h : n ≤ 65536) : natF n ≠ 0 := by
  intro e
  have h1 : vF (natF n) = vF 0 := by rw [e]
  unfold natF at h1
  rw [vF_toF, vF_zero] at h1
  unfold fred at h1
  omega
/-- the inverse of the root -/
def vrootF (k : Nat) : F := rootF k ^ (2 ^ k - 1)
theorem vroot_mul {k : Nat} (h : k ≤ 32) : rootF k * vrootF k = 1 := by
  unfold vrootF
  have h1 := rootF_full h
  rw [show 2 ^ k = (2 ^ k - 1) + 1 by have := Nat.two_pow_pos k; omega, F_pow_succ, F_mul_comm] at h1
  exact h1
theorem vroot_pow {k : Nat} (h : k ≤ 32) (i : Nat) : rootF k ^ i * vrootF k ^ i = 1 := by rw [← F_mul_pow, vroot_mul h, F_one_pow]
theorem orth {k : Nat} (hk : k ≤ 32) {i l : Nat} (hi : i < 2 ^ k) (hl : l < 2 ^ k) : sumF (fun j => (rootF k ^ i * vrootF k ^ l) ^ j) (2 ^ k) = if i = l then natF (2 ^ k) else 0 := by
  by_cases h : i = l
  · subst h
    rw [if_pos rfl, vroot_pow hk, sumF_congr (g := fun _ => 1) (fun j _ => F_one_pow j), sumF_ones]
  · rw [if_neg h]
    have hz : (rootF k ^ i * vrootF k ^ l) ^ (2 ^ k) = 1 := by
      unfold vrootF
      rw [← F_pow_mul, ← F_pow_add, ← F_pow_mul, Nat.mul_comm, F_pow_mul, rootF_full hk, F_one_pow]
    have hg := geo (rootF k ^ i * vrootF k ^ l) (2 ^ k)
    rw [hz] at hg
    have hne : rootF k ^ i * vrootF k ^ l - 1 ≠ 0 := by
      intro e
      have e1 : rootF k ^ i * vrootF k ^ l = 1 := by grind
      have e2 := vroot_pow hk l
      have e3 : rootF k ^ i = rootF k ^ l := by grind
      have key : ∀ a b : Nat, a < b → b < 2 ^ k → rootF k ^ a = rootF k ^ b → False := by
        intro a b hab hb e4
        refine rootF_ne k hk (b - a) (by omega) (by omega) ?_
        have e5 := vroot_pow hk a
        rw [show b = a + (b - a) by omega, F_pow_add] at e4
        grind
      rcases Nat.lt_or_gt_of_ne h with h1 | h1
      · exact key i l h1 hl e3
      · exact key l i h1 hi e3.symm
    have h1 : (rootF k ^ i * vrootF k ^ l - 1) * sumF (fun j => (rootF k ^ i * vrootF k ^ l) ^ j) (2 ^ k) = 0 := by rw [hg]; grind
    exact (F_zero_divisor h1).elim (fun h => absurd h hne) id
/-- the transform -/
def fwdF (a : Nat → F) (k i : Nat) : F := evF a (2 ^ k) (rootF k ^ i)
/-- the values at the inverse powers, over the length -/
def invT (a : Nat → F) (k i : Nat) : F := invF (natF (2 ^ k)) * evF a (2 ^ k) (vrootF k ^ i)
theorem pow2_le {k : Nat} (h : k ≤ 16) : 2 ^ k ≤ 65536 := by
  have : 2 ^ k ≤ 2 ^ 16 := Nat.pow_le_pow_right (by omega) h
  simpa using this
theorem natF_inv {k : Nat} (h : k ≤ 16) : invF (natF (2 ^ k)) * natF (2 ^ k) = 1 := by
  rw [F_mul_comm]
  exact mul_invF (natF_ne (Nat.two_pow_pos k) (pow2_le h))
theorem fwd_inv {k : Nat} (hk : k ≤ 16) (a : Nat → F) {i : Nat} (hi : i < 2 ^ k) : fwdF (invT a k) k i = a i := by
  unfold fwdF invT
  rw [evF_mul]
  unfold evF
  have h1 : sumF (fun j => sumF (fun l => a l * (vrootF k ^ j) ^ l) (2 ^ k) * (rootF k ^ i) ^ j) (2 ^ k) = sumF (fun l => a l * sumF (fun j => (rootF k ^ i * vrootF k ^ l) ^ j) (2 ^ k)) (2 ^ k) := by
    rw [sumF_congr (g := fun j => sumF (fun l => a l * (rootF k ^ i * vrootF k ^ l) ^ j) (2 ^ k)) ?_, sumF_swap]
    · exact sumF_congr fun l _ => sumF_mul _ _ _
    · intro j _
      rw [F_mul_comm, ← sumF_mul]
      refine sumF_congr fun l _ => ?_
      have e : (vrootF k ^ j) ^ l = (vrootF k ^ l) ^ j := by rw [← F_pow_mul, ← F_pow_mul, Nat.mul_comm]
      rw [F_mul_pow, e]
      grind
  rw [h1, sumF_one hi ?_, orth (by omega) hi hi, if_pos rfl]
  · have := natF_inv hk
    grind
  · intro l hl hne
    rw [orth (by omega) hi hl, if_neg (Ne.symm hne)]
    exact F_mul_zero _
theorem vroot_index {k : Nat} (hk : k ≤ 32) {i : Nat} (hi : i < 2 ^ k) : rootF k ^ ((2 ^ k - i) % 2 ^ k) = vrootF k ^ i := by
  have h1 := vroot_pow hk i
  have h2 : rootF k ^ i * rootF k ^ ((2 ^ k - i) % 2 ^ k) = 1 := by
    rw [← F_pow_add]
    by_cases h0 : i = 0
    · subst h0
      rw [Nat.sub_zero, Nat.mod_self, Nat.add_zero, F_pow_zero]
    · rw [Nat.mod_eq_of_lt (by omega), show i + (2 ^ k - i) = 2 ^ k by omega]
      exact rootF_full hk
  grind

/-- the coefficients of a product -/
def convF (a b : Nat → F) (m : Nat) : F := sumF (fun i => a i * b (m - i)) (m + 1)
theorem conv_sum (f : Nat → Nat → F) : ∀ n, sumF (fun m => sumF (fun i => f i (m - i)) (m + 1)) n = sumF (fun i => sumF (fun j => f i j) (n - i)) n
  | 0 => rfl
  | n + 1 => by
    show sumF (fun m => sumF (fun i => f i (m - i)) (m + 1)) n + sumF (fun i => f i (n - i)) (n + 1) = sumF (fun i => sumF (fun j => f i j) (n + 1 - i)) n + sumF (fun j => f n j) (n + 1 - n)
    rw [conv_sum f n]
    rw [sumF_congr (f := fun i => sumF (fun j => f i j) (n + 1 - i)) (g := fun i => sumF (fun j => f i j) (n - i) + f i (n - i)) (fun i hi => by rw [show n + 1 - i = (n - i) + 1 by omega]; rfl), sumF_add]
    rw [show n + 1 - n = 1 by omega]
    show _ + (sumF (fun i => f i (n - i)) n + f n (n - n)) = _ + _ + (0 + f n 0)
    rw [Nat.sub_self]
    grind
theorem evF_conv {a b : Nat → F} {la lb n : Nat} (ha : ∀ i, la ≤ i → a i = 0) (hb : ∀ i, lb ≤ i → b i = 0) (hn : la + lb ≤ n + 1) (x : F) : evF (convF a b) n x = evF a n x * evF b n x := by
  have h1 : evF (convF a b) n x = sumF (fun m => sumF (fun i => (a i * x ^ i) * (b (m - i) * x ^ (m - i))) (m + 1)) n := by
    unfold evF convF
    refine sumF_congr fun m _ => ?_
    rw [F_mul_comm, ← sumF_mul]
    refine sumF_congr fun i hi => ?_
    have : x ^ m = x ^ i * x ^ (m - i) := by rw [← F_pow_add, show i + (m - i) = m by omega]
    rw [this]
    grind
  rw [h1, conv_sum (fun i j => (a i * x ^ i) * (b j * x ^ j))]
  have h2 : ∀ i, i < n → sumF (fun j => (a i * x ^ i) * (b j * x ^ j)) (n - i) = evF b n x * (a i * x ^ i) := by
    intro i hi
    rw [sumF_mul]
    by_cases hla : la ≤ i
    · rw [ha i hla]
      grind
    · have : sumF (fun j => b j * x ^ j) n = sumF (fun j => b j * x ^ j) (n - i) := sumF_tail (by omega) fun j h3 h4 => by rw [hb j (by omega)]; grind
      unfold evF
      rw [this]
      grind
  rw [sumF_congr h2, sumF_mul, F_mul_comm]
  rfl
/-- the low m bits in reverse order -/
def revN : Nat → Nat → Nat
  | 0, _ => 0
  | m + 1, b => revN m (b / 2) + b % 2 * 2 ^ m
theorem revN_lt : ∀ m b, revN m b < 2 ^ m
  | 0, _ => Nat.one_pos
  | m + 1, b => by
    have := revN_lt m (b / 2)
    rw [pow2_succ]
    show revN m (b / 2) + b % 2 * 2 ^ m < _
    rcases Nat.mod_two_eq_zero_or_one b with h | h <;> rw [h] <;> omega
theorem revN_top : ∀ m b c, b < 2 ^ m → c < 2 → revN (m + 1) (b + c * 2 ^ m) = 2 * revN m b + c
  | 0, b, c, hb, hc => by
    obtain rfl : b = 0 := by simp at hb; exact hb
    show revN 0 _ + (0 + c * 2 ^ 0) % 2 * 2 ^ 0 = 2 * 0 + c
    show 0 + (0 + c * 1) % 2 * 1 = 2 * 0 + c
    omega
  | m + 1, b, c, hb, hc => by
    show revN (m + 1) ((b + c * 2 ^ (m + 1)) / 2) + (b + c * 2 ^ (m + 1)) % 2 * 2 ^ (m + 1) = 2 * (revN m (b / 2) + b % 2 * 2 ^ m) + c
    have h1 : c * 2 ^ (m + 1) = 2 * (c * 2 ^ m) := by rw [Nat.pow_succ]; rw [← Nat.mul_assoc, Nat.mul_comm]
    have h2 : (b + c * 2 ^ (m + 1)) / 2 = b / 2 + c * 2 ^ m := by omega
    have h3 : (b + c * 2 ^ (m + 1)) % 2 = b % 2 := by omega
    rw [h2, h3, revN_top m (b / 2) c (by rw [pow2_succ] at hb; omega) hc, Nat.pow_succ]
    rcases Nat.mod_two_eq_zero_or_one b with h | h <;> rw [h] <;> omega
theorem revN_rev : ∀ m b, b < 2 ^ m → revN m (revN m b) = b
  | 0, b, h => by simp at h; subst h; rfl
  | m + 1, b, h => by
    show revN (m + 1) (revN m (b / 2) + b % 2 * 2 ^ m) = b
    rw [revN_top m _ _ (revN_lt _ _) (by omega), revN_rev m (b / 2) (by rw [pow2_succ] at h; omega)]
    omega
/-- every 2^m-th coefficient, from the one whose bits are those of b in reverse order -/
def subF (A : Nat → F) (m b : Nat) (j : Nat) : F := A (revN m b + 2 ^ m * j)
theorem subF_zero (A : Nat → F) (b j : Nat) : subF A 0 b j = A j := by
  show A (0 + 2 ^ 0 * j) = A j
  congr 1
  simp
theorem subF_even (A : Nat → F) (m b j : Nat) : subF A (m + 1) (2 * b) j = subF A m b (2 * j) := by
  show A (revN m (2 * b / 2) + 2 * b % 2 * 2 ^ m + 2 ^ (m + 1) * j) = A (revN m b + 2 ^ m * (2 * j))
  congr 1
  rw [show 2 * b / 2 = b by omega, show 2 * b % 2 = 0 by omega, Nat.pow_succ, Nat.mul_assoc]
  omega
theorem subF_odd (A : Nat → F) (m b j : Nat) : subF A (m + 1) (2 * b + 1) j = subF A m b (2 * j + 1) := by
  show A (revN m ((2 * b + 1) / 2) + (2 * b + 1) % 2 * 2 ^ m + 2 ^ (m + 1) * j) = A (revN m b + 2 ^ m * (2 * j + 1))
  congr 1
  rw [show (2 * b + 1) / 2 = b by omega, show (2 * b + 1) % 2 = 1 by omega, Nat.pow_succ, Nat.mul_assoc, Nat.mul_add]
  omega
/-- what lies at p when every block of length 2^k holds a transform -/
def stF (A : Nat → F) (K k p : Nat) : F := fwdF (subF A (K - k) (p / 2 ^ k)) k (p % 2 ^ k)
theorem stF_first (A : Nat → F) (K p : Nat) : stF A K 0 p = A (revN K p) := by
  unfold stF fwdF
  rw [show 2 ^ 0 = 1 from rfl, evF_one, Nat.div_one]
  show A (revN (K - 0) p + 2 ^ (K - 0) * 0) = _
  rw [Nat.mul_zero, Nat.add_zero, Nat.sub_zero]
theorem stF_last (A : Nat → F) {K p : Nat} (hp : p < 2 ^ K) : stF A K K p = fwdF A K p := by
  unfold stF
  rw [Nat.sub_self, Nat.mod_eq_of_lt hp]
  unfold fwdF
  exact evF_congr (fun j _ => subF_zero _ _ _) _
/-- one round: butterflies in blocks of twice h -/
def layF (f : Nat → F) (h : Nat) (P : Nat → F) (p : Nat) : F :=
  if p % (h + h) < h then f p + P (p % (h + h)) * f (p + h) else f (p - h) - P (p % (h + h) - h) * f p
theorem layF_stF (A : Nat → F) {K k p : Nat} (hk : k < K) (hK : K ≤ 32) : layF (stF A K k) (2 ^ k) (fun i : Nat => rootF (k + 1) ^ i) p = stF A K (k + 1) p := by
  obtain ⟨m, hm⟩ : ∃ m, K - k = m + 1 := ⟨K - k - 1, by omega⟩
  have hL := Nat.two_pow_pos k
  have hm' : K - (k + 1) = m := by omega
  have e2 : 2 ^ (k + 1) = 2 ^ k + 2 ^ k := pow2_succ k
  -- the block and the place in it
  obtain ⟨b, hb⟩ : ∃ b, b = p / (2 ^ k + 2 ^ k) := ⟨_, rfl⟩
  obtain ⟨r, hr⟩ : ∃ r, r = p % (2 ^ k + 2 ^ k) := ⟨_, rfl⟩
  have hrl : r < 2 ^ k + 2 ^ k := by rw [hr]; exact Nat.mod_lt _ (by omega)
  have hp : p = (2 ^ k + 2 ^ k) * b + r := by rw [hb, hr]; exact (Nat.div_add_mod p _).symm
  have hsq := rootF_sq (k := k) (by omega)
  have hhalf := rootF_half (k := k) (by omega)
  have hev : ∀ i : Nat, evF (subF A m b) (2 ^ k + 2 ^ k) (rootF (k + 1) ^ i) = evF (subF A (m + 1) (2 * b)) (2 ^ k) (rootF k ^ i) + rootF (k + 1) ^ i * evF (subF A (m + 1) (2 * b + 1)) (2 ^ k) (rootF k ^ i) := by
    intro i
    rw [evF_halves, ← F_mul_pow, hsq]
    congr 1
    · exact evF_congr (fun j _ => (subF_even A m b j).symm) _
    · congr 1
      exact evF_congr (fun j _ => (subF_odd A m b j).symm) _
  have hdiv : ∀ c s, c < 2 → s < 2 ^ k → ((2 ^ k + 2 ^ k) * b + c * 2 ^ k + s) / 2 ^ k = 2 * b + c ∧ ((2 ^ k + 2 ^ k) * b + c * 2 ^ k + s) % 2 ^ k = s := by
    intro c s hc hs
    have e : (2 ^ k + 2 ^ k) * b + c * 2 ^ k + s = s + 2 ^ k * (2 * b + c) := by
      rw [Nat.mul_add, Nat.add_mul, Nat.mul_comm c]
      have : 2 ^ k * (2 * b) = 2 ^ k * b + 2 ^ k * b := by rw [← Nat.mul_assoc, Nat.mul_comm (2 ^ k) 2, Nat.mul_assoc]; omega
      omega
    rw [e, Nat.add_mul_div_left _ _ hL, Nat.add_mul_mod_self_left, Nat.div_eq_of_lt hs, Nat.mod_eq_of_lt hs]
    exact ⟨by omega, rfl⟩
  have hst : stF A K (k + 1) p = evF (subF A m b) (2 ^ k + 2 ^ k) (rootF (k + 1) ^ r) := by
    unfold stF fwdF
    rw [hm', e2, ← hb, ← hr]
  rw [hst, hev]
  unfold layF
  rw [← hr]
  by_cases h : r < 2 ^ k
  · rw [if_pos h]
    obtain ⟨d0, m0⟩ := hdiv 0 r (by omega) h
    obtain ⟨d1, m1⟩ := hdiv 1 r (by omega) h
    have p0 : p = (2 ^ k + 2 ^ k) * b + 0 * 2 ^ k + r := by omega
    have p1 : p + 2 ^ k = (2 ^ k + 2 ^ k) * b + 1 * 2 ^ k + r := by omega
    have s0 : stF A K k p = evF (subF A (m + 1) (2 * b)) (2 ^ k) (rootF k ^ r) := by
      unfold stF fwdF
      rw [hm, p0, d0, m0]
      rfl
    have s1 : stF A K k (p + 2 ^ k) = evF (subF A (m + 1) (2 * b + 1)) (2 ^ k) (rootF k ^ r) := by
      unfold stF fwdF
      rw [hm, p1, d1, m1]
    rw [s0, s1]
  · rw [if_neg h]
    obtain ⟨s, hs⟩ : ∃ s, r = 2 ^ k + s := ⟨r - 2 ^ k, by omega⟩
    obtain ⟨d0, m0⟩ := hdiv 0 s (by omega) (by omega)
    obtain ⟨d1, m1⟩ := hdiv 1 s (by omega) (by omega)
    have p0 : p - 2 ^ k = (2 ^ k + 2 ^ k) * b + 0 * 2 ^ k + s := by omega
    have p1 : p = (2 ^ k + 2 ^ k) * b + 1 * 2 ^ k + s := by omega
    have s0 : stF A K k (p - 2 ^ k) = evF (subF A (m + 1) (2 * b)) (2 ^ k) (rootF k ^ s) := by
      unfold stF fwdF
      rw [hm, p0, d0, m0]
      rfl
    have s1 : stF A K k p = evF (subF A (m + 1) (2 * b + 1)) (2 ^ k) (rootF k ^ s) := by
      unfold stF fwdF
      rw [hm, p1, d1, m1]
    have hw : rootF (k + 1) ^ r = -rootF (k + 1) ^ s := by rw [hs, F_pow_add, hhalf]; grind
    have hu : rootF k ^ r = rootF k ^ s := by rw [hs, F_pow_add, rootF_full (by omega), F_one_mul]
    rw [s0, s1, hw, hu, show r - 2 ^ k = s by omega]
    grind

end Gold

namespace Go.Proofs.Ytnekndakipggbaa.J
set_option linter.unusedVariables false
set_option linter.unusedSimpArgs false
set_option linter.unusedSectionVars false
set_option maxRecDepth 8000
open Go.RowKit Gold

theorem bel_step {w W W1 : World} (h : Below w.heap.size w W) (h1 : Below W.heap.size W W1) : Below w.heap.size w W1 := h.trans (h1.mono h.size)
theorem ad_base (g k : Nat) : (⟨g, 0, none⟩ : Addr).add k = ⟨g, k, none⟩ := by rw [Addr.add_lit, Nat.zero_add]
theorem ad_add (a : Addr) (i j : Nat) : (a.add i).add j = a.add (i + j) := by
  unfold Addr.add
  by_cases hi : i = 0 <;> by_cases hj : j = 0 <;> simp [hi, hj, Nat.add_assoc]
/-- a slice value that reads as the words zs -/
structure Su (w : World) (A : Option Addr) (n c : Nat) (zs : List Int) : Prop where
  len : n = zs.length
  cap : n ≤ c
  top : c ≤ 9223372036854775807
  nil : A = none → c = 0
  cells : ∀ i z, zs[i]? = some z → ∃ ad, A = some ad ∧ w.cell? (ad.add i) = some (.int .u64 z)
/-- a slice value that reads as the field elements xs -/
def Sf (w : World) (A : Option Addr) (n c : Nat) (xs : List F) : Prop := Su w A n c (xs.map vF)
section
variable {w w' : World} {A : Option Addr} {n c : Nat} {zs : List Int} {xs : List F}
theorem Su.keep (h : Su w A n c zs) (hb : Below w.heap.size w w') : Su w' A n c zs :=
  ⟨h.len, h.cap, h.top, h.nil, fun i z hz => by obtain ⟨ad, e, hc⟩ := h.cells i z hz; exact ⟨ad, e, cell_keep hc hb⟩⟩
theorem Sf.keep (h : Sf w A n c xs) (hb : Below w.heap.size w w') : Sf w' A n c xs := Su.keep h hb
theorem Sf.len (h : Sf w A n c xs) : n = xs.length := by simpa using Su.len h
theorem Sf.cap (h : Sf w A n c xs) : n ≤ c := Su.cap h
theorem Sf.top (h : Sf w A n c xs) : c ≤ 9223372036854775807 := Su.top h
theorem Su.at_ {i : Nat} {z : Int} (h : Su w A n c zs) (hz : zs[i]? = some z) : ∃ ad, A = some ad ∧ w.cell? (ad.add i) = some (.int .u64 z) := h.cells i z hz
theorem Sf.at_ {i : Nat} {x : F} (h : Sf w A n c xs) (hx : xs[i]? = some x) : ∃ ad, A = some ad ∧ w.cell? (ad.add i) = some (.int .u64 (vF x)) := Su.cells h i (vF x) (by simp [hx])
theorem Su.get {i : Nat} (h : Su w A n c zs) (hi : i < n) : ∃ z, zs[i]? = some z := ⟨zs[i]'(by have := h.len; omega), List.getElem?_eq_getElem _⟩
theorem Sf.get {i : Nat} (h : Sf w A n c xs) (hi : i < n) : ∃ x, xs[i]? = some x := ⟨xs[i]'(by have := h.len; omega), List.getElem?_eq_getElem _⟩
theorem Su.take (h : Su w A n c zs) {k : Nat} (hk : k ≤ n) : Su w A k c (zs.take k) := by
  refine ⟨by have := h.len; simp; omega, by have := h.cap; omega, h.top, h.nil, fun i z hz => h.cells i z ?_⟩
  have hl := (List.getElem?_eq_some_iff.1 hz).1
  rw [List.getElem?_take_of_lt (by simp at hl; omega)] at hz
  exact hz
theorem Su.cut {k d : Nat} (h : Su w A n c zs) (hk : k ≤ n) (hd : k ≤ d) (hc : d ≤ c) (h0 : A = none → d = 0) : Su w A k d (zs.take k) := by
  have h1 := h.take hk
  exact ⟨h1.len, hd, by have := h.top; omega, h0, h1.cells⟩
theorem Sf.cut {k d : Nat} (h : Sf w A n c xs) (hk : k ≤ n) (hd : k ≤ d) (hc : d ≤ c) (h0 : A = none → d = 0) : Sf w A k d (xs.take k) := by
  have h1 := Su.cut h hk hd hc h0
  rw [← List.map_take] at h1
  exact h1
theorem Sf.nil (w : World) : Sf w none 0 0 [] := ⟨rfl, Nat.le_refl _, Nat.zero_le _, fun _ => rfl, fun i p hp => by simp at hp⟩
theorem Sf.cast {ys : List F} (h : Sf w A n c xs) (e : xs = ys) : Sf w A n c ys := e ▸ h
end

def cellsF (xs : List F) : List Value := xs.map fun x => .int .u64 (vF x)
theorem cellsF_length (xs : List F) : (cellsF xs).length = xs.length := by unfold cellsF; simp
theorem cellsF_get {xs : List F} {i : Nat} {x : F} (h : xs[i]? = some x) : (cellsF xs)[i]? = some (.int .u64 (vF x)) := by unfold cellsF; simp [h]
/-- the list of f 0 .. f (N - 1) -/
def tabF (N : Nat) (f : Nat → F) : List F := (List.range N).map f
theorem tabF_length (N : Nat) (f : Nat → F) : (tabF N f).length = N := by unfold tabF; simp
theorem tabF_get {N i : Nat} (f : Nat → F) (h : i < N) : (tabF N f)[i]? = some (f i) := by unfold tabF; simp [h]
theorem tabF_congr {N : Nat} {f g : Nat → F} (h : ∀ i, i < N → f i = g i) : tabF N f = tabF N g := by
  unfold tabF
  exact List.map_congr_left fun i hi => h i (by simpa using hi)
theorem tabF_set (N i : Nat) (f : Nat → F) (y : F) : (tabF N f).set i y = tabF N fun p => if p = i then y else f p := by
  apply List.ext_getElem?
  intro p
  rw [List.getElem?_set]
  by_cases hp : p < N
  · rw [tabF_get _ hp, tabF_get _ hp, tabF_length]
    by_cases e : i = p
    · subst e; simp [hp]
    · simp [e, Ne.symm e]
  · rw [List.getElem?_eq_none (l := tabF N fun p => if p = i then y else f p) (by rw [tabF_length]; omega)]
    by_cases e : i = p
    · subst e; simp [tabF_length, hp]
    · simp [e]; rw [tabF_length]; omega
/-- block g holds just the elements xs -/
def RowF (w : World) (g : Nat) (xs : List F) : Prop := w.heap[g]? = some (.cells (cellsF xs).toArray 29 (0, 0))
section
variable {w w' : World} {g : Nat} {xs : List F}
theorem RowF.lt (h : RowF w g xs) : g < w.heap.size := (Array.getElem?_eq_some_iff.1 h).1
theorem RowF.keep (h : RowF w g xs) (hb : Below w.heap.size w w') : RowF w' g xs := heap_keep h hb
theorem RowF.same (h : RowF w g xs) (e : w'.heap[g]? = w.heap[g]?) : RowF w' g xs := e.trans h
theorem RowF.at_ {i : Nat} {x : F} (h : RowF w g xs) (hx : xs[i]? = some x) : w.cell? ⟨g, i, none⟩ = some (.int .u64 (vF x)) := by
  unfold RowF at h
  simpa [World.cell?, h] using cellsF_get hx
theorem RowF.free (h : RowF w g xs) (k : Nat) : w.frozen? ⟨g, k, none⟩ = false := by
  unfold RowF at h
  simp [World.frozen?, h]
theorem RowF.set (h : RowF w g xs) (i : Nat) (x : F) : RowF (w.setCell ⟨g, i, none⟩ (.int .u64 (vF x))) g (xs.set i x) := by
  have h1 := heap_setCell_at (i := i) h (.int .u64 (vF x))
  unfold RowF
  rw [h1]
  unfold cellsF
  rw [List.map_set]
  simp
theorem RowF.far (h : RowF w g xs) {a : Addr} (x : Value) (e : g ≠ a.block) : RowF (w.setCell a x) g xs := (Below.heap_setCell w a x g e).trans h
theorem RowF.sub (h : RowF w g xs) {o n c : Nat} (hn : o + n ≤ xs.length) (hc : n ≤ c) (ht : c ≤ 9223372036854775807) : Sf w (some ⟨g, o, none⟩) n c ((xs.drop o).take n) := by
  refine ⟨by simp; omega, hc, ht, (fun e => by cases e), fun i z hz => ⟨_, rfl, ?_⟩⟩
  rw [List.getElem?_map] at hz
  cases hx : ((xs.drop o).take n)[i]? with
  | none => rw [hx] at hz; cases hz
  | some x =>
    rw [hx] at hz
    injection hz with hz
    subst hz
    have hi := (List.getElem?_eq_some_iff.1 hx).1
    rw [List.getElem?_take_of_lt (by simp at hi; omega), List.getElem?_drop] at hx
    rw [Addr.add_lit]
    exact h.at_ hx
theorem RowF.sl {n c : Nat} (h : RowF w g xs) (hn : n = xs.length) (hc : n ≤ c) (ht : c ≤ 9223372036854775807) : Sf w (some ⟨g, 0, none⟩) n c xs := by
  have := h.sub (o := 0) (n := n) (by omega) hc ht
  rw [List.drop_zero, hn, List.take_length, ← hn] at this
  exact this
end
theorem u64_info : (Try.prog.info? 29).map (fun i => (i.zero, i.size, i.bytes)) = some (some (.int .u64 0), 1, 8) := by kernel_rfl
theorem cellsF_zero (n : Nat) : (madeCells #[Value.int .u64 0] (n * 1)) = (cellsF (tabF n fun _ => 0)).toArray := by
  apply Array.ext
  · rw [size_madeCells, List.size_toArray, cellsF_length, tabF_length, Nat.mul_one]
  · intro i h1 h2
    rw [size_madeCells, Nat.mul_one] at h1
    have hx := cellsF_get (tabF_get (fun _ => (0 : F)) h1)
    simp only [madeCells, Array.getElem_map, Array.getElem_range, List.getElem_toArray]
    rw [List.getElem?_eq_getElem (by rw [List.size_toArray] at h2; exact h2)] at hx
    injection hx with hx
    rw [hx]
    simp [Nat.mod_one, vF_zero]
theorem run_makeF (n : Nat) (hn : n ≤ 70000) (w : World) : (Instr.makeSlice 22 (.int .i64 (n : Int)) (.int .i64 (n : Int))).run Try.prog w = .ok (.slice (some ⟨w.heap.size, 0, none⟩) n n) (w.alloc (.cells (cellsF (tabF n fun _ => 0)).toArray 29)) := by
  obtain ⟨i, hi, hz, hs, hb⟩ := info_parts u64_info
  have h1 : (i.bytes : Int) * (n : Int) ≤ 281474976710656 := by
    rw [hb]
    omega
  have hr := run_make (P := Try.prog) w 22 29 i (.int .u64 0) Try.underlying22 hi hz .i64 .i64 (n : Int) (n : Int) (by omega) (by omega) h1 (by omega)
  simp only [Int.toNat_natCast] at hr
  rw [hr, hs, ← cellsF_zero]
  rfl
theorem rowF_made (w : World) (xs : List F) : RowF (w.alloc (.cells (cellsF xs).toArray 29)) w.heap.size xs := heap_new w _

section
variable {w w' : World} {base : Nat} {v : Value} {n : Nat} {xs : List F}
end
end Go.Proofs.Ytnekndakipggbaa.J

namespace Go.Proofs.Ytnekndakipggbaa.J
set_option linter.unusedVariables false
set_option linter.unusedSimpArgs false
set_option linter.unusedSectionVars false
set_option maxRecDepth 8000
open Go.RowKit Gold

theorem bits_and_i64_nat (a b : Nat) (ha : a < 9223372036854775808) (hb : b < 9223372036854775808) :
    bits .and .i64 (a : Int) (b : Int) = ((a &&& b : Nat) : Int) := by
  have hx : a &&& b < 2 ^ 63 := Nat.and_lt_two_pow _ (by omega)
  have h1 : (BitVec.ofInt 64 (a : Int)).toNat = a := by
    rw [BitVec.ofInt_natCast, BitVec.toNat_ofNat]; exact Nat.mod_eq_of_lt (by omega)
  have h2 : (BitVec.ofInt 64 (b : Int)).toNat = b := by
    rw [BitVec.ofInt_natCast, BitVec.toNat_ofNat]; exact Nat.mod_eq_of_lt (by omega)
  show IntKind.i64.wrap ((BitVec.ofInt 64 (a : Int) &&& BitVec.ofInt 64 (b : Int)).toNat : Int) = _
  rw [BitVec.toNat_and, h1, h2, IntKind.wrap_i64]
  omega
theorem and_pred (k : Nat) : 2 ^ k &&& (2 ^ k - 1) = 0 := by rw [Nat.and_two_pow_sub_one_eq_mod, Nat.mod_self]
theorem rev_and (m i : Nat) : revN (m + 1) i &&& 2 ^ m = i % 2 * 2 ^ m := by
  have hl := revN_lt m (i / 2)
  have hp := Nat.two_pow_pos m
  have : (revN (m + 1) i).testBit m = decide (i % 2 = 1) := by
    rw [Nat.testBit_eq_decide_div_mod_eq]
    have e : revN (m + 1) i = revN m (i / 2) + i % 2 * 2 ^ m := rfl
    rw [e, Nat.add_mul_div_right _ _ hp, Nat.div_eq_of_lt hl, Nat.zero_add, Nat.mod_mod]
  apply Nat.eq_of_testBit_eq
  intro j
  rw [Nat.testBit_and, Nat.testBit_two_pow]
  by_cases e : m = j
  · subst e
    rw [this, decide_eq_true rfl, Bool.and_true]
    rcases Nat.mod_two_eq_zero_or_one i with h | h <;> rw [h]
    · rw [Nat.zero_mul, Nat.zero_testBit]; rfl
    · rw [Nat.one_mul, Nat.testBit_two_pow_self]; rfl
  · rw [decide_eq_false e, Bool.and_false]
    rcases Nat.mod_two_eq_zero_or_one i with h | h <;> rw [h]
    · rw [Nat.zero_mul, Nat.zero_testBit]
    · rw [Nat.one_mul, Nat.testBit_two_pow, decide_eq_false e]
theorem rev_even {m i : Nat} (h : i % 2 = 0) : revN (m + 1) i = revN m (i / 2) ∧ revN (m + 1) (i + 1) = revN (m + 1) i + 2 ^ m := by
  have e1 : revN (m + 1) i = revN m (i / 2) + i % 2 * 2 ^ m := rfl
  have e2 : revN (m + 1) (i + 1) = revN m ((i + 1) / 2) + (i + 1) % 2 * 2 ^ m := rfl
  rw [e1, e2, show (i + 1) / 2 = i / 2 by omega, show (i + 1) % 2 = 1 by omega, h]
  omega
theorem rev_odd {m i : Nat} (h : i % 2 = 1) : revN (m + 1) i = revN m (i / 2) + 2 ^ m ∧ revN (m + 1) (i + 1) = revN m (i / 2 + 1) := by
  have e1 : revN (m + 1) i = revN m (i / 2) + i % 2 * 2 ^ m := rfl
  have e2 : revN (m + 1) (i + 1) = revN m ((i + 1) / 2) + (i + 1) % 2 * 2 ^ m := rfl
  rw [e1, e2, show (i + 1) / 2 = i / 2 + 1 by omega, show (i + 1) % 2 = 0 by omega, h]
  omega
theorem wrap_pow2 {k : Nat} (h : k ≤ 62) : wrap64 (2 ^ k) = ((2 ^ k : Nat) : Int) := by
  have h1 : 2 ^ k ≤ 2 ^ 62 := Nat.pow_le_pow_right (by omega) h
  have h2 : ((2 ^ k : Nat) : Int) = (2 : Int) ^ k := by rw [Int.natCast_pow]; rfl
  rw [← h2]
  generalize 2 ^ k = N at *
  unfold wrap64
  omega
theorem field_rootF (k : Nat) (w : World) (hk : k ≤ 32) : Calls Try.prog 71 #[.int .i64 (k : Int)] w fun e w' => e = .returned (.tuple #[.int .u64 (vF (rootF k)), .int .i64 0]) ∧ w' = w := by
  rw [vF_root]
  exact root_nat k w hk
theorem ref_rootF (k : Nat) (w : World) (hk : k ≤ 32) : Calls Try.prog 42 #[.int .i64 (k : Int)] w fun e w' => e = .returned (.tuple #[.int .u64 (vF (rootF k)), .int .i64 0]) ∧ w' = w := by
  rw [vF_root]
  exact rroot_nat k w hk

set_option maxHeartbeats 400000 in
theorem isl_yes (N k : Nat) (w : World) (hN : N = 2 ^ k) (hk : k ≤ 16) : Calls Try.prog 67 #[.int .i64 (N : Int)] w fun e w' => e = .returned (.bool true) ∧ w' = w := by
  have h1 : 1 ≤ N := by rw [hN]; exact Nat.two_pow_pos k
  have h2 : N ≤ 65536 := by rw [hN]; exact pow2_le hk
  have hb : bits .and .i64 (N : Int) ((N : Int) - 1) = 0 := by
    rw [show (N : Int) - 1 = ((N - 1 : Nat) : Int) by omega, bits_and_i64_nat _ _ (by omega) (by omega), hN, and_pred]
    rfl
  clear hN
  have i1 : (1 : Int) ≤ (N : Int) := by omega
  have i2 : (N : Int) ≤ 65536 := by omega
  go_enter Try.func67, Try.ntmps67
  go_wp2
  go_ret
  exact ⟨rfl, rfl⟩
end Go.Proofs.Ytnekndakipggbaa.J

namespace Gold
set_option linter.unusedVariables false
set_option linter.unusedSimpArgs false
set_option linter.unusedSectionVars false
set_option maxRecDepth 8000
open E2
end Gold
namespace Go.Proofs.Ytnekndakipggbaa.K
set_option linter.unusedVariables false
set_option linter.unusedSimpArgs false
set_option linter.unusedSectionVars false
open Go.RowKit
section
variable {P : Program} {ops : Array Oper} {S : World → Prop} {Q : Exit → Act → World → Prop} {m : Nat}
/-- as okT, the operation m being the last -/
def okM (ops : Array Oper) (m : Nat) : OT → Array Bool → Bool
  | .nil, l => Region.ready .any ops l == [m]
  | .q i t, l => decide (i < m) && (ops[i]?.all stillOp) && Region.free .any ops l i && (Region.ready .any ops l).contains i && okM ops m t (l.setIfInBounds i true)
  | .one i t, l => decide (i < m) && (ops[i]?.all fun o => !stillOp o) && (Region.ready .any ops l == [i]) && okM ops m t (l.setIfInBounds i true)
  | .fork i t j u, l => decide (i < m) && decide (j < m) && (ops[i]?.all fun o => !stillOp o) && (ops[j]?.all fun o => !stillOp o) && (Region.ready .any ops l == [i, j]) && (t.len == u.len) && okM ops m t (l.setIfInBounds i true) && okM ops m u (l.setIfInBounds j true)
theorem wpT_of_OT (hz : ops.size = m + 1) (hs : Region.sinkB .any ops m = true) (hcb : Region.chainB .any ops m = true) (hsel : Region.noSelect ops = true) : ∀ (t : OT) (l : Array Bool) (a : Act) (w : World), HeadInv .any ops m l → S w → okM ops m t l = true →
    wpOT P ops S (fun _ a w => mOp P ops m (fun a w => Q .normal a w) a w) t a w → wpT P ops S m Q (t.len + 1) l a w
  | .nil, l, a, w, inv, hS, ho, h => by
    unfold okM at ho
    have hr : Region.ready .any ops l = [m] := by simpa using ho
    refine ⟨fun e => (by rw [hr] at e; cases e), fun i hi => ?_⟩
    have hi' := hi
    rw [hr] at hi
    obtain rfl : i = m := by simpa using hi
    rw [tOp_eq]
    obtain ⟨om, hom, hw, hh⟩ := h
    exact ⟨om, hom, hw, hOp_mono (fun v w' hq => ⟨none_left hz hs hcb inv hi', hq⟩) hh⟩
  | .q i t, l, a, w, inv, hS, ho, h => by
    unfold okM at ho
    simp only [Bool.and_eq_true, decide_eq_true_eq] at ho
    obtain ⟨⟨⟨⟨him, hst⟩, hf⟩, hrd⟩, ho⟩ := ho
    obtain ⟨o, hi, v, hy, hk⟩ := h
    have hr : i ∈ Region.ready .any ops l := by simpa using hrd
    rw [hi] at hst
    have hst : stillOp o = true := by simpa using hst
    refine wpT_first hz hs hcb him hi (Region.noSelect_spec hsel) (t.len + 1) l a w inv hS (Region.free_spec hi hf) (fun e => by rw [hst] at e; cases e) hr ?_
    unfold sOp
    rw [hi]
    exact .inl ⟨.inl hst, v, hy, wpT_of_OT hz hs hcb hsel t _ _ w (inv.set hr him) hS ho hk⟩
  | .one i t, l, a, w, inv, hS, ho, h => by
    unfold okM at ho
    simp only [Bool.and_eq_true, decide_eq_true_eq] at ho
    obtain ⟨⟨⟨him, hst⟩, hrd⟩, ho⟩ := ho
    obtain ⟨o, hi, hw, hk⟩ := h
    have hr : Region.ready .any ops l = [i] := by simpa using hrd
    rw [hi] at hst
    have hst : stillOp o = false := by simpa using hst
    refine ⟨fun e => (by rw [hr] at e; cases e), fun j hj => ?_⟩
    have hj' := hj
    rw [hr] at hj
    obtain rfl : j = i := by simpa using hj
    rw [tOp_ne (by omega)]
    unfold sOp
    rw [hi]
    exact .inr ⟨not_quiet hst hw, hOp_mono (fun v w' hq => ⟨hq.1, wpT_of_OT hz hs hcb hsel t _ _ w' (inv.set hj' him) hq.1 ho hq.2⟩) hk⟩
  | .fork i t j u, l, a, w, inv, hS, ho, h => by
    unfold okM at ho
    simp only [Bool.and_eq_true, decide_eq_true_eq] at ho
    obtain ⟨⟨⟨⟨⟨⟨⟨him, hjm⟩, hsi⟩, hsj⟩, hrd⟩, hlen⟩, h1⟩, h2⟩ := ho
    obtain ⟨⟨o, hi, hw, hk⟩, ⟨o2, hi2, hw2, hk2⟩⟩ := h
    have hr : Region.ready .any ops l = [i, j] := by simpa using hrd
    have hlen : t.len = u.len := by simpa using hlen
    rw [hi] at hsi
    rw [hi2] at hsj
    have hsi : stillOp o = false := by simpa using hsi
    have hsj : stillOp o2 = false := by simpa using hsj
    refine ⟨fun e => (by rw [hr] at e; cases e), fun q hq => ?_⟩
    have hq' := hq
    rw [hr] at hq
    rcases List.mem_cons.1 hq with rfl | hq
    · rw [tOp_ne (by omega)]
      unfold sOp
      rw [hi]
      exact .inr ⟨not_quiet hsi hw, hOp_mono (fun v w' hq => ⟨hq.1, wpT_of_OT hz hs hcb hsel t _ _ w' (inv.set hq' him) hq.1 h1 hq.2⟩) hk⟩
    · obtain rfl : q = j := by simpa using hq
      rw [tOp_ne (by omega)]
      unfold sOp
      rw [hi2]
      exact .inr ⟨not_quiet hsj hw2, hOp_mono (fun v w' hq => ⟨hq.1, by have := wpT_of_OT hz hs hcb hsel u _ _ w' (inv.set hq' hjm) hq.1 h2 hq.2; rw [← hlen] at this; exact this⟩) hk2⟩
theorem wp_ordM (m : Nat) (t : OT) {id : Nat} {a : Act} {w : World} {l : List Oper} (hm : P.follows .mixedOrders = true) (hsel : Region.noSelect l.toArray = true) (hz : l.length = m + 1) (hl : t.len = m) (hs : Region.sinkB .any l.toArray m = true) (hcb : Region.chainB .any l.toArray m = true) (ho : okM l.toArray m t (Array.replicate l.length false) = true)
    (h : ∀ V, Below w.heap.size w V → wpOT P l.toArray (fun X => Below V.heap.size V X) (fun _ a w => mOp P l.toArray m (fun a w => Q .normal a w) a w) t a V) : (Code.region id l.toArray true).wp P Q a w := by
  have inv0 : HeadInv .any l.toArray m (Array.replicate l.toArray.size false) :=
    ⟨by simp, fun j oj _ hl => (by rw [getD_replicate_false] at hl; cases hl), fun t _ ht => getD_in (by simpa using ht) (getD_replicate_false _ _)⟩
  refine wp_region_any hm (wpAny_of_wpT (S := fun X => Below w.drew.heap.size w.drew X) (m := m) (by simpa using hz) hs hcb _ _ _ _ inv0 (Below.refl _ _) ?_)
  have := wpT_of_OT (P := P) (Q := Q) (m := m) (ops := l.toArray) (by simpa using hz) hs hcb hsel t (Array.replicate l.length false) a w.drew (by simpa using inv0) (Below.refl _ _) ho (h _ (Below.refl _ _).drew)
  rw [hl] at this
  simpa [hz] using this
end
end Go.Proofs.Ytnekndakipggbaa.K
namespace Go.Proofs.Ytnekndakipggbaa
set_option linter.unusedVariables false
set_option linter.unusedSimpArgs false
set_option linter.unusedSectionVars false
open Go.RowKit Go.Proofs.Ytnekndakipggbaa.K
/-- a pair of words in cells -/
def exP (p : Int × Int) : List Value := [.int .u64 p.1, .int .u64 p.2]
instance : Enc exP 2 := ⟨fun _ => rfl, fun x u hu => by
  simp only [exP, List.mem_cons, List.not_mem_nil, or_false] at hu
  rcases hu with rfl | rfl <;> rfl, by decide⟩
theorem exec_eqXt {ev : Operand → Value} {o : Oper} {w : World} {x y : Operand} {t : TypeId} (a b : Int) (ho : o.op = .binOp .eql 31 x y t) (hx : ev x = .agg #[.int .u64 a, .int .u64 b]) (hy : ev y = .agg #[.int .u64 a, .int .u64 b]) : (execOp ev o).run Try.prog w = .ok (.value (.bool true)) w := by
  unfold execOp
  rw [ho]
  simp only [hx, hy]
  go_simp
end Go.Proofs.Ytnekndakipggbaa

