/- Several texts in one: Ka, Kb, Kc, Kd. -/
import Derived.Test.YtbecajihgbbgjaaDoorProg
import Derived.WalkKit
import Derived.Below
import Derived.OneCell
import Derived.Lib.Hide
import Derived.RowKit
import Derived.RangeFuncRecord
import Derived.StillTail
import Derived.BigQuiet
import Derived.Deep.WholeRow
import Derived.Deep.MidRow
import Derived.StillTailTactics
import Derived.Laws.MakeOwn
import Derived.Laws.AppendOwn
import Derived.Laws.OwnMore
import Derived.Laws.AppendOwnNone
import Derived.ArgAppend
import Derived.OwnWalk
import Derived.OrdersHeld
import Derived.Deep.AppendSrc
import Derived.RangeFuncCalls
import Derived.OrdersIn
import Derived.OwnWalkIn
import Derived.Laws.IdiomRangeMap
import Derived.Laws.Rows
import Derived.Laws.ResultCell
import Derived.Laws.Tables
import Derived.Great.BuildSlice
import Derived.Shelf.Abstract
set_option linter.unusedVariables false
set_option linter.unusedSimpArgs false
set_option linter.unusedSectionVars false
namespace Go.Proofs.YtbecajihgbbgjaaDoor
theorem zA {α : Type} : (∀ (l : List α) (i : Nat) (a : α), l.toArray.setIfInBounds i a = (l.set i a).toArray) ∧ (∀ (a b : α) (l : List α), (a :: l).set 0 b = b :: l) ∧ ∀ (a b : α) (l : List α) (n : Nat), (a :: l).set (n + 1) b = a :: l.set n b := ⟨fun l i a => List.setIfInBounds_toArray l i a, fun _ _ _ => rfl, fun _ _ _ _ => rfl⟩
theorem zh {p : Prop} (h : p) : Go.RowKit.Hid p := h
end Go.Proofs.YtbecajihgbbgjaaDoor
namespace Go.Proofs.YtbecajihgbbgjaaDoor.K
set_option maxRecDepth 8000
open Go.RowKit

theorem cell_keep {W W1 : World} {a : Addr} {v : Value} (h : W.cell? a = some v) (hb : Below W.heap.size W W1) : W1.cell? a = some v := (hb.cell (World.block_lt_of_cell? W a h)).trans h
theorem free_keep {W W1 : World} {a : Addr} {v : Value} (h : W.cell? a = some v) (hf : W.frozen? a = false) (hb : Below W.heap.size W W1) : W1.frozen? a = false := (hb.frozen (World.block_lt_of_cell? W a h)).trans hf
theorem heap_keep {W W1 : World} {b : Nat} {o : Obj} (h : W.heap[b]? = some o) (hb : Below W.heap.size W W1) : W1.heap[b]? = some o := (hb.block b (Array.getElem?_eq_some_iff.1 h).1).trans h
theorem heap_new (W : World) (o : Obj) : (W.alloc o).heap[W.heap.size]? = some o := World.alloc_heap_new W o
theorem heap_old {W : World} {b : Nat} {o : Obj} (o' : Obj) (h : W.heap[b]? = some o) : (W.alloc o').heap[b]? = some o := (Below.heap_alloc W o' b (Array.getElem?_eq_some_iff.1 h).1).trans h

/-- block b holds one cell -/
def One (W : World) (b : Nat) (t : TypeId) (u : Value) : Prop := W.heap[b]? = some (.cells #[u] t (0, 0))
section
variable {W W1 : World} {b : Nat} {t : TypeId} {u v : Value}
theorem heap_setCell_at {W : World} {b i : Nat} {cs : Array Value} {t : TypeId} {f : Nat × Nat} (h : W.heap[b]? = some (.cells cs t f)) (x : Value) :
  (W.setCell ⟨b, i, none⟩ x).heap[b]? = some (.cells (cs.setIfInBounds i x) t f) := by
 obtain ⟨hlt, hk⟩ := Array.getElem?_eq_some_iff.1 h
 show (W.heap.modify b _)[b]? = _
 rw [Array.getElem?_eq_getElem (by rw [Array.size_modify]; exact hlt), Array.getElem_modify_self, hk]
 rfl
theorem One.c (h : One W b t u) : W.cell? ⟨b, 0, none⟩ = some u := cell_of_one h
theorem One.f (h : One W b t u) : W.frozen? ⟨b, 0, none⟩ = false := free_of_one h
theorem One.lt (h : One W b t u) : b < W.heap.size := (Array.getElem?_eq_some_iff.1 h).1
theorem One.keep (h : One W b t u) (hb : Below W.heap.size W W1) : One W1 b t u := heap_keep h hb
theorem One.alloc (h : One W b t u) (o : Obj) : One (W.alloc o) b t u := heap_old o h
theorem One.new (W : World) (t : TypeId) (u : Value) : One (W.alloc (.cells #[u] t)) W.heap.size t u := heap_new W _
theorem One.drew (h : One W b t u) : One W.drew b t u := h
theorem One.set (h : One W b t u) (x : Value) : One (W.setCell ⟨b, 0, none⟩ x) b t x := heap_setCell_at h x
end

section
variable {P : Program} {c : Code} {Q : Exit → Act → World → Prop} {a : Act} {w : World} {o0 o1 o2 o3 : Obj}
theorem wp_named1 (h : ∀ W, Below w.heap.size w W → W.heap[w.heap.size]? = some o0 → w.heap.size < W.heap.size → c.wp P Q a W) : c.wp P Q a (w.alloc o0) :=
 h _ ((Below.refl _ _).alloc (Nat.le_refl _) _) (heap_new _ _) (by simp)
theorem wp_named2 (h : ∀ W, Below w.heap.size w W → W.heap[w.heap.size]? = some o0 → W.heap[w.heap.size + 1]? = some o1 → w.heap.size + 1 < W.heap.size → c.wp P Q a W) : c.wp P Q a ((w.alloc o0).alloc o1) :=
 h _ (((Below.refl _ _).alloc (Nat.le_refl _) _).alloc (by simp) _) (heap_old _ (heap_new _ _)) (by simpa using heap_new (w.alloc o0) o1) (by simp)
theorem wp_named3 (h : ∀ W, Below w.heap.size w W → W.heap[w.heap.size]? = some o0 → W.heap[w.heap.size + 1]? = some o1 → W.heap[w.heap.size + 1 + 1]? = some o2 → w.heap.size + 1 + 1 < W.heap.size → c.wp P Q a W) : c.wp P Q a (((w.alloc o0).alloc o1).alloc o2) :=
 h _ ((((Below.refl _ _).alloc (Nat.le_refl _) _).alloc (by simp) _).alloc (by simp; omega) _) (heap_old _ (heap_old _ (heap_new _ _))) (heap_old _ (by simpa using heap_new (w.alloc o0) o1)) (by simpa using heap_new ((w.alloc o0).alloc o1) o2) (by simp)
section
variable {f : FuncId} {args : Array Value} {R : Ending → World → Prop}
end
end

end Go.Proofs.YtbecajihgbbgjaaDoor.K

namespace Go.Proofs.YtbecajihgbbgjaaDoor.K
open Go.RowKit

section
variable {P : Program} {ops : Array Oper} {md : Region.Mode} {C : World → Prop}

end

/-- the worlds in which nothing of w has changed -/
def Later (w : World) : Type := { w' : World // Below w.heap.size w w' }
instance {w : World} : Nonempty (Later w) := ⟨⟨w, Below.refl _ _⟩⟩
/-- the world itself -/
def Later.at {w : World} (x : Later w) : World := x.1
theorem Later.below {w : World} (x : Later w) : Below w.heap.size w x.at := x.2
theorem Later.size {w : World} (x : Later w) : w.heap.size ≤ x.at.heap.size := x.2.size
theorem Later.cell {w : World} {a : Addr} {v : Value} (h : w.cell? a = some v) (x : Later w) : x.at.cell? a = some v := cell_keep h x.2
theorem Later.free {w : World} {a : Addr} {v : Value} (h : w.cell? a = some v) (hf : w.frozen? a = false) (x : Later w) : x.at.frozen? a = false := free_keep h hf x.2
theorem Later.one {w : World} {b : Nat} {t : TypeId} {u : Value} (h : One w b t u) (x : Later w) : One x.at b t u := h.keep x.2

section
variable {P : Program} {w : World} {f : FuncId} {args : Array Value} {v : Value}
/-- a callee that only adds to memory -/
theorem Calls.later {x : Later w} (h : Calls P f args x.at fun e w' => e = .returned v ∧ Below x.at.heap.size x.at w') : Calls P f args x.at fun e w'' => e = .returned v ∧ ∃ y : Later w, w'' = y.at :=
 h.mono fun _ _ ⟨he, hb⟩ => ⟨he, ⟨⟨_, x.2.trans (hb.mono x.2.size)⟩, rfl⟩⟩
end

end Go.Proofs.YtbecajihgbbgjaaDoor.K

namespace Go.Proofs.YtbecajihgbbgjaaDoor.K
open Go.RowKit

/-- what the one walk leans on -/
structure LexOK (ops : Array Oper) : Prop where
 sel : Region.noSelect ops = true
 edge : ∀ (j : Nat) (o : Oper), ops[j]? = some o → ∀ e, e ∈ o.after → Region.binds .any e = true → e.on < j
 free : ∀ (k j : Nat) (ok oj : Oper), k < j → ops[k]? = some ok → ops[j]? = some oj → (∀ e, e ∈ oj.after → Region.binds .any e = true → e.on ≠ k) → ok.apart ops oj = true

theorem wpAnyQ_of_lex {P : Program} {ops : Array Oper} {C : World → Prop} {Q : Act → Prop} (hx : LexOK ops) : ∀ (l : List Oper) (k : Nat) (listed : Array Bool) (a : Act),
  (∀ j, l[j]? = ops[k + j]?) → k + l.length = ops.size → listed.size = ops.size → (∀ i, i < k → listed.getD i false = true) → (∀ i, k ≤ i → i < ops.size → listed.getD i true = false) →
  wpQuiet P ops C Q l a → wpAnyQ P .any ops C Q l.length listed a
 | [], k, listed, a, _, hk, hz, h1, _, h => by
  refine ⟨?_, h⟩
  refine List.eq_nil_iff_forall_not_mem.2 fun i hi => ?_
  obtain ⟨h0, o, ho, _⟩ := mem_ready.1 hi
  have hlt := (Array.getElem?_eq_some_iff.1 ho).1
  have h3 := h1 i (by simp at hk; omega)
  rw [getD_both h0] at h3
  cases h3
 | o :: l, k, listed, a, hl, hk, hz, h1, h2, h => by
  have h0 : ops[k]? = some o := by simpa using (hl 0).symm
  have hlt : k < ops.size := (Array.getElem?_eq_some_iff.1 h0).1
  have hst : qOp P ops C k (wpQuiet P ops C Q l) a := by unfold qOp; simp only [h0]; exact h
  obtain ⟨v, hy, hK⟩ := yieldsIn_of_qOp h0 hst
  refine wpAnyQ_first h0 (Region.noSelect_spec hx.sel) l.length listed a ?_ (mem_ready.2 ⟨h2 k (Nat.le_refl _) hlt, o, h0, fun e he hb => h1 _ (hx.edge k o h0 e he hb)⟩) hy ?_
  ·intro j oj hj hne hun hno
   refine hx.free k j o oj ?_ h0 hj hno
   rcases Nat.lt_trichotomy k j with h' | h' | h'
   ·exact h'
   ·exact absurd h'.symm hne
   ·have h3 := h1 j h'
    rw [getD_both hun] at h3
    cases h3
  ·refine wpAnyQ_of_lex hx l (k + 1) _ _ (fun j => by have := hl (j + 1); simpa [Nat.add_assoc, Nat.add_comm 1 j] using this) (by simp at hk; omega) (by simpa using hz) ?_ ?_ hK
   ·intro i hi
    by_cases e : i = k
    ·subst e
     simp [hz, hlt]
    ·exact getD_set_true (h1 i (by omega))
   ·intro i hi hi'
    rw [getD_set_ne true (by omega)]
    exact h2 i (by omega) hi'

theorem wp_later_lex {P : Program} {id : Nat} {Q : Exit → Act → World → Prop} {a : Act} {w : World} {l : List Oper} (hm : P.follows .mixedOrders = true) (hx : LexOK l.toArray)
  (h : wpQuiet P l.toArray (fun w' => ∃ x : Later w, w' = x.at) (fun a' => ∀ x : Later w, Q .normal a' x.at) l a) : (Code.region id l.toArray true).wp P Q a w := by
 refine wp_region_any hm (wpAny_of_quiet (C := fun w' => ∃ x : Later w, w' = x.at) (Q := fun a' => ∀ x : Later w, Q .normal a' x.at) (fun a' w' hw' h => by obtain ⟨x, rfl⟩ := hw'; exact h x) _ _ _ _ ⟨⟨w.drew, (Below.refl _ _).drew⟩, rfl⟩ ?_)
 have := wpAnyQ_of_lex (P := P) hx l 0 (Array.replicate l.toArray.size false) a (by simp) (by simp) (by simp) (by intro i hi; omega) (fun i _ hi => getD_in (by simpa using hi) (getD_replicate_false _ _)) h
 simpa using this

def dstMask (o : Oper) : Nat := match o.dst with | some d => Nat.shiftLeft 1 d | none => 0
def lookMask (ops : Array Oper) (o : Oper) : Nat := (o.looksAt ops).foldr (fun t m => Nat.lor (Nat.shiftLeft 1 t) m) 0
def afterMask (o : Oper) : Nat := o.after.toList.foldr (fun e m => match Region.binds .any e with | true => Nat.lor (Nat.shiftLeft 1 e.on) m | false => m) 0
/-- op number k (masks D, R) before op number j (masks A, R', D') -/
def pairOK (A R' D' : Nat) (k D R : Nat) : Bool :=
 Nat.beq (Nat.mod (Nat.shiftRight A k) 2) 1 || (Nat.beq (Nat.land D R') 0 && (Nat.beq (Nat.land D D') 0 && Nat.beq (Nat.land D' R) 0))
/-- all earlier ones, the last first -/
def prevOK (A R' D' : Nat) : List (Nat × Nat) → Bool
 | [] => true
 | (D, R) :: l => pairOK A R' D' l.length D R && prevOK A R' D' l
def lexN (ops : Array Oper) : List Oper → List (Nat × Nat) → Bool
 | [], _ => true
 | o :: l, prev => Nat.beq (Nat.shiftRight (afterMask o) prev.length) 0 && (prevOK (afterMask o) (lookMask ops o) (dstMask o) prev && lexN ops l ((dstMask o, lookMask ops o) :: prev))

theorem testBit_one (d i : Nat) : (Nat.shiftLeft 1 d).testBit i = decide (d = i) := by
 show (1 <<< d).testBit i = _
 rw [Nat.one_shiftLeft, Nat.testBit_two_pow]
theorem mem_lookMask {ops : Array Oper} {o : Oper} {t : Nat} (h : t ∈ o.looksAt ops) : (lookMask ops o).testBit t = true := by
 unfold lookMask
 generalize o.looksAt ops = l at h
 induction l with
 | nil => cases h
 | cons x l ih =>
  show (Nat.lor (Nat.shiftLeft 1 x) _).testBit t = true
  rw [show ∀ a b : Nat, Nat.lor a b = a ||| b from fun _ _ => rfl, Nat.testBit_or, testBit_one]
  rcases List.mem_cons.1 h with rfl | h
  ·simp
  ·rw [ih h, Bool.or_true]
theorem dstMask_bit {o : Oper} {d : Nat} (h : o.dst = some d) : (dstMask o).testBit d = true := by
 unfold dstMask
 simp only [h]
 rw [testBit_one]
 simp
theorem mem_afterMask {o : Oper} {e : Edge} (h : e ∈ o.after) (hb : Region.binds .any e = true) : (afterMask o).testBit e.on = true := by
 unfold afterMask
 have h' : e ∈ o.after.toList := by simpa using h
 generalize o.after.toList = l at h'
 induction l with
 | nil => cases h'
 | cons x l ih =>
  rw [List.foldr_cons]
  rcases List.mem_cons.1 h' with rfl | h'
  ·rw [hb]
   show (Nat.lor (Nat.shiftLeft 1 e.on) _).testBit e.on = true
   rw [show ∀ a b : Nat, Nat.lor a b = a ||| b from fun _ _ => rfl, Nat.testBit_or, testBit_one]
   simp
  ·cases Region.binds .any x with
   | true =>
    show (Nat.lor (Nat.shiftLeft 1 x.on) _).testBit e.on = true
    rw [show ∀ a b : Nat, Nat.lor a b = a ||| b from fun _ _ => rfl, Nat.testBit_or, ih h']
    simp
   | false => exact ih h'
theorem afterMask_mem {o : Oper} {k : Nat} (h : (afterMask o).testBit k = true) : ∃ e, e ∈ o.after ∧ Region.binds .any e = true ∧ e.on = k := by
 unfold afterMask at h
 suffices H : ∀ l : List Edge, (l.foldr (fun e m => match Region.binds .any e with | true => Nat.lor (Nat.shiftLeft 1 e.on) m | false => m) 0).testBit k = true → ∃ e, e ∈ l ∧ Region.binds .any e = true ∧ e.on = k by
  obtain ⟨e, he, h1, h2⟩ := H _ h
  exact ⟨e, by simpa using he, h1, h2⟩
 intro l
 induction l with
 | nil => intro h; simp at h
 | cons x l ih =>
  intro h
  rw [List.foldr_cons] at h
  cases hx : Region.binds .any x with
  | true =>
   rw [hx] at h
   have h : (Nat.lor (Nat.shiftLeft 1 x.on) (l.foldr (fun e m => match Region.binds .any e with | true => Nat.lor (Nat.shiftLeft 1 e.on) m | false => m) 0)).testBit k = true := h
   rw [show ∀ a b : Nat, Nat.lor a b = a ||| b from fun _ _ => rfl, Nat.testBit_or, testBit_one, Bool.or_eq_true] at h
   rcases h with h | h
   ·exact ⟨x, by simp, hx, by simpa using h⟩
   ·obtain ⟨e, he, h1⟩ := ih h
    exact ⟨e, List.mem_cons_of_mem _ he, h1⟩
  | false =>
   rw [hx] at h
   obtain ⟨e, he, h1⟩ := ih h
   exact ⟨e, List.mem_cons_of_mem _ he, h1⟩
theorem land_zero {a b t : Nat} (h : Nat.beq (Nat.land a b) 0 = true) (ha : a.testBit t = true) : b.testBit t = false := by
 have h1 : a &&& b = 0 := Nat.eq_of_beq_eq_true h
 have h2 : (a &&& b).testBit t = false := by rw [h1]; simp
 rw [Nat.testBit_and, ha] at h2
 simpa using h2
theorem pairOK_spec {ops : Array Oper} {ok oj : Oper} {k : Nat} (h : pairOK (afterMask oj) (lookMask ops oj) (dstMask oj) k (dstMask ok) (lookMask ops ok) = true)
  (hno : ∀ e, e ∈ oj.after → Region.binds .any e = true → e.on ≠ k) : ok.apart ops oj = true := by
 unfold pairOK at h
 rw [Bool.or_eq_true] at h
 rcases h with h | h
 ·have h1 : Nat.mod (Nat.shiftRight (afterMask oj) k) 2 = 1 := Nat.eq_of_beq_eq_true h
  have h2 : (afterMask oj).testBit k = true := by
   rw [Nat.testBit_eq_decide_div_mod_eq, decide_eq_true_iff, ← Nat.shiftRight_eq_div_pow]
   exact h1
  obtain ⟨e, he, hb, hk⟩ := afterMask_mem h2
  exact absurd hk (hno e he hb)
 ·rw [Bool.and_eq_true, Bool.and_eq_true] at h
  obtain ⟨h1, h2, h3⟩ := h
  unfold Oper.apart
  rw [Bool.and_eq_true]
  constructor
  ·cases hd : ok.dst with
   | none => rfl
   | some d =>
    have b1 := land_zero h1 (dstMask_bit hd)
    have b2 := land_zero h2 (dstMask_bit hd)
    simp only [Bool.and_eq_true, Bool.not_eq_true', bne_iff_ne, ne_eq]
    constructor
    ·cases hc : (oj.looksAt ops).contains d with
     | false => rfl
     | true =>
      rw [mem_lookMask (by simpa using hc)] at b1
      cases b1
    ·intro e
     rw [dstMask_bit e] at b2
     cases b2
  ·cases hd : oj.dst with
   | none => rfl
   | some d =>
    have b1 := land_zero h3 (dstMask_bit hd)
    simp only [Bool.not_eq_true']
    cases hc : (ok.looksAt ops).contains d with
    | false => rfl
    | true =>
     rw [mem_lookMask (by simpa using hc)] at b1
     cases b1
theorem prevOK_spec {A R' D' : Nat} : ∀ {prev : List (Nat × Nat)}, prevOK A R' D' prev = true → ∀ (k : Nat) (x : Nat × Nat), prev.reverse[k]? = some x → pairOK A R' D' k x.1 x.2 = true
 | [], _, k, x, hx => by simp at hx
 | (D, R) :: l, h, k, x, hx => by
  simp only [prevOK, Bool.and_eq_true] at h
  rw [List.reverse_cons] at hx
  by_cases hk : k < l.length
  ·rw [List.getElem?_append_left (by simpa using hk)] at hx
   exact prevOK_spec h.2 k x hx
  ·rw [List.getElem?_append_right (by simp; omega)] at hx
   have e : k = l.length := by
    have := (List.getElem?_eq_some_iff.1 hx).1
    simp at this
    omega
   subst e
   simp at hx
   subst hx
   exact h.1
theorem lexN_spec {ops : Array Oper} : ∀ (l : List Oper) (prev : List (Nat × Nat)) (done : List Oper), ops.toList = done ++ l → prev.reverse = done.map (fun o => (dstMask o, lookMask ops o)) → lexN ops l prev = true →
  ∀ (j : Nat) (o : Oper), done.length ≤ j → ops[j]? = some o → Nat.beq (Nat.shiftRight (afterMask o) j) 0 = true ∧ ∀ (k : Nat) (ok : Oper), k < j → ops[k]? = some ok → pairOK (afterMask o) (lookMask ops o) (dstMask o) k (dstMask ok) (lookMask ops ok) = true
 | [], prev, done, hd, _, _, j, o, hj, ho => by
  have := (Array.getElem?_eq_some_iff.1 ho).1
  have hz : ops.size = done.length := by rw [← Array.length_toList, hd]; simp
  omega
 | x :: l, prev, done, hd, hp, h, j, o, hj, ho => by
  simp only [lexN, Bool.and_eq_true] at h
  have hlen : prev.length = done.length := by rw [← List.length_reverse, hp]; simp
  by_cases e : j = done.length
  ·subst e
   have hx : x = o := by
    rw [← Array.getElem?_toList, hd] at ho
    simpa using ho
   subst hx
   refine ⟨by rw [← hlen]; exact h.1, fun k ok hk hok => ?_⟩
   refine prevOK_spec h.2.1 k (dstMask ok, lookMask ops ok) ?_
   rw [← Array.getElem?_toList, hd, List.getElem?_append_left hk] at hok
   rw [hp, List.getElem?_map, hok]
   rfl
  ·refine lexN_spec l _ (done ++ [x]) (by rw [hd]; simp) ?_ h.2.2 j o (by simp; omega) ho
   rw [List.reverse_cons, hp]
   simp
theorem lexOK_of {l : List Oper} (hs : Region.noSelect l.toArray = true) (h : lexN l.toArray l [] = true) : LexOK l.toArray := by
 have H := lexN_spec (ops := l.toArray) l [] [] (by simp) (by simp) h
 refine ⟨hs, fun j o ho e he hb => ?_, fun k j ok oj hk hok hoj hno => pairOK_spec ((H j oj (by simp) hoj).2 k ok hk hok) hno⟩
 have h1 : (afterMask o) >>> j = 0 := Nat.eq_of_beq_eq_true (H j o (by simp) ho).1
 have h2 := mem_afterMask he hb
 rcases Nat.lt_or_ge e.on j with h' | h'
 ·exact h'
 ·obtain ⟨d, hd⟩ : ∃ d, e.on = j + d := ⟨e.on - j, by omega⟩
  have h3 : ((afterMask o) >>> j).testBit d = true := by rw [Nat.testBit_shiftRight, ← hd]; exact h2
  rw [h1] at h3
  simp at h3

end Go.Proofs.YtbecajihgbbgjaaDoor.K

namespace Go.Proofs.YtbecajihgbbgjaaDoor.K
open Go.RowKit

/-- what is asked once an operation, carried out in w, has yielded this: the value v in the very world; or a call that hands back v and only adds to memory -/
def Oper.calmUpon (P : Program) (w : World) (v : Value) : Result Next → Prop
 | .ok (.value u) w' => w' = w ∧ u = v
 | .ok .skip w' => w' = w ∧ v = undef
 | .ok (.enter f args) w' => w' = w ∧ Calls P f args w (fun e w'' => e = .returned v ∧ Below w.heap.size w w'')
 | _ => False
/-- one value, in every later world -/
def Oper.calm (P : Program) (w0 : World) (o : Oper) (a : Act) (next : Act → Prop) : Prop := ∃ v, (∀ x : Later w0, Oper.calmUpon P x.at v ((execOp a.eval o).run P x.at)) ∧ next (a.put o.dst v)
attribute [go_sem] Oper.calm Oper.calmUpon

section
variable {P : Program} {ops : Array Oper} {w0 : World} {mk : Nat → Option Obj}
/-- which variable lies where -/
def upd (bs : Nat → Option Nat) (i b : Nat) : Nat → Option Nat := fun k => if k = i then some b else bs k
def ptr (b : Nat) : Value := .pointer (some ⟨b, 0, none⟩)

/-- what is free of all that is not listed -/
def FreeOf (ops : Array Oper) (listed : Array Bool) (i : Nat) (oi : Oper) : Prop :=
 ∀ j oj, ops[j]? = some oj → j ≠ i → listed.getD j true = false → (∀ e ∈ oj.after, Region.binds .any e = true → e.on ≠ i) → oi.apart ops oj = true
theorem FreeOf.set {listed : Array Bool} {i j : Nat} {oi : Oper} (h : FreeOf ops listed i oi) (hjun : listed.getD j true = false) : FreeOf ops (listed.setIfInBounds j true) i oi := fun k ok hk hki hku hkn => by
 refine h k ok hk hki ?_ hkn
 by_cases hjk : j = k
 ·rw [← hjk]; exact hjun
 ·rw [getD_set_ne true hjk] at hku; exact hku
variable {n : Nat} {L : Array Bool → Act → (Nat → Option Nat) → Prop}
/-- just the operations before k are listed -/
structure Pref (ops : Array Oper) (k : Nat) (listed : Array Bool) : Prop where
 size : listed.size = ops.size
 yes : ∀ i, i < k → listed.getD i false = true
 no : ∀ i, k ≤ i → i < ops.size → listed.getD i true = false
theorem Pref.next {k : Nat} {listed : Array Bool} (h : Pref ops k listed) (hk : k < ops.size) : Pref ops (k + 1) (listed.setIfInBounds k true) := by
 refine ⟨by simpa using h.size, fun i hi => ?_, fun i hi hi' => ?_⟩
 ·by_cases e : i = k
  ·subst e
   simp [h.size, hk]
  ·exact getD_set_true (h.yes i (by omega))
 ·rw [getD_set_ne true (by omega)]
  exact h.no i (by omega) hi'
theorem Pref.at {k i : Nat} {listed : Array Bool} (h : Pref ops k listed) (hi : listed.getD i true = false) : k ≤ i := by
 rcases Nat.lt_or_ge i k with h' | h'
 ·have h1 := h.yes i h'
  rw [getD_both hi] at h1
  cases h1
 ·exact h'
theorem Pref.ready {k : Nat} {listed : Array Bool} {o : Oper} (h : Pref ops k listed) (hx : LexOK ops) (ho : ops[k]? = some o) : k ∈ Region.ready .any ops listed :=
 mem_ready.2 ⟨h.no k (Nat.le_refl _) (Array.getElem?_eq_some_iff.1 ho).1, o, ho, fun e he hb => h.yes _ (hx.edge k o ho e he hb)⟩
theorem Pref.inv {k n : Nat} {listed : Array Bool} (h : Pref ops k listed) (hx : LexOK ops) (hkn : k ≤ n) : HeadInv .any ops n listed := by
 refine ⟨h.size, fun j oj hj hl e he hb => ?_, fun t ht ht' => h.no t (by omega) ht'⟩
 have hlt := (Array.getElem?_eq_some_iff.1 hj).1
 have hjk : j < k := by
  rcases Nat.lt_or_ge j k with h' | h'
  ·exact h'
  ·have h1 := h.no j h' hlt
   rw [getD_both h1] at hl
   cases hl
 exact h.yes _ (Nat.lt_trans (hx.edge j oj hj e he hb) hjk)
theorem Pref.free {k : Nat} {listed : Array Bool} {o : Oper} (h : Pref ops k listed) (hx : LexOK ops) (ho : ops[k]? = some o) : FreeOf ops listed k o := fun j oj hj hne hun hno => by
 have := h.at hun
 exact hx.free k j o oj (by omega) ho hj hno

/-- the variables lie where they are said to lie -/
structure Fx (w0 : World) (mk : Nat → Option Obj) (bs : Nat → Option Nat) (w : World) : Prop where
 below : Below w0.heap.size w0 w
 here : ∀ i b, bs i = some b → ∃ z, mk i = some z ∧ w.heap[b]? = some z ∧ w0.heap.size ≤ b
 apart : ∀ i j b, bs i = some b → bs j = some b → i = j
theorem Fx.later {bs : Nat → Option Nat} {w w' : World} (h : Fx w0 mk bs w) (hb : Below w.heap.size w w') : Fx w0 mk bs w' :=
 ⟨h.below.trans (hb.mono h.below.size), fun i b e => by obtain ⟨z, h1, h2, h3⟩ := h.here i b e; exact ⟨z, h1, heap_keep h2 hb, h3⟩, h.apart⟩
theorem Fx.alloc {bs : Nat → Option Nat} {w : World} {i : Nat} {z : Obj} (h : Fx w0 mk bs w) (hm : mk i = some z) : Fx w0 mk (upd bs i w.heap.size) (w.alloc z) := by
 have new : ∀ j b, bs j = some b → b < w.heap.size := fun j b e => by
  obtain ⟨z', _, h2, _⟩ := h.here j b e
  exact (Array.getElem?_eq_some_iff.1 h2).1
 refine ⟨h.below.alloc h.below.size _, fun j b e => ?_, fun j k b e e' => ?_⟩
 ·unfold upd at e
  by_cases hj : j = i
  ·subst hj
   simp only [if_true, Option.some.injEq] at e
   subst e
   exact ⟨z, hm, heap_new w z, h.below.size⟩
  ·simp only [hj, if_false] at e
   obtain ⟨z', h1, h2, h3⟩ := h.here j b e
   exact ⟨z', h1, heap_old _ h2, h3⟩
 ·unfold upd at e e'
  by_cases hj : j = i
  ·by_cases hk : k = i
   ·rw [hj, hk]
   ·simp only [hj, hk, if_true, if_false, Option.some.injEq] at e e'
    have := new k b e'
    omega
  ·by_cases hk : k = i
   ·simp only [hj, hk, if_true, if_false, Option.some.injEq] at e e'
    have := new j b e
    omega
   ·simp only [hj, hk, if_false] at e e'
    exact h.apart j k b e e'

theorem cells_at {W : World} {b : Nat} {cs : Array Value} {t : TypeId} (h : W.heap[b]? = some (.cells cs t (0, 0))) (i : Nat) {v : Value} (e : cs[i]? = some v) : W.cell? ⟨b, i, none⟩ = some v := by
 simp [World.cell?, h, e]
end


theorem Calls.calm {P : Program} {f : FuncId} {args : Array Value} {W : World} {v : Value} (h : Calls P f args W fun e w' => e = .returned v ∧ Below W.heap.size W w') : Calls P f args W fun e w'' => e = .returned v ∧ Below W.heap.size W w'' := h
end Go.Proofs.YtbecajihgbbgjaaDoor.K

namespace Go.Proofs.YtbecajihgbbgjaaDoor.K
open Go.RowKit

theorem bel_step {w W W1 : World} (h : Below w.heap.size w W) (h1 : Below W.heap.size W W1) : Below w.heap.size w W1 := h.trans (h1.mono h.size)
theorem zb {w W W1 : World} (h : Hid (Below w.heap.size w W)) (h1 : Hid (Below W.heap.size W W1)) : Hid (Below w.heap.size w W1) := Lib.hid (bel_step h.out h1.out)
section
variable {w w' : World} {t g : Nat} {ws : List Nat}
end
/-- the sixty-four bytes of a block, from address ad on -/
structure Blk (w : World) (ad : Addr) (bt : Nat → Nat) : Prop where
 byte : ∀ i, bt i < 256
 cell : ∀ i, i < 64 → w.cell? (ad.add i) = some (.int .u8 (bt i : Int))
theorem Blk.keep {w w' : World} {ad : Addr} {bt : Nat → Nat} (h : Blk w ad bt) (hb : Below w.heap.size w w') : Blk w' ad bt :=
 ⟨h.byte, fun i hi => cell_keep (h.cell i hi) hb⟩
theorem ad_add (a : Addr) (i j : Nat) : (a.add i).add j = a.add (i + j) := by
 unfold Addr.add
 by_cases hi : i = 0 <;> by_cases hj : j = 0 <;> simp [hi, hj, Nat.add_assoc]
theorem bel_setRow {B : Nat} {a w : World} (h : Below B a w) {g : Nat} (hg : B ≤ g) (cs : Array Value) : Below B a (w.setRow g cs) :=
 ⟨h.os, h.tape, h.output, by simpa [World.setRow] using h.size, fun k hk => by
  have : k ≠ g := by omega
  simp [World.setRow, Array.getElem?_modify, Ne.symm this]
  exact h.block k hk⟩
end Go.Proofs.YtbecajihgbbgjaaDoor.K

namespace Go.Proofs.YtbecajihgbbgjaaDoor.K
open Go.RowKit

theorem ad_base (g k : Nat) : (⟨g, 0, none⟩ : Addr).add k = ⟨g, k, none⟩ := by rw [Addr.add_lit, Nat.zero_add]
/-- a slice value that reads as the bytes bs -/
structure Sb (w : World) (A : Option Addr) (n c : Nat) (bs : List Nat) : Prop where
 len : n = bs.length
 cap : n ≤ c
 top : c ≤ 9223372036854775807
 nil : A = none → c = 0
 byte : ∀ x ∈ bs, x < 256
 cells : ∀ (i z : Nat), bs[i]? = some z → ∃ ad, A = some ad ∧ w.cell? (ad.add i) = some (.int .u8 (z : Int))
section
variable {w w' : World} {A : Option Addr} {n c : Nat} {bs : List Nat}
theorem Sb.keep (h : Sb w A n c bs) (hb : Below w.heap.size w w') : Sb w' A n c bs :=
 ⟨h.len, h.cap, h.top, h.nil, h.byte, fun i z hz => by obtain ⟨ad, e, hc⟩ := h.cells i z hz; exact ⟨ad, e, cell_keep hc hb⟩⟩
theorem Sb.drew (h : Sb w A n c bs) : Sb w.drew A n c bs := h.keep (Below.refl _ _).drew
theorem Sb.cut {k d : Nat} (h : Sb w A n c bs) (hk : k ≤ n) (hd : k ≤ d) (hc : d ≤ c) (h0 : A = none → d = 0) : Sb w A k d (bs.take k) := by
 refine ⟨by have := h.len; simp; omega, hd, by have := h.top; omega, h0, fun x hx => h.byte x (List.mem_of_mem_take hx), fun i z hz => h.cells i z ?_⟩
 have hl := (List.getElem?_eq_some_iff.1 hz).1
 rw [List.getElem?_take_of_lt (by simp at hl; omega)] at hz
 exact hz
theorem Sb.take {k : Nat} (h : Sb w A n c bs) (hk : k ≤ n) : Sb w A k c (bs.take k) := h.cut hk (by have := h.cap; omega) (Nat.le_refl _) h.nil
theorem Sb.drop {k : Nat} {ad : Addr} (h : Sb w (some ad) n c bs) (hk : k ≤ n) : Sb w (some (if c = k then ad else ad.add k)) (n - k) (c - k) (bs.drop k) := by
 have hl := h.len
 have hcp := h.cap
 refine ⟨by simp; omega, by omega, by have := h.top; omega, (fun e => by cases e), fun x hx => h.byte x (List.mem_of_mem_drop hx), fun i z hz => ⟨_, rfl, ?_⟩⟩
 have hi := (List.getElem?_eq_some_iff.1 hz).1
 simp at hi
 rw [if_neg (by omega), ad_add]
 rw [List.getElem?_drop] at hz
 obtain ⟨ad', e, hc⟩ := h.cells _ _ hz
 injection e with e
 subst e
 exact hc
end
section
variable {w w' : World} {base : Nat} {v : Value} {n : Nat} {bs : List Nat}
end
end Go.Proofs.YtbecajihgbbgjaaDoor.K


namespace Go.Proofs.YtbecajihgbbgjaaDoor.K
set_option maxRecDepth 8000
open Go.RowKit

/-- operations that only look -/
def stillOp (o : Oper) : Bool := match o.op with
 | .move _ => true
 | .assign _ => true
 | .pick _ _ _ => true
 | .load _ _ => true
 | .binOp _ _ _ _ _ => true
 | .unOp _ _ _ => true
 | .convert _ _ _ => true
 | .extract _ _ => true
 | .field _ _ _ => true
 | .indexAddr _ _ _ => true
 | .fieldAddr _ _ _ => true
 | .build _ _ => true
 | .slice _ _ _ _ _ => true
 | .call c => match c.callee with
  | .builtin .len => true
  | .builtin .min => true
  | .builtin .max => true
  | _ => false
 | _ => false

section
variable {P : Program} {ops : Array Oper} {S : World → Prop} {Q : Exit → Act → World → Prop}

/-- what an operation that is carried out may leave: its value and the world -/
def heldUpon (P : Program) (K : Value → World → Prop) : Result Next → Prop
 | .ok (.value u) w' => K u w'
 | .ok .skip w' => K undef w'
 | .ok (.enter f args) w' => Calls P f args w' (fun e w'' => ∃ v, e = .returned v ∧ K v w'')
 | _ => False
def hOp (P : Program) (o : Oper) (K : Value → World → Prop) (a : Act) (w : World) : Prop := heldUpon P K ((execOp a.eval o).run P w)
theorem hOp_mono {o : Oper} {K K' : Value → World → Prop} {a : Act} {w : World} (h : ∀ v w', K v w' → K' v w') (hh : hOp P o K a w) : hOp P o K' a w := by
 unfold hOp at *
 generalize (execOp a.eval o).run P w = r at *
 cases r with
 | ok n w' =>
  cases n <;> simp only [heldUpon] at hh ⊢ <;> first | exact h _ _ hh | exact hh.mono fun _ _ ⟨v, he, hk⟩ => ⟨v, he, h _ _ hk⟩
 | halt x w' => exact hh
theorem hOp_out {o : Oper} {K : Value → World → Prop} {a : Act} {w : World} (hh : hOp P o K a w) : ∃ v w', K v w' := by
 unfold hOp at hh
 generalize (execOp a.eval o).run P w = r at hh
 cases r with
 | ok n w' =>
  cases n <;> simp only [heldUpon] at hh
  case value u => exact ⟨_, _, hh⟩
  case skip => exact ⟨_, _, hh⟩
  case enter f args =>
   obtain ⟨e, w1, fr, ⟨v, _, hk⟩, _⟩ := hh []
   exact ⟨v, w1, hk⟩
 | halt x w' => exact hh.elim
theorem hOp_put {o : Oper} (hs : ∀ cs b, o.op ≠ .select cs b) {K : Value → World → Prop} {a : Act} {w : World} {d : Option Tmp} {u : Value} (h : ∀ t, d = some t → t ∉ o.looksAt ops) (hh : hOp P o K a w) : hOp P o K (a.put d u) w := by
 unfold hOp at *
 rw [execOp_put o hs a d u h]
 exact hh

def quietNow (ops : Array Oper) (o : Oper) (a : Act) : Prop := stillOp o = true ∨ Region.wanted o (yielded ops a.tmps) = false
def sOp (P : Program) (ops : Array Oper) (S : World → Prop) (i : Nat) (K : Act → World → Prop) (a : Act) (w : World) : Prop :=
 match ops[i]? with
 | none => K a w
 | some o => (quietNow ops o a ∧ ∃ v, YieldsIf P ops S o v a ∧ K (a.put o.dst v) w) ∨ (¬ quietNow ops o a ∧ hOp P o (fun v w' => S w' ∧ K (a.put o.dst v) w') a w)
theorem sOp_mono {i : Nat} {K K' : Act → World → Prop} {a : Act} {w : World} (hS : S w) (h : ∀ a w, S w → K a w → K' a w) (hh : sOp P ops S i K a w) : sOp P ops S i K' a w := by
 unfold sOp at *
 cases hi : ops[i]? with
 | none => rw [hi] at hh; exact h _ _ hS hh
 | some o =>
  rw [hi] at hh
  rcases hh with ⟨hq, v, hy, hk⟩ | ⟨hq, hh⟩
  ·exact .inl ⟨hq, v, hy, h _ _ hS hk⟩
  ·exact .inr ⟨hq, hOp_mono (fun _ _ ⟨h1, h2⟩ => ⟨h1, h _ _ h1 h2⟩) hh⟩
theorem sOp_out {i : Nat} {K : Act → World → Prop} {a : Act} {w : World} (hS : S w) (hh : sOp P ops S i K a w) : ∃ a' w', S w' ∧ K a' w' := by
 unfold sOp at hh
 cases hi : ops[i]? with
 | none => rw [hi] at hh; exact ⟨_, _, hS, hh⟩
 | some o =>
  rw [hi] at hh
  rcases hh with ⟨_, v, _, hk⟩ | ⟨_, hh⟩
  ·exact ⟨_, _, hS, hk⟩
  ·obtain ⟨v, w', h1, h2⟩ := hOp_out hh
   exact ⟨_, _, h1, h2⟩
theorem quietNow_put {o : Oper} {a : Act} {d : Option Tmp} {u : Value} (h : ∀ t, d = some t → t ∉ o.looksAt ops) : quietNow ops o (a.put d u) ↔ quietNow ops o a := by
 unfold quietNow
 rw [wanted_put o a d u h]
theorem wpOp_of_sOp {i : Nat} {K K' : Act → World → Prop} {a : Act} {w : World} (hS : S w) (h : ∀ a w, S w → K a w → K' a w) (hh : sOp P ops S i K a w) : wpOp P ops Q i K' a w := by
 unfold sOp at hh
 cases hi : ops[i]? with
 | none =>
  rw [hi] at hh
  unfold wpOp
  simp only [hi]
  exact h _ _ hS hh
 | some o =>
  rw [hi] at hh
  rcases hh with ⟨_, v, hy, hk⟩ | ⟨hq, hh⟩
  ·exact hy.wpOp hi hS (h _ _ hS hk)
  ·have hw : Region.wanted o (yielded ops a.tmps) = true := by
    cases e : Region.wanted o (yielded ops a.tmps) with
    | true => rfl
    | false => exact absurd (.inr e) hq
   unfold wpOp
   simp only [hi, hw, if_true]
   refine .inl ?_
   unfold hOp at hh
   unfold Oper.wp
   generalize (execOp a.eval o).run P w = r at *
   cases r with
   | ok n w' =>
    cases n <;> simp only [heldUpon] at hh <;> simp only [Oper.upon]
    case value u => exact h _ _ hh.1 hh.2
    case skip => exact h _ _ hh.1 hh.2
    case enter f args => exact hh.mono fun e w'' ⟨v, he, h1, h2⟩ => by subst he; exact h _ _ h1 h2
   | halt x w' => exact hh.elim

theorem YieldsIf.one {o : Oper} {u v : Value} {a : Act} {w : World} (hS : S w) (h : YieldsIf P ops S o u a) (k : YieldsIf P ops S o v a) : u = v := by
 rcases h with ⟨h1, h2⟩ | ⟨h1, h2⟩ <;> rcases k with ⟨k1, k2⟩ | ⟨k1, k2⟩
 ·have := (h2 w hS).symm.trans (k2 w hS)
  injection this with e
  injection e
 ·rw [h1] at k1; cases k1
 ·rw [h1] at k1; cases k1
 ·rw [h2, k2]

/-- one operation apart from another: its value may be there already -/
theorem sOp_put {j : Nat} {oi oj : Oper} {v : Value} (hj : ops[j]? = some oj) (hap : oi.apart ops oj = true) (hsi : ∀ cs b, oi.op ≠ .select cs b) (hsj : ∀ cs b, oj.op ≠ .select cs b) {K : Act → World → Prop} {a : Act} {w : World}
  (hq : quietNow ops oi a) (hy : YieldsIf P ops S oi v a) (h : sOp P ops S j K (a.put oi.dst v) w) : sOp P ops S j (fun a' w' => quietNow ops oi a' ∧ YieldsIf P ops S oi v a' ∧ K (a'.put oi.dst v) w') a w := by
 obtain ⟨h1, h2, h3⟩ := Oper.apart_spec hap
 have keep : ∀ u, quietNow ops oi (a.put oj.dst u) ∧ YieldsIf P ops S oi v (a.put oj.dst u) := fun u =>
  ⟨(quietNow_put h3).2 hq, hy.of_same (execOp_put oi hsi a oj.dst u h3) (wanted_put oi a oj.dst u h3)⟩
 unfold sOp at *
 rw [hj] at h ⊢
 rcases h with ⟨hqj, u, hu, hk⟩ | ⟨hqj, hh⟩
 ·exact .inl ⟨(quietNow_put h1).1 hqj, u, hu.of_same (execOp_put oj hsj a oi.dst v h1).symm (wanted_put oj a oi.dst v h1).symm, (keep u).1, (keep u).2, by rw [← Act.put_comm a v u h2]; exact hk⟩
 ·refine .inr ⟨fun e => hqj ((quietNow_put h1).2 e), ?_⟩
  have hh' : hOp P oj (fun v' w' => S w' ∧ K ((a.put oi.dst v).put oj.dst v') w') a w := by
   unfold hOp at *
   rw [execOp_put oj hsj a oi.dst v h1] at hh
   exact hh
  exact hOp_mono (fun u w' ⟨e1, e2⟩ => ⟨e1, (keep u).1, (keep u).2, by rw [← Act.put_comm a v u h2]; exact e2⟩) hh'

/-- every later call waits for a call that has not come up -/
def Chain (ops : Array Oper) (i : Nat) (listed : Array Bool) : Prop := ∀ j oj, ops[j]? = some oj → j ≠ i → listed.getD j true = false → stillOp oj = false →
 ∃ e, e ∈ oj.after ∧ Region.binds .any e = true ∧ listed.getD e.on false = false ∧ ∀ oe, ops[e.on]? = some oe → stillOp oe = false

end

def LaterB (B : Nat) (w : World) : Type := { w' : World // Below B w w' }
instance {B : Nat} {w : World} : Nonempty (LaterB B w) := ⟨⟨w, Below.refl _ _⟩⟩
def LaterB.at {B : Nat} {w : World} (x : LaterB B w) : World := x.1
theorem LaterB.below {B : Nat} {w : World} (x : LaterB B w) : Below B w x.at := x.2
theorem LaterB.cell {B : Nat} {w : World} {a : Addr} {v : Value} (h : w.cell? a = some v) (hB : a.block < B) (x : LaterB B w) : x.at.cell? a = some v := (x.2.cell hB).trans h
theorem LaterB.step {B : Nat} {w w' w1 : World} (h : ∃ x : LaterB B w, w' = x.at) (hb : Below B w' w1) : ∃ x : LaterB B w, w1 = x.at := by
 obtain ⟨x, rfl⟩ := h
 exact ⟨⟨w1, x.2.trans hb⟩, rfl⟩
end Go.Proofs.YtbecajihgbbgjaaDoor.K

namespace Go.Proofs.YtbecajihgbbgjaaDoor.K
open Go.RowKit

section
variable {P : Program} {ops : Array Oper} {S : World → Prop} {Q : Exit → Act → World → Prop} {m : Nat}

/-- the last operation -/
def mOp (P : Program) (ops : Array Oper) (m : Nat) (K : Act → World → Prop) (a : Act) (w : World) : Prop :=
 ∃ o, ops[m]? = some o ∧ Region.wanted o (yielded ops a.tmps) = true ∧ hOp P o (fun v w' => K (a.put o.dst v) w') a w
theorem mOp_mono {K K' : Act → World → Prop} {a : Act} {w : World} (h : ∀ a w, K a w → K' a w) (hh : mOp P ops m K a w) : mOp P ops m K' a w := by
 obtain ⟨o, h1, h2, h3⟩ := hh
 exact ⟨o, h1, h2, hOp_mono (fun _ _ hk => h _ _ hk) h3⟩
theorem wpOp_of_mOp {K : Act → World → Prop} {a : Act} {w : World} (hh : mOp P ops m K a w) : wpOp P ops Q m K a w := by
 obtain ⟨o, hi, hw, hh⟩ := hh
 unfold wpOp
 simp only [hi, hw, if_true]
 refine .inl ?_
 unfold hOp at hh
 unfold Oper.wp
 generalize (execOp a.eval o).run P w = r at *
 cases r with
 | ok n w' =>
  cases n <;> simp only [heldUpon] at hh <;> simp only [Oper.upon]
  case value u => exact hh
  case skip => exact hh
  case enter f args => exact hh.mono fun e w'' ⟨v, he, h2⟩ => by subst he; exact h2
 | halt x w' => exact hh.elim

def tOp (P : Program) (ops : Array Oper) (S : World → Prop) (m i : Nat) (K : Act → World → Prop) (a : Act) (w : World) : Prop := if i = m then mOp P ops m K a w else sOp P ops S i K a w
theorem tOp_ne {i : Nat} {K : Act → World → Prop} {a : Act} {w : World} (h : i ≠ m) : tOp P ops S m i K a w = sOp P ops S i K a w := if_neg h
theorem tOp_eq {K : Act → World → Prop} {a : Act} {w : World} : tOp P ops S m m K a w = mOp P ops m K a w := if_pos rfl
/-- whatever order is picked -/
def wpT (P : Program) (ops : Array Oper) (S : World → Prop) (m : Nat) (Q : Exit → Act → World → Prop) : Nat → Array Bool → Act → World → Prop
 | 0, listed, a, w => Region.ready .any ops listed = [] ∧ Q .normal a w
 | n + 1, listed, a, w => (Region.ready .any ops listed = [] → Q .normal a w) ∧ ∀ i, i ∈ Region.ready .any ops listed → tOp P ops S m i (wpT P ops S m Q n (listed.setIfInBounds i true)) a w

theorem ready_lt {listed : Array Bool} {i : Nat} (h : i ∈ Region.ready .any ops listed) : i < ops.size := by
 obtain ⟨_, o, ho, _⟩ := mem_ready.1 h
 exact (Array.getElem?_eq_some_iff.1 ho).1
theorem none_left {listed : Array Bool} (hz : ops.size = m + 1) (hs : Region.sinkB .any ops m = true) (hc : Region.chainB .any ops m = true) (inv : HeadInv .any ops m listed) (hm : m ∈ Region.ready .any ops listed) : Region.ready .any ops (listed.setIfInBounds m true) = [] := by
 refine List.eq_nil_iff_forall_not_mem.2 fun j hj => ?_
 have hjl := ready_lt hj
 have hju := (mem_ready.1 hj).1
 by_cases e : j = m
 ·subst e
  have : (listed.setIfInBounds j true).getD j true = true := by simp [inv.size, hz]
  rw [this] at hju
  cases hju
 ·rw [getD_set_ne true (fun k => e k.symm)] at hju
  exact tail_waits hs hc (by omega) inv _ j rfl (by omega) hju m (Nat.le_refl _) hm
theorem wpAny_of_wpT (hz : ops.size = m + 1) (hs : Region.sinkB .any ops m = true) (hc : Region.chainB .any ops m = true) : ∀ (n : Nat) (listed : Array Bool) (a : Act) (w : World), HeadInv .any ops m listed → S w → wpT P ops S m Q n listed a w → wpAny P .any ops Q n listed a w
 | 0, _, _, _, _, _, h => h
 | n + 1, listed, a, w, inv, hS, h => by
  refine ⟨h.1, fun i hi => ?_⟩
  have h2 := h.2 i hi
  by_cases e : i = m
  ·subst e
   rw [tOp_eq] at h2
   have hn := none_left hz hs hc inv hi
   refine wpOp_of_mOp (mOp_mono (fun a' w' hk => ?_) h2)
   cases n with
   | zero => exact hk
   | succ n => exact ⟨hk.1, fun j hj => by rw [hn] at hj; cases hj⟩
  ·rw [tOp_ne e] at h2
   have hl := ready_lt hi
   exact wpOp_of_sOp hS (fun a' w' hS' h' => wpAny_of_wpT hz hs hc n _ a' w' (inv.set hi (by omega)) hS' h') h2

theorem wpT_first (hz : ops.size = m + 1) (hs : Region.sinkB .any ops m = true) (hc : Region.chainB .any ops m = true) {i : Nat} {oi : Oper} (him : i < m) (hi : ops[i]? = some oi) (hsel : ∀ (j : Nat) (o : Oper) cs b, ops[j]? = some o → o.op ≠ .select cs b) : ∀ (n : Nat) (listed : Array Bool) (a : Act) (w : World), HeadInv .any ops m listed → S w →
   (∀ j oj, ops[j]? = some oj → j ≠ i → listed.getD j true = false → (∀ e ∈ oj.after, Region.binds .any e = true → e.on ≠ i) → oi.apart ops oj = true) →
   (stillOp oi = false → Chain ops i listed) → i ∈ Region.ready .any ops listed → sOp P ops S i (wpT P ops S m Q n (listed.setIfInBounds i true)) a w → wpT P ops S m Q (n + 1) listed a w := by
 intro n
 induction n with
 | zero =>
  intro listed a w inv hS _ _ hr H
  refine ⟨fun h => (by rw [h] at hr; cases hr), fun j hj => ?_⟩
  by_cases hji : j = i
  ·subst hji; rw [tOp_ne (by omega)]; exact H
  ·obtain ⟨a', w', _, h0, _⟩ := sOp_out hS H
   have := ready_mono hj hji
   rw [h0] at this
   cases this
 | succ n ih =>
  intro listed a w inv hS hfree hchain hr H
  refine ⟨fun h => (by rw [h] at hr; cases hr), fun j hj => ?_⟩
  by_cases hji : j = i
  ·subst hji; rw [tOp_ne (by omega)]; exact H
  have hjm : j ≠ m := fun e => by
   subst e
   exact tail_waits hs hc (by omega) inv _ i rfl him (mem_ready.1 hr).1 j (Nat.le_refl _) hj
  have hjl := ready_lt hj
  have inv' : HeadInv .any ops m (listed.setIfInBounds j true) := inv.set hj (by omega)
  rw [tOp_ne hjm]
  obtain ⟨hjun, oj, hoj, hall⟩ := mem_ready.1 hj
  have hnot : ∀ e ∈ oj.after, Region.binds .any e = true → e.on ≠ i := fun e he hb heq => by
   have h1 := hall e he hb
   have h0 := (mem_ready.1 hr).1
   rw [heq, getD_both h0] at h1
   cases h1
  have hap := hfree j oj hoj hji hjun hnot
  obtain ⟨p1, p2, p3⟩ := Oper.apart_spec hap
  have hsi := fun cs b => hsel i oi cs b hi
  have hsj := fun cs b => hsel j oj cs b hoj
  have hfree' : ∀ k ok, ops[k]? = some ok → k ≠ i → (listed.setIfInBounds j true).getD k true = false →
    (∀ e ∈ ok.after, Region.binds .any e = true → e.on ≠ i) → oi.apart ops ok = true := fun k ok hk hki hun hno => by
   refine hfree k ok hk hki ?_ hno
   by_cases hjk : j = k
   ·subst hjk; exact hjun
   ·rw [getD_set_ne true hjk] at hun; exact hun
  have hjs : stillOp oi = false → stillOp oj = true := fun hs => by
   cases e : stillOp oj with
   | true => rfl
   | false =>
    obtain ⟨e, he, hb, hun, _⟩ := hchain hs j oj hoj hji hjun e
    rw [hall e he hb] at hun
    cases hun
  have hchain' : stillOp oi = false → Chain ops i (listed.setIfInBounds j true) := fun hs => by
   intro k ok hk hki hun hks
   have hjk : j ≠ k := by
    rintro rfl
    rw [hoj] at hk
    injection hk with hk
    rw [← hk, hjs hs] at hks
    cases hks
   rw [getD_set_ne true hjk] at hun
   obtain ⟨e, he, hb, h1, h2⟩ := hchain hs k ok hk hki hun hks
   refine ⟨e, he, hb, ?_, h2⟩
   have hje : j ≠ e.on := by
    intro h
    have := h2 oj (by rw [← h]; exact hoj)
    rw [hjs hs] at this
    cases this
   rw [getD_set_ne false hje]
   exact h1
  have hr' := ready_mono hr (Ne.symm hji)
  have hrj := ready_mono hj hji
  unfold sOp at H
  rw [hi] at H
  rcases H with ⟨hq, v, hy, HK⟩ | ⟨hnq, hh⟩
  ·have hkj := HK.2 j hrj
   rw [tOp_ne hjm] at hkj
   have h2 := sOp_put hoj hap hsi hsj hq hy hkj
   refine sOp_mono hS (fun a' w' hS' ⟨hq', hy', hk'⟩ => ih (listed.setIfInBounds j true) a' w' inv' hS' hfree' hchain' hr' ?_) h2
   unfold sOp
   rw [hi]
   refine .inl ⟨hq', v, hy', ?_⟩
   rw [Array.setIfInBounds_comm _ _ hji]
   exact hk'
  ·have hs : stillOp oi = false := by
    cases e : stillOp oi with
    | false => rfl
    | true => exact absurd (.inl e) hnq
   have hj' := hjs hs
   obtain ⟨v0, w0, hS0, hK0⟩ := hOp_out hh
   have h1 := hK0.2 j hrj
   rw [tOp_ne hjm] at h1
   unfold sOp at h1
   rw [hoj] at h1
   obtain ⟨vj, hyj⟩ : ∃ vj, YieldsIf P ops S oj vj a := by
    rcases h1 with ⟨_, u, hu, _⟩ | ⟨e, _⟩
    ·exact ⟨u, hu.of_same (execOp_put oj hsj a oi.dst v0 p1).symm (wanted_put oj a oi.dst v0 p1).symm⟩
    ·exact absurd (.inl hj') e
   unfold sOp
   rw [hoj]
   refine .inl ⟨.inl hj', vj, hyj, ih (listed.setIfInBounds j true) (a.put oj.dst vj) w inv' hS hfree' hchain' hr' ?_⟩
   unfold sOp
   rw [hi]
   refine .inr ⟨fun e => hnq ((quietNow_put p3).1 e), hOp_put hsi p3 (hOp_mono (fun v w' ⟨hS', hk'⟩ => ⟨hS', ?_⟩) hh)⟩
   have h2 := hk'.2 j hrj
   rw [tOp_ne hjm] at h2
   unfold sOp at h2
   rw [hoj] at h2
   rcases h2 with ⟨_, u, hu, hk2⟩ | ⟨e, _⟩
   ·have hu' : YieldsIf P ops S oj u a := hu.of_same (execOp_put oj hsj a oi.dst v p1).symm (wanted_put oj a oi.dst v p1).symm
    have e := YieldsIf.one hS' hu' hyj
    subst e
    rw [Array.setIfInBounds_comm _ _ hji, ← Act.put_comm a v u p2]
    exact hk2
   ·exact absurd (.inl hj') e

/-- the last operation, a run that yields nothing -/
theorem mOp_run0 {o : Oper} {a : Act} {w : World} {K : Act → World → Prop} (w1 : World) (h0 : ops[m]? = some o) (hg : o.guard = none) (hr : (execOp a.eval o).run P w = .ok .skip w1) (h : K (a.put o.dst undef) w1) : mOp P ops m K a w := by
 refine ⟨o, h0, by unfold Region.wanted; rw [hg], ?_⟩
 unfold hOp
 rw [hr]
 exact h
end

end Go.Proofs.YtbecajihgbbgjaaDoor.K

namespace Go.Proofs.YtbecajihgbbgjaaDoor.K
open Go.RowKit

/-- operations that make a variable or a slice -/
def makerOp (o : Oper) : Bool := match o.op with
 | .alloc _ => true
 | .buildSlice _ _ _ => true
 | .makeSlice _ _ _ => true
 | _ => false
section
variable {P : Program} {ops : Array Oper} {w0 : World} {Q : Exit → Act → World → Prop}

/-- an operation that waits for i, by way of others too -/
inductive Waits (ops : Array Oper) (i : Nat) : Nat → Prop
 | on {j : Nat} {oj : Oper} (e : Edge) : ops[j]? = some oj → e ∈ oj.after → Region.binds .any e = true → e.on = i → Waits ops i j
 | step {j : Nat} {oj : Oper} (e : Edge) : ops[j]? = some oj → e ∈ oj.after → Region.binds .any e = true → Waits ops i e.on → Waits ops i j
theorem Waits.not_ready {i j : Nat} {oj : Oper} {listed : Array Bool} (hw : ∀ j, Waits ops i j → listed.getD j false = false) (h0 : listed.getD i false = false) (h : Waits ops i j) (hoj : ops[j]? = some oj)
  (hall : ∀ e ∈ oj.after, Region.binds .any e = true → listed.getD e.on false = true) : False := by
 cases h with
 | on e h1 he hb hon =>
  rw [hoj] at h1
  injection h1 with h1
  subst h1
  have := hall e he hb
  rw [hon, h0] at this
  cases this
 | step e h1 he hb hst =>
  rw [hoj] at h1
  injection h1 with h1
  subst h1
  have := hall e he hb
  rw [hw _ hst] at this
  cases this
theorem Waits.lt (hx : LexOK ops) {i j : Nat} (h : Waits ops i j) : i < j ∧ j < ops.size := by
 induction h with
 | on e h1 he hb hon => exact ⟨by have := hx.edge _ _ h1 e he hb; omega, (Array.getElem?_eq_some_iff.1 h1).1⟩
 | step e h1 he hb _ ih => exact ⟨by have := hx.edge _ _ h1 e he hb; omega, (Array.getElem?_eq_some_iff.1 h1).1⟩

theorem not_quiet {o : Oper} {a : Act} (hs : stillOp o = false) (hw : Region.wanted o (yielded ops a.tmps) = true) : ¬ quietNow ops o a := by
 rintro (h1 | h1)
 ·rw [hs] at h1; cases h1
 ·rw [hw] at h1; cases h1
end

end Go.Proofs.YtbecajihgbbgjaaDoor.K

namespace Go.Proofs.YtbecajihgbbgjaaDoor.K
open Go.RowKit

section
variable {P : Program} {ops : Array Oper} {rest : List Oper} {o : Oper} {a : Act}
theorem wpQuiet_val {C : World → Prop} {Q : Act → Prop} (hw : Region.wanted o (yielded ops a.tmps) = true) (v : Value) (hr : ∀ w, C w → (execOp a.eval o).run P w = .ok (.value v) w) (h : wpQuiet P ops C Q rest (a.put o.dst v)) : wpQuiet P ops C Q (o :: rest) a :=
 BigFrame.wpQuiet_want hw fun _ hK => ⟨v, fun w hC => by unfold Oper.quietAt; rw [hr w hC]; exact ⟨rfl, rfl⟩, hK _ h⟩
theorem zv {C : World → Prop} {Q : Act → Prop} (v : Value) (hr : ∀ w, C w → (execOp a.eval o).run P w = .ok (.value v) w) (h : wpQuiet P ops C Q rest (a.put o.dst v)) (hw : Region.wanted o (yielded ops a.tmps) = true := by kernel_rfl) : wpQuiet P ops C Q (o :: rest) a := wpQuiet_val hw v hr h
end
section
variable {P : Program} {ev : Operand → Value} {o : Oper} {w : World}
end
structure Pb (w : World) (A : Option Addr) (n c : Nat) (Ps : List (List Nat)) : Prop where
 len : n = Ps.length
 cap : n ≤ c
 top : c ≤ 9223372036854775807
 nil : A = none → c = 0
 cells : ∀ (i : Nat) (p : List Nat), Ps[i]? = some p → ∃ ad B m d, A = some ad ∧ w.cell? (ad.add i) = some (.slice B m d) ∧ Sb w B m d p
theorem Pb.keep {w w' : World} {A : Option Addr} {n c : Nat} {Ps : List (List Nat)} (h : Pb w A n c Ps) (hb : Below w.heap.size w w') : Pb w' A n c Ps :=
 ⟨h.len, h.cap, h.top, h.nil, fun i p hp => by obtain ⟨ad, B, m, d, e, hc, hs⟩ := h.cells i p hp; exact ⟨ad, B, m, d, e, cell_keep hc hb, hs.keep hb⟩⟩
theorem Pb.row {w : World} {t g : Nat} {vs : List Value} {Ps : List (List Nat)} {n c : Nat} (hg : w.heap[g]? = some (.cells vs.toArray t (0, 0))) (hn : n = Ps.length) (hc : n ≤ c) (ht : c ≤ 9223372036854775807)
  (hv : ∀ (i : Nat) (p : List Nat), Ps[i]? = some p → ∃ B m d, vs[i]? = some (.slice B m d) ∧ Sb w B m d p) : Pb w (some ⟨g, 0, none⟩) n c Ps :=
 ⟨hn, hc, ht, (fun e => by cases e), fun i p hp => by
  obtain ⟨B, m, d, h1, h2⟩ := hv i p hp
  refine ⟨_, B, m, d, rfl, ?_, h2⟩
  rw [ad_base]
  simp [World.cell?, hg, h1]⟩
end Go.Proofs.YtbecajihgbbgjaaDoor.K


namespace Go.Proofs.YtbecajihgbbgjaaDoor.K.Tl
set_option maxRecDepth 8000
open Go.RowKit Go.Proofs.YtbecajihgbbgjaaDoor.K

section
variable {P : Program} {ops : Array Oper} {S : World → Prop} {Q : Exit → Act → World → Prop} {m : Nat}

/-- every later effect waits for this operation -/
def ChainX (ops : Array Oper) (i : Nat) (listed : Array Bool) : Prop := (∀ j, Waits ops i j → listed.getD j false = false) ∧
 ∀ j oj, ops[j]? = some oj → j ≠ i → listed.getD j true = false → stillOp oj = false → Waits ops i j
theorem wpT_first (hz : ops.size = m + 1) (hs : Region.sinkB .any ops m = true) (hc : Region.chainB .any ops m = true) {i : Nat} {oi : Oper} (him : i < m) (hi : ops[i]? = some oi) (hsel : ∀ (j : Nat) (o : Oper) cs b, ops[j]? = some o → o.op ≠ .select cs b) : ∀ (n : Nat) (listed : Array Bool) (a : Act) (w : World), HeadInv .any ops m listed → S w →
   (∀ j oj, ops[j]? = some oj → j ≠ i → listed.getD j true = false → (∀ e ∈ oj.after, Region.binds .any e = true → e.on ≠ i) → oi.apart ops oj = true) →
   (stillOp oi = false → ChainX ops i listed) → i ∈ Region.ready .any ops listed → sOp P ops S i (wpT P ops S m Q n (listed.setIfInBounds i true)) a w → wpT P ops S m Q (n + 1) listed a w := by
 intro n
 induction n with
 | zero =>
  intro listed a w inv hS _ _ hr H
  refine ⟨fun h => (by rw [h] at hr; cases hr), fun j hj => ?_⟩
  by_cases hji : j = i
  ·subst hji; rw [tOp_ne (by omega)]; exact H
  ·obtain ⟨a', w', _, h0, _⟩ := sOp_out hS H
   have := ready_mono hj hji
   rw [h0] at this
   cases this
 | succ n ih =>
  intro listed a w inv hS hfree hchain hr H
  refine ⟨fun h => (by rw [h] at hr; cases hr), fun j hj => ?_⟩
  by_cases hji : j = i
  ·subst hji; rw [tOp_ne (by omega)]; exact H
  have hjm : j ≠ m := fun e => by
   subst e
   exact tail_waits hs hc (by omega) inv _ i rfl him (mem_ready.1 hr).1 j (Nat.le_refl _) hj
  have hjl := ready_lt hj
  have inv' : HeadInv .any ops m (listed.setIfInBounds j true) := inv.set hj (by omega)
  rw [tOp_ne hjm]
  obtain ⟨hjun, oj, hoj, hall⟩ := mem_ready.1 hj
  have hnot : ∀ e ∈ oj.after, Region.binds .any e = true → e.on ≠ i := fun e he hb heq => by
   have h1 := hall e he hb
   have h0 := (mem_ready.1 hr).1
   rw [heq, getD_both h0] at h1
   cases h1
  have hap := hfree j oj hoj hji hjun hnot
  obtain ⟨p1, p2, p3⟩ := Oper.apart_spec hap
  have hsi := fun cs b => hsel i oi cs b hi
  have hsj := fun cs b => hsel j oj cs b hoj
  have hfree' : ∀ k ok, ops[k]? = some ok → k ≠ i → (listed.setIfInBounds j true).getD k true = false →
    (∀ e ∈ ok.after, Region.binds .any e = true → e.on ≠ i) → oi.apart ops ok = true := fun k ok hk hki hun hno => by
   refine hfree k ok hk hki ?_ hno
   by_cases hjk : j = k
   ·subst hjk; exact hjun
   ·rw [getD_set_ne true hjk] at hun; exact hun
  have h0i : listed.getD i false = false := getD_both (mem_ready.1 hr).1
  have hjs : stillOp oi = false → stillOp oj = true := fun hs => by
   cases e : stillOp oj with
   | true => rfl
   | false => exact (Waits.not_ready (hchain hs).1 h0i ((hchain hs).2 j oj hoj hji hjun e) hoj hall).elim
  have hchain' : stillOp oi = false → ChainX ops i (listed.setIfInBounds j true) := fun hs => by
   refine ⟨fun k hw => ?_, fun k ok hk hki hun hks => ?_⟩
   ·have h1 := (hchain hs).1 k hw
    by_cases hjk : j = k
    ·subst hjk
     exact (Waits.not_ready (hchain hs).1 h0i hw hoj hall).elim
    ·rw [getD_set_ne false hjk]; exact h1
   ·have hjk : j ≠ k := by
     rintro rfl
     rw [hoj] at hk
     injection hk with hk
     rw [← hk, hjs hs] at hks
     cases hks
    rw [getD_set_ne true hjk] at hun
    exact (hchain hs).2 k ok hk hki hun hks
  have hr' := ready_mono hr (Ne.symm hji)
  have hrj := ready_mono hj hji
  unfold sOp at H
  rw [hi] at H
  rcases H with ⟨hq, v, hy, HK⟩ | ⟨hnq, hh⟩
  ·have hkj := HK.2 j hrj
   rw [tOp_ne hjm] at hkj
   have h2 := sOp_put hoj hap hsi hsj hq hy hkj
   refine sOp_mono hS (fun a' w' hS' ⟨hq', hy', hk'⟩ => ih (listed.setIfInBounds j true) a' w' inv' hS' hfree' hchain' hr' ?_) h2
   unfold sOp
   rw [hi]
   refine .inl ⟨hq', v, hy', ?_⟩
   rw [Array.setIfInBounds_comm _ _ hji]
   exact hk'
  ·have hs : stillOp oi = false := by
    cases e : stillOp oi with
    | false => rfl
    | true => exact absurd (.inl e) hnq
   have hj' := hjs hs
   obtain ⟨v0, w0, hS0, hK0⟩ := hOp_out hh
   have h1 := hK0.2 j hrj
   rw [tOp_ne hjm] at h1
   unfold sOp at h1
   rw [hoj] at h1
   obtain ⟨vj, hyj⟩ : ∃ vj, YieldsIf P ops S oj vj a := by
    rcases h1 with ⟨_, u, hu, _⟩ | ⟨e, _⟩
    ·exact ⟨u, hu.of_same (execOp_put oj hsj a oi.dst v0 p1).symm (wanted_put oj a oi.dst v0 p1).symm⟩
    ·exact absurd (.inl hj') e
   unfold sOp
   rw [hoj]
   refine .inl ⟨.inl hj', vj, hyj, ih (listed.setIfInBounds j true) (a.put oj.dst vj) w inv' hS hfree' hchain' hr' ?_⟩
   unfold sOp
   rw [hi]
   refine .inr ⟨fun e => hnq ((quietNow_put p3).1 e), hOp_put hsi p3 (hOp_mono (fun v w' ⟨hS', hk'⟩ => ⟨hS', ?_⟩) hh)⟩
   have h2 := hk'.2 j hrj
   rw [tOp_ne hjm] at h2
   unfold sOp at h2
   rw [hoj] at h2
   rcases h2 with ⟨_, u, hu, hk2⟩ | ⟨e, _⟩
   ·have hu' : YieldsIf P ops S oj u a := hu.of_same (execOp_put oj hsj a oi.dst v p1).symm (wanted_put oj a oi.dst v p1).symm
    have e := YieldsIf.one hS' hu' hyj
    subst e
    rw [Array.setIfInBounds_comm _ _ hji, ← Act.put_comm a v u p2]
    exact hk2
   ·exact absurd (.inl hj') e

end

end Go.Proofs.YtbecajihgbbgjaaDoor.K.Tl

namespace Go.Proofs.YtbecajihgbbgjaaDoor.K
open Go.RowKit

section
variable {P : Program} {ops : Array Oper} {w0 : World} {Q : Exit → Act → World → Prop}
/-- what the order keeps: each is taken once, behind what it waits for; what calls or makes waits for the calls before it -/
structure OrdOK (ops : Array Oper) (done is : List Nat) : Prop where
 every : ∀ j, j < ops.size → j ∈ done ∨ j ∈ is
 step : ∀ (pre : List Nat) (i : Nat) (rest : List Nat), is = pre ++ i :: rest → ∃ o, ops[i]? = some o ∧ i ∉ pre ∧ i ∉ done ∧ i ∉ rest ∧
  (∀ e ∈ o.after, Region.binds .any e = true → e.on ∈ done ∨ e.on ∈ pre) ∧ (rest ≠ [] → i + 1 < ops.size) ∧
  (stillOp o = false → ∀ j oj, j ∈ rest → ops[j]? = some oj → stillOp oj = false → makerOp oj = false → Waits ops i j)
theorem OrdOK.tail {done : List Nat} {i : Nat} {is : List Nat} (h : OrdOK ops done (i :: is)) : OrdOK ops (i :: done) is := by
 refine ⟨fun j hj => ?_, fun pre k rest e => ?_⟩
 ·rcases h.every j hj with h1 | h1
  ·exact .inl (List.mem_cons_of_mem _ h1)
  ·rcases List.mem_cons.1 h1 with h1 | h1
   ·exact .inl (h1 ▸ List.mem_cons_self)
   ·exact .inr h1
 ·obtain ⟨o, h1, h2, h3, h4, h5, h6, h7⟩ := h.step (i :: pre) k rest (by rw [e]; rfl)
  refine ⟨o, h1, fun hh => h2 (List.mem_cons_of_mem _ hh), fun hh => ?_, h4, fun e' he hb => ?_, h6, h7⟩
  ·rcases List.mem_cons.1 hh with hh | hh
   ·exact h2 (hh ▸ List.mem_cons_self)
   ·exact h3 hh
  ·rcases h5 e' he hb with h8 | h8
   ·exact .inl (List.mem_cons_of_mem _ h8)
   ·rcases List.mem_cons.1 h8 with h8 | h8
    ·exact .inl (h8 ▸ List.mem_cons_self)
    ·exact .inr h8

end

end Go.Proofs.YtbecajihgbbgjaaDoor.K

namespace Go.Proofs.YtbecajihgbbgjaaDoor.K
open Go.RowKit
open Go.RowKit
end Go.Proofs.YtbecajihgbbgjaaDoor.K

namespace Go.Proofs.YtbecajihgbbgjaaDoor.K
open Go.RowKit
section
variable {H : Type} {enc : TypeId × Value → H} {W : World} {base : Nat} {sp : Nat → Bool} {b1 : Nat} {hd : Bool} {v : Value} {d : DataW H} {p : List MemPlace}
end
section
variable {P : Program} {ops : Array Oper} {w0 : World}
end
end Go.Proofs.YtbecajihgbbgjaaDoor.K

namespace Go.Proofs.YtbecajihgbbgjaaDoor.K
open Go.RowKit
section
variable {P : Program} {Q : Exit → Act → World → Prop}
theorem wpOp_of_hOp {ops : Array Oper} {i : Nat} {o : Oper} {K : Act → World → Prop} {a : Act} {w : World} (hi : ops[i]? = some o) (hw : Region.wanted o (yielded ops a.tmps) = true) (h : hOp P o (fun v w' => K (a.put o.dst v) w') a w) : wpOp P ops Q i K a w :=
 wpOp_of_mOp ⟨o, hi, hw, h⟩
theorem hOp_call {o : Oper} {a : Act} {w : World} {K : Value → World → Prop} {fn : Func} (f : FuncId) (hf : P.funcs[f]? = some fn) (hname : (fn.name == "runtime.NumGoroutine") = false) (hb : fn.body.isNone = false) (args : Array Operand) (ts : Array TypeId) (vs : Array Value) (ho : o.op = .call { callee := .value (.func f), args := args, argTypes := ts })
  (hv : args.map a.eval = vs) (h : Calls P f vs w fun e w' => ∃ v, e = .returned v ∧ K v w') : hOp P o K a w := by
 unfold hOp execOp
 simp only [ho]
 have e : (do let d ← resolve a.eval { callee := .value (.func f), args := args, argTypes := ts } o.type; invoke d.target d.args : Sem Next).run P w = .ok (.enter f vs) w := by
  subst hv
  have h1 : fn.name ≠ "runtime.NumGoroutine" := by simpa using hname
  have h2 : fn.body ≠ none := by
   intro e
   rw [e] at hb
   cases hb
  simp [resolve, Deferred.ofValue, invoke, go_sem, Act.eval, callFunc, hf, h1, h2]
 rw [e]
 exact h
end
end Go.Proofs.YtbecajihgbbgjaaDoor.K

namespace Go.Proofs.YtbecajihgbbgjaaDoor.K
open Go.RowKit
section
variable {l m : Nat} {P : Program} {ops : Array Oper} {Q : Exit → Act → World → Prop} {md : Region.Mode}
end
section
variable {lp m : Nat} {P : Program} {Q : Exit → Act → World → Prop}
end
end Go.Proofs.YtbecajihgbbgjaaDoor.K

namespace Go.Proofs.YtbecajihgbbgjaaDoor.K
open Go.RowKit
section
variable {P : Program} {Q : Exit → Act → World → Prop} {ops : Array Oper} {S : World → Prop}
end
section
variable {lp m : Nat} {P : Program} {Q : Exit → Act → World → Prop}
end
end Go.Proofs.YtbecajihgbbgjaaDoor.K

namespace Go.Proofs.YtbecajihgbbgjaaDoor.K
open Go.RowKit
section
variable {P : Program} {Q : Exit → Act → World → Prop} {ops : Array Oper}
/-- an operation that is carried out -/
theorem wpList_op {rest : List Oper} {o : Oper} {a : Act} {w : World} (hw : Region.wanted o (yielded ops a.tmps) = true) (h : hOp P o (fun v w' => wpList P ops Q rest (a.put o.dst v) w') a w) : wpList P ops Q (o :: rest) a w := by
 unfold wpList
 rw [if_pos hw]
 refine .inl ?_
 unfold hOp at h
 unfold Oper.wp
 generalize (execOp a.eval o).run P w = r at *
 cases r with
 | ok n w' =>
  cases n <;> simp only [heldUpon] at h <;> simp only [Oper.upon]
  case value u => exact h
  case skip => exact h
  case enter f args => exact h.mono fun e w'' ⟨v, he, h2⟩ => by subst he; exact h2
 | halt x w' => exact h.elim
/-- by its run -/
theorem wpList_run {rest : List Oper} {o : Oper} {a : Act} {w : World} (hw : Region.wanted o (yielded ops a.tmps) = true) (v : Value) (w' : World) (hr : (execOp a.eval o).run P w = .ok (.value v) w') (h : wpList P ops Q rest (a.put o.dst v) w') : wpList P ops Q (o :: rest) a w :=
 wpList_op hw (by unfold hOp; rw [hr]; exact h)
theorem zr {rest : List Oper} {o : Oper} {a : Act} {w : World} (v : Value) (w' : World) (hr : (execOp a.eval o).run P w = .ok (.value v) w') (h : wpList P ops Q rest (a.put o.dst v) w') (hw : Region.wanted o (yielded ops a.tmps) = true := by kernel_rfl) : wpList P ops Q (o :: rest) a w := wpList_run hw v w' hr h
theorem wpList_run0 {rest : List Oper} {o : Oper} {a : Act} {w : World} (hw : Region.wanted o (yielded ops a.tmps) = true) (w' : World) (hr : (execOp a.eval o).run P w = .ok .skip w') (h : wpList P ops Q rest (a.put o.dst undef) w') : wpList P ops Q (o :: rest) a w :=
 wpList_op hw (by unfold hOp; rw [hr]; exact h)
end
end Go.Proofs.YtbecajihgbbgjaaDoor.K


namespace Go.Proofs.YtbecajihgbbgjaaDoor.K
set_option maxRecDepth 8000
open Go.RowKit
section
variable {P : Program} {Q : Exit → Act → World → Prop}
end
end Go.Proofs.YtbecajihgbbgjaaDoor.K

namespace Go.Proofs.YtbecajihgbbgjaaDoor.K
open Go.RowKit
theorem heap_farRow {w : World} {g k : Nat} {o : Obj} (h : w.heap[g]? = some o) (e : g ≠ k) (cs : Array Value) : (w.setRow k cs).heap[g]? = some o := by
 simp [World.setRow, Array.getElem?_modify, Ne.symm e, h]
section
variable {ev : Operand → Value} {o : Oper}
end
end Go.Proofs.YtbecajihgbbgjaaDoor.K

namespace Go.Proofs.YtbecajihgbbgjaaDoor.K
open Go.RowKit
open Go.RowKit
end Go.Proofs.YtbecajihgbbgjaaDoor.K

namespace Go.Proofs.YtbecajihgbbgjaaDoor.K
open Go.RowKit
section
variable {P : Program} {Q : Exit → Act → World → Prop}
end
end Go.Proofs.YtbecajihgbbgjaaDoor.K

namespace Go.Proofs.YtbecajihgbbgjaaDoor.K
open Go.RowKit
end Go.Proofs.YtbecajihgbbgjaaDoor.K

namespace Go.Proofs.YtbecajihgbbgjaaDoor.K
open Go.RowKit
theorem results_row_tmp {P : Program} {fn : Func} {p u : Tmp} {ty : TypeId} (h : fn.results = #[.cell p ty, .tmp u]) (tmps : Array Value) (w : World) (g : Nat) (t : TypeId) (cs : Array Value) (fr : Nat × Nat) (d : TypeDesc) (v : Value)
  (hp : tmps.getD p undef = .pointer (some ⟨g, 0, none⟩)) (hv : tmps.getD u undef = v) (hg : w.heap[g]? = some (.cells cs t fr))
  (hu : P.underlying ty = some d) (hd : (match d with | .struct _ | .array _ _ => true | _ => false) = true) (hi : (P.info? ty).map (·.size) = some cs.size) :
  (results fn tmps).run P w = .ok (.tuple #[.agg cs, v]) w := by
 rw [results_cell_tmp h, hp, hv]
 simp [asAddr, Result.andThen, run_loadVar_row w g t ty cs fr d hg hu hd hi]
end Go.Proofs.YtbecajihgbbgjaaDoor.K

namespace Go.Proofs.YtbecajihgbbgjaaDoor.K
open Go.RowKit
section
variable {P : Program} {Q : Exit → Act → World → Prop} {ops : Array Oper}
/-- a call -/
theorem wpList_call {rest : List Oper} {o : Oper} {a : Act} {w : World} {fn : Func} (hw : Region.wanted o (yielded ops a.tmps) = true) (f : FuncId) (hf : P.funcs[f]? = some fn) (hname : (fn.name == "runtime.NumGoroutine") = false) (hb : fn.body.isNone = false) (args : Array Operand) (ts : Array TypeId) (vs : Array Value) (ho : o.op = .call { callee := .value (.func f), args := args, argTypes := ts })
  (hv : args.map a.eval = vs) (h : Calls P f vs w fun e w' => ∃ v, e = .returned v ∧ wpList P ops Q rest (a.put o.dst v) w') : wpList P ops Q (o :: rest) a w :=
 wpList_op hw (hOp_call f hf hname hb args ts vs ho hv h)
/-- what is made lies somewhere new -/
theorem wpList_mk {rest : List Oper} {o : Oper} {a : Act} {w : World} (hw : Region.wanted o (yielded ops a.tmps) = true) (cs : Array Value) (t : TypeId) (n c : Nat) (hr : (execOp a.eval o).run P w = .ok (.value (.slice (some ⟨w.heap.size, 0, none⟩) n c)) (w.alloc (.cells cs t)))
  (h : ∀ b W, w.heap.size ≤ b → W.heap[b]? = some (.cells cs t (0, 0)) → Below w.heap.size w W → wpList P ops Q rest (a.put o.dst (.slice (some ⟨b, 0, none⟩) n c)) W) : wpList P ops Q (o :: rest) a w :=
 wpList_run hw _ _ hr (h _ _ (Nat.le_refl _) (heap_new w _) ((Below.refl _ _).alloc (Nat.le_refl _) _))
end
section
variable {ev : Operand → Value} {o : Oper}
/-- the element of a list of byte lists -/
structure El (w : World) (ad : Addr) (i : Nat) (B : Option Addr) (m d : Nat) (p : List Nat) : Prop where
 cell : w.cell? (ad.add i) = some (.slice B m d)
 sb : Sb w B m d p
theorem El.keep {w w' : World} {ad : Addr} {i : Nat} {B : Option Addr} {m d : Nat} {p : List Nat} (h : El w ad i B m d p) (hb : Below w.heap.size w w') : El w' ad i B m d p := ⟨cell_keep h.cell hb, h.sb.keep hb⟩
end
end Go.Proofs.YtbecajihgbbgjaaDoor.K

namespace Go.Proofs.YtbecajihgbbgjaaDoor.K
open Go.RowKit
section
variable {P : Program} {Q : Exit → Act → World → Prop} {ops : Array Oper}
theorem wpList_skip {rest : List Oper} {o : Oper} {a : Act} {w : World} (hw : Region.wanted o (yielded ops a.tmps) = false) (h : wpList P ops Q rest (a.put o.dst undef) w) : wpList P ops Q (o :: rest) a w := by
 unfold wpList
 rw [if_neg (by rw [hw]; simp)]
 exact h
theorem zl {rest : List Oper} {o : Oper} {a : Act} {w : World} (h : wpList P ops Q rest (a.put o.dst undef) w) (hw : Region.wanted o (yielded ops a.tmps) = false := by kernel_rfl) : wpList P ops Q (o :: rest) a w := wpList_skip hw h
end
section
variable {ev : Operand → Value} {o : Oper}
end
end Go.Proofs.YtbecajihgbbgjaaDoor.K

namespace Go.Proofs.YtbecajihgbbgjaaDoor.K
open Go.RowKit
section
variable {I : World → Prop} {F : Nat → Value → World → Prop} {d N : Nat} {t : TypeId} {old : Array Value} {G : Array Value → World → Prop} {m m' : Nat → Bool} {vs : Nat → Value} {W W' : World}
end
section
variable {ev : Operand → Value} {o : Oper}
end
end Go.Proofs.YtbecajihgbbgjaaDoor.K

namespace Go.Proofs.YtbecajihgbbgjaaDoor.K
open Go.RowKit
section
variable {ev : Operand → Value} {o : Oper}
end
end Go.Proofs.YtbecajihgbbgjaaDoor.K

namespace Go.Proofs.YtbecajihgbbgjaaDoor.K
open Go.RowKit
open Go.RowKit
theorem later_bel {w v : World} (h : ∃ x : Later w, v = x.at) : Below w.heap.size w v := by obtain ⟨x, rfl⟩ := h; exact x.below
end Go.Proofs.YtbecajihgbbgjaaDoor.K


