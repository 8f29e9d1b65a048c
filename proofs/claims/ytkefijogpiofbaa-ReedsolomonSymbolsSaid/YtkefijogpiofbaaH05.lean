/- Several texts in one: JOrd, JExtV, JExtA, JExtB, JLex, JExtR, JDecl, JHeld, JSli, JApp, JLin, FieldR. -/
import Derived.StillTail
import Derived.BigQuiet
import Derived.Test.YtkefijogpiofbaaH04
import Derived.OrdersHeld
import Derived.Laws.MakeOwn
import Derived.Laws.AppendOwn
import Derived.Laws.OwnMore
import Derived.Deep.AppendLies
import Derived.IntWalk
import Derived.Deep.LoopGhost
import Derived.RangeFuncNested
import Derived.RangeFuncBound
import Derived.RangeFuncCalls
import Derived.RangeFuncLeaves
import Derived.RangeFuncBox
import Derived.Shelf.Abstract
import Derived.Shelf.RegionOpen
import Derived.OwnWalkIn
import Derived.TacticsInMore
import Derived.LoopNIn
import Derived.LoopIn
import Derived.Laws.EntriesVeiled
import Derived.OwnWalk
import Derived.Laws.AppendOwnNone
import Derived.Sort.QuietThIn
import Derived.Sort.BigQuietIn
import Derived.Test.YtkefijogpiofbaaH03
namespace Go.Proofs.Ytkefijogpiofbaa.J
set_option linter.unusedVariables false
set_option linter.unusedSimpArgs false
set_option linter.unusedSectionVars false
set_option maxRecDepth 8000
open Go.RowKit

section
variable {P : Program} {ops : Array Oper} {md : Region.Mode} {C : World → Prop}

/-- the first f operations that come up lie before n, are quiet in the class, and then L holds -/
def headQ (P : Program) (md : Region.Mode) (ops : Array Oper) (C : World → Prop) (n : Nat) (L : Array Bool → Act → Prop) : Nat → Array Bool → Act → Prop
  | 0, listed, a => L listed a
  | f + 1, listed, a => Region.ready md ops listed ≠ [] ∧ ∀ i, i ∈ Region.ready md ops listed → i < n ∧ qOp P ops C i (headQ P md ops C n L f (listed.setIfInBounds i true)) a

theorem headQ_any {n g : Nat} {L : Array Bool → Act → Prop} {Q : Exit → Act → World → Prop} (hL : ∀ listed a w, C w → L listed a → wpAny P md ops Q g listed a w) (f : Nat) :
    ∀ (listed : Array Bool) (a : Act) (w : World), C w → headQ P md ops C n L f listed a → wpAny P md ops Q (f + g) listed a w := by
  induction f with
  | zero => intro listed a w hw h; rw [Nat.zero_add]; exact hL _ _ _ hw h
  | succ f ih =>
    intro listed a w hw h
    rw [Nat.succ_add]
    exact ⟨fun e => absurd e h.1, fun i hi => wpOp_of_qOp hw (fun a' w' hw' => ih _ a' w' hw') (h.2 i hi).2⟩

/-- what is ready in the head lies in the head -/
theorem ready_head {n i : Nat} {listed : Array Bool} (hs : Region.sinkB md ops n = true) (hc : Region.chainB md ops n = true) (hn : n < ops.size) (inv : HeadInv md ops n listed) (hin : i < n) (hun : listed.getD i true = false)
    {j : Nat} (hj : j ∈ Region.ready md ops listed) : j < n :=
  Nat.lt_of_not_le fun h => tail_waits hs hc hn inv _ i rfl hin hun j h hj

theorem headQ_take {n i : Nat} {oi : Oper} {v : Value} {L : Array Bool → Act → Prop} (hi : ops[i]? = some oi) (hsel : ∀ (j : Nat) (o : Oper) cs b, ops[j]? = some o → o.op ≠ .select cs b)
    (hs : Region.sinkB md ops n = true) (hc : Region.chainB md ops n = true) (hn : n < ops.size) (hin : i < n) (hdone : ∀ listed a, L listed a → ∀ j, j ∈ Region.ready md ops listed → n ≤ j) (f : Nat) :
    ∀ (listed : Array Bool) (a : Act), HeadInv md ops n listed →
      (∀ j oj, ops[j]? = some oj → j ≠ i → listed.getD j true = false → (∀ e ∈ oj.after, Region.binds md e = true → e.on ≠ i) → oi.apart ops oj = true) →
      i ∈ Region.ready md ops listed → YieldsIn P ops C oi v a → headQ P md ops C n L f (listed.setIfInBounds i true) (a.put oi.dst v) → headQ P md ops C n L (f + 1) listed a := by
  induction f with
  | zero =>
    intro listed a inv _ hr hy H
    refine ⟨List.ne_nil_of_mem hr, fun j hj => ?_⟩
    have hjn := ready_head hs hc hn inv hin (mem_ready.1 hr).1 hj
    by_cases hji : j = i
    · subst hji
      exact ⟨hjn, hy.qOp hi H⟩
    · exact absurd (hdone _ _ H j (ready_mono hj hji)) (Nat.not_le.2 hjn)
  | succ f ih =>
    intro listed a inv hfree hr hy H
    have hun := (mem_ready.1 hr).1
    refine ⟨List.ne_nil_of_mem hr, fun j hj => ?_⟩
    have hjn := ready_head hs hc hn inv hin hun hj
    by_cases hji : j = i
    · subst hji
      exact ⟨hjn, hy.qOp hi H⟩
    refine ⟨hjn, ?_⟩
    obtain ⟨hjun, oj, hoj, hall⟩ := mem_ready.1 hj
    have hnot : ∀ e ∈ oj.after, Region.binds md e = true → e.on ≠ i := by
      intro e he hb heq
      have := hall e he hb
      rw [heq, getD_both hun] at this
      cases this
    refine qOp_mono (fun a' hK => ?_) (qOp_put hoj (hfree j oj hoj hji hjun hnot) (fun cs b => hsel i oi cs b hi) (fun cs b => hsel j oj cs b hoj) hy (H.2 j (ready_mono hj hji)).2)
    refine ih (listed.setIfInBounds j true) a' (inv.set hj hjn) (fun k ok hk hki hku hkn => ?_) (ready_mono hr (Ne.symm hji)) hK.1 ?_
    · refine hfree k ok hk hki ?_ hkn
      by_cases hjk : j = k
      · rw [← hjk]; exact hjun
      · rw [getD_set_ne true hjk] at hku; exact hku
    · rw [Array.setIfInBounds_comm _ _ hji]
      exact hK.2

theorem headQ_lex {n g : Nat} {Lq : Act → Prop} (hsel : Region.noSelect ops = true) (hs : Region.sinkB md ops n = true) (hc : Region.chainB md ops n = true) (hn : n < ops.size) :
    ∀ (l : List Oper) (k : Nat) (listed : Array Bool) (a : Act), (∀ j, j < l.length → l[j]? = ops[k + j]?) → k + l.length = n → HeadInv md ops n listed → Region.lexHead md ops g l.length k listed = true →
      wpQuiet P ops C Lq l a → headQ P md ops C n (fun listed' a' => Region.seqB md ops g n listed' = true ∧ Lq a') l.length listed a
  | [], k, listed, a, _, hk, _, hB, h => by
    obtain rfl : k = n := by simpa using hk
    exact ⟨by simpa [Region.lexHead] using hB, h⟩
  | o :: l, k, listed, a, hl, hk, inv, hB, h => by
    have h0 : ops[k]? = some o := by simpa using (hl 0 (by simp)).symm
    simp only [List.length_cons, Region.lexHead, Bool.and_eq_true] at hB hk
    have hkn : k < n := by omega
    have hr : k ∈ Region.ready md ops listed := by simpa using hB.1.1
    have hq : qOp P ops C k (wpQuiet P ops C Lq l) a := by unfold qOp; simp only [h0]; exact h
    obtain ⟨v, hy, hK⟩ := yieldsIn_of_qOp h0 hq
    refine headQ_take h0 (Region.noSelect_spec hsel) hs hc hn hkn (fun listed' a' hL => seqB_ready hL.1) l.length listed a inv (Region.free_spec h0 hB.1.2) hr hy ?_
    exact headQ_lex hsel hs hc hn l (k + 1) _ _ (fun j hj => by have := hl (j + 1) (by simp; omega); simpa [Nat.add_assoc, Nat.add_comm 1 j] using this) (by omega) (inv.set hr hkn) hB.2 hK

/-- the head in the order of the text, the tail behind it -/
theorem wp_class_tail {id : Nat} {Q : Exit → Act → World → Prop} {a : Act} {w : World} {l : List Oper} (C : World → Prop) (n : Nat) (hm : P.follows .mixedOrders = true) (hB : Region.lexTailB .any l.toArray n = true) (hC : C w.drew)
    (h : wpQuiet P l.toArray C (fun a' => ∀ w', C w' → wpList P l.toArray Q (l.drop n) a' w') (l.take n) a) : (Code.region id l.toArray true).wp P Q a w := by
  simp only [Region.lexTailB, Bool.and_eq_true, decide_eq_true_eq] at hB
  obtain ⟨⟨⟨⟨hsel, hn⟩, hs⟩, hc⟩, hlex⟩ := hB
  have hn' : n < l.length := by simpa using hn
  have htl : (l.take n).length = n := by simp; omega
  have hdl : (l.drop n).length = l.toArray.size - n := by simp
  have inv0 : HeadInv .any l.toArray n (Array.replicate l.toArray.size false) :=
    ⟨by simp, fun j oj _ hl => (by rw [getD_replicate_false] at hl; cases hl), fun t _ ht => getD_in (by simpa using ht) (getD_replicate_false _ _)⟩
  have H := headQ_lex (md := .any) (g := l.toArray.size - n) hsel hs hc hn (l.take n) 0 _ a (fun j hj => by
    rw [htl] at hj
    simp [hj]) (by simpa using htl) inv0 (by rw [htl]; exact hlex) h
  refine wp_region_any hm ?_
  have K := headQ_any (Q := Q) (g := l.toArray.size - n) (fun listed a' w' hw' hL => by
    have := wpAny_of_seq (md := .any) (Q' := Q) (l.drop n) n listed a' w' (fun j => by simp [List.getElem?_drop]) (by rw [hdl]; exact hL.1) (hL.2 w' hw')
    rwa [hdl] at this) _ _ _ _ hC H
  rwa [htl, show n + (l.toArray.size - n) = l.toArray.size by omega] at K
end

/-- the worlds in which nothing of w has changed -/
def Later (w : World) : Type := { w' : World // Below w.heap.size w w' }
instance {w : World} : Nonempty (Later w) := ⟨⟨w, Below.refl _ _⟩⟩
/-- the world itself -/
def Later.at {w : World} (x : Later w) : World := x.1
theorem Later.below {w : World} (x : Later w) : Below w.heap.size w x.at := x.2
theorem Later.size {w : World} (x : Later w) : w.heap.size ≤ x.at.heap.size := x.2.size
theorem Later.cell {w : World} {a : Addr} {v : Value} (h : w.cell? a = some v) (x : Later w) : x.at.cell? a = some v := cell_keep h x.2
theorem Later.free {w : World} {a : Addr} {v : Value} (h : w.cell? a = some v) (hf : w.frozen? a = false) (x : Later w) : x.at.frozen? a = false := free_keep h hf x.2
theorem Later.two {w : World} {b : Nat} {t : TypeId} {u v : Value} (h : Two w b t u v) (x : Later w) : Two x.at b t u v := h.keep x.2
theorem Later.one {w : World} {b : Nat} {t : TypeId} {u : Value} (h : One w b t u) (x : Later w) : One x.at b t u := h.keep x.2

section
variable {P : Program} {w : World} {f : FuncId} {args : Array Value} {v : Value}
/-- a callee that only adds to memory -/
theorem Calls.later {x : Later w} (h : Calls P f args x.at fun e w' => e = .returned v ∧ Below x.at.heap.size x.at w') : Calls P f args x.at fun e w'' => e = .returned v ∧ ∃ y : Later w, w'' = y.at :=
  h.mono fun _ _ ⟨he, hb⟩ => ⟨he, ⟨⟨_, x.2.trans (hb.mono x.2.size)⟩, rfl⟩⟩
/-- a callee that leaves memory alone -/
theorem Calls.later_same {x : Later w} (h : Calls P f args x.at fun e w' => e = .returned v ∧ w' = x.at) : Calls P f args x.at fun e w'' => e = .returned v ∧ ∃ y : Later w, w'' = y.at :=
  h.mono fun _ _ ⟨he, hw⟩ => ⟨he, ⟨x, hw⟩⟩

theorem wp_later {id : Nat} {Q : Exit → Act → World → Prop} {a : Act} {l : List Oper} (hm : P.follows .mixedOrders = true) (hB : Region.lexB .any l.toArray = true)
    (h : wpQuiet P l.toArray (fun w' => ∃ x : Later w, w' = x.at) (fun a' => ∀ x : Later w, Q .normal a' x.at) l a) : (Code.region id l.toArray true).wp P Q a w := by
  refine wp_region_quiet (C := fun w' => ∃ x : Later w, w' = x.at) hm hB ⟨⟨w.drew, (Below.refl _ _).drew⟩, rfl⟩ ?_
  have e : (fun a' => ∀ x : Later w, Q .normal a' x.at) = (fun a' => ∀ w', (∃ x : Later w, w' = x.at) → Q .normal a' w') := by
    funext a'
    exact propext ⟨fun h w' ⟨x, hx⟩ => hx ▸ h x, fun h x => h _ ⟨x, rfl⟩⟩
  rw [e] at h
  simpa using h
theorem wp_later_tail {id : Nat} {Q : Exit → Act → World → Prop} {a : Act} {l : List Oper} (n : Nat) (hm : P.follows .mixedOrders = true) (hB : Region.lexTailB .any l.toArray n = true)
    (h : wpQuiet P l.toArray (fun w' => ∃ x : Later w, w' = x.at) (fun a' => ∀ x : Later w, wpList P l.toArray Q (l.drop n) a' x.at) (l.take n) a) : (Code.region id l.toArray true).wp P Q a w := by
  refine wp_class_tail (fun w' => ∃ x : Later w, w' = x.at) n hm hB ⟨⟨w.drew, (Below.refl _ _).drew⟩, rfl⟩ ?_
  have e : (fun a' => ∀ x : Later w, wpList P l.toArray Q (l.drop n) a' x.at) = (fun a' => ∀ w', (∃ x : Later w, w' = x.at) → wpList P l.toArray Q (l.drop n) a' w') := by
    funext a'
    exact propext ⟨fun h w' ⟨x, hx⟩ => hx ▸ h x, fun h x => h _ ⟨x, rfl⟩⟩
  rw [e] at h
  exact h
end

end Go.Proofs.Ytkefijogpiofbaa.J

namespace Go.Proofs.Ytkefijogpiofbaa.J
set_option linter.unusedVariables false
set_option linter.unusedSimpArgs false
set_option linter.unusedSectionVars false
set_option maxRecDepth 8000
open Go.RowKit Gold

instance : DecidableEq E2 := fun x y => decidable_of_iff (x.A = y.A ∧ x.B = y.B) E2.ext_iff'.symm
/-- is it zero? -/
def ezero (x : E2) : Bool := decide (vF x.A = 0 ∧ vF x.B = 0)
theorem ezero_iff (x : E2) : ezero x = true ↔ x = E2.zero := by
  unfold ezero
  rw [decide_eq_true_iff, E2.ext_iff']
  exact ⟨fun h => ⟨vF_inj h.1, vF_inj h.2⟩, fun h => ⟨by rw [h.1]; rfl, by rw [h.2]; rfl⟩⟩
theorem times_B (x y : E2) : (x.A + x.B) * (y.A + y.B) - x.A * y.A - x.B * y.B = (x * y).B := by show _ = x.A * y.B + x.B * y.A; grind
/-- the element of two integers -/
def toE (a b : Int) : E2 := ⟨toF a, toF b⟩
theorem ret_E2 {a b : F} {x : E2} (hA : a = x.A) (hB : b = x.B) : Ending.returned (.agg #[.int .u64 (vF a), .int .u64 (vF b)]) = .returned (.agg #[.int .u64 (vF x.A), .int .u64 (vF x.B)]) := by rw [hA, hB]

end Go.Proofs.Ytkefijogpiofbaa.J

namespace Go.Proofs.Ytkefijogpiofbaa.J
set_option linter.unusedVariables false
set_option linter.unusedSimpArgs false
set_option linter.unusedSectionVars false
set_option maxRecDepth 8000
open Go.RowKit Gold
set_option maxHeartbeats 400000 in
theorem extAdd_comp (x y : E2) (B : Nat) (w : World) (hf : w.cell? ⟨B, 0, none⟩ = some (.func (.func 83) #[] #[])) :
    Calls Try.prog 93 #[.agg #[.int .u64 (vF x.A), .int .u64 (vF x.B)], .agg #[.int .u64 (vF y.A), .int .u64 (vF y.B)], .pointer (some ⟨B, 0, none⟩)] w fun e w' => e = .returned (.agg #[.int .u64 (vF (x.A + y.A)), .int .u64 (vF (x.B + y.B))]) ∧ Below w.heap.size w w' := by
  go_enter Try.func93, Try.ntmps93
  go_wp2_with fail
  refine wp_named3 (fun W hB g0 g1 g2 hz => ?_)
  have lf := Later.cell (cell_keep hf hB)
  have HB := Lib.hid hB
  have c00 := Two.c0 g0; have c01 := Two.c1 g0; have c10 := Two.c0 g1; have c11 := Two.c1 g1; have c20 := Two.c0 g2; have c21 := Two.c1 g2; have f20 := Two.f0 g2; have f21 := Two.f1 g2
  clear hB g0 g1 g2
  have l00 := Later.cell c00; have l01 := Later.cell c01; have l10 := Later.cell c10; have l11 := Later.cell c11
  refine wp_later_tail 13 (by kernel_rfl) (by kernel_rfl) ?_
  simp only [List.take_succ_cons, List.take_zero, List.drop_succ_cons, List.drop_zero]
  repeat (go_big_quiet_step (((go_at_call 83; with_reducible exact Calls.later_same (addF _ _ _)))))
  refine wpQuiet_nil ?_
  intro X
  clear l00 l01 l10 l11
  have hb := X.below; replace f20 := free_after hb c20 f20; replace f21 := free_after hb c21 f21; replace c00 := cell_after hb c00; replace c01 := cell_after hb c01; replace c10 := cell_after hb c10; replace c11 := cell_after hb c11; replace c20 := cell_after hb c20; replace c21 := cell_after hb c21; replace HB := Lib.hid (HB.out.trans (hb.mono HB.out.size)); replace hz := Nat.lt_of_lt_of_le hz hb.size; clear hb
  go_wp2
  refine bodyPost_ret (v := .agg #[.int .u64 (vF (x.A + y.A)), .int .u64 (vF (x.B + y.B))]) (by simp [results, Try.results93, go_sem, c20, c21]) rfl ⟨ret_E2 (x := ⟨x.A + y.A, x.B + y.B⟩) rfl rfl, ?_⟩
  exact (HB.out.setCell (by simp; try omega) _).setCell (by simp; try omega) _

set_option maxHeartbeats 400000 in
theorem ext_onComponents (f : FuncId) (w : World) :
    Calls Try.prog 82 #[.func (.func f) #[] #[]] w fun e w' => e = .returned (.func (.func 93) #[] #[.pointer (some ⟨w.heap.size, 0, none⟩)]) ∧ w' = w.alloc (.cells #[.func (.func f) #[] #[]] 56) := by
  go_enter Try.func82, Try.ntmps82
  go_wp2
  go_ret
  exact ⟨rfl, rfl⟩

set_option maxHeartbeats 400000 in
theorem extAdd_any (x y : E2) (w : World) :
    Calls Try.prog 65 #[.agg #[.int .u64 (vF x.A), .int .u64 (vF x.B)], .agg #[.int .u64 (vF y.A), .int .u64 (vF y.B)]] w fun e w' => e = .returned (.agg #[.int .u64 (vF (x + y).A), .int .u64 (vF (x + y).B)]) ∧ Below w.heap.size w w' := by
  go_enter Try.func65, Try.ntmps65
  go_wp2_with fail
  refine wp_named3 (fun W hB g0 g1 g2 hz => ?_)
  have HB := Lib.hid hB
  have c00 := Two.c0 g0; have c01 := Two.c1 g0; have c10 := Two.c0 g1; have c11 := Two.c1 g1; have c20 := Two.c0 g2; have c21 := Two.c1 g2; have f20 := Two.f0 g2; have f21 := Two.f1 g2
  clear hB g0 g1 g2
  go_region_held3 (fun w' => w'.cell? ⟨w.heap.size, 0, none⟩ = some (.int .u64 (vF x.A)) ∧ w'.cell? ⟨w.heap.size, 1, none⟩ = some (.int .u64 (vF x.B)) ∧ w'.cell? ⟨w.heap.size + 1, 0, none⟩ = some (.int .u64 (vF y.A)) ∧ w'.cell? ⟨w.heap.size + 1, 1, none⟩ = some (.int .u64 (vF y.B)) ∧ Below w.heap.size w w')
    (first
      | exact ⟨c00, c01, c10, c11, HB.out.drew⟩
      | (obtain ⟨h1, h2, h3, h4, h5⟩ : (World.cell? _ ⟨w.heap.size, 0, none⟩ = _ ∧ _ ∧ _ ∧ _ ∧ Below w.heap.size w _) := by assumption
         exact ⟨cell_keep h1 hb, cell_keep h2 hb, cell_keep h3 hb, cell_keep h4 hb, h5.trans (hb.mono h5.size)⟩)
      | (obtain ⟨h1, h2, h3, h4, h5⟩ : (World.cell? _ ⟨w.heap.size, 0, none⟩ = _ ∧ _ ∧ _ ∧ _ ∧ Below w.heap.size w _) := by assumption
         exact ⟨cell_alloc c00 _, cell_alloc c01 _, cell_alloc c10 _, cell_alloc c11 _, (HB.out.alloc HB.out.size _).drew⟩)
      | (obtain ⟨h1, h2, h3, h4, h5⟩ : (World.cell? _ ⟨w.heap.size, 0, none⟩ = _ ∧ _ ∧ _ ∧ _ ∧ Below w.heap.size w _) := by assumption
         refine ⟨cell_far (cell_far h1 ?_ _) ?_ _, cell_far (cell_far h2 ?_ _) ?_ _, cell_far (cell_far h3 ?_ _) ?_ _, cell_far (cell_far h4 ?_ _) ?_ _, (h5.setCell ?_ _).setCell ?_ _⟩ <;> (simp; try omega)))
    (first
      | (go_at_call 82; refine (ext_onComponents _ _).mono ?_; rintro e w' ⟨rfl, rfl⟩)
      | (go_at_call 93; refine (extAdd_comp x y _ _ (by simp)).mono ?_; rintro e w' ⟨rfl, hb⟩; have d20 := cell_after hb (cell_alloc c20 _); have d21 := cell_after hb (cell_alloc c21 _); have e20 := free_after hb (cell_alloc c20 _) (free_alloc c20 f20 _); have e21 := free_after hb (cell_alloc c21 _) (free_alloc c21 f21 _)))
  go_wp2
  obtain ⟨h1, h2, h3, h4, h5⟩ : (World.cell? _ ⟨w.heap.size, 0, none⟩ = _ ∧ _ ∧ _ ∧ _ ∧ Below w.heap.size w _) := by assumption
  exact bodyPost_ret (v := .agg #[.int .u64 (vF (x.A + y.A)), .int .u64 (vF (x.B + y.B))]) (by simp [results, Try.results65, go_sem, d20, d21]) rfl ⟨rfl, h5⟩

end Go.Proofs.Ytkefijogpiofbaa.J

namespace Go.Proofs.Ytkefijogpiofbaa.J
set_option linter.unusedVariables false
set_option linter.unusedSimpArgs false
set_option linter.unusedSectionVars false
set_option maxRecDepth 8000
open Go.RowKit Gold
set_option maxHeartbeats 1000000 in
theorem ext_times (x y : E2) (w : World) :
    Calls Try.prog 84 #[.agg #[.int .u64 (vF x.A), .int .u64 (vF x.B)], .agg #[.int .u64 (vF y.A), .int .u64 (vF y.B)]] w fun e w' => e = .returned (.agg #[.int .u64 (vF (x * y).A), .int .u64 (vF (x * y).B)]) ∧ Below w.heap.size w w' := by
  go_enter Try.func84, Try.ntmps84
  go_wp2_with fail
  refine wp_named3 (fun W hB g0 g1 g2 hz => ?_)
  have HB := Lib.hid hB
  have c00 := Two.c0 g0; have c01 := Two.c1 g0; have c10 := Two.c0 g1; have c11 := Two.c1 g1; have c20 := Two.c0 g2; have c21 := Two.c1 g2; have f20 := Two.f0 g2; have f21 := Two.f1 g2
  clear hB g0 g1 g2
  have l00 := Later.cell c00; have l01 := Later.cell c01; have l10 := Later.cell c10; have l11 := Later.cell c11
  refine wp_later (by kernel_rfl) (by kernel_rfl) ?_
  repeat (go_big_quiet_step (((go_at_call 86; with_reducible exact Calls.later_same (mulF _ _ _)))))
  refine wpQuiet_nil ?_
  intro X
  clear l00 l01 l10 l11
  have hb := X.below; replace f20 := free_after hb c20 f20; replace f21 := free_after hb c21 f21; replace c00 := cell_after hb c00; replace c01 := cell_after hb c01; replace c10 := cell_after hb c10; replace c11 := cell_after hb c11; replace c20 := cell_after hb c20; replace c21 := cell_after hb c21; replace HB := Lib.hid (HB.out.trans (hb.mono HB.out.size)); replace hz := Nat.lt_of_lt_of_le hz hb.size; clear hb
  go_wp2_with fail
  have l00 := Later.cell c00; have l01 := Later.cell c01; have l10 := Later.cell c10; have l11 := Later.cell c11
  refine wp_later (by kernel_rfl) (by kernel_rfl) ?_
  repeat (go_big_quiet_step (first
    | (go_at_call 83; with_reducible exact Calls.later_same (addF _ _ _))
    | (go_at_call 86; with_reducible exact Calls.later_same (mulF _ _ _))))
  refine wpQuiet_nil ?_
  intro X
  clear l00 l01 l10 l11
  have hb := X.below; replace f20 := free_after hb c20 f20; replace f21 := free_after hb c21 f21; replace c00 := cell_after hb c00; replace c01 := cell_after hb c01; replace c10 := cell_after hb c10; replace c11 := cell_after hb c11; replace c20 := cell_after hb c20; replace c21 := cell_after hb c21; replace HB := Lib.hid (HB.out.trans (hb.mono HB.out.size)); replace hz := Nat.lt_of_lt_of_le hz hb.size; clear hb
  go_wp2_with (first
    | (go_at_call 86; ((with_reducible refine (mul7F _ _).mono ?_)); rintro e w' ⟨rfl, rfl⟩)
    | (go_at_call 83; ((with_reducible refine (addF _ _ _).mono ?_)); rintro e w' ⟨rfl, rfl⟩)
    | (go_at_call 92; ((with_reducible refine (subF _ _ _).mono ?_)); rintro e w' ⟨rfl, rfl⟩))
  refine bodyPost_ret (v := .agg #[.int .u64 (vF (x.A * y.A + 7 * (x.B * y.B))), .int .u64 (vF ((x.A + x.B) * (y.A + y.B) - x.A * y.A - x.B * y.B))]) (by simp [results, Try.results84, go_sem, c20, c21]) rfl ⟨ret_E2 (x := x * y) rfl (times_B x y), ?_⟩
  exact (HB.out.setCell (by simp; try omega) _).setCell (by simp; try omega) _

set_option maxHeartbeats 400000 in
theorem extMul_any (x y : E2) (w : World) :
    Calls Try.prog 66 #[.agg #[.int .u64 (vF x.A), .int .u64 (vF x.B)], .agg #[.int .u64 (vF y.A), .int .u64 (vF y.B)]] w fun e w' => e = .returned (.agg #[.int .u64 (vF (x * y).A), .int .u64 (vF (x * y).B)]) ∧ Below w.heap.size w w' := by
  go_enter Try.func66, Try.ntmps66
  go_wp2_with fail
  refine calls_named3 (fun W hB g0 g1 g2 hz => ?_)
  have HB := Lib.hid hB
  have c00 := Two.c0 g0; have c01 := Two.c1 g0; have c10 := Two.c0 g1; have c11 := Two.c1 g1; have c20 := Two.c0 g2; have c21 := Two.c1 g2; have f20 := Two.f0 g2; have f21 := Two.f1 g2
  clear hB g0 g1 g2
  go_wp2_with (first
    | (go_at_call 84; ((with_reducible refine (ext_times x y _).mono ?_)); rintro e W1 ⟨rfl, hb⟩; replace f20 := free_after hb c20 f20; replace f21 := free_after hb c21 f21; replace c00 := cell_after hb c00; replace c01 := cell_after hb c01; replace c10 := cell_after hb c10; replace c11 := cell_after hb c11; replace c20 := cell_after hb c20; replace c21 := cell_after hb c21; replace HB := Lib.hid (HB.out.trans (hb.mono HB.out.size)); replace hz := Nat.lt_of_lt_of_le hz hb.size; clear hb))
  refine bodyPost_ret (v := .agg #[.int .u64 (vF (((x * y)).A)), .int .u64 (vF (((x * y)).B))]) (by simp [results, Try.results66, go_sem, c20, c21]) rfl ⟨ret_E2 (x := (x * y)) rfl rfl, ?_⟩
  exact (HB.out.setCell (by simp; try omega) _).setCell (by simp; try omega) _

set_option maxHeartbeats 400000 in
theorem extFromBase_any (a : F) (w : World) :
    Calls Try.prog 44 #[.int .u64 (vF a)] w fun e w' => e = .returned (.agg #[.int .u64 (vF (E2.ofF a).A), .int .u64 (vF (E2.ofF a).B)]) ∧ Below w.heap.size w w' := by
  go_enter Try.func44, Try.ntmps44
  go_wp2_with fail
  refine bodyPost_ret (v := .agg #[.int .u64 (vF (a)), .int .u64 (vF (0))]) (by simp [results, Try.results44, go_sem, vF_zero]) rfl ⟨ret_E2 (x := E2.ofF a) rfl rfl, ?_⟩
  exact (Below.refl _ _).alloc (Nat.le_refl _) _

end Go.Proofs.Ytkefijogpiofbaa.J

namespace Go.Proofs.Ytkefijogpiofbaa.J
set_option linter.unusedVariables false
set_option linter.unusedSimpArgs false
set_option linter.unusedSectionVars false
set_option maxRecDepth 8000
open Go.RowKit

/-- what the one walk leans on -/
structure LexOK (ops : Array Oper) : Prop where
  sel : Region.noSelect ops = true
  edge : ∀ (j : Nat) (o : Oper), ops[j]? = some o → ∀ e, e ∈ o.after → Region.binds .any e = true → e.on < j
  free : ∀ (k j : Nat) (ok oj : Oper), k < j → ops[k]? = some ok → ops[j]? = some oj → (∀ e, e ∈ oj.after → Region.binds .any e = true → e.on ≠ k) → ok.apart ops oj = true

theorem wpAnyQ_of_lex {P : Program} {ops : Array Oper} {C : World → Prop} {Q : Act → Prop} (hx : LexOK ops) : ∀ (l : List Oper) (k : Nat) (listed : Array Bool) (a : Act),
    (∀ j, l[j]? = ops[k + j]?) → k + l.length = ops.size → listed.size = ops.size → (∀ i, i < k → listed.getD i false = true) → (∀ i, k ≤ i → i < ops.size → listed.getD i true = false) →
    wpQuiet P ops C Q l a → wpAnyQ P .any ops C Q l.length listed a
  | [], k, listed, a, _, hk, hz, h1, _, h => by
    refine ⟨?_, h⟩
    refine List.eq_nil_iff_forall_not_mem.2 fun i hi => ?_
    obtain ⟨h0, o, ho, _⟩ := mem_ready.1 hi
    have hlt := (Array.getElem?_eq_some_iff.1 ho).1
    have h3 := h1 i (by simp at hk; omega)
    rw [getD_both h0] at h3
    cases h3
  | o :: l, k, listed, a, hl, hk, hz, h1, h2, h => by
    have h0 : ops[k]? = some o := by simpa using (hl 0).symm
    have hlt : k < ops.size := (Array.getElem?_eq_some_iff.1 h0).1
    have hst : qOp P ops C k (wpQuiet P ops C Q l) a := by unfold qOp; simp only [h0]; exact h
    obtain ⟨v, hy, hK⟩ := yieldsIn_of_qOp h0 hst
    refine wpAnyQ_first h0 (Region.noSelect_spec hx.sel) l.length listed a ?_ (mem_ready.2 ⟨h2 k (Nat.le_refl _) hlt, o, h0, fun e he hb => h1 _ (hx.edge k o h0 e he hb)⟩) hy ?_
    · intro j oj hj hne hun hno
      refine hx.free k j o oj ?_ h0 hj hno
      rcases Nat.lt_trichotomy k j with h' | h' | h'
      · exact h'
      · exact absurd h'.symm hne
      · have h3 := h1 j h'
        rw [getD_both hun] at h3
        cases h3
    · refine wpAnyQ_of_lex hx l (k + 1) _ _ (fun j => by have := hl (j + 1); simpa [Nat.add_assoc, Nat.add_comm 1 j] using this) (by simp at hk; omega) (by simpa using hz) ?_ ?_ hK
      · intro i hi
        by_cases e : i = k
        · subst e
          simp [hz, hlt]
        · exact getD_set_true (h1 i (by omega))
      · intro i hi hi'
        rw [getD_set_ne true (by omega)]
        exact h2 i (by omega) hi'

theorem wp_later_lex {P : Program} {id : Nat} {Q : Exit → Act → World → Prop} {a : Act} {w : World} {l : List Oper} (hm : P.follows .mixedOrders = true) (hx : LexOK l.toArray)
    (h : wpQuiet P l.toArray (fun w' => ∃ x : Later w, w' = x.at) (fun a' => ∀ x : Later w, Q .normal a' x.at) l a) : (Code.region id l.toArray true).wp P Q a w := by
  refine wp_region_any hm (wpAny_of_quiet (C := fun w' => ∃ x : Later w, w' = x.at) (Q := fun a' => ∀ x : Later w, Q .normal a' x.at) (fun a' w' hw' h => by obtain ⟨x, rfl⟩ := hw'; exact h x) _ _ _ _ ⟨⟨w.drew, (Below.refl _ _).drew⟩, rfl⟩ ?_)
  have := wpAnyQ_of_lex (P := P) hx l 0 (Array.replicate l.toArray.size false) a (by simp) (by simp) (by simp) (by intro i hi; omega) (fun i _ hi => getD_in (by simpa using hi) (getD_replicate_false _ _)) h
  simpa using this

def dstMask (o : Oper) : Nat := match o.dst with | some d => Nat.shiftLeft 1 d | none => 0
def lookMask (ops : Array Oper) (o : Oper) : Nat := (o.looksAt ops).foldr (fun t m => Nat.lor (Nat.shiftLeft 1 t) m) 0
def afterMask (o : Oper) : Nat := o.after.toList.foldr (fun e m => match Region.binds .any e with | true => Nat.lor (Nat.shiftLeft 1 e.on) m | false => m) 0
/-- op number k (masks D, R) before op number j (masks A, R', D') -/
def pairOK (A R' D' : Nat) (k D R : Nat) : Bool :=
  Nat.beq (Nat.mod (Nat.shiftRight A k) 2) 1 || (Nat.beq (Nat.land D R') 0 && (Nat.beq (Nat.land D D') 0 && Nat.beq (Nat.land D' R) 0))
/-- all earlier ones, the last first -/
def prevOK (A R' D' : Nat) : List (Nat × Nat) → Bool
  | [] => true
  | (D, R) :: l => pairOK A R' D' l.length D R && prevOK A R' D' l
def lexN (ops : Array Oper) : List Oper → List (Nat × Nat) → Bool
  | [], _ => true
  | o :: l, prev => Nat.beq (Nat.shiftRight (afterMask o) prev.length) 0 && (prevOK (afterMask o) (lookMask ops o) (dstMask o) prev && lexN ops l ((dstMask o, lookMask ops o) :: prev))

theorem testBit_one (d i : Nat) : (Nat.shiftLeft 1 d).testBit i = decide (d = i) := by
  show (1 <<< d).testBit i = _
  rw [Nat.one_shiftLeft, Nat.testBit_two_pow]
theorem mem_lookMask {ops : Array Oper} {o : Oper} {t : Nat} (h : t ∈ o.looksAt ops) : (lookMask ops o).testBit t = true := by
  unfold lookMask
  generalize o.looksAt ops = l at h
  induction l with
  | nil => cases h
  | cons x l ih =>
    show (Nat.lor (Nat.shiftLeft 1 x) _).testBit t = true
    rw [show ∀ a b : Nat, Nat.lor a b = a ||| b from fun _ _ => rfl, Nat.testBit_or, testBit_one]
    rcases List.mem_cons.1 h with rfl | h
    · simp
    · rw [ih h, Bool.or_true]
theorem dstMask_bit {o : Oper} {d : Nat} (h : o.dst = some d) : (dstMask o).testBit d = true := by
  unfold dstMask
  simp only [h]
  rw [testBit_one]
  simp
theorem mem_afterMask {o : Oper} {e : Edge} (h : e ∈ o.after) (hb : Region.binds .any e = true) : (afterMask o).testBit e.on = true := by
  unfold afterMask
  have h' : e ∈ o.after.toList := by simpa using h
  generalize o.after.toList = l at h'
  induction l with
  | nil => cases h'
  | cons x l ih =>
    rw [List.foldr_cons]
    rcases List.mem_cons.1 h' with rfl | h'
    · rw [hb]
      show (Nat.lor (Nat.shiftLeft 1 e.on) _).testBit e.on = true
      rw [show ∀ a b : Nat, Nat.lor a b = a ||| b from fun _ _ => rfl, Nat.testBit_or, testBit_one]
      simp
    · cases Region.binds .any x with
      | true =>
        show (Nat.lor (Nat.shiftLeft 1 x.on) _).testBit e.on = true
        rw [show ∀ a b : Nat, Nat.lor a b = a ||| b from fun _ _ => rfl, Nat.testBit_or, ih h']
        simp
      | false => exact ih h'
theorem afterMask_mem {o : Oper} {k : Nat} (h : (afterMask o).testBit k = true) : ∃ e, e ∈ o.after ∧ Region.binds .any e = true ∧ e.on = k := by
  unfold afterMask at h
  suffices H : ∀ l : List Edge, (l.foldr (fun e m => match Region.binds .any e with | true => Nat.lor (Nat.shiftLeft 1 e.on) m | false => m) 0).testBit k = true → ∃ e, e ∈ l ∧ Region.binds .any e = true ∧ e.on = k by
    obtain ⟨e, he, h1, h2⟩ := H _ h
    exact ⟨e, by simpa using he, h1, h2⟩
  intro l
  induction l with
  | nil => intro h; simp at h
  | cons x l ih =>
    intro h
    rw [List.foldr_cons] at h
    cases hx : Region.binds .any x with
    | true =>
      rw [hx] at h
      have h : (Nat.lor (Nat.shiftLeft 1 x.on) (l.foldr (fun e m => match Region.binds .any e with | true => Nat.lor (Nat.shiftLeft 1 e.on) m | false => m) 0)).testBit k = true := h
      rw [show ∀ a b : Nat, Nat.lor a b = a ||| b from fun _ _ => rfl, Nat.testBit_or, testBit_one, Bool.or_eq_true] at h
      rcases h with h | h
      · exact ⟨x, by simp, hx, by simpa using h⟩
      · obtain ⟨e, he, h1⟩ := ih h
        exact ⟨e, List.mem_cons_of_mem _ he, h1⟩
    | false =>
      rw [hx] at h
      obtain ⟨e, he, h1⟩ := ih h
      exact ⟨e, List.mem_cons_of_mem _ he, h1⟩
theorem land_zero {a b t : Nat} (h : Nat.beq (Nat.land a b) 0 = true) (ha : a.testBit t = true) : b.testBit t = false := by
  have h1 : a &&& b = 0 := Nat.eq_of_beq_eq_true h
  have h2 : (a &&& b).testBit t = false := by rw [h1]; simp
  rw [Nat.testBit_and, ha] at h2
  simpa using h2
theorem pairOK_spec {ops : Array Oper} {ok oj : Oper} {k : Nat} (h : pairOK (afterMask oj) (lookMask ops oj) (dstMask oj) k (dstMask ok) (lookMask ops ok) = true)
    (hno : ∀ e, e ∈ oj.after → Region.binds .any e = true → e.on ≠ k) : ok.apart ops oj = true := by
  unfold pairOK at h
  rw [Bool.or_eq_true] at h
  rcases h with h | h
  · have h1 : Nat.mod (Nat.shiftRight (afterMask oj) k) 2 = 1 := Nat.eq_of_beq_eq_true h
    have h2 : (afterMask oj).testBit k = true := by
      rw [Nat.testBit_eq_decide_div_mod_eq, decide_eq_true_iff, ← Nat.shiftRight_eq_div_pow]
      exact h1
    obtain ⟨e, he, hb, hk⟩ := afterMask_mem h2
    exact absurd hk (hno e he hb)
  · rw [Bool.and_eq_true, Bool.and_eq_true] at h
    obtain ⟨h1, h2, h3⟩ := h
    unfold Oper.apart
    rw [Bool.and_eq_true]
    constructor
    · cases hd : ok.dst with
      | none => rfl
      | some d =>
        have b1 := land_zero h1 (dstMask_bit hd)
        have b2 := land_zero h2 (dstMask_bit hd)
        simp only [Bool.and_eq_true, Bool.not_eq_true', bne_iff_ne, ne_eq]
        constructor
        · cases hc : (oj.looksAt ops).contains d with
          | false => rfl
          | true =>
            rw [mem_lookMask (by simpa using hc)] at b1
            cases b1
        · intro e
          rw [dstMask_bit e] at b2
          cases b2
    · cases hd : oj.dst with
      | none => rfl
      | some d =>
        have b1 := land_zero h3 (dstMask_bit hd)
        simp only [Bool.not_eq_true']
        cases hc : (ok.looksAt ops).contains d with
        | false => rfl
        | true =>
          rw [mem_lookMask (by simpa using hc)] at b1
          cases b1
theorem prevOK_spec {A R' D' : Nat} : ∀ {prev : List (Nat × Nat)}, prevOK A R' D' prev = true → ∀ (k : Nat) (x : Nat × Nat), prev.reverse[k]? = some x → pairOK A R' D' k x.1 x.2 = true
  | [], _, k, x, hx => by simp at hx
  | (D, R) :: l, h, k, x, hx => by
    simp only [prevOK, Bool.and_eq_true] at h
    rw [List.reverse_cons] at hx
    by_cases hk : k < l.length
    · rw [List.getElem?_append_left (by simpa using hk)] at hx
      exact prevOK_spec h.2 k x hx
    · rw [List.getElem?_append_right (by simp; omega)] at hx
      have e : k = l.length := by
        have := (List.getElem?_eq_some_iff.1 hx).1
        simp at this
        omega
      subst e
      simp at hx
      subst hx
      exact h.1
theorem lexN_spec {ops : Array Oper} : ∀ (l : List Oper) (prev : List (Nat × Nat)) (done : List Oper), ops.toList = done ++ l → prev.reverse = done.map (fun o => (dstMask o, lookMask ops o)) → lexN ops l prev = true →
    ∀ (j : Nat) (o : Oper), done.length ≤ j → ops[j]? = some o → Nat.beq (Nat.shiftRight (afterMask o) j) 0 = true ∧ ∀ (k : Nat) (ok : Oper), k < j → ops[k]? = some ok → pairOK (afterMask o) (lookMask ops o) (dstMask o) k (dstMask ok) (lookMask ops ok) = true
  | [], prev, done, hd, _, _, j, o, hj, ho => by
    have := (Array.getElem?_eq_some_iff.1 ho).1
    have hz : ops.size = done.length := by rw [← Array.length_toList, hd]; simp
    omega
  | x :: l, prev, done, hd, hp, h, j, o, hj, ho => by
    simp only [lexN, Bool.and_eq_true] at h
    have hlen : prev.length = done.length := by rw [← List.length_reverse, hp]; simp
    by_cases e : j = done.length
    · subst e
      have hx : x = o := by
        rw [← Array.getElem?_toList, hd] at ho
        simpa using ho
      subst hx
      refine ⟨by rw [← hlen]; exact h.1, fun k ok hk hok => ?_⟩
      refine prevOK_spec h.2.1 k (dstMask ok, lookMask ops ok) ?_
      rw [← Array.getElem?_toList, hd, List.getElem?_append_left hk] at hok
      rw [hp, List.getElem?_map, hok]
      rfl
    · refine lexN_spec l _ (done ++ [x]) (by rw [hd]; simp) ?_ h.2.2 j o (by simp; omega) ho
      rw [List.reverse_cons, hp]
      simp
theorem lexOK_of {l : List Oper} (hs : Region.noSelect l.toArray = true) (h : lexN l.toArray l [] = true) : LexOK l.toArray := by
  have H := lexN_spec (ops := l.toArray) l [] [] (by simp) (by simp) h
  refine ⟨hs, fun j o ho e he hb => ?_, fun k j ok oj hk hok hoj hno => pairOK_spec ((H j oj (by simp) hoj).2 k ok hk hok) hno⟩
  have h1 : (afterMask o) >>> j = 0 := Nat.eq_of_beq_eq_true (H j o (by simp) ho).1
  have h2 := mem_afterMask he hb
  rcases Nat.lt_or_ge e.on j with h' | h'
  · exact h'
  · obtain ⟨d, hd⟩ : ∃ d, e.on = j + d := ⟨e.on - j, by omega⟩
    have h3 : ((afterMask o) >>> j).testBit d = true := by rw [Nat.testBit_shiftRight, ← hd]; exact h2
    rw [h1] at h3
    simp at h3

end Go.Proofs.Ytkefijogpiofbaa.J

namespace Go.Proofs.Ytkefijogpiofbaa.J
set_option linter.unusedVariables false
set_option linter.unusedSimpArgs false
set_option linter.unusedSectionVars false
set_option maxRecDepth 8000
open Go.RowKit Gold
set_option maxHeartbeats 400000 in
theorem rMade_any (a b : Int) (w : World) (ha : U64 a) (hb0 : U64 b) :
    Calls Try.prog 77 #[.agg #[.int .u64 a, .int .u64 b]] w fun e w' => e = .returned (.agg #[.int .u64 (vF (toE a b).A), .int .u64 (vF (toE a b).B)]) ∧ Below w.heap.size w w' := by
  go_enter Try.func77, Try.ntmps77
  go_wp2_with fail
  refine wp_named2 (fun W hB g0 g1 hz => ?_)
  have HB := Lib.hid hB
  have c00 := Two.c0 g0; have c01 := Two.c1 g0; have c10 := Two.c0 g1; have c11 := Two.c1 g1; have f10 := Two.f0 g1; have f11 := Two.f1 g1
  clear hB g0 g1
  have l00 := Later.cell c00; have l01 := Later.cell c01
  refine wp_later_tail 7 (by kernel_rfl) (by kernel_rfl) ?_
  simp only [List.take_succ_cons, List.take_zero, List.drop_succ_cons, List.drop_zero]
  repeat (go_big_quiet_step (((go_at_call 37; with_reducible exact Calls.later_same (rreduceF _ _ (by assumption))))))
  refine wpQuiet_nil ?_
  intro X
  clear l00 l01
  have hb := X.below; replace f10 := free_after hb c10 f10; replace f11 := free_after hb c11 f11; replace c00 := cell_after hb c00; replace c01 := cell_after hb c01; replace c10 := cell_after hb c10; replace c11 := cell_after hb c11; replace HB := Lib.hid (HB.out.trans (hb.mono HB.out.size)); replace hz := Nat.lt_of_lt_of_le hz hb.size; clear hb
  go_wp2
  refine bodyPost_ret (v := .agg #[.int .u64 (vF (toF a)), .int .u64 (vF (toF b))]) (by simp [results, Try.results77, go_sem, c10, c11]) rfl ⟨ret_E2 (x := toE a b) rfl rfl, ?_⟩
  exact (HB.out.setCell (by simp; try omega) _).setCell (by simp; try omega) _

set_option maxHeartbeats 400000 in
theorem rAdd_any (x y : E2) (w : World) :
    Calls Try.prog 54 #[.agg #[.int .u64 (vF x.A), .int .u64 (vF x.B)], .agg #[.int .u64 (vF y.A), .int .u64 (vF y.B)]] w fun e w' => e = .returned (.agg #[.int .u64 (vF (x + y).A), .int .u64 (vF (x + y).B)]) ∧ Below w.heap.size w w' := by
  go_enter Try.func54, Try.ntmps54
  go_wp2_with fail
  refine wp_named3 (fun W hB g0 g1 g2 hz => ?_)
  have HB := Lib.hid hB
  have c00 := Two.c0 g0; have c01 := Two.c1 g0; have c10 := Two.c0 g1; have c11 := Two.c1 g1; have c20 := Two.c0 g2; have c21 := Two.c1 g2; have f20 := Two.f0 g2; have f21 := Two.f1 g2
  clear hB g0 g1 g2
  have l00 := Later.cell c00; have l01 := Later.cell c01; have l10 := Later.cell c10; have l11 := Later.cell c11
  refine wp_later_tail 11 (by kernel_rfl) (by kernel_rfl) ?_
  simp only [List.take_succ_cons, List.take_zero, List.drop_succ_cons, List.drop_zero]
  repeat (go_big_quiet_step (((go_at_call 32; with_reducible exact Calls.later_same (raddF _ _ _)))))
  refine wpQuiet_nil ?_
  intro X
  clear l00 l01 l10 l11
  have hb := X.below; replace f20 := free_after hb c20 f20; replace f21 := free_after hb c21 f21; replace c00 := cell_after hb c00; replace c01 := cell_after hb c01; replace c10 := cell_after hb c10; replace c11 := cell_after hb c11; replace c20 := cell_after hb c20; replace c21 := cell_after hb c21; replace HB := Lib.hid (HB.out.trans (hb.mono HB.out.size)); replace hz := Nat.lt_of_lt_of_le hz hb.size; clear hb
  go_wp2
  refine bodyPost_ret (v := .agg #[.int .u64 (vF (x.A + y.A)), .int .u64 (vF (x.B + y.B))]) (by simp [results, Try.results54, go_sem, c20, c21]) rfl ⟨ret_E2 (x := x + y) rfl rfl, ?_⟩
  exact (HB.out.setCell (by simp; try omega) _).setCell (by simp; try omega) _

set_option maxHeartbeats 400000 in
theorem rNeg_any (x : E2) (w : World) :
    Calls Try.prog 36 #[.agg #[.int .u64 (vF x.A), .int .u64 (vF x.B)]] w fun e w' => e = .returned (.agg #[.int .u64 (vF (-x).A), .int .u64 (vF (-x).B)]) ∧ Below w.heap.size w w' := by
  go_enter Try.func36, Try.ntmps36
  go_wp2_with fail
  refine wp_named2 (fun W hB g0 g1 hz => ?_)
  have HB := Lib.hid hB
  have c00 := Two.c0 g0; have c01 := Two.c1 g0; have c10 := Two.c0 g1; have c11 := Two.c1 g1; have f10 := Two.f0 g1; have f11 := Two.f1 g1
  clear hB g0 g1
  have l00 := Later.cell c00; have l01 := Later.cell c01
  refine wp_later_tail 7 (by kernel_rfl) (by kernel_rfl) ?_
  simp only [List.take_succ_cons, List.take_zero, List.drop_succ_cons, List.drop_zero]
  repeat (go_big_quiet_step (((go_at_call 30; with_reducible exact Calls.later_same (rnegF _ _)))))
  refine wpQuiet_nil ?_
  intro X
  clear l00 l01
  have hb := X.below; replace f10 := free_after hb c10 f10; replace f11 := free_after hb c11 f11; replace c00 := cell_after hb c00; replace c01 := cell_after hb c01; replace c10 := cell_after hb c10; replace c11 := cell_after hb c11; replace HB := Lib.hid (HB.out.trans (hb.mono HB.out.size)); replace hz := Nat.lt_of_lt_of_le hz hb.size; clear hb
  go_wp2
  refine bodyPost_ret (v := .agg #[.int .u64 (vF (-x.A)), .int .u64 (vF (-x.B))]) (by simp [results, Try.results36, go_sem, c10, c11]) rfl ⟨ret_E2 (x := -x) rfl rfl, ?_⟩
  exact (HB.out.setCell (by simp; try omega) _).setCell (by simp; try omega) _

set_option maxHeartbeats 1000000 in
theorem rMul_any (x y : E2) (w : World) :
    Calls Try.prog 55 #[.agg #[.int .u64 (vF x.A), .int .u64 (vF x.B)], .agg #[.int .u64 (vF y.A), .int .u64 (vF y.B)]] w fun e w' => e = .returned (.agg #[.int .u64 (vF (x * y).A), .int .u64 (vF (x * y).B)]) ∧ Below w.heap.size w w' := by
  go_enter Try.func55, Try.ntmps55
  go_wp2_with fail
  refine wp_named3 (fun W hB g0 g1 g2 hz => ?_)
  have HB := Lib.hid hB
  have c00 := Two.c0 g0; have c01 := Two.c1 g0; have c10 := Two.c0 g1; have c11 := Two.c1 g1; have c20 := Two.c0 g2; have c21 := Two.c1 g2; have f20 := Two.f0 g2; have f21 := Two.f1 g2
  clear hB g0 g1 g2
  have l00 := Later.cell c00; have l01 := Later.cell c01; have l10 := Later.cell c10; have l11 := Later.cell c11
  refine wp_later_tail 24 (by kernel_rfl) (by kernel_rfl) ?_
  simp only [List.take_succ_cons, List.take_zero, List.drop_succ_cons, List.drop_zero]
  repeat (go_big_quiet_step (first
    | (go_at_call 42; with_reducible exact Calls.later_same (rmul7F _ _))
    | (go_at_call 42; with_reducible exact Calls.later_same (rmulF _ _ _))
    | (go_at_call 32; with_reducible exact Calls.later_same (raddF _ _ _))))
  refine wpQuiet_nil ?_
  intro X
  clear l00 l01 l10 l11
  have hb := X.below; replace f20 := free_after hb c20 f20; replace f21 := free_after hb c21 f21; replace c00 := cell_after hb c00; replace c01 := cell_after hb c01; replace c10 := cell_after hb c10; replace c11 := cell_after hb c11; replace c20 := cell_after hb c20; replace c21 := cell_after hb c21; replace HB := Lib.hid (HB.out.trans (hb.mono HB.out.size)); replace hz := Nat.lt_of_lt_of_le hz hb.size; clear hb
  go_wp2
  refine bodyPost_ret (v := .agg #[.int .u64 (vF (x.A * y.A + 7 * (x.B * y.B))), .int .u64 (vF (x.A * y.B + x.B * y.A))]) (by simp [results, Try.results55, go_sem, c20, c21]) rfl ⟨ret_E2 (x := x * y) rfl rfl, ?_⟩
  exact (HB.out.setCell (by simp; try omega) _).setCell (by simp; try omega) _

set_option maxHeartbeats 400000 in
theorem rFromBase_any (a : F) (w : World) :
    Calls Try.prog 29 #[.int .u64 (vF a)] w fun e w' => e = .returned (.agg #[.int .u64 (vF (E2.ofF a).A), .int .u64 (vF (E2.ofF a).B)]) ∧ Below w.heap.size w w' := by
  go_enter Try.func29, Try.ntmps29
  go_wp2_with fail
  refine bodyPost_ret (v := .agg #[.int .u64 (vF (a)), .int .u64 (vF (0))]) (by simp [results, Try.results29, go_sem, vF_zero]) rfl ⟨ret_E2 (x := E2.ofF a) rfl rfl, ?_⟩
  exact (Below.refl _ _).alloc (Nat.le_refl _) _

set_option maxHeartbeats 400000 in
theorem rFromInt_any (n : Int) (w : World) (h0 : -9223372036854775808 ≤ n) (h1 : n < 9223372036854775808) :
    Calls Try.prog 27 #[.int .i64 n] w fun e w' => e = .returned (.agg #[.int .u64 (vF (E2.ofF (toF n)).A), .int .u64 (vF (E2.ofF (toF n)).B)]) ∧ Below w.heap.size w w' := by
  go_enter Try.func27, Try.ntmps27
  go_wp2_with fail
  go_wp2_with (first
    | (go_at_call 53; ((with_reducible refine (rfromIntF n _ h0 h1).mono ?_)); rintro e w' ⟨rfl, rfl⟩))
  refine bodyPost_ret (v := .agg #[.int .u64 (vF (toF n)), .int .u64 (vF (0))]) (by simp [results, Try.results27, go_sem, vF_zero]) rfl ⟨ret_E2 (x := E2.ofF (toF n)) rfl rfl, ?_⟩
  exact (Below.refl _ _).alloc (Nat.le_refl _) _

set_option maxHeartbeats 400000 in
theorem rIsZero_any (x : E2) (w : World) :
    Calls Try.prog 76 #[.agg #[.int .u64 (vF x.A), .int .u64 (vF x.B)]] w fun e w' => e = .returned (.bool (ezero x)) ∧ Below w.heap.size w w' := by
  go_enter Try.func76, Try.ntmps76
  go_wp2
  all_goals
    go_ret
    refine ⟨?_, (Below.refl _ _).alloc (Nat.le_refl _) _⟩
    simp [ezero, *] <;> rfl

end Go.Proofs.Ytkefijogpiofbaa.J

namespace Go.Proofs.Ytkefijogpiofbaa.J
set_option linter.unusedVariables false
set_option linter.unusedSimpArgs false
set_option linter.unusedSectionVars false
set_option maxRecDepth 8000
open Go.RowKit

/-- what is asked once an operation, carried out in w, has yielded this: the value v in the very world; or a call that hands back v and only adds to memory -/
def Oper.calmUpon (P : Program) (w : World) (v : Value) : Result Next → Prop
  | .ok (.value u) w' => w' = w ∧ u = v
  | .ok .skip w' => w' = w ∧ v = undef
  | .ok (.enter f args) w' => w' = w ∧ Calls P f args w (fun e w'' => e = .returned v ∧ Below w.heap.size w w'')
  | _ => False
/-- one value, in every later world -/
def Oper.calm (P : Program) (w0 : World) (o : Oper) (a : Act) (next : Act → Prop) : Prop := ∃ v, (∀ x : Later w0, Oper.calmUpon P x.at v ((execOp a.eval o).run P x.at)) ∧ next (a.put o.dst v)
attribute [go_sem] Oper.calm Oper.calmUpon

section
variable {P : Program} {ops : Array Oper} {w0 : World} {mk : Nat → Option Obj}
/-- which variable lies where -/
def upd (bs : Nat → Option Nat) (i b : Nat) : Nat → Option Nat := fun k => if k = i then some b else bs k
def ptr (b : Nat) : Value := .pointer (some ⟨b, 0, none⟩)

/-- what is free of all that is not listed -/
def FreeOf (ops : Array Oper) (listed : Array Bool) (i : Nat) (oi : Oper) : Prop :=
  ∀ j oj, ops[j]? = some oj → j ≠ i → listed.getD j true = false → (∀ e ∈ oj.after, Region.binds .any e = true → e.on ≠ i) → oi.apart ops oj = true
theorem FreeOf.set {listed : Array Bool} {i j : Nat} {oi : Oper} (h : FreeOf ops listed i oi) (hjun : listed.getD j true = false) : FreeOf ops (listed.setIfInBounds j true) i oi := fun k ok hk hki hku hkn => by
  refine h k ok hk hki ?_ hkn
  by_cases hjk : j = k
  · rw [← hjk]; exact hjun
  · rw [getD_set_ne true hjk] at hku; exact hku
variable {n : Nat} {L : Array Bool → Act → (Nat → Option Nat) → Prop}
/-- just the operations before k are listed -/
structure Pref (ops : Array Oper) (k : Nat) (listed : Array Bool) : Prop where
  size : listed.size = ops.size
  yes : ∀ i, i < k → listed.getD i false = true
  no : ∀ i, k ≤ i → i < ops.size → listed.getD i true = false
theorem Pref.start : Pref ops 0 (Array.replicate ops.size false) := ⟨by simp, by intro i hi; omega, fun i _ hi => getD_in (by simpa using hi) (getD_replicate_false _ _)⟩
theorem Pref.next {k : Nat} {listed : Array Bool} (h : Pref ops k listed) (hk : k < ops.size) : Pref ops (k + 1) (listed.setIfInBounds k true) := by
  refine ⟨by simpa using h.size, fun i hi => ?_, fun i hi hi' => ?_⟩
  · by_cases e : i = k
    · subst e
      simp [h.size, hk]
    · exact getD_set_true (h.yes i (by omega))
  · rw [getD_set_ne true (by omega)]
    exact h.no i (by omega) hi'
theorem Pref.at {k i : Nat} {listed : Array Bool} (h : Pref ops k listed) (hi : listed.getD i true = false) : k ≤ i := by
  rcases Nat.lt_or_ge i k with h' | h'
  · have h1 := h.yes i h'
    rw [getD_both hi] at h1
    cases h1
  · exact h'
theorem Pref.ready {k : Nat} {listed : Array Bool} {o : Oper} (h : Pref ops k listed) (hx : LexOK ops) (ho : ops[k]? = some o) : k ∈ Region.ready .any ops listed :=
  mem_ready.2 ⟨h.no k (Nat.le_refl _) (Array.getElem?_eq_some_iff.1 ho).1, o, ho, fun e he hb => h.yes _ (hx.edge k o ho e he hb)⟩
theorem Pref.inv {k n : Nat} {listed : Array Bool} (h : Pref ops k listed) (hx : LexOK ops) (hkn : k ≤ n) : HeadInv .any ops n listed := by
  refine ⟨h.size, fun j oj hj hl e he hb => ?_, fun t ht ht' => h.no t (by omega) ht'⟩
  have hlt := (Array.getElem?_eq_some_iff.1 hj).1
  have hjk : j < k := by
    rcases Nat.lt_or_ge j k with h' | h'
    · exact h'
    · have h1 := h.no j h' hlt
      rw [getD_both h1] at hl
      cases hl
  exact h.yes _ (Nat.lt_trans (hx.edge j oj hj e he hb) hjk)
theorem Pref.free {k : Nat} {listed : Array Bool} {o : Oper} (h : Pref ops k listed) (hx : LexOK ops) (ho : ops[k]? = some o) : FreeOf ops listed k o := fun j oj hj hne hun hno => by
  have := h.at hun
  exact hx.free k j o oj (by omega) ho hj hno

/-- the variables lie where they are said to lie -/
structure Fx (w0 : World) (mk : Nat → Option Obj) (bs : Nat → Option Nat) (w : World) : Prop where
  below : Below w0.heap.size w0 w
  here : ∀ i b, bs i = some b → ∃ z, mk i = some z ∧ w.heap[b]? = some z ∧ w0.heap.size ≤ b
  apart : ∀ i j b, bs i = some b → bs j = some b → i = j
theorem Fx.later {bs : Nat → Option Nat} {w w' : World} (h : Fx w0 mk bs w) (hb : Below w.heap.size w w') : Fx w0 mk bs w' :=
  ⟨h.below.trans (hb.mono h.below.size), fun i b e => by obtain ⟨z, h1, h2, h3⟩ := h.here i b e; exact ⟨z, h1, heap_keep h2 hb, h3⟩, h.apart⟩
theorem Fx.alloc {bs : Nat → Option Nat} {w : World} {i : Nat} {z : Obj} (h : Fx w0 mk bs w) (hm : mk i = some z) : Fx w0 mk (upd bs i w.heap.size) (w.alloc z) := by
  have new : ∀ j b, bs j = some b → b < w.heap.size := fun j b e => by
    obtain ⟨z', _, h2, _⟩ := h.here j b e
    exact (Array.getElem?_eq_some_iff.1 h2).1
  refine ⟨h.below.alloc h.below.size _, fun j b e => ?_, fun j k b e e' => ?_⟩
  · unfold upd at e
    by_cases hj : j = i
    · subst hj
      simp only [if_true, Option.some.injEq] at e
      subst e
      exact ⟨z, hm, heap_new w z, h.below.size⟩
    · simp only [hj, if_false] at e
      obtain ⟨z', h1, h2, h3⟩ := h.here j b e
      exact ⟨z', h1, heap_old _ h2, h3⟩
  · unfold upd at e e'
    by_cases hj : j = i
    · by_cases hk : k = i
      · rw [hj, hk]
      · simp only [hj, hk, if_true, if_false, Option.some.injEq] at e e'
        have := new k b e'
        omega
    · by_cases hk : k = i
      · simp only [hj, hk, if_true, if_false, Option.some.injEq] at e e'
        have := new j b e
        omega
      · simp only [hj, hk, if_false] at e e'
        exact h.apart j k b e e'

/-- the variables of a statement, by their list -/
def mkOf (m : Nat) (zs : List Obj) (i : Nat) : Option Obj := if i < m then none else zs[i - m]?
theorem Fx.get {m : Nat} {zs : List Obj} {bs : Nat → Option Nat} {X : World} (h : Fx w0 (mkOf m zs) bs X) (i b : Nat) (z : Obj) (e : bs i = some b) (e' : mkOf m zs i = some z) : X.heap[b]? = some z ∧ w0.heap.size ≤ b := by
  obtain ⟨z', h1, h2, h3⟩ := h.here i b e
  rw [h1] at e'
  cases e'
  exact ⟨h2, h3⟩
theorem all_cons {α : Type} {p : α → Prop} {x : α} {l : List α} (h : p x) (k : ∀ y, y ∈ l → p y) : ∀ y, y ∈ x :: l → p y := fun y hy => (List.mem_cons.1 hy).elim (fun e => e ▸ h) (k y)
theorem cells_at {W : World} {b : Nat} {cs : Array Value} {t : TypeId} (h : W.heap[b]? = some (.cells cs t (0, 0))) (i : Nat) {v : Value} (e : cs[i]? = some v) : W.cell? ⟨b, i, none⟩ = some v := by
  simp [World.cell?, h, e]
end


theorem Calls.calm {P : Program} {f : FuncId} {args : Array Value} {W : World} {v : Value} (h : Calls P f args W fun e w' => e = .returned v ∧ Below W.heap.size W w') : Calls P f args W fun e w'' => e = .returned v ∧ Below W.heap.size W w'' := h
end Go.Proofs.Ytkefijogpiofbaa.J

namespace Go.Proofs.Ytkefijogpiofbaa.J
set_option linter.unusedVariables false
set_option linter.unusedSimpArgs false
set_option linter.unusedSectionVars false
set_option maxRecDepth 8000
open Go.RowKit

/-- operations that only look -/
def stillOp (o : Oper) : Bool := match o.op with
  | .move _ => true
  | .assign _ => true
  | .pick _ _ _ => true
  | .load _ _ => true
  | .binOp _ _ _ _ _ => true
  | .unOp _ _ _ => true
  | .convert _ _ _ => true
  | .extract _ _ => true
  | .field _ _ _ => true
  | .indexAddr _ _ _ => true
  | .fieldAddr _ _ _ => true
  | .build _ _ => true
  | .slice _ _ _ _ _ => true
  | _ => false

theorem andThen_value {P : Program} {α : Type} {s : Sem α} {g : α → Value} {w w' : World} {n : Next} (h : (do let x ← s; pure (Next.value (g x)) : Sem Next).run P w = .ok n w') : ∃ x, n = .value x := by
  rw [Sem.run_bind] at h
  cases hs : s.run P w with
  | ok x w1 =>
    rw [hs, Result.andThen_ok, Sem.run_pure] at h
    injection h with h _
    exact ⟨_, h.symm⟩
  | halt x w1 => rw [hs] at h; cases h
theorem still_value {P : Program} {o : Oper} (h : stillOp o = true) {ev : Operand → Value} {w w' : World} {n : Next} (hr : (execOp ev o).run P w = .ok n w') : ∃ x, n = .value x := by
  unfold stillOp at h
  unfold execOp at hr
  cases ho : o.op <;> simp only [ho] at h hr <;> first | (exact absurd h (by decide)) | exact andThen_value (g := fun x => x) hr | exact andThen_value hr | (rw [Sem.run_pure] at hr; injection hr with hr _; exact ⟨_, hr.symm⟩)

section
variable {P : Program} {ops : Array Oper} {S : World → Prop} {Q : Exit → Act → World → Prop}

/-- what an operation that is carried out may leave: its value and the world -/
def heldUpon (P : Program) (K : Value → World → Prop) : Result Next → Prop
  | .ok (.value u) w' => K u w'
  | .ok .skip w' => K undef w'
  | .ok (.enter f args) w' => Calls P f args w' (fun e w'' => ∃ v, e = .returned v ∧ K v w'')
  | _ => False
def hOp (P : Program) (o : Oper) (K : Value → World → Prop) (a : Act) (w : World) : Prop := heldUpon P K ((execOp a.eval o).run P w)
theorem hOp_mono {o : Oper} {K K' : Value → World → Prop} {a : Act} {w : World} (h : ∀ v w', K v w' → K' v w') (hh : hOp P o K a w) : hOp P o K' a w := by
  unfold hOp at *
  generalize (execOp a.eval o).run P w = r at *
  cases r with
  | ok n w' =>
    cases n <;> simp only [heldUpon] at hh ⊢ <;> first | exact h _ _ hh | exact hh.mono fun _ _ ⟨v, he, hk⟩ => ⟨v, he, h _ _ hk⟩
  | halt x w' => exact hh
theorem hOp_out {o : Oper} {K : Value → World → Prop} {a : Act} {w : World} (hh : hOp P o K a w) : ∃ v w', K v w' := by
  unfold hOp at hh
  generalize (execOp a.eval o).run P w = r at hh
  cases r with
  | ok n w' =>
    cases n <;> simp only [heldUpon] at hh
    case value u => exact ⟨_, _, hh⟩
    case skip => exact ⟨_, _, hh⟩
    case enter f args =>
      obtain ⟨e, w1, fr, ⟨v, _, hk⟩, _⟩ := hh []
      exact ⟨v, w1, hk⟩
  | halt x w' => exact hh.elim
theorem hOp_put {o : Oper} (hs : ∀ cs b, o.op ≠ .select cs b) {K : Value → World → Prop} {a : Act} {w : World} {d : Option Tmp} {u : Value} (h : ∀ t, d = some t → t ∉ o.looksAt ops) (hh : hOp P o K a w) : hOp P o K (a.put d u) w := by
  unfold hOp at *
  rw [execOp_put o hs a d u h]
  exact hh

def quietNow (ops : Array Oper) (o : Oper) (a : Act) : Prop := stillOp o = true ∨ Region.wanted o (yielded ops a.tmps) = false
def sOp (P : Program) (ops : Array Oper) (S : World → Prop) (i : Nat) (K : Act → World → Prop) (a : Act) (w : World) : Prop :=
  match ops[i]? with
  | none => K a w
  | some o => (quietNow ops o a ∧ ∃ v, YieldsIf P ops S o v a ∧ K (a.put o.dst v) w) ∨ (¬ quietNow ops o a ∧ hOp P o (fun v w' => S w' ∧ K (a.put o.dst v) w') a w)
theorem sOp_mono {i : Nat} {K K' : Act → World → Prop} {a : Act} {w : World} (hS : S w) (h : ∀ a w, S w → K a w → K' a w) (hh : sOp P ops S i K a w) : sOp P ops S i K' a w := by
  unfold sOp at *
  cases hi : ops[i]? with
  | none => rw [hi] at hh; exact h _ _ hS hh
  | some o =>
    rw [hi] at hh
    rcases hh with ⟨hq, v, hy, hk⟩ | ⟨hq, hh⟩
    · exact .inl ⟨hq, v, hy, h _ _ hS hk⟩
    · exact .inr ⟨hq, hOp_mono (fun _ _ ⟨h1, h2⟩ => ⟨h1, h _ _ h1 h2⟩) hh⟩
theorem sOp_out {i : Nat} {K : Act → World → Prop} {a : Act} {w : World} (hS : S w) (hh : sOp P ops S i K a w) : ∃ a' w', S w' ∧ K a' w' := by
  unfold sOp at hh
  cases hi : ops[i]? with
  | none => rw [hi] at hh; exact ⟨_, _, hS, hh⟩
  | some o =>
    rw [hi] at hh
    rcases hh with ⟨_, v, _, hk⟩ | ⟨_, hh⟩
    · exact ⟨_, _, hS, hk⟩
    · obtain ⟨v, w', h1, h2⟩ := hOp_out hh
      exact ⟨_, _, h1, h2⟩
theorem quietNow_put {o : Oper} {a : Act} {d : Option Tmp} {u : Value} (h : ∀ t, d = some t → t ∉ o.looksAt ops) : quietNow ops o (a.put d u) ↔ quietNow ops o a := by
  unfold quietNow
  rw [wanted_put o a d u h]
theorem wpOp_of_sOp {i : Nat} {K K' : Act → World → Prop} {a : Act} {w : World} (hS : S w) (h : ∀ a w, S w → K a w → K' a w) (hh : sOp P ops S i K a w) : wpOp P ops Q i K' a w := by
  unfold sOp at hh
  cases hi : ops[i]? with
  | none =>
    rw [hi] at hh
    unfold wpOp
    simp only [hi]
    exact h _ _ hS hh
  | some o =>
    rw [hi] at hh
    rcases hh with ⟨_, v, hy, hk⟩ | ⟨hq, hh⟩
    · exact hy.wpOp hi hS (h _ _ hS hk)
    · have hw : Region.wanted o (yielded ops a.tmps) = true := by
        cases e : Region.wanted o (yielded ops a.tmps) with
        | true => rfl
        | false => exact absurd (.inr e) hq
      unfold wpOp
      simp only [hi, hw, if_true]
      refine .inl ?_
      unfold hOp at hh
      unfold Oper.wp
      generalize (execOp a.eval o).run P w = r at *
      cases r with
      | ok n w' =>
        cases n <;> simp only [heldUpon] at hh <;> simp only [Oper.upon]
        case value u => exact h _ _ hh.1 hh.2
        case skip => exact h _ _ hh.1 hh.2
        case enter f args => exact hh.mono fun e w'' ⟨v, he, h1, h2⟩ => by subst he; exact h _ _ h1 h2
      | halt x w' => exact hh.elim

theorem YieldsIf.one {o : Oper} {u v : Value} {a : Act} {w : World} (hS : S w) (h : YieldsIf P ops S o u a) (k : YieldsIf P ops S o v a) : u = v := by
  rcases h with ⟨h1, h2⟩ | ⟨h1, h2⟩ <;> rcases k with ⟨k1, k2⟩ | ⟨k1, k2⟩
  · have := (h2 w hS).symm.trans (k2 w hS)
    injection this with e
    injection e
  · rw [h1] at k1; cases k1
  · rw [h1] at k1; cases k1
  · rw [h2, k2]

/-- one operation apart from another: its value may be there already -/
theorem sOp_put {j : Nat} {oi oj : Oper} {v : Value} (hj : ops[j]? = some oj) (hap : oi.apart ops oj = true) (hsi : ∀ cs b, oi.op ≠ .select cs b) (hsj : ∀ cs b, oj.op ≠ .select cs b) {K : Act → World → Prop} {a : Act} {w : World}
    (hq : quietNow ops oi a) (hy : YieldsIf P ops S oi v a) (h : sOp P ops S j K (a.put oi.dst v) w) : sOp P ops S j (fun a' w' => quietNow ops oi a' ∧ YieldsIf P ops S oi v a' ∧ K (a'.put oi.dst v) w') a w := by
  obtain ⟨h1, h2, h3⟩ := Oper.apart_spec hap
  have keep : ∀ u, quietNow ops oi (a.put oj.dst u) ∧ YieldsIf P ops S oi v (a.put oj.dst u) := fun u =>
    ⟨(quietNow_put h3).2 hq, hy.of_same (execOp_put oi hsi a oj.dst u h3) (wanted_put oi a oj.dst u h3)⟩
  unfold sOp at *
  rw [hj] at h ⊢
  rcases h with ⟨hqj, u, hu, hk⟩ | ⟨hqj, hh⟩
  · exact .inl ⟨(quietNow_put h1).1 hqj, u, hu.of_same (execOp_put oj hsj a oi.dst v h1).symm (wanted_put oj a oi.dst v h1).symm, (keep u).1, (keep u).2, by rw [← Act.put_comm a v u h2]; exact hk⟩
  · refine .inr ⟨fun e => hqj ((quietNow_put h1).2 e), ?_⟩
    have hh' : hOp P oj (fun v' w' => S w' ∧ K ((a.put oi.dst v).put oj.dst v') w') a w := by
      unfold hOp at *
      rw [execOp_put oj hsj a oi.dst v h1] at hh
      exact hh
    exact hOp_mono (fun u w' ⟨e1, e2⟩ => ⟨e1, (keep u).1, (keep u).2, by rw [← Act.put_comm a v u h2]; exact e2⟩) hh'

/-- every later call waits for a call that has not come up -/
def Chain (ops : Array Oper) (i : Nat) (listed : Array Bool) : Prop := ∀ j oj, ops[j]? = some oj → j ≠ i → listed.getD j true = false → stillOp oj = false →
  ∃ e, e ∈ oj.after ∧ Region.binds .any e = true ∧ listed.getD e.on false = false ∧ ∀ oe, ops[e.on]? = some oe → stillOp oe = false

end

def LaterB (B : Nat) (w : World) : Type := { w' : World // Below B w w' }
instance {B : Nat} {w : World} : Nonempty (LaterB B w) := ⟨⟨w, Below.refl _ _⟩⟩
def LaterB.at {B : Nat} {w : World} (x : LaterB B w) : World := x.1
theorem LaterB.below {B : Nat} {w : World} (x : LaterB B w) : Below B w x.at := x.2
theorem LaterB.cell {B : Nat} {w : World} {a : Addr} {v : Value} (h : w.cell? a = some v) (hB : a.block < B) (x : LaterB B w) : x.at.cell? a = some v := (x.2.cell hB).trans h
theorem LaterB.step {B : Nat} {w w' w1 : World} (h : ∃ x : LaterB B w, w' = x.at) (hb : Below B w' w1) : ∃ x : LaterB B w, w1 = x.at := by
  obtain ⟨x, rfl⟩ := h
  exact ⟨⟨w1, x.2.trans hb⟩, rfl⟩
theorem LaterB.of {B : Nat} {w w' : World} (h : ∃ x : LaterB B w, w' = x.at) : Below B w w' := by
  obtain ⟨x, rfl⟩ := h
  exact x.2
end Go.Proofs.Ytkefijogpiofbaa.J

namespace Go.Proofs.Ytkefijogpiofbaa.J
set_option linter.unusedVariables false
set_option linter.unusedSimpArgs false
set_option linter.unusedSectionVars false
set_option maxRecDepth 8000
open Go.RowKit Gold

/-- the two cells of an element -/
def AtV (w : World) (ad : Addr) (i : Nat) (p : Value × Value) : Prop :=
  w.cell? (ad.add (i * 2)) = some p.1 ∧ w.cell? ⟨(ad.add (i * 2)).block, (ad.add (i * 2)).off + 1, none⟩ = some p.2
theorem add_add' (a : Addr) (i j : Nat) : (a.add i).add j = a.add (i + j) := by
  unfold Addr.add
  by_cases hi : i = 0 <;> by_cases hj : j = 0 <;> simp [hi, hj, Nat.add_assoc]
theorem add_succ (a : Addr) (k : Nat) : a.add (k + 1) = ⟨(a.add k).block, (a.add k).off + 1, none⟩ := by
  rw [← add_add']
  generalize a.add k = b
  unfold Addr.add
  simp
theorem add_base (g k : Nat) : (⟨g, 0, none⟩ : Addr).add k = ⟨g, k, none⟩ := by
  unfold Addr.add
  split
  · next h => rw [h]
  · simp
theorem AtV.keep {w w' : World} {ad : Addr} {i : Nat} {p : Value × Value} (h : AtV w ad i p) (hb : Below w.heap.size w w') : AtV w' ad i p := ⟨cell_keep h.1 hb, cell_keep h.2 hb⟩

/-- a slice value that reads as the pairs of cells ps -/
structure SlR (w : World) (A : Option Addr) (n c : Nat) (ps : List (Value × Value)) : Prop where
  len : n = ps.length
  cap : n ≤ c
  top : c ≤ 9223372036854775807
  nil : A = none → c = 0
  cells : ∀ i p, ps[i]? = some p → ∃ ad, A = some ad ∧ AtV w ad i p
def valE (x : E2) : Value × Value := (.int .u64 (vF x.A), .int .u64 (vF x.B))
/-- a slice value that reads as the elements xs -/
def Sl (w : World) (A : Option Addr) (n c : Nat) (xs : List E2) : Prop := SlR w A n c (xs.map valE)

section
variable {w w' : World} {A : Option Addr} {n c : Nat} {ps : List (Value × Value)} {xs : List E2}
theorem SlR.keep (h : SlR w A n c ps) (hb : Below w.heap.size w w') : SlR w' A n c ps :=
  ⟨h.len, h.cap, h.top, h.nil, fun i p hp => by obtain ⟨ad, e, ha⟩ := h.cells i p hp; exact ⟨ad, e, ha.keep hb⟩⟩
theorem Sl.keep (h : Sl w A n c xs) (hb : Below w.heap.size w w') : Sl w' A n c xs := SlR.keep h hb
theorem Sl.len (h : Sl w A n c xs) : n = xs.length := by simpa using SlR.len h
theorem Sl.cap (h : Sl w A n c xs) : n ≤ c := SlR.cap h
theorem Sl.top (h : Sl w A n c xs) : c ≤ 9223372036854775807 := SlR.top h
theorem Sl.at_ {i : Nat} {x : E2} (h : Sl w A n c xs) (hx : xs[i]? = some x) : ∃ ad, A = some ad ∧ w.cell? (ad.add (i * 2)) = some (.int .u64 (vF x.A)) ∧ w.cell? ⟨(ad.add (i * 2)).block, (ad.add (i * 2)).off + 1, none⟩ = some (.int .u64 (vF x.B)) := by
  obtain ⟨ad, e, h1, h2⟩ := SlR.cells h i (valE x) (by simp [hx])
  exact ⟨ad, e, h1, h2⟩
theorem Sl.get {i : Nat} (h : Sl w A n c xs) (hi : i < n) : ∃ x, xs[i]? = some x := ⟨xs[i]'(by have := h.len; omega), List.getElem?_eq_getElem _⟩
theorem Sl.take (h : Sl w A n c xs) {k : Nat} (hk : k ≤ n) : Sl w A k c (xs.take k) := by
  refine ⟨by have := h.len; simp; omega, by have := h.cap; omega, h.top, SlR.nil h, fun i p hp => ?_⟩
  refine SlR.cells h i p ?_
  rw [List.map_take] at hp
  have hl := (List.getElem?_eq_some_iff.1 hp).1
  rw [List.getElem?_take_of_lt (by simp at hl; omega)] at hp
  exact hp
theorem Sl.drop (h : Sl w A n c xs) {k : Nat} (hk : k ≤ n) : Sl w (if c = k then A else A.map (·.add (k * 2))) (n - k) (c - k) (xs.drop k) := by
  refine ⟨by have := h.len; simp; omega, by have := h.cap; omega, by have := h.top; omega, ?_, fun i p hp => ?_⟩
  · intro e
    by_cases hck : c = k
    · omega
    · rw [if_neg hck] at e
      cases A with
      | none => have := SlR.nil h rfl; omega
      | some a => cases e
  rw [List.map_drop, List.getElem?_drop] at hp
  obtain ⟨ad, e, h1, h2⟩ := SlR.cells h _ p hp
  have hl := (List.getElem?_eq_some_iff.1 hp).1
  have hn := SlR.len h
  have hc := h.cap
  have hck : c ≠ k := by simp at hl hn; omega
  rw [if_neg hck, e]
  refine ⟨_, rfl, ?_, ?_⟩
  · rw [add_add', show k * 2 + i * 2 = (k + i) * 2 by omega]; exact h1
  · rw [add_add', show k * 2 + i * 2 = (k + i) * 2 by omega]; exact h2
theorem Sl.nil (w : World) : Sl w none 0 0 [] := ⟨rfl, Nat.le_refl _, Nat.zero_le _, fun _ => rfl, fun i p hp => by simp at hp⟩
theorem Sl.none (h : Sl w none n c xs) : n = 0 ∧ c = 0 ∧ xs = [] := by
  have h1 := SlR.nil h rfl
  have h2 := SlR.cap h
  have h3 : n = xs.length := by simpa using SlR.len h
  exact ⟨by omega, h1, List.eq_nil_of_length_eq_zero (by omega)⟩
end

theorem below_step {w W W1 : World} (h : Below w.heap.size w W) (h1 : Below W.heap.size W W1) : Below w.heap.size w W1 := h.trans (h1.mono h.size)
def cellsE (xs : List E2) : List Value := xs.flatMap fun x => [.int .u64 (vF x.A), .int .u64 (vF x.B)]
theorem cellsE_length (xs : List E2) : (cellsE xs).length = xs.length * 2 := by
  induction xs with
  | nil => rfl
  | cons x xs ih => unfold cellsE at *; rw [List.flatMap_cons, List.length_append, ih]; simp; omega
theorem cellsE_append (xs ys : List E2) : cellsE (xs ++ ys) = cellsE xs ++ cellsE ys := by unfold cellsE; simp
theorem cellsE_even {xs : List E2} {i : Nat} {x : E2} (h : xs[i]? = some x) : (cellsE xs)[i * 2]? = some (.int .u64 (vF x.A)) := by
  induction xs generalizing i with
  | nil => simp at h
  | cons y xs ih =>
    cases i with
    | zero => simp at h; subst h; rfl
    | succ i =>
      simp at h
      have := ih h
      unfold cellsE at *
      rw [List.flatMap_cons, List.getElem?_append_right (by simp; omega)]
      simpa [show (i + 1) * 2 - 2 = i * 2 by omega] using this
theorem cellsE_odd {xs : List E2} {i : Nat} {x : E2} (h : xs[i]? = some x) : (cellsE xs)[i * 2 + 1]? = some (.int .u64 (vF x.B)) := by
  induction xs generalizing i with
  | nil => simp at h
  | cons y xs ih =>
    cases i with
    | zero => simp at h; subst h; rfl
    | succ i =>
      simp at h
      have := ih h
      unfold cellsE at *
      rw [List.flatMap_cons, List.getElem?_append_right (by simp; omega)]
      simpa [show (i + 1) * 2 + 1 - 2 = i * 2 + 1 by omega] using this
theorem cellsE_set (xs : List E2) (i : Nat) (x : E2) : ((cellsE xs).set (i * 2) (.int .u64 (vF x.A))).set (i * 2 + 1) (.int .u64 (vF x.B)) = cellsE (xs.set i x) := by
  induction xs generalizing i with
  | nil => rfl
  | cons y xs ih =>
    cases i with
    | zero => rfl
    | succ i =>
      have := ih i
      unfold cellsE at *
      rw [List.flatMap_cons, show (i + 1) * 2 = i * 2 + 2 by omega]
      simp only [List.cons_append, List.nil_append, List.set_cons_succ]
      rw [this]
      rfl
theorem cellsE_one {xs : List E2} {u : Value} (h : u ∈ cellsE xs) : u.oneCell' = true := by
  unfold cellsE at h
  rw [List.mem_flatMap] at h
  obtain ⟨x, _, h⟩ := h
  simp at h
  rcases h with rfl | rfl <;> rfl

/-- block g holds just the elements xs -/
def Row (w : World) (g : Nat) (xs : List E2) : Prop := w.heap[g]? = some (.cells (cellsE xs).toArray 31 (0, 0))
section
variable {w w' : World} {g : Nat} {xs : List E2}
theorem Row.lt (h : Row w g xs) : g < w.heap.size := (Array.getElem?_eq_some_iff.1 h).1
theorem Row.keep (h : Row w g xs) (hb : Below w.heap.size w w') : Row w' g xs := heap_keep h hb
theorem Row.at_ {i : Nat} {x : E2} (h : Row w g xs) (hx : xs[i]? = some x) : w.cell? ⟨g, i * 2, none⟩ = some (.int .u64 (vF x.A)) ∧ w.cell? ⟨g, i * 2 + 1, none⟩ = some (.int .u64 (vF x.B)) := by
  unfold Row at h
  exact ⟨by simpa [World.cell?, h] using cellsE_even hx, by simpa [World.cell?, h] using cellsE_odd hx⟩
theorem Row.free (h : Row w g xs) (k : Nat) : w.frozen? ⟨g, k, none⟩ = false := by
  unfold Row at h
  simp [World.frozen?, h]
theorem Row.set (h : Row w g xs) (i : Nat) (x : E2) : Row ((w.setCell ⟨g, i * 2, none⟩ (.int .u64 (vF x.A))).setCell ⟨g, i * 2 + 1, none⟩ (.int .u64 (vF x.B))) g (xs.set i x) := by
  have h1 := heap_setCell_at (i := i * 2) h (.int .u64 (vF x.A))
  have h2 := heap_setCell_at (i := i * 2 + 1) h1 (.int .u64 (vF x.B))
  unfold Row
  rw [h2, ← cellsE_set]
  simp
theorem Row.far (h : Row w g xs) {a : Addr} (x : Value) (e : g ≠ a.block) : Row (w.setCell a x) g xs := (Below.heap_setCell w a x g e).trans h
theorem Row.sl (h : Row w g xs) (hl : xs.length ≤ 9223372036854775807) : Sl w (some ⟨g, 0, none⟩) xs.length xs.length xs := by
  refine ⟨by simp, Nat.le_refl _, hl, (fun e => by cases e), fun i p hp => ⟨_, rfl, ?_⟩⟩
  rw [List.getElem?_map] at hp
  cases hx : xs[i]? with
  | none => rw [hx] at hp; cases hp
  | some x =>
    rw [hx] at hp
    injection hp with hp
    subst hp
    obtain ⟨h1, h2⟩ := h.at_ hx
    unfold AtV
    rw [add_base]
    exact ⟨h1, h2⟩
theorem Row.slc {n c : Nat} (h : Row w g xs) (hn : n = xs.length) (hc : n ≤ c) (hl : c ≤ 9223372036854775807) : Sl w (some ⟨g, 0, none⟩) n c xs := by
  have h1 := h.sl (by omega)
  exact ⟨by simp [hn], hc, hl, (fun e => by cases e), h1.cells⟩
end

theorem ext_info : (Try.prog.info? 31).map (fun i => (i.zero, i.size, i.bytes)) = some (some (.agg #[.int .u64 0, .int .u64 0]), 2, 16) := by kernel_rfl
theorem cellsE_zero (n : Nat) : (madeCells #[Value.int .u64 0, Value.int .u64 0] (n * 2)) = (cellsE (List.replicate n E2.zero)).toArray := by
  apply Array.ext
  · rw [size_madeCells, List.size_toArray, cellsE_length, List.length_replicate]
  · intro i h1 h2
    rw [size_madeCells] at h1
    have hx : (List.replicate n E2.zero)[i / 2]? = some E2.zero := by rw [List.getElem?_replicate, if_pos (by omega)]
    have he := cellsE_even hx
    have ho := cellsE_odd hx
    simp only [madeCells, Array.getElem_map, Array.getElem_range, List.getElem_toArray]
    rcases Nat.mod_two_eq_zero_or_one i with hm | hm
    · rw [show i / 2 * 2 = i by omega] at he
      rw [List.getElem?_eq_getElem (by rw [List.size_toArray] at h2; exact h2)] at he
      injection he with he
      rw [he]
      simp [hm, E2.zero, vF_zero]
    · rw [show i / 2 * 2 + 1 = i by omega] at ho
      rw [List.getElem?_eq_getElem (by rw [List.size_toArray] at h2; exact h2)] at ho
      injection ho with ho
      rw [ho]
      simp [hm, E2.zero, vF_zero]
theorem run_makeE (n : Nat) (hn : n ≤ 65536) (w : World) : (Instr.makeSlice 28 (.int .i64 (n : Int)) (.int .i64 (n : Int))).run Try.prog w = .ok (.slice (some ⟨w.heap.size, 0, none⟩) n n) (w.alloc (.cells (cellsE (List.replicate n E2.zero)).toArray 31)) := by
  obtain ⟨i, hi, hz, hs, hb⟩ := info_parts ext_info
  have h1 : (i.bytes : Int) * (n : Int) ≤ 281474976710656 := by
    rw [hb]
    omega
  have hr := run_make (P := Try.prog) w 28 31 i (.agg #[.int .u64 0, .int .u64 0]) Try.underlying28 hi hz .i64 .i64 (n : Int) (n : Int) (by omega) (by omega) h1 (by omega)
  simp only [Int.toNat_natCast] at hr
  rw [hr, hs, ← cellsE_zero]
  rfl

end Go.Proofs.Ytkefijogpiofbaa.J

namespace Go.Proofs.Ytkefijogpiofbaa.J
set_option linter.unusedVariables false
set_option linter.unusedSimpArgs false
set_option linter.unusedSectionVars false
set_option maxRecDepth 8000
open Go.RowKit Gold

theorem ownsRow_keep {w w' : World} {base : Nat} {e : TypeId} {size : Nat} {v : Value} {n : Nat} {xs : List Value} (h : w.ownsRow base e size v n xs) (hb : Below w.heap.size w w') : w'.ownsRow base e size v n xs := by
  refine ⟨h.1, ?_⟩
  rcases h.2 with hn | ⟨g, cap, cur, rfl, hbs, hgg, rest⟩
  · exact .inl hn
  · exact .inr ⟨g, cap, cur, rfl, hbs, heap_keep hgg hb, rest⟩
theorem ownsRow_setCell {w : World} {base : Nat} {e : TypeId} {size : Nat} {v : Value} {n : Nat} {xs : List Value} (h : w.ownsRow base e size v n xs) {a : Addr} (x : Value) (hne : v.ownBlock ≠ some a.block) : (w.setCell a x).ownsRow base e size v n xs := by
  refine ⟨h.1, ?_⟩
  rcases h.2 with hn | ⟨g, cap, cur, rfl, hbs, hgg, rest⟩
  · exact .inl hn
  · refine .inr ⟨g, cap, cur, rfl, hbs, ?_, rest⟩
    exact (Below.heap_setCell w a x g (by simpa [Value.ownBlock] using hne)).trans hgg

/-- a slice of the call's own that holds xs -/
def OwE (w : World) (base : Nat) (v : Value) (n : Nat) (xs : List E2) : Prop := w.ownsRow base 31 2 v n (cellsE xs)
section
variable {w w' : World} {base : Nat} {v : Value} {n : Nat} {xs : List E2}
theorem OwE.keep (h : OwE w base v n xs) (hb : Below w.heap.size w w') : OwE w' base v n xs := ownsRow_keep h hb
theorem OwE.len (h : OwE w base v n xs) : n = xs.length := by
  have := h.1
  rw [cellsE_length] at this
  omega
theorem OwE.sl (h : OwE w base v n xs) : ∃ A c, v = .slice A n c ∧ Sl w A n c xs := by
  have hn := h.len
  rcases h.2 with ⟨rfl, rfl⟩ | ⟨g, cap, cur, rfl, hb, hg, hc, hm, hs, ht⟩
  · refine ⟨none, 0, rfl, ?_⟩
    have : xs = [] := List.eq_nil_of_length_eq_zero hn.symm
    subst this
    exact Sl.nil _
  · unfold maxLen at hm
    refine ⟨_, cap, rfl, by simpa using hn, hc, by omega, (fun e => by cases e), fun i p hp => ⟨_, rfl, ?_⟩⟩
    rw [List.getElem?_map] at hp
    cases hx : xs[i]? with
    | none => rw [hx] at hp; cases hp
    | some x =>
      rw [hx] at hp
      injection hp with hp
      subst hp
      have hl := (List.getElem?_eq_some_iff.1 hx).1
      have key : ∀ k u, (cellsE xs)[k]? = some u → w.cell? ⟨g, k, none⟩ = some u := fun k u hu => by
        rw [← ht] at hu
        have hk := (List.getElem?_eq_some_iff.1 hu).1
        rw [List.getElem?_take_of_lt (by simp at hk; omega)] at hu
        simpa [World.cell?, hg] using hu
      unfold AtV
      rw [add_base]
      exact ⟨key _ _ (cellsE_even hx), key _ _ (cellsE_odd hx)⟩
theorem OwE.sl' {A : Option Addr} {c : Nat} (h : OwE w base (.slice A n c) n xs) : Sl w A n c xs := by
  obtain ⟨A1, c1, e, hs⟩ := h.sl
  injection e with e1 e2 e3
  subst e1
  subst e3
  exact hs
theorem OwE.far (h : OwE w base v n xs) {a : Addr} (x : Value) (e : a.block < base) : OwE (w.setCell a x) base v n xs :=
  ownsRow_setCell h x (fun k => by have := (World.ownsRow.lt h _ k).1; omega)
theorem OwE.made (w : World) (base : Nat) (hb : base ≤ w.heap.size) : OwE (w.alloc (.cells #[] 31)) base (.slice (some ⟨w.heap.size, 0, none⟩) 0 0) 0 [] := World.ownsRow_made w #[] 0 hb (Nat.zero_le _) rfl
theorem OwE.one (w : World) (base : Nat) (hb : base ≤ w.heap.size) (x : E2) : OwE (w.alloc (.cells #[.int .u64 (vF x.A), .int .u64 (vF x.B)] 31)) base (.slice (some ⟨w.heap.size, 0, none⟩) 1 1) 1 [x] :=
  ⟨rfl, .inr ⟨w.heap.size, 1, _, rfl, hb, heap_alloc_new w _, Nat.le_refl _, by unfold maxLen; omega, rfl, rfl⟩⟩
end

/-- append(s, y), y in a block of its own -/
theorem wpList_appendE {ops : Array Oper} {rest : List Oper} {o : Oper} {a : Act} {Q : Exit → Act → World → Prop} {w : World} (hgd : o.guard = none) (s x : Operand)
    (ho : o.op = .call { callee := .builtin .append, args := #[s, x], argTypes := #[28, 28] }) (base : Nat) (v : Value) (n : Nat) (xs : List E2) (hs : a.eval s = v) (hown : OwE w base v n xs)
    (g c : Nat) (y : E2) (hx : a.eval x = .slice (some ⟨g, 0, none⟩) 1 c) (hy : Two w g 31 (.int .u64 (vF y.A)) (.int .u64 (vF y.B))) (hn : n ≤ 65536) (hbase : base ≤ w.heap.size)
    (h : ∀ v' w', OwE w' base v' (n + 1) (xs ++ [y]) → w.grownBy w' v.ownBlock → wpList Try.prog ops Q rest (a.put o.dst v') w') : wpList Try.prog ops Q (o :: rest) a w := by
  obtain ⟨i, hi, hz, hs2, hb⟩ := info_parts ext_info
  refine wpList_append_own w hgd s x 28 ho base 31 i (.agg #[.int .u64 0, .int .u64 0]) 2 16 Try.underlying28 hi hz hs2 hb rfl (by omega) v n (cellsE xs) hs hown ⟨g, 0, none⟩ 1 c [.int .u64 (vF y.A), .int .u64 (vF y.B)] hx rfl ?_ ?_ ?_ ?_ hbase ?_
  · intro j u hj
    rw [add_base]
    match j, hj with
    | 0, hj => injection hj with hj; subst hj; exact hy.c0
    | 1, hj => injection hj with hj; subst hj; exact hy.c1
    | j + 2, hj => simp at hj
  · intro u hu
    simp at hu
    rcases hu with rfl | rfl <;> rfl
  · unfold maxLen; omega
  · omega
  · intro v' w' hown' hg _
    refine h v' w' ?_ hg
    unfold OwE
    rw [cellsE_append]
    exact hown'
/-- append(s, t...), t a slice -/
theorem wpList_appendSl {ops : Array Oper} {rest : List Oper} {o : Oper} {a : Act} {Q : Exit → Act → World → Prop} {w : World} (hgd : o.guard = none) (s x : Operand)
    (ho : o.op = .call { callee := .builtin .append, args := #[s, x], argTypes := #[28, 28] }) (base : Nat) (v : Value) (n : Nat) (xs : List E2) (hs : a.eval s = v) (hown : OwE w base v n xs)
    (ad : Addr) (m c : Nat) (ys : List E2) (hx : a.eval x = .slice (some ad) m c) (hy : Sl w (some ad) m c ys) (hn : n + m ≤ 65536) (hbase : base ≤ w.heap.size)
    (h : ∀ v' w', OwE w' base v' (n + m) (xs ++ ys) → w.grownBy w' v.ownBlock → wpList Try.prog ops Q rest (a.put o.dst v') w') : wpList Try.prog ops Q (o :: rest) a w := by
  obtain ⟨i, hi, hz, hs2, hb⟩ := info_parts ext_info
  refine wpList_append_own w hgd s x 28 ho base 31 i (.agg #[.int .u64 0, .int .u64 0]) 2 16 Try.underlying28 hi hz hs2 hb rfl (by omega) v n (cellsE xs) hs hown ad m c (cellsE ys) hx (by rw [cellsE_length, hy.len]) ?_ (fun u hu => cellsE_one hu) ?_ ?_ hbase ?_
  · intro j u hj
    have hl := (List.getElem?_eq_some_iff.1 hj).1
    rw [cellsE_length] at hl
    obtain ⟨q, hq⟩ := hy.get (show j / 2 < m by rw [hy.len]; omega)
    obtain ⟨ad', e, h0, h1⟩ := hy.at_ hq
    injection e with e
    subst e
    rcases Nat.mod_two_eq_zero_or_one j with hm | hm
    · have := cellsE_even hq
      rw [show j / 2 * 2 = j by omega] at this h0
      rw [this] at hj
      injection hj with hj
      subst hj
      exact h0
    · have := cellsE_odd hq
      rw [show j / 2 * 2 + 1 = j by omega] at this
      rw [this] at hj
      injection hj with hj
      subst hj
      have e2 : ad.add j = ⟨(ad.add (j / 2 * 2)).block, (ad.add (j / 2 * 2)).off + 1, none⟩ := by
        rw [← add_succ, show j / 2 * 2 + 1 = j by omega]
      rw [e2]
      exact h1
  · unfold maxLen; omega
  · omega
  · intro v' w' hown' hg _
    refine h v' w' ?_ hg
    unfold OwE
    rw [cellsE_append]
    exact hown'
/-- append(s, t...), t a slice or nil -/
theorem wpList_appendAny {ops : Array Oper} {rest : List Oper} {o : Oper} {a : Act} {Q : Exit → Act → World → Prop} {w : World} (hgd : o.guard = none) (s x : Operand)
    (ho : o.op = .call { callee := .builtin .append, args := #[s, x], argTypes := #[28, 28] }) (base : Nat) (v : Value) (n : Nat) (xs : List E2) (hs : a.eval s = v) (hown : OwE w base v n xs)
    (A : Option Addr) (m c : Nat) (ys : List E2) (hx : a.eval x = .slice A m c) (hy : Sl w A m c ys) (hn : n + m ≤ 65536) (hbase : base ≤ w.heap.size)
    (h : ∀ v' w', OwE w' base v' (n + m) (xs ++ ys) → w.grownBy w' v.ownBlock → wpList Try.prog ops Q rest (a.put o.dst v') w') : wpList Try.prog ops Q (o :: rest) a w := by
  cases A with
  | some ad => exact wpList_appendSl hgd s x ho base v n xs hs hown ad m c ys hx hy hn hbase h
  | none =>
    obtain ⟨rfl, rfl, rfl⟩ := hy.none
    obtain ⟨i, hi, hz, hs2, hb⟩ := info_parts ext_info
    refine wpList_append_own_none hgd s x 28 ho base 31 i 2 Try.underlying28 hi v n (cellsE xs) hs hown hx ?_
    exact h v w (by rw [List.append_nil]; exact hown) (World.grownBy.refl w _)

/-- a slice value that reads as the integers ls -/
structure Si (w : World) (A : Option Addr) (n c : Nat) (ls : List Nat) : Prop where
  len : n = ls.length
  cap : n ≤ c
  top : c ≤ 9223372036854775807
  cells : ∀ (i k : Nat), ls[i]? = some k → ∃ ad, A = some ad ∧ w.cell? (ad.add i) = some (.int .i64 (k : Int))
theorem Si.keep {w w' : World} {A : Option Addr} {n c : Nat} {ls : List Nat} (h : Si w A n c ls) (hb : Below w.heap.size w w') : Si w' A n c ls :=
  ⟨h.len, h.cap, h.top, fun i k hk => by obtain ⟨ad, e, hc⟩ := h.cells i k hk; exact ⟨ad, e, cell_keep hc hb⟩⟩
section
variable {w w' : World} {base : Nat} {v : Value} {n : Nat} {ls : List Nat}
end
theorem below_grown {w0 w w' : World} {base : Nat} {e : TypeId} {size : Nat} {v : Value} {n : Nat} {xs : List Value} (hb : Below w0.heap.size w0 w) (hg : w.grownBy w' v.ownBlock) (hown : w.ownsRow base e size v n xs) (hbase : w0.heap.size ≤ base) : Below w0.heap.size w0 w' :=
  hb.grown hg hb.size fun k hk => Nat.le_trans hbase (hown.lt k hk).1
end Go.Proofs.Ytkefijogpiofbaa.J

namespace Go.Proofs.Ytkefijogpiofbaa.J
set_option linter.unusedVariables false
set_option linter.unusedSimpArgs false
set_option linter.unusedSectionVars false
set_option maxRecDepth 8000
open Go.RowKit

section
variable {F : Fence} {m : Nat} {P : Program} {ops : Array Oper} {md : Region.Mode} {C : World → Prop}

end

section
variable {F : Fence} {m : Nat} {P : Program} {w : World}
/-- a callee that only adds to memory, inside the fence -/
theorem CallsIn.later {f : FuncId} {args : Array Value} {v : Value} {k : Nat} {x : Later w} (h : CallsIn F k P f args x.at fun e w' => e = .returned v ∧ Below x.at.heap.size x.at w') : CallsIn F k P f args x.at fun e w'' => e = .returned v ∧ ∃ y : Later w, w'' = y.at :=
  h.mono fun _ _ ⟨he, hb⟩ => ⟨he, ⟨⟨_, x.2.trans (hb.mono x.2.size)⟩, rfl⟩⟩
end

end Go.Proofs.Ytkefijogpiofbaa.J

namespace Gold
set_option linter.unusedVariables false
set_option linter.unusedSimpArgs false
set_option linter.unusedSectionVars false
set_option maxRecDepth 8000

def froot (k : Int) : Int := fpow 7 (18446744069414584320 / 2 ^ k.toNat)
theorem El_froot (k : Int) : Gold.El (froot k) := El_fpow _ _
theorem El_seven : Gold.El 7 := by unfold Gold.El; omega

theorem halves : ∀ t : Fin 32, 18446744069414584320 / (2 : Int) ^ (t.val + 1) + 18446744069414584320 / (2 : Int) ^ (t.val + 1) = 18446744069414584320 / (2 : Int) ^ t.val := by decide
theorem halves_nonneg (k : Nat) : (0 : Int) ≤ 18446744069414584320 / 2 ^ k := Int.ediv_nonneg (by decide) (Int.le_of_lt (Int.pow_pos (by decide)))
theorem seven_half : fpow 7 9223372034707292160 = 18446744069414584320 := by
  have h := fpow_nat El_seven 9223372034707292160
  have e := pm_eq 64 7 9223372034707292160 (by decide)
  rw [show Int.toNat 7 = 7 from rfl, ← e, minus_one] at h
  exact h

theorem froot_nat (k : Int) (t : Nat) (h : k.toNat = t) : froot k = fpow 7 (18446744069414584320 / 2 ^ t) := by unfold froot; rw [h]

theorem froot_sq (k : Int) (h : 0 ≤ k ∧ k < 32) : fmul (froot (1 + k)) (froot (1 + k)) = froot (1 + k - 1) := by
  rw [froot_nat (1 + k) (k.toNat + 1) (by omega), froot_nat (1 + k - 1) k.toNat (by omega), fpow_add _ _ _ (halves_nonneg _) (halves_nonneg _), halves ⟨k.toNat, by omega⟩]

end Gold

