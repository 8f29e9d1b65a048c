/- What the iterator over the blocks reads, whatever else changes; the blocks of a list of portions; no program. -/
import Derived.Test.YtliflbelhogopaaDoorShf
import Derived.RangeFuncNested
import Derived.RangeFuncBound
import Derived.RangeFuncCalls
import Derived.RangeFuncLeaves
import Derived.RangeFuncBox
import Derived.Shelf.Abstract
import Derived.Shelf.RegionOpen
import Derived.OwnWalkIn
import Derived.TacticsInMore
import Derived.LoopNIn
import Derived.LoopIn
import Derived.Laws.EntriesVeiled
namespace Go.Proofs.YtliflbelhogopaaDoor
set_option maxRecDepth 8000
open Go.RowKit
open Go.Shelf

/-- portions that read alike in all worlds of a class -/
structure PbG (G : World → Prop) (A : Option Addr) (n c : Nat) (Ps : List (List Nat)) : Prop where
  len : n = Ps.length
  cap : n ≤ c
  top : c ≤ 9223372036854775807
  cells : ∀ (i : Nat) (p : List Nat), Ps[i]? = some p → ∃ ad B m d, A = some ad ∧ ∀ w, G w → w.cell? (ad.add i) = some (.slice B m d) ∧ Sb w B m d p
/-- B has all of A but for block x -/
def SameX (x : Nat) (A B : World) : Prop := A.heap.size ≤ B.heap.size ∧ ∀ b, b < A.heap.size → b ≠ x → B.heap[b]? = A.heap[b]?
theorem SameX.refl (x : Nat) (A : World) : SameX x A A := ⟨Nat.le_refl _, fun _ _ _ => rfl⟩
theorem SameX.below {x : Nat} {A B C : World} (h : SameX x A B) (hb : Below A.heap.size B C) : SameX x A C := ⟨Nat.le_trans h.1 hb.size, fun b hb1 hx => (hb.block b hb1).trans (h.2 b hb1 hx)⟩
theorem SameX.row {x : Nat} {A B : World} (h : SameX x A B) (cs : Array Value) : SameX x A (B.setRow x cs) :=
  ⟨by simpa [World.setRow] using h.1, fun b hb hx => by simp [World.setRow, Array.getElem?_modify, Ne.symm hx]; exact h.2 b hb hx⟩
theorem SameX.same {x : Nat} {A B C : World} (h : SameX x A B) (hs : B.heap.size ≤ C.heap.size) (e : ∀ b, b < A.heap.size → C.heap[b]? = B.heap[b]?) : SameX x A C := ⟨Nat.le_trans h.1 hs, fun b hb hx => (e b hb).trans (h.2 b hb hx)⟩
/-- what is no word of 32 bits lies outside a row of such words -/
theorem RowW.other {w : World} {t x : Nat} {ws : List Nat} (h : RowW w t x ws) {a : Addr} {v : Value} (hc : w.cell? a = some v) (hv : ∀ z, v ≠ .int .u32 z) : a.block ≠ x := by
  intro e
  subst e
  unfold RowW at h
  simp [World.cell?, h] at hc
  have hm := List.mem_of_getElem? hc.2
  simp [celW] at hm
  obtain ⟨z, _, rfl⟩ := hm
  exact hv _ rfl
theorem cell_same {x : Nat} {A B : World} (h : SameX x A B) {a : Addr} {v : Value} (hc : A.cell? a = some v) (hx : a.block ≠ x) : B.cell? a = some v :=
  (World.cell?_of_block (h.2 _ (World.block_lt_of_cell? A a hc) hx)).trans hc
theorem Sb.keepX {w B : World} {t x : Nat} {ws : List Nat} {A : Option Addr} {n c : Nat} {bs : List Nat} (h : Sb w A n c bs) (hr : RowW w t x ws) (hb : SameX x w B) : Sb B A n c bs :=
  ⟨h.len, h.cap, h.top, h.nil, h.byte, fun i z hz => by obtain ⟨ad, e, hc⟩ := h.cells i z hz; exact ⟨ad, e, cell_same hb hc (hr.other hc (fun _ e => by cases e))⟩⟩
theorem Pb.keepX {w : World} {t x : Nat} {ws : List Nat} {A : Option Addr} {n c : Nat} {Ps : List (List Nat)} (h : Pb w A n c Ps) (hr : RowW w t x ws) : PbG (SameX x w) A n c Ps :=
  ⟨h.len, h.cap, h.top, fun i p hp => by
    obtain ⟨ad, B, m, d, e, hc, hs⟩ := h.cells i p hp
    exact ⟨ad, B, m, d, e, fun W hW => ⟨cell_same hW hc (hr.other hc (fun _ e => by cases e)), hs.keepX hr hW⟩⟩⟩

/-! ### Where a portion lies in the message -/
theorem flat_drop {Ps : List (List Nat)} {k : Nat} {q : List Nat} (h : Ps[k]? = some q) (t : Nat) (ht : t ≤ q.length) : (Ps.flatten.drop (sumL (Ps.take k) + t)).take (q.length - t) = q.drop t := by
  obtain ⟨h1, e1⟩ := List.getElem?_eq_some_iff.1 h
  have e2 : Ps.flatten = (Ps.take k).flatten ++ (q ++ (Ps.drop (k + 1)).flatten) := by
    conv => lhs; rw [← List.take_append_drop k Ps, List.drop_eq_getElem_cons h1, e1]
    rw [List.flatten_append, List.flatten_cons]
  rw [e2, ← List.drop_drop]
  have e3 : ((Ps.take k).flatten ++ (q ++ (Ps.drop (k + 1)).flatten)).drop (sumL (Ps.take k)) = q ++ (Ps.drop (k + 1)).flatten := by
    unfold sumL
    exact List.drop_left
  rw [e3, List.drop_append_of_le_length ht, List.take_left' (by simp)]
/-- the next bytes of the message, out of what is left of a portion -/
theorem flat_next {Ps : List (List Nat)} {k i r t n : Nat} {q : List Nat} (h : Ps[k]? = some q) (ht : t + n ≤ q.length) (hp : 64 * i + r = sumL (Ps.take k) + t) :
    (Ps.flatten.drop (64 * i)).take r ++ (q.drop t).take n = (Ps.flatten.drop (64 * i)).take (r + n) := by
  rw [List.take_add, List.drop_drop, hp, ← flat_drop h t (by omega), List.take_take, Nat.min_eq_left (by omega)]
theorem getD_take {l : List Nat} {n j : Nat} (h : j < n) : (l.take n).getD j 0 = l.getD j 0 := by
  rw [List.getD_eq_getElem?_getD, List.getElem?_take_of_lt h, ← List.getD_eq_getElem?_getD]
theorem getD_drop' {l : List Nat} {n j : Nat} : (l.drop n).getD j 0 = l.getD (n + j) 0 := by
  rw [List.getD_eq_getElem?_getD, List.getElem?_drop, ← List.getD_eq_getElem?_getD]
theorem flat_blk {Ps : List (List Nat)} {k i t j : Nat} {q : List Nat} (h : Ps[k]? = some q) (ht : t + 64 ≤ q.length) (hp : 64 * i = sumL (Ps.take k) + t) (hj : j < 64) : (q.drop t).getD j 0 = blkF Ps.flatten i j := by
  have e := flat_next (n := 64) (r := 0) h ht (by omega)
  rw [List.take_zero, List.nil_append, Nat.zero_add] at e
  have e2 := congrArg (fun l : List Nat => l.getD j 0) e
  rw [getD_take hj, getD_take hj, getD_drop', getD_drop'] at e2
  rw [getD_drop', e2]
  rfl
theorem part_blk {p : List Nat} {i j : Nat} (hj : j < 64) : ((p.drop (64 * i)).take 64).getD j 0 = blkF p i j := by
  rw [getD_take hj, getD_drop']
  rfl
theorem OwB.same {w w' : World} {base : Nat} {v : Value} {n : Nat} {bs : List Nat} (h : OwB w base v n bs) (hk : ∀ b o, base ≤ b → w.heap[b]? = some o → w'.heap[b]? = some o) : OwB w' base v n bs := by
  refine ⟨⟨h.1.1, ?_⟩, h.2⟩
  rcases h.1.2 with hn | ⟨g, cap, cur, rfl, hbs, hgg, rest⟩
  · exact .inl hn
  · exact .inr ⟨g, cap, cur, rfl, hbs, hk g _ hbs hgg, rest⟩
theorem OwB.zero {w : World} {base : Nat} {g n c : Nat} {bs : List Nat} (h : OwB w base (.slice (some ⟨g, 0, none⟩) n c) n bs) : OwB w base (.slice (some ⟨g, 0, none⟩) 0 c) 0 [] := by
  refine ⟨⟨rfl, ?_⟩, fun _ h => by cases h⟩
  rcases h.1.2 with ⟨hn, _⟩ | ⟨g', cap, cur, e, hbs, hgg, h1, h2, h3, h4⟩
  · cases hn
  · injection e with e1 e2 e3
    subst e3
    exact .inr ⟨g', _, cur, by rw [e1], hbs, hgg, Nat.zero_le _, h2, h3, by simp [celB]⟩
/-- make([]byte, 0, N) -/
theorem OwB.fresh (w : World) (N : Nat) (hN : N ≤ 70000) : OwB (w.alloc (.cells (celB (List.replicate N 0)).toArray 5)) w.heap.size (.slice (some ⟨w.heap.size, 0, none⟩) 0 N) 0 [] :=
  ⟨⟨rfl, .inr ⟨w.heap.size, N, _, rfl, Nat.le_refl _, heap_new w _, Nat.zero_le _, by unfold maxLen; omega, by simp [celB_length], by simp [celB]⟩⟩, fun _ h => by cases h⟩
end Go.Proofs.YtliflbelhogopaaDoor
