/- Contracts of the helpers of the laws of package poly: elements of integers, lists without repetitions; no conditions but lengths. -/
import Derived.Test.YtombcjdhjcmhhaaRefC
import Derived.Test.YtombcjdhjcmhhaaPolN
namespace Go.Proofs.Ytombcjdhjcmhhaa
set_option maxRecDepth 8000
open Go.RowKit Gold

/-- a slice value that reads as the integers zs -/
structure Sz (w : World) (A : Option Addr) (n c : Nat) (zs : List Int) : Prop where
  len : n = zs.length
  cap : n ≤ c
  top : c ≤ 9223372036854775807
  cells : ∀ (i : Nat) (z : Int), zs[i]? = some z → ∃ ad, A = some ad ∧ w.cell? (ad.add i) = some (.int .i64 z)
theorem Sz.keep {w w' : World} {A : Option Addr} {n c : Nat} {zs : List Int} (h : Sz w A n c zs) (hb : Below w.heap.size w w') : Sz w' A n c zs :=
  ⟨h.len, h.cap, h.top, fun i k hk => by obtain ⟨ad, e, hc⟩ := h.cells i k hk; exact ⟨ad, e, cell_keep hc hb⟩⟩
theorem Sz.of {w : World} {g : Nat} {t : TypeId} {zs : List Int} (h : w.heap[g]? = some (.cells (zs.map fun z => Value.int .i64 z).toArray t (0, 0))) (hl : zs.length ≤ 9223372036854775807) : Sz w (some ⟨g, 0, none⟩) zs.length zs.length zs :=
  ⟨rfl, Nat.le_refl _, hl, fun i z hz => ⟨_, rfl, by rw [add_base]; simp [World.cell?, h, hz]⟩⟩


/-- the first k elements without repetitions -/
def diffAt (l : List E2) : Nat → List E2
  | 0 => []
  | k + 1 => if cfE l k ∈ diffAt l k then diffAt l k else diffAt l k ++ [cfE l k]
theorem diffAt_length (l : List E2) : ∀ k, (diffAt l k).length ≤ k
  | 0 => Nat.le_refl _
  | k + 1 => by
    have := diffAt_length l k
    rw [diffAt]
    split
    · omega
    · rw [List.length_append]; simp; omega
theorem diffAt_nodup (l : List E2) : ∀ k, (diffAt l k).Nodup
  | 0 => List.Pairwise.nil
  | k + 1 => by
    have ih := diffAt_nodup l k
    rw [diffAt]
    split
    · exact ih
    · next h =>
      unfold List.Nodup
      rw [List.pairwise_append]
      refine ⟨ih, by simp, fun a ha b hb => ?_⟩
      simp at hb
      subst hb
      intro e
      exact h (e ▸ ha)
/-- is x among the first k? -/
def seenB (x : E2) (l : List E2) (k : Nat) : Bool := decide (x ∈ l.take k)
theorem seenB_zero (x : E2) (l : List E2) : seenB x l 0 = false := by simp [seenB]
theorem seenB_succ {x y : E2} {l : List E2} {k : Nat} (h : l[k]? = some y) : seenB x l (k + 1) = (seenB x l k || decide (y = x)) := by
  obtain ⟨hl, he⟩ := List.getElem?_eq_some_iff.1 h
  unfold seenB
  rw [List.take_succ_eq_append_getElem hl, he, Bool.eq_iff_iff]
  simp only [decide_eq_true_iff, List.mem_append, List.mem_singleton, Bool.or_eq_true]
  exact ⟨Or.imp id Eq.symm, Or.imp id Eq.symm⟩


end Go.Proofs.Ytombcjdhjcmhhaa
