/- What is known of blocks of one and of two cells: their cells, and what keeps them; no conditions. -/
import Derived.Test.YtliflbelhogopaaDoorProg
import Derived.WalkKit
import Derived.Below
import Derived.OneCell
import Derived.Lib.Hide
import Derived.RowKit
import Derived.RangeFuncRecord
namespace Go.Proofs.YtliflbelhogopaaDoor
set_option maxRecDepth 8000
open Go.RowKit

theorem cell_keep {W W1 : World} {a : Addr} {v : Value} (h : W.cell? a = some v) (hb : Below W.heap.size W W1) : W1.cell? a = some v := (hb.cell (World.block_lt_of_cell? W a h)).trans h
theorem free_keep {W W1 : World} {a : Addr} {v : Value} (h : W.cell? a = some v) (hf : W.frozen? a = false) (hb : Below W.heap.size W W1) : W1.frozen? a = false := (hb.frozen (World.block_lt_of_cell? W a h)).trans hf
theorem cell_after {W W1 : World} {a : Addr} {v : Value} (hb : Below W.heap.size W W1) (h : W.cell? a = some v) : W1.cell? a = some v := cell_keep h hb
theorem free_after {W W1 : World} {a : Addr} {v : Value} (hb : Below W.heap.size W W1) (h : W.cell? a = some v) (hf : W.frozen? a = false) : W1.frozen? a = false := free_keep h hf hb
theorem heap_keep {W W1 : World} {b : Nat} {o : Obj} (h : W.heap[b]? = some o) (hb : Below W.heap.size W W1) : W1.heap[b]? = some o := (hb.block b (Array.getElem?_eq_some_iff.1 h).1).trans h
theorem heap_new (W : World) (o : Obj) : (W.alloc o).heap[W.heap.size]? = some o := World.alloc_heap_new W o
theorem heap_old {W : World} {b : Nat} {o : Obj} (o' : Obj) (h : W.heap[b]? = some o) : (W.alloc o').heap[b]? = some o := (Below.heap_alloc W o' b (Array.getElem?_eq_some_iff.1 h).1).trans h

theorem cell_alloc {W : World} {a : Addr} {v : Value} (h : W.cell? a = some v) (o : Obj) : (W.alloc o).cell? a = some v := (World.cell?_alloc_lt _ _ _ (World.block_lt_of_cell? W a h)).trans h
theorem free_alloc {W : World} {a : Addr} {v : Value} (h : W.cell? a = some v) (hf : W.frozen? a = false) (o : Obj) : (W.alloc o).frozen? a = false :=
  (World.frozen?_of_block (Below.heap_alloc W o a.block (World.block_lt_of_cell? W a h))).trans hf
theorem cell_far {W : World} {a p : Addr} {v : Value} (h : W.cell? a = some v) (e : p.block ≠ a.block) (x : Value) : (W.setCell p x).cell? a = some v := (World.cell?_setCell_other W p a x (fun k => e (by rw [k]))).trans h
/-- block b holds two cells -/
def Two (W : World) (b : Nat) (t : TypeId) (u v : Value) : Prop := W.heap[b]? = some (.cells #[u, v] t (0, 0))
/-- block b holds one cell -/
def One (W : World) (b : Nat) (t : TypeId) (u : Value) : Prop := W.heap[b]? = some (.cells #[u] t (0, 0))
section
variable {W W1 : World} {b : Nat} {t : TypeId} {u v : Value}
theorem Two.c0 (h : Two W b t u v) : W.cell? ⟨b, 0, none⟩ = some u := by simp [World.cell?, show W.heap[b]? = _ from h]
theorem Two.c1 (h : Two W b t u v) : W.cell? ⟨b, 1, none⟩ = some v := by simp [World.cell?, show W.heap[b]? = _ from h]
theorem Two.f0 (h : Two W b t u v) : W.frozen? ⟨b, 0, none⟩ = false := by simp [World.frozen?, show W.heap[b]? = _ from h]
theorem Two.f1 (h : Two W b t u v) : W.frozen? ⟨b, 1, none⟩ = false := by simp [World.frozen?, show W.heap[b]? = _ from h]
theorem Two.lt (h : Two W b t u v) : b < W.heap.size := (Array.getElem?_eq_some_iff.1 h).1
theorem Two.keep (h : Two W b t u v) (hb : Below W.heap.size W W1) : Two W1 b t u v := heap_keep h hb
theorem Two.alloc (h : Two W b t u v) (o : Obj) : Two (W.alloc o) b t u v := heap_old o h
theorem Two.new (W : World) (t : TypeId) (u v : Value) : Two (W.alloc (.cells #[u, v] t)) W.heap.size t u v := heap_new W _
theorem Two.drew (h : Two W b t u v) : Two W.drew b t u v := h
theorem Two.far (h : Two W b t u v) {a : Addr} (x : Value) (e : b ≠ a.block) : Two (W.setCell a x) b t u v := (Below.heap_setCell W a x b e).trans h
theorem heap_setCell_at {W : World} {b i : Nat} {cs : Array Value} {t : TypeId} {f : Nat × Nat} (h : W.heap[b]? = some (.cells cs t f)) (x : Value) :
    (W.setCell ⟨b, i, none⟩ x).heap[b]? = some (.cells (cs.setIfInBounds i x) t f) := by
  obtain ⟨hlt, hk⟩ := Array.getElem?_eq_some_iff.1 h
  show (W.heap.modify b _)[b]? = _
  rw [Array.getElem?_eq_getElem (by rw [Array.size_modify]; exact hlt), Array.getElem_modify_self, hk]
  rfl
theorem Two.set0 (h : Two W b t u v) (x : Value) : Two (W.setCell ⟨b, 0, none⟩ x) b t x v := heap_setCell_at h x
theorem Two.set1 (h : Two W b t u v) (x : Value) : Two (W.setCell ⟨b, 1, none⟩ x) b t u x := heap_setCell_at h x
theorem One.c (h : One W b t u) : W.cell? ⟨b, 0, none⟩ = some u := cell_of_one h
theorem One.f (h : One W b t u) : W.frozen? ⟨b, 0, none⟩ = false := free_of_one h
theorem One.lt (h : One W b t u) : b < W.heap.size := (Array.getElem?_eq_some_iff.1 h).1
theorem One.keep (h : One W b t u) (hb : Below W.heap.size W W1) : One W1 b t u := heap_keep h hb
theorem One.alloc (h : One W b t u) (o : Obj) : One (W.alloc o) b t u := heap_old o h
theorem One.new (W : World) (t : TypeId) (u : Value) : One (W.alloc (.cells #[u] t)) W.heap.size t u := heap_new W _
theorem One.drew (h : One W b t u) : One W.drew b t u := h
theorem One.far (h : One W b t u) {a : Addr} (x : Value) (e : b ≠ a.block) : One (W.setCell a x) b t u := (Below.heap_setCell W a x b e).trans h
theorem One.set (h : One W b t u) (x : Value) : One (W.setCell ⟨b, 0, none⟩ x) b t x := heap_setCell_at h x
end

/-! ### The world behind a function's first allocations, under a name -/
section
variable {P : Program} {c : Code} {Q : Exit → Act → World → Prop} {a : Act} {w : World} {o0 o1 o2 o3 : Obj}
theorem wp_named1 (h : ∀ W, Below w.heap.size w W → W.heap[w.heap.size]? = some o0 → w.heap.size < W.heap.size → c.wp P Q a W) : c.wp P Q a (w.alloc o0) :=
  h _ ((Below.refl _ _).alloc (Nat.le_refl _) _) (heap_new _ _) (by simp)
theorem wp_named2 (h : ∀ W, Below w.heap.size w W → W.heap[w.heap.size]? = some o0 → W.heap[w.heap.size + 1]? = some o1 → w.heap.size + 1 < W.heap.size → c.wp P Q a W) : c.wp P Q a ((w.alloc o0).alloc o1) :=
  h _ (((Below.refl _ _).alloc (Nat.le_refl _) _).alloc (by simp) _) (heap_old _ (heap_new _ _)) (by simpa using heap_new (w.alloc o0) o1) (by simp)
theorem wp_named3 (h : ∀ W, Below w.heap.size w W → W.heap[w.heap.size]? = some o0 → W.heap[w.heap.size + 1]? = some o1 → W.heap[w.heap.size + 1 + 1]? = some o2 → w.heap.size + 1 + 1 < W.heap.size → c.wp P Q a W) : c.wp P Q a (((w.alloc o0).alloc o1).alloc o2) :=
  h _ ((((Below.refl _ _).alloc (Nat.le_refl _) _).alloc (by simp) _).alloc (by simp; omega) _) (heap_old _ (heap_old _ (heap_new _ _))) (heap_old _ (by simpa using heap_new (w.alloc o0) o1)) (by simpa using heap_new ((w.alloc o0).alloc o1) o2) (by simp)
theorem wp_named4 (h : ∀ W, Below w.heap.size w W → W.heap[w.heap.size]? = some o0 → W.heap[w.heap.size + 1]? = some o1 → W.heap[w.heap.size + 1 + 1]? = some o2 → W.heap[w.heap.size + 1 + 1 + 1]? = some o3 → w.heap.size + 1 + 1 + 1 < W.heap.size → c.wp P Q a W) : c.wp P Q a ((((w.alloc o0).alloc o1).alloc o2).alloc o3) :=
  h _ (((((Below.refl _ _).alloc (Nat.le_refl _) _).alloc (by simp) _).alloc (by simp; omega) _).alloc (by simp; omega) _) (heap_old _ (heap_old _ (heap_old _ (heap_new _ _)))) (heap_old _ (heap_old _ (by simpa using heap_new (w.alloc o0) o1))) (heap_old _ (by simpa using heap_new ((w.alloc o0).alloc o1) o2)) (by simpa using heap_new (((w.alloc o0).alloc o1).alloc o2) o3) (by simp)
section
variable {f : FuncId} {args : Array Value} {R : Ending → World → Prop}
theorem calls_named1 (h : ∀ W, Below w.heap.size w W → W.heap[w.heap.size]? = some o0 → w.heap.size < W.heap.size → Calls P f args W R) : Calls P f args (w.alloc o0) R :=
  h _ ((Below.refl _ _).alloc (Nat.le_refl _) _) (heap_new _ _) (by simp)
theorem calls_named2 (h : ∀ W, Below w.heap.size w W → W.heap[w.heap.size]? = some o0 → W.heap[w.heap.size + 1]? = some o1 → w.heap.size + 1 < W.heap.size → Calls P f args W R) : Calls P f args ((w.alloc o0).alloc o1) R :=
  h _ (((Below.refl _ _).alloc (Nat.le_refl _) _).alloc (by simp) _) (heap_old _ (heap_new _ _)) (by simpa using heap_new (w.alloc o0) o1) (by simp)
theorem calls_named3 (h : ∀ W, Below w.heap.size w W → W.heap[w.heap.size]? = some o0 → W.heap[w.heap.size + 1]? = some o1 → W.heap[w.heap.size + 1 + 1]? = some o2 → w.heap.size + 1 + 1 < W.heap.size → Calls P f args W R) : Calls P f args (((w.alloc o0).alloc o1).alloc o2) R :=
  h _ ((((Below.refl _ _).alloc (Nat.le_refl _) _).alloc (by simp) _).alloc (by simp; omega) _) (heap_old _ (heap_old _ (heap_new _ _))) (heap_old _ (by simpa using heap_new (w.alloc o0) o1)) (by simpa using heap_new ((w.alloc o0).alloc o1) o2) (by simp)
theorem calls_named4 (h : ∀ W, Below w.heap.size w W → W.heap[w.heap.size]? = some o0 → W.heap[w.heap.size + 1]? = some o1 → W.heap[w.heap.size + 1 + 1]? = some o2 → W.heap[w.heap.size + 1 + 1 + 1]? = some o3 → w.heap.size + 1 + 1 + 1 < W.heap.size → Calls P f args W R) : Calls P f args ((((w.alloc o0).alloc o1).alloc o2).alloc o3) R :=
  h _ (((((Below.refl _ _).alloc (Nat.le_refl _) _).alloc (by simp) _).alloc (by simp; omega) _).alloc (by simp; omega) _) (heap_old _ (heap_old _ (heap_old _ (heap_new _ _)))) (heap_old _ (heap_old _ (by simpa using heap_new (w.alloc o0) o1))) (heap_old _ (by simpa using heap_new ((w.alloc o0).alloc o1) o2)) (by simpa using heap_new (((w.alloc o0).alloc o1).alloc o2) o3) (by simp)
end
theorem calls_named (K : World → Prop) {f : FuncId} {args : Array Value} {R : Ending → World → Prop} {w : World} (hK : K w) (h : ∀ W, K W → Calls P f args W R) : Calls P f args w R := h w hK
/-- any world under a name, with what is known of it -/
theorem wp_named (K : World → Prop) {w : World} (hK : K w) (h : ∀ W, K W → c.wp P Q a W) : c.wp P Q a w := h w hK
end

end Go.Proofs.YtliflbelhogopaaDoor
