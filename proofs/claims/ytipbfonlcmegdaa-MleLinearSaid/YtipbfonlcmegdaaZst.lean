/- Moves of the walk of drawn regions: a new element that is stored zero; no conditions. -/
import Derived.Test.YtipbfonlcmegdaaZmk
namespace Go.Proofs.Ytipbfonlcmegdaa
set_option maxRecDepth 8000
open Go.RowKit Gold
variable {ops : Array Oper} {w0 : World} {Q : Exit → Act → World → Prop}

theorem setCell_same {W : World} {b i : Nat} {cs : Array Value} {t : TypeId} {f : Nat × Nat} {v : Value} (h : W.heap[b]? = some (.cells cs t f)) (hv : cs[i]? = some v) : W.setCell ⟨b, i, none⟩ v = W := by
  have hs : cs.setIfInBounds i v = cs := by
    refine Array.ext_getElem? fun j => ?_
    rw [Array.getElem?_setIfInBounds]
    split
    · rename_i e
      subst e
      rw [hv]
      have := (Array.getElem?_eq_some_iff.1 hv).1
      simp [this]
    · rfl
  have e : (W.setCell ⟨b, i, none⟩ v).heap = W.heap := by
    refine Array.ext_getElem? fun j => ?_
    by_cases hj : j = b
    · subst hj
      rw [heap_setCell_at h, hs, h]
    · exact Below.heap_setCell W ⟨b, i, none⟩ v j hj
  show ({ W with heap := (W.setCell ⟨b, i, none⟩ v).heap } : World) = W
  rw [e]
theorem wpF_cellE {o : Oper} {l : List Oper} {a : Act} {w : World} (ho : o.op = .alloc 27) (hw : Region.wanted o (yielded ops a.tmps) = true)
    (h : ∀ b V, Below w.heap.size w V → Two V b 27 (.int .u64 0) (.int .u64 0) → wpF Try.prog ops w0 Q l (a.put o.dst (.pointer (some ⟨b, 0, none⟩))) V) : wpF Try.prog ops w0 Q (o :: l) a w := by
  have hm : makerOp o = true := by unfold makerOp; rw [ho]
  have hs : stillOp o = false := by unfold stillOp; rw [ho]
  have hv : ∀ b, mkVal o b = .pointer (some ⟨b, 0, none⟩) := fun b => by unfold mkVal; rw [ho]
  refine wpF_make (.cells #[.int .u64 0, .int .u64 0] 27) hs hm hw (fun W => ?_) (fun b V hb hg _ => ?_)
  · rw [hv]
    unfold execOp
    rw [ho]
    go_simp
  · rw [hv]
    exact h b V hb hg
theorem wpF_zero {o : Oper} {a : Act} {w : World} {p x : Operand} (b : Nat) (ho : o.op = .store 27 p x) (hp : a.eval p = .pointer (some ⟨b, 0, none⟩)) (hx : a.eval x = .agg #[.int .u64 (vF E2.zero.A), .int .u64 (vF E2.zero.B)]) (hw : Region.wanted o (yielded ops a.tmps) = true)
    (hT : Two w b 27 (.int .u64 0) (.int .u64 0)) (hS : SL w0 w) (h : ∀ X, Below w.heap.size w X → Q .normal (a.put o.dst undef) X) : wpF Try.prog ops w0 Q [o] a w := by
  have hm : makerOp o = false := by unfold makerOp; rw [ho]
  have hs : stillOp o = false := by unfold stillOp; rw [ho]
  refine wpF_last (fun W => W) hs hm hw (fun W hW => ?_) (fun W hW => hS.ext hW) (fun W hW X hX => h X (ext_trans hW hX))
  have hT' : Two W b 27 (.int .u64 0) (.int .u64 0) := hT.keep hW
  rw [run_storeE b E2.zero ho hp hx hT']
  have e0 : W.setCell ⟨b, 0, none⟩ (.int .u64 (vF E2.zero.A)) = W := setCell_same hT' rfl
  have e1 : W.setCell ⟨b, 1, none⟩ (.int .u64 (vF E2.zero.B)) = W := setCell_same hT' rfl
  rw [e0, e1]

end Go.Proofs.Ytipbfonlcmegdaa
