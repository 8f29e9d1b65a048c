/- Moves of the walk of drawn regions: slices of integers, slices of elements; no conditions. -/
import Derived.Test.YtipbfonlcmegdaaFloat
import Derived.Test.YtipbfonlcmegdaaLawA
namespace Go.Proofs.Ytipbfonlcmegdaa
set_option maxRecDepth 8000
open Go.RowKit Gold
variable {ops : Array Oper} {w0 : World} {Q : Exit → Act → World → Prop}
theorem wpF_ints1 {o : Oper} {l : List Oper} {a : Act} {w : World} (z1 : Int) (ho : o.op = .buildSlice 75 1 #[(0, .const (.int .i64 z1))]) (hw : Region.wanted o (yielded ops a.tmps) = true)
    (h : ∀ b V, Below w.heap.size w V → Sz V (some ⟨b, 0, none⟩) 1 1 [z1] → wpF Try.prog ops w0 Q l (a.put o.dst (.slice (some ⟨b, 0, none⟩) 1 1)) V) : wpF Try.prog ops w0 Q (o :: l) a w := by
  have hm : makerOp o = true := by unfold makerOp; rw [ho]
  have hs : stillOp o = false := by unfold stillOp; rw [ho]
  have hv : ∀ b, mkVal o b = .slice (some ⟨b, 0, none⟩) 1 1 := fun b => by unfold mkVal; rw [ho]
  refine wpF_make (.cells #[.int .i64 z1] 2) hs hm hw (fun W => ?_) (fun b V hb hg _ => ?_)
  · rw [hv]
    unfold execOp
    rw [ho]
    simp only [List.map_toArray, List.map_cons, List.map_nil, Act.eval]
    go_simp
  · rw [hv]
    exact h b V hb (Sz.of (zs := [z1]) hg (by simp))
theorem wpF_ints2 {o : Oper} {l : List Oper} {a : Act} {w : World} (z1 z2 : Int) (ho : o.op = .buildSlice 75 2 #[(0, .const (.int .i64 z1)), (1, .const (.int .i64 z2))]) (hw : Region.wanted o (yielded ops a.tmps) = true)
    (h : ∀ b V, Below w.heap.size w V → Sz V (some ⟨b, 0, none⟩) 2 2 [z1, z2] → wpF Try.prog ops w0 Q l (a.put o.dst (.slice (some ⟨b, 0, none⟩) 2 2)) V) : wpF Try.prog ops w0 Q (o :: l) a w := by
  have hm : makerOp o = true := by unfold makerOp; rw [ho]
  have hs : stillOp o = false := by unfold stillOp; rw [ho]
  have hv : ∀ b, mkVal o b = .slice (some ⟨b, 0, none⟩) 2 2 := fun b => by unfold mkVal; rw [ho]
  refine wpF_make (.cells #[.int .i64 z1, .int .i64 z2] 2) hs hm hw (fun W => ?_) (fun b V hb hg _ => ?_)
  · rw [hv]
    unfold execOp
    rw [ho]
    simp only [List.map_toArray, List.map_cons, List.map_nil, Act.eval]
    go_simp
  · rw [hv]
    exact h b V hb (Sz.of (zs := [z1, z2]) hg (by simp))
theorem wpF_ints3 {o : Oper} {l : List Oper} {a : Act} {w : World} (z1 z2 z3 : Int) (ho : o.op = .buildSlice 75 3 #[(0, .const (.int .i64 z1)), (1, .const (.int .i64 z2)), (2, .const (.int .i64 z3))]) (hw : Region.wanted o (yielded ops a.tmps) = true)
    (h : ∀ b V, Below w.heap.size w V → Sz V (some ⟨b, 0, none⟩) 3 3 [z1, z2, z3] → wpF Try.prog ops w0 Q l (a.put o.dst (.slice (some ⟨b, 0, none⟩) 3 3)) V) : wpF Try.prog ops w0 Q (o :: l) a w := by
  have hm : makerOp o = true := by unfold makerOp; rw [ho]
  have hs : stillOp o = false := by unfold stillOp; rw [ho]
  have hv : ∀ b, mkVal o b = .slice (some ⟨b, 0, none⟩) 3 3 := fun b => by unfold mkVal; rw [ho]
  refine wpF_make (.cells #[.int .i64 z1, .int .i64 z2, .int .i64 z3] 2) hs hm hw (fun W => ?_) (fun b V hb hg _ => ?_)
  · rw [hv]
    unfold execOp
    rw [ho]
    simp only [List.map_toArray, List.map_cons, List.map_nil, Act.eval]
    go_simp
  · rw [hv]
    exact h b V hb (Sz.of (zs := [z1, z2, z3]) hg (by simp))
theorem wpF_ints4 {o : Oper} {l : List Oper} {a : Act} {w : World} (z1 z2 z3 z4 : Int) (ho : o.op = .buildSlice 75 4 #[(0, .const (.int .i64 z1)), (1, .const (.int .i64 z2)), (2, .const (.int .i64 z3)), (3, .const (.int .i64 z4))]) (hw : Region.wanted o (yielded ops a.tmps) = true)
    (h : ∀ b V, Below w.heap.size w V → Sz V (some ⟨b, 0, none⟩) 4 4 [z1, z2, z3, z4] → wpF Try.prog ops w0 Q l (a.put o.dst (.slice (some ⟨b, 0, none⟩) 4 4)) V) : wpF Try.prog ops w0 Q (o :: l) a w := by
  have hm : makerOp o = true := by unfold makerOp; rw [ho]
  have hs : stillOp o = false := by unfold stillOp; rw [ho]
  have hv : ∀ b, mkVal o b = .slice (some ⟨b, 0, none⟩) 4 4 := fun b => by unfold mkVal; rw [ho]
  refine wpF_make (.cells #[.int .i64 z1, .int .i64 z2, .int .i64 z3, .int .i64 z4] 2) hs hm hw (fun W => ?_) (fun b V hb hg _ => ?_)
  · rw [hv]
    unfold execOp
    rw [ho]
    simp only [List.map_toArray, List.map_cons, List.map_nil, Act.eval]
    go_simp
  · rw [hv]
    exact h b V hb (Sz.of (zs := [z1, z2, z3, z4]) hg (by simp))
theorem wpF_ints5 {o : Oper} {l : List Oper} {a : Act} {w : World} (z1 z2 z3 z4 z5 : Int) (ho : o.op = .buildSlice 75 5 #[(0, .const (.int .i64 z1)), (1, .const (.int .i64 z2)), (2, .const (.int .i64 z3)), (3, .const (.int .i64 z4)), (4, .const (.int .i64 z5))]) (hw : Region.wanted o (yielded ops a.tmps) = true)
    (h : ∀ b V, Below w.heap.size w V → Sz V (some ⟨b, 0, none⟩) 5 5 [z1, z2, z3, z4, z5] → wpF Try.prog ops w0 Q l (a.put o.dst (.slice (some ⟨b, 0, none⟩) 5 5)) V) : wpF Try.prog ops w0 Q (o :: l) a w := by
  have hm : makerOp o = true := by unfold makerOp; rw [ho]
  have hs : stillOp o = false := by unfold stillOp; rw [ho]
  have hv : ∀ b, mkVal o b = .slice (some ⟨b, 0, none⟩) 5 5 := fun b => by unfold mkVal; rw [ho]
  refine wpF_make (.cells #[.int .i64 z1, .int .i64 z2, .int .i64 z3, .int .i64 z4, .int .i64 z5] 2) hs hm hw (fun W => ?_) (fun b V hb hg _ => ?_)
  · rw [hv]
    unfold execOp
    rw [ho]
    simp only [List.map_toArray, List.map_cons, List.map_nil, Act.eval]
    go_simp
  · rw [hv]
    exact h b V hb (Sz.of (zs := [z1, z2, z3, z4, z5]) hg (by simp))
theorem wpF_exts1 {o : Oper} {l : List Oper} {a : Act} {w : World} {x : Operand} (y : E2) (ho : o.op = .buildSlice 22 1 #[(0, x)]) (hx : a.eval x = .agg #[.int .u64 (vF y.A), .int .u64 (vF y.B)]) (hw : Region.wanted o (yielded ops a.tmps) = true)
    (h : ∀ b V, Below w.heap.size w V → Sl V (some ⟨b, 0, none⟩) 1 1 [y] → wpF Try.prog ops w0 Q l (a.put o.dst (.slice (some ⟨b, 0, none⟩) 1 1)) V) : wpF Try.prog ops w0 Q (o :: l) a w := by
  have hm : makerOp o = true := by unfold makerOp; rw [ho]
  have hs : stillOp o = false := by unfold stillOp; rw [ho]
  have hv : ∀ b, mkVal o b = .slice (some ⟨b, 0, none⟩) 1 1 := fun b => by unfold mkVal; rw [ho]
  refine wpF_make (.cells #[.int .u64 (vF y.A), .int .u64 (vF y.B)] 27) hs hm hw (fun W => ?_) (fun b V hb hg _ => ?_)
  · rw [hv]
    exact run_buildE y ho hx W
  · rw [hv]
    exact h b V hb (Row.slc (xs := [y]) hg rfl (by omega) (by omega))
theorem wpF_exts2 {o : Oper} {l : List Oper} {a : Act} {w : World} {p q : Operand} (y z : E2) (ho : o.op = .buildSlice 22 2 #[(0, p), (1, q)]) (hp : a.eval p = .agg #[.int .u64 (vF y.A), .int .u64 (vF y.B)]) (hq : a.eval q = .agg #[.int .u64 (vF z.A), .int .u64 (vF z.B)]) (hw : Region.wanted o (yielded ops a.tmps) = true)
    (h : ∀ b V, Below w.heap.size w V → Sl V (some ⟨b, 0, none⟩) 2 2 [y, z] → wpF Try.prog ops w0 Q l (a.put o.dst (.slice (some ⟨b, 0, none⟩) 2 2)) V) : wpF Try.prog ops w0 Q (o :: l) a w := by
  have hm : makerOp o = true := by unfold makerOp; rw [ho]
  have hs : stillOp o = false := by unfold stillOp; rw [ho]
  have hv : ∀ b, mkVal o b = .slice (some ⟨b, 0, none⟩) 2 2 := fun b => by unfold mkVal; rw [ho]
  refine wpF_make (.cells #[.int .u64 (vF y.A), .int .u64 (vF y.B), .int .u64 (vF z.A), .int .u64 (vF z.B)] 27) hs hm hw (fun W => ?_) (fun b V hb hg _ => ?_)
  · rw [hv]
    exact run_buildE2 y z ho hp hq W
  · rw [hv]
    exact h b V hb (Row.slc (xs := [y, z]) hg rfl (by omega) (by omega))
theorem wpF_len {o : Oper} {l : List Oper} {a : Act} {w : World} {x : Operand} {ts : Array TypeId} (A : Option Addr) (n c : Nat) (ho : o.op = .call { callee := .builtin .len, args := #[x], argTypes := ts }) (hx : a.eval x = .slice A n c) (hr : ∀ W, (Builtin.len_ ts o.type #[.slice A n c]).run Try.prog W = .ok (.int .i64 n) W) (hw : Region.wanted o (yielded ops a.tmps) = true) (hS : SL w0 w)
    (h : ∀ V, Below w.heap.size w V → wpF Try.prog ops w0 Q l (a.put o.dst (.int .i64 n)) V) : wpF Try.prog ops w0 Q (o :: l) a w := by
  have hm : makerOp o = false := by unfold makerOp; rw [ho]
  have hs : stillOp o = false := by unfold stillOp; rw [ho]
  refine wpF_val (.int .i64 n) hs hm hw (fun W => ?_) hS h
  have e : (execOp a.eval o).run Try.prog W = ((Builtin.len_ ts o.type #[a.eval x]).run Try.prog W).andThen fun v w' => .ok (.value v) w' := by
    unfold execOp
    rw [ho]
    go_simp
  rw [e, hx, hr W]
  rfl
theorem rFromNd_any (n : Int) (w : World) (h0 : -9223372036854775808 ≤ n) (h1 : n < 9223372036854775808) :
    Calls Try.prog 47 #[.int .i64 n] w fun e w' => e = .returned (.agg #[.int .u64 (vF (ndZ n).A), .int .u64 (vF (ndZ n).B)]) ∧ Below w.heap.size w w' := rFromInt_any n w h0 h1
theorem Sl.cast {w : World} {A : Option Addr} {n c : Nat} {xs ys : List E2} (h : Sl w A n c xs) (e : xs = ys) : Sl w A n c ys := e ▸ h
theorem run_eqE_same (x : E2) (w : World) : (binOp .eql 27 (.agg #[.int .u64 (vF x.A), .int .u64 (vF x.B)]) (.agg #[.int .u64 (vF x.A), .int .u64 (vF x.B)])).run Try.prog w = .ok (.bool true) w := by
  have h := run_eqlE x x w
  rw [decide_eq_true rfl] at h
  exact h
end Go.Proofs.Ytipbfonlcmegdaa
