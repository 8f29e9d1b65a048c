/- The reference's constants. -/
import Derived.Test.YtliflbelhogopaaDoorSho
namespace Go.Proofs.YtliflbelhogopaaDoor
set_option maxRecDepth 8000
open Go.RowKit
attribute [local simp] z64_ne z64_run
attribute [-simp] Tryd.zeroValue53 Tryd.isAgg53 Tryd.sizeOf53
def kA : Array Value := (celW kN).toArray
set_option maxRecDepth 100000 in
theorem rconst_any (w : World) :
    Calls Tryd.prog 34 #[] w fun e w' => e = .returned (.agg kA) ∧ Below w.heap.size w w' := by
  go_enter Tryd.func34, Tryd.ntmps34
  go_upto_region 1 with fail
  refine wp_named1 (fun w1 hb1 g0 hlt1 => ?_)
  have H0 : Hid (RowW w1 53 w.heap.size (List.replicate 64 0)) := Lib.hid g0
  refine wp_region_lit ?_
  refine wpList_val rfl (.agg kA) w1 (by kernel_rfl) ?_
  refine wpList_skip0 rfl (w1.setRow w.heap.size kA) (exec_storeRow w.heap.size (celW (List.replicate 64 0)).toArray kA rfl rfl rfl H0.out (by kernel_rfl) (by kernel_rfl) (by kernel_rfl)) ?_
  refine wpList_nil ?_
  simp only [Act.put, List.setIfInBounds_toArray, List.set_cons_zero, List.set_cons_succ]
  have H1 := Lib.hid (show RowW (w1.setRow w.heap.size kA) 53 w.heap.size kN from H0.out.row kN)
  have HB1 := Lib.hid (bel_setRow hb1 (Nat.le_refl _) kA)
  clear hb1 g0 hlt1 H0
  generalize w1.setRow w.heap.size kA = w2 at *
  go_wp2_with fail
  refine bodyPost_ret (v := .agg kA) ?_ rfl ⟨rfl, HB1.out⟩
  exact results_cell_row rfl _ _ w.heap.size 53 _ (0, 0) _ rfl H1.out Tryd.underlying53 rfl (by kernel_rfl)
attribute [-simp] Tryd.isAgg36 Tryd.sizeOf36
theorem rinitial_any (w : World) :
    Calls Tryd.prog 23 #[] w fun e w' => e = .returned (.agg (celW (chL ch0)).toArray) ∧ Below w.heap.size w w' := by
  go_enter Tryd.func23, Tryd.ntmps23
  go_upto_region 1 with fail
  refine wp_named1 (fun w1 hb1 g0 hlt1 => ?_)
  have H0 : Hid (RowW w1 36 w.heap.size [0, 0, 0, 0, 0, 0, 0, 0]) := Lib.hid g0
  refine wp_region_lit ?_
  refine wpList_val rfl (.agg (celW (chL ch0)).toArray) w1 (by kernel_rfl) ?_
  refine wpList_skip0 rfl (w1.setRow w.heap.size (celW (chL ch0)).toArray) (exec_storeRow w.heap.size (celW [0, 0, 0, 0, 0, 0, 0, 0]).toArray _ rfl rfl rfl H0.out (by kernel_rfl) (by kernel_rfl) (by kernel_rfl)) ?_
  refine wpList_nil ?_
  simp only [Act.put, List.setIfInBounds_toArray, List.set_cons_zero, List.set_cons_succ]
  have H1 := Lib.hid (H0.out.row (chL ch0))
  have HB1 := Lib.hid (bel_setRow hb1 (Nat.le_refl _) (celW (chL ch0)).toArray)
  clear hb1 g0 hlt1 H0
  generalize w1.setRow w.heap.size (celW (chL ch0)).toArray = w2 at *
  go_wp2_with fail
  refine bodyPost_ret (v := .agg (celW (chL ch0)).toArray) ?_ rfl ⟨rfl, HB1.out⟩
  exact results_cell_row rfl _ _ w.heap.size 36 _ (0, 0) _ rfl H1.out Tryd.underlying36 rfl (by kernel_rfl)
end Go.Proofs.YtliflbelhogopaaDoor
