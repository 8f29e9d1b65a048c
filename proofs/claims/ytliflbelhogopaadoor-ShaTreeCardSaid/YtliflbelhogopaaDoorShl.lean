/- Contracts of package sha256: Pair. -/
import Derived.Test.YtliflbelhogopaaDoorShk
namespace Go.Proofs.YtliflbelhogopaaDoor
set_option maxRecDepth 8000
open Go.RowKit
attribute [local simp] z32_ne z32_run
attribute [-simp] Tryd.zeroValue26 Tryd.isAgg26 Tryd.sizeOf26
theorem run_buildB1 {ev : Operand → Value} {o : Oper} {x : Operand} (y : Nat) (ho : o.op = .buildSlice 22 1 #[(0, x)]) (hx : ev x = .int .u8 (y : Int)) (w : World) :
    (execOp ev o).run Tryd.prog w = .ok (.value (.slice (some ⟨w.heap.size, 0, none⟩) 1 1)) (w.alloc (.cells #[.int .u8 (y : Int)] 5)) := by
  unfold execOp
  rw [ho]
  simp only [List.map_toArray, List.map_cons, List.map_nil, hx]
  go_simp
theorem run_sliceD {ev : Operand → Value} {o : Oper} {x : Operand} (g : Nat) (ho : o.op = .slice 26 x none none none) (hx : ev x = .pointer (some ⟨g, 0, none⟩)) (w : World) :
    (execOp ev o).run Tryd.prog w = .ok (.value (.slice (some ⟨g, 0, none⟩) 32 32)) w := by
  unfold execOp
  rw [ho]
  simp only [hx]
  go_simp
set_option maxHeartbeats 2000000 in
theorem pair_any (x y : List Nat) (w : World) (hx : x.length = 32) (hy : y.length = 32) (hxb : ∀ z ∈ x, z < 256) (hyb : ∀ z ∈ y, z < 256) (hG : Gl w) (R : List Nat) (hR : shaN (1 :: (x ++ y)) = R) :
    Calls Tryd.prog 17 #[.agg (celB x).toArray, .agg (celB y).toArray] w fun e w' => e = .returned (.agg (celB R).toArray) ∧ Below w.heap.size w w' := by
  have hl : R.length = 32 := by rw [← hR]; exact shaN_length _
  have HR := Lib.hid hR
  have HG := Lib.hid hG
  have HXL := Lib.hid hx
  have HYL := Lib.hid hy
  have HXB := Lib.hid hxb
  have HYB := Lib.hid hyb
  clear hR hG hx hy hxb hyb
  go_enter Tryd.func17, Tryd.ntmps17
  go_upto_region 1 with fail
  refine wp_named3 (fun w1 hb1 g0 g1 g2 hlt1 => ?_)
  have H0 : Hid (RowB w1 26 w.heap.size x) := Lib.hid g0
  have H1 : Hid (RowB w1 26 (w.heap.size + 1) y) := Lib.hid g1
  have H2 : Hid (RowB w1 26 (w.heap.size + 1 + 1) (List.replicate 32 0)) := Lib.hid g2
  have HB1 := Lib.hid hb1
  clear g0 g1 g2 hb1
  refine wp_held_tailB 5 (w.heap.size + 1 + 1) (by kernel_rfl) (lexOK_of (by kernel_rfl) (by kernel_rfl)) (chainOK_of (by kernel_rfl)) rfl (by kernel_rfl) (by kernel_rfl) (fun W0 hbW hSW => ?_)
  have H00 := Lib.hid (H0.out.keep hbW)
  have H10 := Lib.hid (H1.out.keep hbW)
  have H20 := Lib.hid (H2.out.keep hbW)
  have HB0 := Lib.hid (bel_step HB1.out hbW)
  have HSS := Lib.hid hSW
  have hz0 : w.heap.size + 1 + 1 < W0.heap.size := by have := hbW.size; omega
  clear hbW hSW H0 H1 H2 HB1
  have hb2 : Below W0.heap.size W0 (W0.alloc (.cells #[.int .u8 ((1 : Nat) : Int)] 5)) := (Below.refl _ _).alloc (Nat.le_refl _) _
  refine wpHeld_run _ _ (by kernel_rfl) (by kernel_rfl) (run_buildB1 1 rfl rfl _) (LaterB.step HSS.out (hb2.mono (by omega))) ?_
  simp only [List.take_succ_cons, List.take_zero, List.drop_succ_cons, List.drop_zero, Act.put, List.setIfInBounds_toArray, List.set_cons_zero, List.set_cons_succ]
  have HO := Lib.hid (show RowB (W0.alloc (.cells #[.int .u8 ((1 : Nat) : Int)] 5)) 5 W0.heap.size [1] from heap_new W0 _)
  have H01 := Lib.hid (H00.out.keep hb2)
  have H11 := Lib.hid (H10.out.keep hb2)
  have H21 := Lib.hid (H20.out.keep hb2)
  have HB2 := Lib.hid (bel_step HB0.out hb2)
  have HS2 := Lib.hid (LaterB.step HSS.out (hb2.mono (by omega)))
  have hz2 := hb2.size
  clear hb2 H00 H10 H20 HB0 HSS
  generalize W0.alloc (.cells #[.int .u8 ((1 : Nat) : Int)] 5) = W2 at *
  refine wpHeld_seg 2 HS2.out (by kernel_rfl) ?_
  simp only [List.take_succ_cons, List.take_zero, List.drop_succ_cons, List.drop_zero]
  refine wpQuiet_val (by kernel_rfl) _ (fun v _ => run_sliceD w.heap.size rfl rfl v) ?_
  simp only [Act.put, List.setIfInBounds_toArray, List.set_cons_zero, List.set_cons_succ]
  refine wpQuiet_val (by kernel_rfl) _ (fun v _ => run_sliceD (w.heap.size + 1) rfl rfl v) ?_
  simp only [Act.put, List.setIfInBounds_toArray, List.set_cons_zero, List.set_cons_succ]
  refine wpQuiet_nil ?_
  have hb3 : Below W2.heap.size W2 (W2.alloc (.cells #[.slice (some ⟨W0.heap.size, 0, none⟩) 1 1, .slice (some ⟨w.heap.size, 0, none⟩) 32 32, .slice (some ⟨w.heap.size + 1, 0, none⟩) 32 32] 22)) := (Below.refl _ _).alloc (Nat.le_refl _) _
  refine wpHeld_run _ _ (by kernel_rfl) (by kernel_rfl) (run_buildP3 _ _ _ _ _ _ _ _ _ rfl rfl rfl rfl _) (LaterB.step HS2.out (hb3.mono (by omega))) ?_
  simp only [Act.put, List.setIfInBounds_toArray, List.set_cons_zero, List.set_cons_succ]
  have hrow := heap_new W2 (.cells #[.slice (some ⟨W0.heap.size, 0, none⟩) 1 1, .slice (some ⟨w.heap.size, 0, none⟩) 32 32, .slice (some ⟨w.heap.size + 1, 0, none⟩) 32 32] 22)
  have hs1 := (HO.out.keep hb3).all (n := 1) (c := 1) (by decide) rfl (Nat.le_refl _) (by omega)
  have hs2 := (H01.out.keep hb3).all (n := 32) (c := 32) HXB.out HXL.out.symm (Nat.le_refl _) (by omega)
  have hs3 := (H11.out.keep hb3).all (n := 32) (c := 32) HYB.out HYL.out.symm (Nat.le_refl _) (by omega)
  have H22 := Lib.hid (H21.out.keep hb3)
  have HB3 := Lib.hid (bel_step HB2.out hb3)
  have HS3 := Lib.hid (LaterB.step HS2.out (hb3.mono (show w.heap.size + 1 + 1 ≤ W2.heap.size by omega)))
  have hz3 := hb3.size
  clear hb3
  generalize W2.alloc (.cells #[.slice (some ⟨W0.heap.size, 0, none⟩) 1 1, .slice (some ⟨w.heap.size, 0, none⟩) 32 32, .slice (some ⟨w.heap.size + 1, 0, none⟩) 32 32] 22) = W3 at *
  refine wpHeld_call 31 Tryd.func31 (by kernel_rfl) (by kernel_rfl) _ _ #[.slice (some ⟨W2.heap.size, 0, none⟩) 3 3] rfl (by kernel_rfl) (by kernel_rfl) ?_
  refine (hash3 W2.heap.size _ 1 1 _ 32 32 _ 32 32 [1] x y W3 hrow hs1 hs2 hs3 (by omega) (HG.out.keep HB3.out) R HR.out).mono ?_
  rintro e W4 ⟨rfl, hb4⟩
  have H23 := Lib.hid (H22.out.keep hb4)
  have HB4 := Lib.hid (bel_step HB3.out hb4)
  have HS4 := Lib.hid (LaterB.step HS3.out (hb4.mono (show w.heap.size + 1 + 1 ≤ W3.heap.size by omega)))
  clear hb4
  refine ⟨_, rfl, HS4.out, ?_⟩
  simp only [Act.put, List.setIfInBounds_toArray, List.set_cons_zero, List.set_cons_succ]
  refine wpHeld_nil ?_
  refine mOp_run0 _ rfl rfl (exec_storeD hl (List.length_replicate) H23.out rfl rfl rfl) ?_
  go_wp2_with fail
  refine bodyPost_ret (v := .agg (celB R).toArray) ?_ rfl ⟨rfl, bel_setRow HB4.out (by omega) _⟩
  exact results_cell_row rfl _ _ (w.heap.size + 1 + 1) 26 _ (0, 0) _ rfl (H23.out.row R) Tryd.underlying26 rfl (dig_size hl)
end Go.Proofs.YtliflbelhogopaaDoor
