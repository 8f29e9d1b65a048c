/- Several texts in one: Trg, Trh, Gold, Fe, FieldA, Tri, Trj. -/
import Derived.Test.YtcaoajeplinopaaDoorH08
import Derived.Test.YtcaoajeplinopaaDoorProg
import Derived.WalkKit
import Derived.WalkSpells
import Derived.WalkSmall
import Derived.Laws.MathBits
import Derived.Maps.RangeWalk
import Derived.Maps.OwnSet
namespace Go.Proofs.YtcaoajeplinopaaDoor
set_option linter.unusedVariables false
set_option linter.unusedSimpArgs false
set_option maxRecDepth 8000
open Go.RowKit
attribute [local simp] z32_ne z32_run
attribute [-simp] Tryd.zeroValue30 Tryd.isAgg30 Tryd.sizeOf30
attribute [-simp] Tryd.zeroValue32 Tryd.isAgg32 Tryd.sizeOf32
attribute [local simp] z33_ne z33_run
attribute [local irreducible] wpList
section
variable {ev : Operand → Value} {o : Oper}
theorem exec_lenB {x : Operand} (A : Option Addr) (n c : Nat) (ho : o.op = .call { callee := .builtin .len, args := #[x], argTypes := #[22] }) (hx : ev x = .slice A n c) (w : World) :
    (execOp ev o).run Tryd.prog w = .ok (.value (.int .i64 (n : Int))) w := by
  unfold execOp
  simp only [ho]
  go_simp
theorem exec_cvtN {x : Operand} (n : Nat) (hn : n ≤ 9223372036854775807) (w : World) (ho : o.op = .convert 3 25 x) (hx : ev x = .int .i64 (n : Int)) : (execOp ev o).run Tryd.prog w = .ok (.value (.int .u64 (n : Int))) w := by
  have h : IntKind.u64.wrap (n : Int) = (n : Int) := by rw [IntKind.wrap_u64]; omega
  unfold execOp
  simp only [ho, hx]
  go_simp
theorem run_buildB1' {x : Operand} (u : Nat) (ho : o.op = .buildSlice 22 1 #[(0, x)]) (hx : ev x = .int .u8 (u : Int)) (w : World) :
    (execOp ev o).run Tryd.prog w = .ok (.value (.slice (some ⟨w.heap.size, 0, none⟩) 1 1)) (w.alloc (.cells #[.int .u8 (u : Int)] 5)) := by
  unfold execOp
  rw [ho]
  simp only [List.map_toArray, List.map_cons, List.map_nil, hx]
  go_simp
end
theorem sb_cells1 {w : World} {b : Nat} {t : TypeId} {u : Nat} (hu : u < 256) (h : w.heap[b]? = some (.cells #[.int .u8 (u : Int)] t (0, 0))) : Sb w (some ⟨b, 0, none⟩) 1 1 [u] :=
  RowB.all (t := t) (bs := [u]) h (fun x hx => by simp at hx; subst hx; exact hu) rfl (Nat.le_refl _) (by omega)
theorem laterF {w0 v : World} (hv : ∃ x : Later w0, v = x.at) : Below w0.heap.size w0 v := by
  obtain ⟨x, rfl⟩ := hv
  exact x.below
set_option maxHeartbeats 4000000 in
theorem rtagged_any (s : List Nat) (c mk : Nat) (lb : ByteArray) (w : World) (hl : s.length = 32) (hsb : ∀ x ∈ s, x < 256) (hmk : mk < 256) (hlb : lb.size ≤ 200) :
    Calls Tryd.prog 48 #[.agg (trC s c), .int .u8 (mk : Int), .string lb] w fun e w' => ∃ C f, e = .returned (.slice C (34 + lb.size) f) ∧ Sb w' C (34 + lb.size) f (s ++ ([mk, lb.size] ++ bytS lb)) ∧ Below w.heap.size w w' := by
  have HDs := Lib.hid (show s.length = 32 ∧ ∀ x ∈ s, x < 256 from ⟨hl, hsb⟩)
  clear hl hsb
  go_enter Tryd.func48, Tryd.ntmps48
  go_upto_region 1 with fail
  refine wp_named1 (fun V1 hb g0 hlt => ?_)
  have B0 := Lib.hid hb
  have F3 : Hid (RowT V1 w.heap.size s c) := Lib.hid g0
  clear hb g0 hlt
  refine wp_region_lit ?_
  refine wpList_run (by kernel_rfl) (.pointer (some ⟨w.heap.size, 0, none⟩)) V1 (exec_fT0 w.heap.size rfl rfl V1) ?_
  simp only [Act.put, List.setIfInBounds_toArray, List.set_cons_zero, List.set_cons_succ]
  refine wpList_run (by kernel_rfl) (.agg (celB s).toArray) V1 (exec_loadTs w.heap.size s c HDs.out.1 F3.out rfl rfl) ?_
  simp only [Act.put, List.setIfInBounds_toArray, List.set_cons_zero, List.set_cons_succ]
  refine wpList_call (by kernel_rfl) 34 Tryd.func34 (by kernel_rfl) (by kernel_rfl) _ _ #[.agg (celB s).toArray] rfl (by kernel_rfl) ?_
  refine (rbytes_any s V1 HDs.out.1 HDs.out.2).mono ?_
  rintro e V2 ⟨C1, f1, rfl, hs, hb⟩
  have B1 := Lib.hid hb
  have J1 := Lib.hid hs
  clear hb hs
  refine ⟨_, rfl, ?_⟩
  simp only [Act.put, List.setIfInBounds_toArray, List.set_cons_zero, List.set_cons_succ]
  refine wpList_run (by kernel_rfl) (.int .u8 ((mk : Nat) : Int)) V2 rfl ?_
  simp only [Act.put, List.setIfInBounds_toArray, List.set_cons_zero, List.set_cons_succ]
  refine wpList_run (by kernel_rfl) (.string lb) V2 rfl ?_
  simp only [Act.put, List.setIfInBounds_toArray, List.set_cons_zero, List.set_cons_succ]
  refine wpList_run (by kernel_rfl) (.int .i64 ((lb.size : Nat) : Int)) V2 (exec_lenS lb rfl rfl V2) ?_
  simp only [Act.put, List.setIfInBounds_toArray, List.set_cons_zero, List.set_cons_succ]
  refine wpList_run (by kernel_rfl) (.int .u8 ((lb.size : Nat) : Int)) V2 (exec_cvtL lb.size (by omega) V2 rfl rfl) ?_
  simp only [Act.put, List.setIfInBounds_toArray, List.set_cons_zero, List.set_cons_succ]
  refine wpList_mk (by kernel_rfl) #[.int .u8 ((mk : Nat) : Int), .int .u8 ((lb.size : Nat) : Int)] 5 2 2 (run_buildB2 mk lb.size rfl rfl rfl _) ?_
  intro g15 V3 hge h0 hb
  have B2 := Lib.hid hb
  have M15 := Lib.hid (sb_cells2 (by omega) (by omega) h0)
  clear hge h0 hb
  simp only [Act.put, List.setIfInBounds_toArray, List.set_cons_zero, List.set_cons_succ]
  refine wpList_call (by kernel_rfl) 32 Tryd.func32 (by kernel_rfl) (by kernel_rfl) _ _ #[.slice C1 32 f1, .slice (some ⟨g15, 0, none⟩) 2 2] rfl (by kernel_rfl) ?_
  refine (rjoin_any C1 32 f1 s (some ⟨g15, 0, none⟩) 2 2 [mk, lb.size] V3 (J1.out.keep B2.out) M15.out (by omega)).mono ?_
  rintro e V4 ⟨C3, f3, rfl, hs, hb⟩
  have B3 := Lib.hid hb
  have J3 := Lib.hid hs
  clear hb hs
  refine ⟨_, rfl, ?_⟩
  simp only [Act.put, List.setIfInBounds_toArray, List.set_cons_zero, List.set_cons_succ]
  refine wpList_run (by kernel_rfl) (.slice C3 (32 + 2) f3) V4 rfl ?_
  simp only [Act.put, List.setIfInBounds_toArray, List.set_cons_zero, List.set_cons_succ]
  refine wpList_nil ?_
  go_upto_region 2 with fail
  refine wp_region_lit ?_
  refine wpList_run (by kernel_rfl) (.slice C3 (32 + 2) f3) V4 rfl ?_
  simp only [Act.put, List.setIfInBounds_toArray, List.set_cons_zero, List.set_cons_succ]
  refine wpList_run (by kernel_rfl) (.string lb) V4 rfl ?_
  simp only [Act.put, List.setIfInBounds_toArray, List.set_cons_zero, List.set_cons_succ]
  refine wpList_convS (by kernel_rfl) lb (by omega) rfl rfl ?_
  intro g19 c19 V5 hge h0 hb
  have B4 := Lib.hid hb
  have M19 := Lib.hid h0
  clear hge h0 hb
  simp only [Act.put, List.setIfInBounds_toArray, List.set_cons_zero, List.set_cons_succ]
  refine wpList_call (by kernel_rfl) 32 Tryd.func32 (by kernel_rfl) (by kernel_rfl) _ _ #[.slice C3 (32 + 2) f3, .slice (some ⟨g19, 0, none⟩) lb.size c19] rfl (by kernel_rfl) ?_
  refine (rjoin_any C3 (32 + 2) f3 (s ++ [mk, lb.size]) (some ⟨g19, 0, none⟩) lb.size c19 (bytS lb) V5 (J3.out.keep B4.out) M19.out (by omega)).mono ?_
  rintro e V6 ⟨C5, f5, rfl, hs, hb⟩
  have B5 := Lib.hid hb
  have J5 := Lib.hid hs
  clear hb hs
  refine ⟨_, rfl, ?_⟩
  simp only [Act.put, List.setIfInBounds_toArray, List.set_cons_zero, List.set_cons_succ]
  refine wpList_run (by kernel_rfl) (.slice C5 ((32 + 2) + lb.size) f5) V6 rfl ?_
  simp only [Act.put, List.setIfInBounds_toArray, List.set_cons_zero, List.set_cons_succ]
  refine wpList_nil ?_
  go_wp2_with fail
  go_ret
  have hk := J5.out
  rw [show 32 + 2 + lb.size = 34 + lb.size by omega, List.append_assoc] at hk
  have C0_2 := Lib.hid (bel_step B0.out B1.out)
  have C0_3 := Lib.hid (bel_step C0_2.out B2.out)
  have C0_4 := Lib.hid (bel_step C0_3.out B3.out)
  have C0_5 := Lib.hid (bel_step C0_4.out B4.out)
  have C0_6 := Lib.hid (bel_step C0_5.out B5.out)
  exact ⟨_, _, by rw [show 32 + 2 + lb.size = 34 + lb.size by omega]; rfl, hk, C0_6.out⟩
set_option maxHeartbeats 4000000 in
theorem new_any (lb : ByteArray) (w : World) (hlb : lb.size ≤ 200) (hG : Gl w) (D : List Nat) (hD : shaN ([97, 116, 116, 101, 115, 116, 111, 114, 0] ++ bytS lb) = D) :
    Calls Tryd.prog 15 #[.string lb] w fun e w' => e = .returned (.agg (trC D 0)) ∧ Below w.heap.size w w' := by
  have HD := Lib.hid (show D.length = 32 ∧ ∀ x ∈ D, x < 256 by rw [← hD]; exact ⟨shaN_length _, shaN_lt _⟩)
  have HE := Lib.hid hD
  clear hD
  have HG := Lib.hid hG
  clear hG
  go_enter Tryd.func15, Tryd.ntmps15
  go_upto_region 1 with fail
  refine wp_named1 (fun V1 hb g0 hlt => ?_)
  have B0 := Lib.hid hb
  have FO : Hid (RowT V1 w.heap.size (List.replicate 32 0) 0) := Lib.hid g0
  clear hb g0 hlt
  refine wp_region_lit ?_
  refine wpList_constB [97, 116, 116, 101, 115, 116, 111, 114] 8 rfl (by decide) (by omega) (by kernel_rfl) (by unfold execOp; go_simp; rfl) (by kernel_rfl) rfl rfl ?_
  intro g4 V2 hge h0 hb
  have B1 := Lib.hid hb
  have M4 := Lib.hid h0
  clear hge h0 hb
  simp only [Act.put, List.setIfInBounds_toArray, List.set_cons_zero, List.set_cons_succ]
  refine wpList_mk (by kernel_rfl) #[.int .u8 ((0 : Nat) : Int)] 5 1 1 (run_buildB1 0 rfl rfl _) ?_
  intro g5 V3 hge h0 hb
  have B2 := Lib.hid hb
  have M5 := Lib.hid (sb_cells1 (by omega) h0)
  clear hge h0 hb
  simp only [Act.put, List.setIfInBounds_toArray, List.set_cons_zero, List.set_cons_succ]
  refine wpList_run (by kernel_rfl) (.string lb) V3 rfl ?_
  simp only [Act.put, List.setIfInBounds_toArray, List.set_cons_zero, List.set_cons_succ]
  refine wpList_convS (by kernel_rfl) lb (by omega) rfl rfl ?_
  intro g7 c7 V4 hge h0 hb
  have B3 := Lib.hid hb
  have M7 := Lib.hid h0
  clear hge h0 hb
  simp only [Act.put, List.setIfInBounds_toArray, List.set_cons_zero, List.set_cons_succ]
  refine wpList_mk (by kernel_rfl) #[.slice (some ⟨g4, 0, none⟩) 8 8, .slice (some ⟨g5, 0, none⟩) 1 1, .slice (some ⟨g7, 0, none⟩) lb.size c7] 22 3 3 (run_buildP3 _ _ _ _ _ _ _ _ _ rfl rfl rfl rfl V4) ?_
  intro g8 V5 hbz h0 hb
  have B4 := Lib.hid hb
  have M8 := Lib.hid h0
  have C2_4 := Lib.hid (bel_step B2.out B3.out)
  have C2_5 := Lib.hid (bel_step C2_4.out B4.out)
  have C3_5 := Lib.hid (bel_step B3.out B4.out)
  have R8 : Hid (ReadsP V5 [.slice (some ⟨g4, 0, none⟩) 8 8, .slice (some ⟨g5, 0, none⟩) 1 1, .slice (some ⟨g7, 0, none⟩) lb.size c7] [[97, 116, 116, 101, 115, 116, 111, 114], [0], (bytS lb)]) := Lib.hid (.cons (M4.out.keep C2_5.out) (.cons (M5.out.keep C3_5.out) (.cons (M7.out.keep B4.out) (.nil _))))
  clear hb h0 hbz
  simp only [Act.put, List.setIfInBounds_toArray, List.set_cons_zero, List.set_cons_succ]
  have hsum : sumL [[97, 116, 116, 101, 115, 116, 111, 114], [0], (bytS lb)] = 9 + lb.size := by unfold sumL; simp [bytS_length]; omega
  refine wpList_call (by kernel_rfl) 45 Tryd.func45 (by kernel_rfl) (by kernel_rfl) _ _ #[.slice (some ⟨g8, 0, none⟩) 3 3] rfl (by kernel_rfl) ?_
  refine (tjoin_any _ _ _ _ V5 (R8.out.pb M8.out rfl (by simp)) (by simp) (by rw [hsum]; omega)).mono ?_
  rintro e V6 ⟨C5, f5, rfl, hs, hb⟩
  have B5 := Lib.hid hb
  rw [hsum] at hs
  have J5 := Lib.hid hs
  clear hb hs
  refine ⟨_, rfl, ?_⟩
  simp only [Act.put, List.setIfInBounds_toArray, List.set_cons_zero, List.set_cons_succ]
  have C0_2 := Lib.hid (bel_step B0.out B1.out)
  have C0_3 := Lib.hid (bel_step C0_2.out B2.out)
  have C0_4 := Lib.hid (bel_step C0_3.out B3.out)
  have C0_5 := Lib.hid (bel_step C0_4.out B4.out)
  have C0_6 := Lib.hid (bel_step C0_5.out B5.out)
  refine wpList_call (by kernel_rfl) 44 Tryd.func44 (by kernel_rfl) (by kernel_rfl) _ _ #[.slice C5 (sumL [[97, 116, 116, 101, 115, 116, 111, 114], [0], (bytS lb)]) f5] rfl (by kernel_rfl) ?_
  refine (sum_any C5 _ f5 _ V6 (by rw [hsum]; exact J5.out) (by rw [hsum]; omega) (HG.out.keep C0_6.out) D (by rw [← HE.out]; simp)).mono ?_
  rintro e V7 ⟨rfl, hb⟩
  have B6 := Lib.hid hb
  clear hb 
  refine ⟨_, rfl, ?_⟩
  simp only [Act.put, List.setIfInBounds_toArray, List.set_cons_zero, List.set_cons_succ]
  refine wpList_run (by kernel_rfl) (.agg (trC D 0)) V7 (exec_buildT1 D HD.out.1 rfl rfl V7) ?_
  simp only [Act.put, List.setIfInBounds_toArray, List.set_cons_zero, List.set_cons_succ]
  have C1_3 := Lib.hid (bel_step B1.out B2.out)
  have C1_4 := Lib.hid (bel_step C1_3.out B3.out)
  have C1_5 := Lib.hid (bel_step C1_4.out B4.out)
  have C1_6 := Lib.hid (bel_step C1_5.out B5.out)
  have C1_7 := Lib.hid (bel_step C1_6.out B6.out)
  refine wpList_run0 (by kernel_rfl) _ (exec_storeT w.heap.size (List.replicate 32 0) 0 D 0 List.length_replicate HD.out.1 (FO.out.keep C1_7.out) rfl rfl rfl) ?_
  simp only [Act.put, List.setIfInBounds_toArray, List.set_cons_zero, List.set_cons_succ]
  refine wpList_nil ?_
  go_wp2_with fail
  have C0_7 := Lib.hid (bel_step C0_6.out B6.out)
  refine bodyPost_ret (v := .agg (trC D 0)) ?_ rfl ⟨rfl, bel_setRow C0_7.out (by omega) _⟩
  exact results_cell_row rfl _ _ w.heap.size 32 _ (0, 0) _ rfl ((FO.out.keep C1_7.out).row D 0) Tryd.underlying32 rfl (trC_info HD.out.1 0)
set_option maxHeartbeats 4000000 in
theorem rnew_any (lb : ByteArray) (w : World) (hlb : lb.size ≤ 200) (D : List Nat) (hD : shaN ([97, 116, 116, 101, 115, 116, 111, 114, 0] ++ bytS lb) = D) :
    Calls Tryd.prog 16 #[.string lb] w fun e w' => e = .returned (.agg (trC D 0)) ∧ Below w.heap.size w w' := by
  have HD := Lib.hid (show D.length = 32 ∧ ∀ x ∈ D, x < 256 by rw [← hD]; exact ⟨shaN_length _, shaN_lt _⟩)
  have HE := Lib.hid hD
  clear hD
  go_enter Tryd.func16, Tryd.ntmps16
  go_upto_region 1 with fail
  refine wp_named1 (fun V1 hb g0 hlt => ?_)
  have B0 := Lib.hid hb
  have FO : Hid (RowT V1 w.heap.size (List.replicate 32 0) 0) := Lib.hid g0
  clear hb g0 hlt
  refine wp_region_lit ?_
  refine wpList_constB [97, 116, 116, 101, 115, 116, 111, 114, 0] 9 rfl (by decide) (by omega) (by kernel_rfl) (by unfold execOp; go_simp; rfl) (by kernel_rfl) rfl rfl ?_
  intro g4 V2 hge h0 hb
  have B1 := Lib.hid hb
  have M4 := Lib.hid h0
  clear hge h0 hb
  simp only [Act.put, List.setIfInBounds_toArray, List.set_cons_zero, List.set_cons_succ]
  refine wpList_run (by kernel_rfl) (.string lb) V2 rfl ?_
  simp only [Act.put, List.setIfInBounds_toArray, List.set_cons_zero, List.set_cons_succ]
  refine wpList_convS (by kernel_rfl) lb (by omega) rfl rfl ?_
  intro g6 c6 V3 hge h0 hb
  have B2 := Lib.hid hb
  have M6 := Lib.hid h0
  clear hge h0 hb
  simp only [Act.put, List.setIfInBounds_toArray, List.set_cons_zero, List.set_cons_succ]
  refine wpList_call (by kernel_rfl) 32 Tryd.func32 (by kernel_rfl) (by kernel_rfl) _ _ #[.slice (some ⟨g4, 0, none⟩) 9 9, .slice (some ⟨g6, 0, none⟩) lb.size c6] rfl (by kernel_rfl) ?_
  refine (rjoin_any (some ⟨g4, 0, none⟩) 9 9 [97, 116, 116, 101, 115, 116, 111, 114, 0] (some ⟨g6, 0, none⟩) lb.size c6 (bytS lb) V3 (M4.out.keep B2.out) M6.out (by omega)).mono ?_
  rintro e V4 ⟨C3, f3, rfl, hs, hb⟩
  have B3 := Lib.hid hb
  have J3 := Lib.hid hs
  clear hb hs
  refine ⟨_, rfl, ?_⟩
  simp only [Act.put, List.setIfInBounds_toArray, List.set_cons_zero, List.set_cons_succ]
  refine wpList_call (by kernel_rfl) 35 Tryd.func35 (by kernel_rfl) (by kernel_rfl) _ _ #[.slice C3 (9 + lb.size) f3] rfl (by kernel_rfl) ?_
  refine (rsum_any C3 (9 + lb.size) f3 ([97, 116, 116, 101, 115, 116, 111, 114, 0] ++ (bytS lb)) V4 J3.out (by omega) D (by rw [← HE.out])).mono ?_
  rintro e V5 ⟨rfl, hb⟩
  have B4 := Lib.hid hb
  clear hb 
  refine ⟨_, rfl, ?_⟩
  simp only [Act.put, List.setIfInBounds_toArray, List.set_cons_zero, List.set_cons_succ]
  refine wpList_run (by kernel_rfl) (.agg (trC D 0)) V5 (exec_buildT1 D HD.out.1 rfl rfl V5) ?_
  simp only [Act.put, List.setIfInBounds_toArray, List.set_cons_zero, List.set_cons_succ]
  have C1_3 := Lib.hid (bel_step B1.out B2.out)
  have C1_4 := Lib.hid (bel_step C1_3.out B3.out)
  have C1_5 := Lib.hid (bel_step C1_4.out B4.out)
  refine wpList_run0 (by kernel_rfl) _ (exec_storeT w.heap.size (List.replicate 32 0) 0 D 0 List.length_replicate HD.out.1 (FO.out.keep C1_5.out) rfl rfl rfl) ?_
  simp only [Act.put, List.setIfInBounds_toArray, List.set_cons_zero, List.set_cons_succ]
  refine wpList_nil ?_
  go_wp2_with fail
  have C0_2 := Lib.hid (bel_step B0.out B1.out)
  have C0_3 := Lib.hid (bel_step C0_2.out B2.out)
  have C0_4 := Lib.hid (bel_step C0_3.out B3.out)
  have C0_5 := Lib.hid (bel_step C0_4.out B4.out)
  refine bodyPost_ret (v := .agg (trC D 0)) ?_ rfl ⟨rfl, bel_setRow C0_5.out (by omega) _⟩
  exact results_cell_row rfl _ _ w.heap.size 32 _ (0, 0) _ rfl ((FO.out.keep C1_5.out).row D 0) Tryd.underlying32 rfl (trC_info HD.out.1 0)
set_option maxHeartbeats 4000000 in
theorem rabsorb_any (s : List Nat) (c : Nat) (lb : ByteArray) (A : Option Addr) (n cp : Nat) (bs : List Nat) (w : World) (hl : s.length = 32) (hsb : ∀ x ∈ s, x < 256) (hlb : lb.size ≤ 200) (h : Sb w A n cp bs) (hn : n ≤ 100000000000000) (D : List Nat) (hD : shaN (s ++ ([1, lb.size] ++ (bytS lb ++ (leN n ++ bs)))) = D) :
    Calls Tryd.prog 18 #[.agg (trC s c), .string lb, .slice A n cp] w fun e w' => e = .returned (.agg (trC D 0)) ∧ Below w.heap.size w w' := by
  have HDs := Lib.hid (show s.length = 32 ∧ ∀ x ∈ s, x < 256 from ⟨hl, hsb⟩)
  clear hl hsb
  have HD := Lib.hid (show D.length = 32 ∧ ∀ x ∈ D, x < 256 by rw [← hD]; exact ⟨shaN_length _, shaN_lt _⟩)
  have HE := Lib.hid hD
  have HB := Lib.hid h
  clear hD h
  go_enter Tryd.func18, Tryd.ntmps18
  go_upto_region 1 with fail
  refine wp_named2 (fun V1 hb g0 g1 hlt => ?_)
  have B0 := Lib.hid hb
  have F3 : Hid (RowT V1 w.heap.size s c) := Lib.hid g0
  have FO : Hid (RowT V1 (w.heap.size + 1) (List.replicate 32 0) 0) := Lib.hid g1
  clear hb g0 g1 hlt
  refine wp_region_lit ?_
  refine wpList_run (by kernel_rfl) (.agg (trC s c)) V1 (exec_loadT w.heap.size s c HDs.out.1 F3.out rfl rfl) ?_
  simp only [Act.put, List.setIfInBounds_toArray, List.set_cons_zero, List.set_cons_succ]
  refine wpList_run (by kernel_rfl) (.string lb) V1 rfl ?_
  simp only [Act.put, List.setIfInBounds_toArray, List.set_cons_zero, List.set_cons_succ]
  refine wpList_call (by kernel_rfl) 48 Tryd.func48 (by kernel_rfl) (by kernel_rfl) _ _ #[.agg (trC s c), .int .u8 ((1 : Nat) : Int), .string lb] rfl (by kernel_rfl) ?_
  refine (rtagged_any s c 1 lb V1 HDs.out.1 HDs.out.2 (by omega) (by omega)).mono ?_
  rintro e V2 ⟨C1, f1, rfl, hs, hb⟩
  have B1 := Lib.hid hb
  have J1 := Lib.hid hs
  clear hb hs
  refine ⟨_, rfl, ?_⟩
  simp only [Act.put, List.setIfInBounds_toArray, List.set_cons_zero, List.set_cons_succ]
  refine wpList_run (by kernel_rfl) (.slice A n cp) V2 rfl ?_
  simp only [Act.put, List.setIfInBounds_toArray, List.set_cons_zero, List.set_cons_succ]
  refine wpList_run (by kernel_rfl) (.int .i64 ((n : Nat) : Int)) V2 (exec_lenB A n cp rfl rfl V2) ?_
  simp only [Act.put, List.setIfInBounds_toArray, List.set_cons_zero, List.set_cons_succ]
  refine wpList_run (by kernel_rfl) (.int .u64 ((n : Nat) : Int)) V2 (exec_cvtN n (by omega) V2 rfl rfl) ?_
  simp only [Act.put, List.setIfInBounds_toArray, List.set_cons_zero, List.set_cons_succ]
  refine wpList_call (by kernel_rfl) 49 Tryd.func49 (by kernel_rfl) (by kernel_rfl) _ _ #[.int .u64 ((n : Nat) : Int)] rfl (by kernel_rfl) ?_
  refine (rword_any n V2 (by omega)).mono ?_
  rintro e V3 ⟨C2, f2, rfl, hs, hb⟩
  have B2 := Lib.hid hb
  have J2 := Lib.hid hs
  clear hb hs
  refine ⟨_, rfl, ?_⟩
  simp only [Act.put, List.setIfInBounds_toArray, List.set_cons_zero, List.set_cons_succ]
  refine wpList_call (by kernel_rfl) 32 Tryd.func32 (by kernel_rfl) (by kernel_rfl) _ _ #[.slice C1 (34 + lb.size) f1, .slice C2 8 f2] rfl (by kernel_rfl) ?_
  refine (rjoin_any C1 (34 + lb.size) f1 (s ++ ([1, lb.size] ++ bytS lb)) C2 8 f2 (leN n) V3 (J1.out.keep B2.out) J2.out (by omega)).mono ?_
  rintro e V4 ⟨C3, f3, rfl, hs, hb⟩
  have B3 := Lib.hid hb
  have J3 := Lib.hid hs
  clear hb hs
  refine ⟨_, rfl, ?_⟩
  simp only [Act.put, List.setIfInBounds_toArray, List.set_cons_zero, List.set_cons_succ]
  refine wpList_run (by kernel_rfl) (.slice C3 ((34 + lb.size) + 8) f3) V4 rfl ?_
  simp only [Act.put, List.setIfInBounds_toArray, List.set_cons_zero, List.set_cons_succ]
  refine wpList_nil ?_
  go_upto_region 2 with fail
  refine wp_region_lit ?_
  refine wpList_run (by kernel_rfl) (.slice C3 ((34 + lb.size) + 8) f3) V4 rfl ?_
  simp only [Act.put, List.setIfInBounds_toArray, List.set_cons_zero, List.set_cons_succ]
  refine wpList_run (by kernel_rfl) (.slice A n cp) V4 rfl ?_
  simp only [Act.put, List.setIfInBounds_toArray, List.set_cons_zero, List.set_cons_succ]
  have C0_2 := Lib.hid (bel_step B0.out B1.out)
  have C0_3 := Lib.hid (bel_step C0_2.out B2.out)
  have C0_4 := Lib.hid (bel_step C0_3.out B3.out)
  refine wpList_call (by kernel_rfl) 32 Tryd.func32 (by kernel_rfl) (by kernel_rfl) _ _ #[.slice C3 ((34 + lb.size) + 8) f3, .slice A n cp] rfl (by kernel_rfl) ?_
  refine (rjoin_any C3 ((34 + lb.size) + 8) f3 ((s ++ ([1, lb.size] ++ bytS lb)) ++ (leN n)) A n cp bs V4 J3.out (HB.out.keep C0_4.out) (by omega)).mono ?_
  rintro e V5 ⟨C4, f4, rfl, hs, hb⟩
  have B4 := Lib.hid hb
  have J4 := Lib.hid hs
  clear hb hs
  refine ⟨_, rfl, ?_⟩
  simp only [Act.put, List.setIfInBounds_toArray, List.set_cons_zero, List.set_cons_succ]
  refine wpList_call (by kernel_rfl) 35 Tryd.func35 (by kernel_rfl) (by kernel_rfl) _ _ #[.slice C4 (((34 + lb.size) + 8) + n) f4] rfl (by kernel_rfl) ?_
  refine (rsum_any C4 (((34 + lb.size) + 8) + n) f4 (((s ++ ([1, lb.size] ++ bytS lb)) ++ (leN n)) ++ bs) V5 J4.out (by omega) D (by rw [← HE.out]; simp)).mono ?_
  rintro e V6 ⟨rfl, hb⟩
  have B5 := Lib.hid hb
  clear hb 
  refine ⟨_, rfl, ?_⟩
  simp only [Act.put, List.setIfInBounds_toArray, List.set_cons_zero, List.set_cons_succ]
  refine wpList_run (by kernel_rfl) (.agg (trC D 0)) V6 (exec_buildT1 D HD.out.1 rfl rfl V6) ?_
  simp only [Act.put, List.setIfInBounds_toArray, List.set_cons_zero, List.set_cons_succ]
  have C1_3 := Lib.hid (bel_step B1.out B2.out)
  have C1_4 := Lib.hid (bel_step C1_3.out B3.out)
  have C1_5 := Lib.hid (bel_step C1_4.out B4.out)
  have C1_6 := Lib.hid (bel_step C1_5.out B5.out)
  refine wpList_run0 (by kernel_rfl) _ (exec_storeT (w.heap.size + 1) (List.replicate 32 0) 0 D 0 List.length_replicate HD.out.1 (FO.out.keep C1_6.out) rfl rfl rfl) ?_
  simp only [Act.put, List.setIfInBounds_toArray, List.set_cons_zero, List.set_cons_succ]
  refine wpList_nil ?_
  go_wp2_with fail
  have C0_5 := Lib.hid (bel_step C0_4.out B4.out)
  have C0_6 := Lib.hid (bel_step C0_5.out B5.out)
  refine bodyPost_ret (v := .agg (trC D 0)) ?_ rfl ⟨rfl, bel_setRow C0_6.out (by omega) _⟩
  exact results_cell_row rfl _ _ (w.heap.size + 1) 32 _ (0, 0) _ rfl ((FO.out.keep C1_6.out).row D 0) Tryd.underlying32 rfl (trC_info HD.out.1 0)
end Go.Proofs.YtcaoajeplinopaaDoor

namespace Go.Proofs.YtcaoajeplinopaaDoor
set_option linter.unusedVariables false
set_option linter.unusedSimpArgs false
set_option maxRecDepth 8000
open Go.RowKit
attribute [local simp] z32_ne z32_run
attribute [-simp] Tryd.zeroValue30 Tryd.isAgg30 Tryd.sizeOf30
attribute [-simp] Tryd.zeroValue32 Tryd.isAgg32 Tryd.sizeOf32
attribute [local simp] z33_ne z33_run
attribute [local irreducible] wpList
set_option maxHeartbeats 4000000 in
theorem absorb_any (s : List Nat) (c : Nat) (lb : ByteArray) (A : Option Addr) (n cp : Nat) (bs : List Nat) (w : World) (hl : s.length = 32) (hsb : ∀ x ∈ s, x < 256) (hlb : lb.size ≤ 200) (h : Sb w A n cp bs) (hn : n ≤ 99000000000000) (hG : Gl w) (D : List Nat) (hD : shaN (s ++ ([1, lb.size] ++ (bytS lb ++ (leN n ++ bs)))) = D) :
    Calls Tryd.prog 17 #[.agg (trC s c), .string lb, .slice A n cp] w fun e w' => e = .returned (.agg (trC D 0)) ∧ Below w.heap.size w w' := by
  have HDs := Lib.hid (show s.length = 32 ∧ ∀ x ∈ s, x < 256 from ⟨hl, hsb⟩)
  clear hl hsb
  have HD := Lib.hid (show D.length = 32 ∧ ∀ x ∈ D, x < 256 by rw [← hD]; exact ⟨shaN_length _, shaN_lt _⟩)
  have HE := Lib.hid hD
  have HB := Lib.hid h
  have HG := Lib.hid hG
  have HN := Lib.hid h.len
  clear hD h hG
  go_enter Tryd.func17, Tryd.ntmps17
  go_upto_region 1 with fail
  refine wp_named2 (fun V1 hb g0 g1 hlt => ?_)
  have B0 := Lib.hid hb
  have F3 : Hid (RowT V1 w.heap.size s c) := Lib.hid g0
  have FO : Hid (RowT V1 (w.heap.size + 1) (List.replicate 32 0) 0) := Lib.hid g1
  clear hb g0 g1 hlt
  go_upto_region 1 with fail
  try simp only [List.append_eq, List.cons_append, List.nil_append]
  refine Tl.wp_held_tailB 11 V1.heap.size (by kernel_rfl) (lexOK_of (by kernel_rfl) (by kernel_rfl)) (Tl.chainW_of (by kernel_rfl)) rfl (by kernel_rfl) (by kernel_rfl) (fun V2 hb hSW => ?_)
  simp only [List.take_succ_cons, List.take_zero]
  have HS2 := Lib.hid hSW
  have B1 := Lib.hid hb
  clear hb hSW
  refine wpHeld_seg 6 HS2.out (by kernel_rfl) ?_
  simp only [List.take_succ_cons, List.take_zero, List.drop_succ_cons, List.drop_zero]
  refine wpQuiet_val (by kernel_rfl) (.pointer (some ⟨w.heap.size, 0, none⟩)) (fun v hv => (exec_fT0 w.heap.size rfl rfl v)) ?_
  simp only [Act.put, List.setIfInBounds_toArray, List.set_cons_zero, List.set_cons_succ]
  refine wpQuiet_val (by kernel_rfl) (.agg (celB s).toArray) (fun v hv => (exec_loadTs w.heap.size s c HDs.out.1 (F3.out.keep (LaterB.of hv)) rfl rfl)) ?_
  simp only [Act.put, List.setIfInBounds_toArray, List.set_cons_zero, List.set_cons_succ]
  refine wpQuiet_val (by kernel_rfl) (.string lb) (fun v hv => rfl) ?_
  simp only [Act.put, List.setIfInBounds_toArray, List.set_cons_zero, List.set_cons_succ]
  refine wpQuiet_val (by kernel_rfl) (.slice A n cp) (fun v hv => rfl) ?_
  simp only [Act.put, List.setIfInBounds_toArray, List.set_cons_zero, List.set_cons_succ]
  refine wpQuiet_val (by kernel_rfl) (.int .i64 ((n : Nat) : Int)) (fun v hv => (exec_lenB A n cp rfl rfl v)) ?_
  simp only [Act.put, List.setIfInBounds_toArray, List.set_cons_zero, List.set_cons_succ]
  refine wpQuiet_val (by kernel_rfl) (.int .u64 ((n : Nat) : Int)) (fun v hv => (exec_cvtN n (by omega) v rfl rfl)) ?_
  simp only [Act.put, List.setIfInBounds_toArray, List.set_cons_zero, List.set_cons_succ]
  refine wpQuiet_nil ?_
  refine wpHeld_call 47 Tryd.func47 (by kernel_rfl) (by kernel_rfl) _ _ #[.slice none 0 0, .int .u64 ((n : Nat) : Int)] rfl (by kernel_rfl) (by kernel_rfl) ?_
  refine (appendWord_any V2.heap.size (.slice none 0 0) 0 [] n V2 (by omega) ⟨⟨rfl, .inl ⟨rfl, rfl⟩⟩, fun _ h => by cases h⟩ (Nat.le_refl _) (by omega)).mono ?_
  rintro e V3 ⟨v2, rfl, ho, hb⟩
  have B2 := Lib.hid hb
  have HS3 := Lib.hid (LaterB.step HS2.out (hb.mono B1.out.size))
  rw [Nat.zero_add, List.nil_append] at ho
  obtain ⟨C2, f2, rfl, hs⟩ := ho.sl
  clear ho
  have J2 := Lib.hid hs
  clear hb hs
  refine ⟨_, rfl, HS3.out, ?_⟩
  simp only [Act.put, List.setIfInBounds_toArray, List.set_cons_zero, List.set_cons_succ]
  refine wpHeld_seg 1 HS3.out (by kernel_rfl) ?_
  simp only [List.take_succ_cons, List.take_zero, List.drop_succ_cons, List.drop_zero]
  refine wpQuiet_val (by kernel_rfl) (.slice A n cp) (fun v hv => rfl) ?_
  simp only [Act.put, List.setIfInBounds_toArray, List.set_cons_zero, List.set_cons_succ]
  refine wpQuiet_nil ?_
  refine wpHeld_mk (by kernel_rfl) (by kernel_rfl) #[.slice C2 8 f2, .slice A n cp] 22 2 2 (run_buildP2 _ _ _ _ _ _ rfl rfl rfl V3) ?_
  intro g15 V4 hbz h0 hb
  have B3 := Lib.hid hb
  have C1_3 := Lib.hid (bel_step B1.out B2.out)
  have HS4 := Lib.hid (LaterB.step HS3.out (hb.mono C1_3.out.size))
  have M15 := Lib.hid h0
  have C0_2 := Lib.hid (bel_step B0.out B1.out)
  have C0_3 := Lib.hid (bel_step C0_2.out B2.out)
  have C0_4 := Lib.hid (bel_step C0_3.out B3.out)
  have R15 : Hid (ReadsP V4 [.slice C2 8 f2, .slice A n cp] [(leN n), bs]) := Lib.hid (.cons (J2.out.keep B3.out) (.cons (HB.out.keep C0_4.out) (.nil _)))
  refine ⟨HS4.out, ?_⟩
  clear hb h0 hbz
  simp only [Act.put, List.setIfInBounds_toArray, List.set_cons_zero, List.set_cons_succ]
  refine wpHeld_call 46 Tryd.func46 (by kernel_rfl) (by kernel_rfl) _ _ #[.agg (celB s).toArray, .int .u8 ((1 : Nat) : Int), .string lb, .slice (some ⟨g15, 0, none⟩) 2 2] rfl (by kernel_rfl) (by kernel_rfl) ?_
  refine (tagged_any s 1 lb g15 2 _ _ V4 HDs.out.1 HDs.out.2 (by omega) hlb M15.out rfl (by omega) (by omega) R15.out (by unfold sumL; simp [leN_length, ← HN.out]; omega) (HG.out.keep C0_4.out) D (by rw [← HE.out]; simp)).mono ?_
  rintro e V5 ⟨rfl, hb⟩
  have B4 := Lib.hid hb
  have C1_4 := Lib.hid (bel_step C1_3.out B3.out)
  have HS5 := Lib.hid (LaterB.step HS4.out (hb.mono C1_4.out.size))
  clear hb 
  refine ⟨_, rfl, HS5.out, ?_⟩
  simp only [Act.put, List.setIfInBounds_toArray, List.set_cons_zero, List.set_cons_succ]
  refine wpHeld_seg 1 HS5.out (by kernel_rfl) ?_
  simp only [List.take_succ_cons, List.take_zero, List.drop_succ_cons, List.drop_zero]
  refine wpQuiet_val (by kernel_rfl) (.agg (trC D 0)) (fun v hv => (exec_buildT1 D HD.out.1 rfl rfl v)) ?_
  simp only [Act.put, List.setIfInBounds_toArray, List.set_cons_zero, List.set_cons_succ]
  refine wpQuiet_nil ?_
  refine wpHeld_nil ?_
  have C1_5 := Lib.hid (bel_step C1_4.out B4.out)
  refine mOp_run0 _ rfl rfl (exec_storeT (w.heap.size + 1) (List.replicate 32 0) 0 D 0 List.length_replicate HD.out.1 (FO.out.keep C1_5.out) rfl rfl rfl) ?_
  try simp only [Act.put, List.setIfInBounds_toArray, List.set_cons_zero, List.set_cons_succ]
  go_wp2_with fail
  have C0_5 := Lib.hid (bel_step C0_4.out B4.out)
  refine bodyPost_ret (v := .agg (trC D 0)) ?_ rfl ⟨rfl, bel_setRow C0_5.out (by omega) _⟩
  exact results_cell_row rfl _ _ (w.heap.size + 1) 32 _ (0, 0) _ rfl ((FO.out.keep C1_5.out).row D 0) Tryd.underlying32 rfl (trC_info HD.out.1 0)
end Go.Proofs.YtcaoajeplinopaaDoor

namespace Gold
set_option linter.unusedVariables false
set_option linter.unusedSimpArgs false
set_option maxRecDepth 8000

def ch : Nat → Nat → Nat
  | _, 0 => 1
  | 0, _ + 1 => 0
  | n + 1, k + 1 => ch n k + ch n (k + 1)

/-- the order of the field -/
def P : Nat := 18446744069414584321

/-- a to the power of n modulo P, for n below 2^fuel, by squaring: the kernel reckons it -/
def pm : Nat → Nat → Nat → Nat
  | 0, _, _ => 1
  | f + 1, a, n => if n % 2 = 1 then a * pm f (a * a % P) (n / 2) % P else pm f (a * a % P) (n / 2)

end Gold

namespace Gold
set_option linter.unusedVariables false
set_option linter.unusedSimpArgs false
set_option maxRecDepth 8000

/-- the order, as an integer -/
def Q : Int := 18446744069414584321
def El (a : Int) : Prop := 0 ≤ a ∧ a < 18446744069414584321
def U64 (a : Int) : Prop := 0 ≤ a ∧ a < 18446744073709551616

def fred (a : Int) : Int := a % 18446744069414584321
theorem El.u64 {a : Int} (h : El a) : U64 a := by unfold El U64 at *; omega
theorem El.mod {a : Int} (h : El a) : a % 18446744069414584321 = a := by unfold El at h; exact Int.emod_eq_of_lt h.1 h.2

end Gold

namespace Go.Proofs.YtcaoajeplinopaaDoor
set_option linter.unusedVariables false
set_option linter.unusedSimpArgs false
set_option maxRecDepth 8000
open Go.RowKit Gold

theorem ret_int {k : IntKind} {a b : Int} (h : a = b) : Ending.returned (.int k a) = .returned (.int k b) := by rw [h]
set_option maxHeartbeats 400000 in
theorem rvalid_any (a : Int) (w : World) :
    Calls Tryd.prog 33 #[.int .u64 a] w fun e w' => e = .returned (.bool (decide (a < 18446744069414584321))) ∧ w' = w := by
  go_enter Tryd.func33, Tryd.ntmps33
  go_wp2
  go_ret
  exact ⟨rfl, rfl⟩

set_option maxHeartbeats 400000 in
theorem reduce_any (a : Int) (w : World) (ha : U64 a)  :
    Calls Tryd.prog 40 #[.int .u64 a] w fun e w' => e = .returned (.int .u64 (fred a)) ∧ w' = w := by
  unfold U64 at ha
  go_enter Tryd.func40, Tryd.ntmps40
  go_wp2
  all_goals 
    go_ret
    refine ⟨ret_int ?_, rfl⟩
    unfold fred
    omega

set_option maxHeartbeats 400000 in
theorem rreduce_any (a : Int) (w : World) (ha : U64 a)  :
    Calls Tryd.prog 43 #[.int .u64 a] w fun e w' => e = .returned (.int .u64 (fred a)) ∧ w' = w := by
  unfold U64 at ha
  go_enter Tryd.func43, Tryd.ntmps43
  go_wp2
  all_goals 
    go_ret
    refine ⟨ret_int ?_, rfl⟩
    unfold fred
    omega

end Go.Proofs.YtcaoajeplinopaaDoor

namespace Go.Proofs.YtcaoajeplinopaaDoor
set_option linter.unusedVariables false
set_option linter.unusedSimpArgs false
set_option maxRecDepth 8000
open Go.RowKit Gold
attribute [local simp] z32_ne z32_run
attribute [-simp] Tryd.zeroValue30 Tryd.isAgg30 Tryd.sizeOf30
attribute [-simp] Tryd.zeroValue32 Tryd.isAgg32 Tryd.sizeOf32
attribute [local simp] z33_ne z33_run
section
variable {P : Program} {Q : Exit → Act → World → Prop} {ops : Array Oper}
/-- two new variables and their first stores -/
theorem wpList_decl2 {rest : List Oper} {o1 o2 o3 o4 : Oper} {a : Act} {w : World} (z1 z2 row1 row2 : Array Value) (t1 t2 : TypeId) (hw1 : Region.wanted o1 (yielded ops a.tmps) = true) (hr1 : ∀ W, (execOp a.eval o1).run P W = .ok (.value (ptr W.heap.size)) (W.alloc (.cells z1 t1)))
    (hw2 : ∀ b, Region.wanted o2 (yielded ops (a.put o1.dst (ptr b)).tmps) = true) (hr2 : ∀ b W, (execOp (a.put o1.dst (ptr b)).eval o2).run P W = .ok (.value (ptr W.heap.size)) (W.alloc (.cells z2 t2)))
    (hw3 : ∀ b c, Region.wanted o3 (yielded ops ((a.put o1.dst (ptr b)).put o2.dst (ptr c)).tmps) = true) (hs3 : ∀ b c W, W.heap[b]? = some (.cells z1 t1 (0, 0)) → (execOp ((a.put o1.dst (ptr b)).put o2.dst (ptr c)).eval o3).run P W = .ok .skip (W.setRow b row1))
    (hw4 : ∀ b c, Region.wanted o4 (yielded ops (((a.put o1.dst (ptr b)).put o2.dst (ptr c)).put o3.dst undef).tmps) = true) (hs4 : ∀ b c W, W.heap[c]? = some (.cells z2 t2 (0, 0)) → (execOp (((a.put o1.dst (ptr b)).put o2.dst (ptr c)).put o3.dst undef).eval o4).run P W = .ok .skip (W.setRow c row2))
    (h : ∀ b c W, w.heap.size ≤ b → b < c → W.heap[b]? = some (.cells row1 t1 (0, 0)) → W.heap[c]? = some (.cells row2 t2 (0, 0)) → Below w.heap.size w W → wpList P ops Q rest ((((a.put o1.dst (ptr b)).put o2.dst (ptr c)).put o3.dst undef).put o4.dst undef) W) : wpList P ops Q (o1 :: o2 :: o3 :: o4 :: rest) a w := by
  have row : ∀ (W : World) (g : Nat) (z r : Array Value) (t : TypeId), W.heap[g]? = some (.cells z t (0, 0)) → (W.setRow g r).heap[g]? = some (.cells r t (0, 0)) := fun W g z r t h0 => by simp [World.setRow, Array.getElem?_modify, h0]
  refine wpList_run hw1 _ _ (hr1 w) ?_
  refine wpList_run (hw2 _) _ _ (hr2 w.heap.size _) ?_
  have hsz : (w.alloc (.cells z1 t1)).heap.size = w.heap.size + 1 := by simp
  rw [hsz]
  have g1 : ((w.alloc (.cells z1 t1)).alloc (.cells z2 t2)).heap[w.heap.size]? = some (.cells z1 t1 (0, 0)) := heap_old _ (heap_new w _)
  have g2 : ((w.alloc (.cells z1 t1)).alloc (.cells z2 t2)).heap[w.heap.size + 1]? = some (.cells z2 t2 (0, 0)) := by simpa using heap_new (w.alloc (.cells z1 t1)) (.cells z2 t2)
  refine wpList_run0 (hw3 _ _) _ (hs3 w.heap.size (w.heap.size + 1) _ g1) ?_
  refine wpList_run0 (hw4 _ _) _ (hs4 w.heap.size (w.heap.size + 1) _ (heap_farRow g2 (by omega) _)) ?_
  refine h _ _ _ (Nat.le_refl _) (by omega) (heap_farRow (row _ _ _ _ _ g1) (by omega) _) (row _ _ _ _ _ (heap_farRow g2 (by omega) _)) ?_
  exact bel_setRow (bel_setRow (((Below.refl _ _).alloc (Nat.le_refl _) _).alloc (by simp) _) (Nat.le_refl _) _) (by omega) _
end
section
variable {ev : Operand → Value} {o : Oper}
theorem exec_slice8 {x : Operand} (g : Nat) (w : World) (ho : o.op = .slice 30 x (some (.const (.int .i64 8))) none none) (hx : ev x = .pointer (some ⟨g, 0, none⟩)) (hc : ev (.const (.int .i64 8)) = .int .i64 8) : (execOp ev o).run Tryd.prog w = .ok (.value (.slice (some ⟨g, 8, none⟩) 24 24)) w := by
  unfold execOp
  simp only [ho, hx, hc, Option.map_some]
  go_simp
theorem exec_storeE {x y : Operand} {w : World} (g : Nat) (u1 u2 : Value) (a b : Int) (ho : o.op = .store 36 x y) (hx : ev x = .pointer (some ⟨g, 0, none⟩)) (hy : ev y = .agg #[.int .u64 a, .int .u64 b]) (hc : w.heap[g]? = some (.cells #[u1, u2] 36 (0, 0))) :
    (execOp ev o).run Tryd.prog w = .ok .skip (w.setRow g #[.int .u64 a, .int .u64 b]) := exec_storeRow g _ _ ho hx hy hc (by kernel_rfl) rfl (by simp [Value.oneCell'])
theorem exec_buildE {x y : Operand} (a b : Int) (ho : o.op = .build 36 #[(0, x), (1, y)]) (hx : ev x = .int .u64 a) (hy : ev y = .int .u64 b) (w : World) : (execOp ev o).run Tryd.prog w = .ok (.value (.agg #[.int .u64 a, .int .u64 b])) w := by
  unfold execOp
  rw [ho]
  simp only [List.map_toArray, List.map_cons, List.map_nil, hx, hy]
  go_simp
end
theorem heap_rowSet {W : World} {g : Nat} {z : Array Value} {t : TypeId} (h0 : W.heap[g]? = some (.cells z t (0, 0))) (r : Array Value) : (W.setRow g r).heap[g]? = some (.cells r t (0, 0)) := by simp [World.setRow, Array.getElem?_modify, h0]
theorem leV_drop (D : List Nat) (k : Nat) : leV (D.drop k) 0 = leV D k := by unfold leV; rw [List.drop_zero]
attribute [local irreducible] wpList
set_option maxHeartbeats 4000000 in
theorem challenge_any (s : List Nat) (lb : ByteArray) (c : Nat) (w : World) (hl : s.length = 32) (hsb : ∀ x ∈ s, x < 256) (hc : c < 18446744073709551616) (hlb : lb.size ≤ 200) (hG : Gl w) (D : List Nat) (hD : outT s 2 lb c = D) (c' : Nat) (hc' : (c + 1) % 18446744073709551616 = c') (x y : Nat) (hx : leV D 0 % 18446744069414584321 = x) (hy : leV D 8 % 18446744069414584321 = y) :
    Calls Tryd.prog 13 #[.agg (trC s c), .string lb] w fun e w' => e = .returned (.tuple #[.agg (trC s c'), .agg #[.int .u64 (x : Int), .int .u64 (y : Int)]]) ∧ Below w.heap.size w w' := by
  have hDl : D.length = 32 := by rw [← hD]; exact outT_length _ _ _ _
  have HDB := Lib.hid (show ∀ z ∈ D, z < 256 by rw [← hD]; exact outT_lt _ _ _ _)
  have HD := Lib.hid hD
  have HSB := Lib.hid hsb
  have HX := Lib.hid hx
  have HY := Lib.hid hy
  clear hD hsb hx hy
  go_enter Tryd.func13, Tryd.ntmps13
  go_upto_region 1 with fail
  refine wp_named3 (fun V1 hb g0 g1 g2 hlt => ?_)
  have B0 := Lib.hid hb
  have F2 : Hid (RowT V1 w.heap.size s c) := Lib.hid g0
  have F4 : Hid (RowT V1 (w.heap.size + 1) (List.replicate 32 0) 0) := Lib.hid g1
  have F5 := Lib.hid g2
  have HG1 := Lib.hid (hG.keep hb)
  clear hb g0 g1 g2 hG
  refine wp_region_lit ?_
  refine wpList_run (by kernel_rfl) (.agg (trC s c)) V1 (exec_loadT w.heap.size s c hl F2.out rfl rfl) ?_
  simp only [Act.put, List.setIfInBounds_toArray, List.set_cons_zero, List.set_cons_succ]
  refine wpList_run (by kernel_rfl) (.string lb) V1 rfl ?_
  simp only [Act.put, List.setIfInBounds_toArray, List.set_cons_zero, List.set_cons_succ]
  refine wpList_call (by kernel_rfl) 39 Tryd.func39 (by kernel_rfl) (by kernel_rfl) _ _ #[.agg (trC s c), .int .u8 ((2 : Nat) : Int), .string lb] rfl (by kernel_rfl) ?_
  refine (output_any s 2 lb c V1 hl HSB.out hc (by omega) hlb HG1.out D HD.out c' hc').mono ?_
  rintro e V2 ⟨rfl, hb⟩
  have B1 := Lib.hid hb
  clear hb
  refine ⟨_, rfl, ?_⟩
  simp only [Act.put, List.setIfInBounds_toArray, List.set_cons_zero, List.set_cons_succ]
  refine wpList_run (by kernel_rfl) (.tuple #[.agg (trC s c'), .agg (celB D).toArray]) V2 rfl ?_
  simp only [Act.put, List.setIfInBounds_toArray, List.set_cons_zero, List.set_cons_succ]
  refine wpList_run (by kernel_rfl) (.agg (trC s c')) V2 rfl ?_
  simp only [Act.put, List.setIfInBounds_toArray, List.set_cons_zero, List.set_cons_succ]
  refine wpList_run (by kernel_rfl) (.agg (celB D).toArray) V2 rfl ?_
  simp only [Act.put, List.setIfInBounds_toArray, List.set_cons_zero, List.set_cons_succ]
  refine wpList_decl2 z33 z32 (trC s c') (celB D).toArray 32 30 (by kernel_rfl) (fun W => exec_allocT W rfl) (fun _ => by kernel_rfl) (fun _ W => run_allocD _ _ W rfl) (fun _ _ => by kernel_rfl) (fun b d W h0 => exec_storeT b (List.replicate 32 0) 0 s c' List.length_replicate hl h0 rfl rfl rfl) (fun _ _ => by kernel_rfl)
    (fun b d W h0 => exec_storeD (old := List.replicate 32 0) hDl List.length_replicate h0 rfl rfl rfl) ?_
  intro b6 b7 V3 hge hlt67 h6 h7 hb
  have B2 := Lib.hid hb
  have F6 : Hid (RowT V3 b6 s c') := Lib.hid h6
  have F7 : Hid (RowB V3 30 b7 D) := Lib.hid h7
  have C12 := Lib.hid (bel_step B1.out B2.out)
  have G4 := Lib.hid (F4.out.keep C12.out)
  have G5 := Lib.hid (heap_keep F5.out C12.out)
  have C02 := Lib.hid (bel_step B0.out C12.out)
  have hz2 := B1.out.size
  have hz1 : w.heap.size + 1 + 1 < V1.heap.size := hlt
  clear hb h6 h7 B1 B2 C12 F4 F5 F2
  simp only [ptr, Act.put, List.setIfInBounds_toArray, List.set_cons_zero, List.set_cons_succ]
  refine wpList_nil ?_
  go_upto_region 2 with fail
  refine wp_free (fun W => RowT W b6 s c' ∧ RowB W 30 b7 D ∧ Below w.heap.size w W ∧ (∃ s0 c0, s0.length = 32 ∧ RowT W (w.heap.size + 1) s0 c0) ∧ ∃ u1 u2, W.heap[w.heap.size + 1 + 1]? = some (.cells #[u1, u2] 36 (0, 0)))
    (fun i v W => match i with
      | 0 => v = .agg (trC s c')
      | 1 => v = .slice (some ⟨b7, 0, none⟩) 32 32
      | 2 => v = .int .u64 ((leV D 0 : Nat) : Int)
      | 3 => v = .int .u64 (x : Int)
      | 4 => v = .slice (some ⟨b7, 8, none⟩) 24 24
      | 5 => v = .int .u64 ((leV D 8 : Nat) : Int)
      | 6 => v = .int .u64 (y : Int)
      | 7 => v = .agg #[.int .u64 (x : Int), .int .u64 (y : Int)]
      | 8 => RowT W (w.heap.size + 1) s c'
      | _ => W.heap[w.heap.size + 1 + 1]? = some (.cells #[.int .u64 (x : Int), .int .u64 (y : Int)] 36 (0, 0))) (by kernel_rfl) (lexOK_of (by kernel_rfl) (by kernel_rfl)) (by kernel_rfl) (by kernel_rfl) (by kernel_rfl)
    ⟨F6.out, F7.out, C02.out.drew, ⟨_, _, List.length_replicate, G4.out⟩, _, _, G5.out⟩ ?obl ?fin
  case obl =>
    refine ⟨fun vs W hI hF => ?_, fun vs W hI hF => ?_, fun vs W hI hF => ?_, fun vs W hI hF => ?_, fun vs W hI hF => ?_, fun vs W hI hF => ?_, fun vs W hI hF => ?_, fun vs W hI hF => ?_, fun vs W hI hF => ?_, fun vs W hI hF => ?_, trivial⟩
    · simp only [Act.put, List.setIfInBounds_toArray, List.set_cons_zero, List.set_cons_succ]
      unfold hOp
      rw [exec_loadT b6 s c' hl hI.1 rfl rfl]
      exact ⟨hI, rfl, fun j u _ h => h⟩
    · simp only [Act.put, List.setIfInBounds_toArray, List.set_cons_zero, List.set_cons_succ]
      unfold hOp
      rw [exec_sliceD b7 W rfl rfl]
      exact ⟨hI, rfl, fun j u _ h => h⟩
    · simp only [Act.put, List.setIfInBounds_toArray, List.set_cons_zero, List.set_cons_succ]
      have h1 : vs 1 = .slice (some ⟨b7, 0, none⟩) 32 32 := hF 1 (by kernel_rfl)
      refine hOp_call 41 Tryd.func41 (by kernel_rfl) (by kernel_rfl) _ _ #[.slice (some ⟨b7, 0, none⟩) 32 32] rfl (by simp [Act.eval, h1]) ?_
      refine (word8_any _ 32 32 D W (hI.2.1.all HDB.out hDl.symm (Nat.le_refl _) (by omega)) (by omega)).mono ?_
      rintro e _ ⟨rfl, rfl⟩
      exact ⟨_, rfl, hI, rfl, fun j u _ h => h⟩
    · simp only [Act.put, List.setIfInBounds_toArray, List.set_cons_zero, List.set_cons_succ]
      have h1 : vs 2 = .int .u64 ((leV D 0 : Nat) : Int) := hF 2 (by kernel_rfl)
      refine hOp_call 40 Tryd.func40 (by kernel_rfl) (by kernel_rfl) _ _ #[.int .u64 ((leV D 0 : Nat) : Int)] rfl (by simp [Act.eval, h1]) ?_
      refine (reduce_any _ W (by have := leV_lt HDB.out 0; unfold U64; omega)).mono ?_
      rintro e _ ⟨rfl, rfl⟩
      exact ⟨_, rfl, hI, by rw [← HX.out]; unfold fred; show _ = _; congr 1, fun j u _ h => h⟩
    · simp only [Act.put, List.setIfInBounds_toArray, List.set_cons_zero, List.set_cons_succ]
      unfold hOp
      rw [exec_slice8 b7 W rfl rfl rfl]
      exact ⟨hI, rfl, fun j u _ h => h⟩
    · simp only [Act.put, List.setIfInBounds_toArray, List.set_cons_zero, List.set_cons_succ]
      have h1 : vs 4 = .slice (some ⟨b7, 8, none⟩) 24 24 := hF 4 (by kernel_rfl)
      refine hOp_call 41 Tryd.func41 (by kernel_rfl) (by kernel_rfl) _ _ #[.slice (some ⟨b7, 8, none⟩) 24 24] rfl (by simp [Act.eval, h1]) ?_
      refine (word8_any _ 24 24 ((D.drop 8).take 24) W (hI.2.1.sub HDB.out (by omega) (Nat.le_refl _) (by omega)) (by omega)).mono ?_
      rintro e _ ⟨rfl, rfl⟩
      exact ⟨_, rfl, hI, by rw [List.take_of_length_le (by rw [List.length_drop]; omega), leV_drop], fun j u _ h => h⟩
    · simp only [Act.put, List.setIfInBounds_toArray, List.set_cons_zero, List.set_cons_succ]
      have h1 : vs 5 = .int .u64 ((leV D 8 : Nat) : Int) := hF 5 (by kernel_rfl)
      refine hOp_call 40 Tryd.func40 (by kernel_rfl) (by kernel_rfl) _ _ #[.int .u64 ((leV D 8 : Nat) : Int)] rfl (by simp [Act.eval, h1]) ?_
      refine (reduce_any _ W (by have := leV_lt HDB.out 8; unfold U64; omega)).mono ?_
      rintro e _ ⟨rfl, rfl⟩
      exact ⟨_, rfl, hI, by rw [← HY.out]; unfold fred; show _ = _; congr 1, fun j u _ h => h⟩
    · simp only [Act.put, List.setIfInBounds_toArray, List.set_cons_zero, List.set_cons_succ]
      have h1 : vs 3 = .int .u64 (x : Int) := hF 3 (by kernel_rfl)
      have h2 : vs 6 = .int .u64 (y : Int) := hF 6 (by kernel_rfl)
      unfold hOp
      rw [exec_buildE (x := .tmp 17) (y := .tmp 20) (x : Int) (y : Int) rfl (by rw [h1]; rfl) (by rw [h2]; rfl) W]
      exact ⟨hI, rfl, fun j u _ h => h⟩
    · simp only [Act.put, List.setIfInBounds_toArray, List.set_cons_zero, List.set_cons_succ]
      have h0 : vs 0 = .agg (trC s c') := hF 0 (by kernel_rfl)
      obtain ⟨i1, i2, i3, ⟨s0, c0, hs0, i4⟩, u1, u2, i5⟩ := hI
      unfold hOp
      rw [exec_storeT (x := .tmp 4) (y := .tmp 14) (w.heap.size + 1) s0 c0 s c' hs0 hl i4 rfl rfl (by rw [h0]; rfl)]
      refine ⟨⟨heap_farRow i1 (by omega) _, heap_farRow i2 (by omega) _, bel_setRow i3 (by omega) _, ⟨_, _, hl, i4.row s c'⟩, u1, u2, heap_farRow i5 (by omega) _⟩, i4.row s c', fun j u hj h => ?_⟩
      match j, hj, h with
      | 0, _, h => exact h
      | 1, _, h => exact h
      | 2, _, h => exact h
      | 3, _, h => exact h
      | 4, _, h => exact h
      | 5, _, h => exact h
      | 6, _, h => exact h
      | 7, _, h => exact h
      | 9, _, h => exact heap_farRow h (by omega) _
      | j + 10, _, h => exact heap_farRow h (by omega) _
    · simp only [Act.put, List.setIfInBounds_toArray, List.set_cons_zero, List.set_cons_succ]
      have h0 : vs 7 = .agg #[.int .u64 (x : Int), .int .u64 (y : Int)] := hF 7 (by kernel_rfl)
      obtain ⟨i1, i2, i3, ⟨s0, c0, hs0, i4⟩, u1, u2, i5⟩ := hI
      unfold hOp
      rw [exec_storeE (x := .tmp 5) (y := .tmp 21) (w.heap.size + 1 + 1) u1 u2 (x : Int) (y : Int) rfl rfl (by rw [h0]; rfl) i5]
      refine ⟨⟨heap_farRow i1 (by omega) _, heap_farRow i2 (by omega) _, bel_setRow i3 (by omega) _, ⟨s0, c0, hs0, heap_farRow i4 (by omega) _⟩, _, _, heap_rowSet i5 _⟩, heap_rowSet i5 _, fun j u hj h => ?_⟩
      match j, hj, h with
      | 0, _, h => exact h
      | 1, _, h => exact h
      | 2, _, h => exact h
      | 3, _, h => exact h
      | 4, _, h => exact h
      | 5, _, h => exact h
      | 6, _, h => exact h
      | 7, _, h => exact h
      | 8, _, h => exact heap_farRow h (by omega) _
      | j + 10, _, h => exact heap_rowSet i5 _
  case fin =>
    intro vs W hI hF
    have h4 := hF 8 (by decide)
    have h5 := hF 9 (by decide)
    simp only [putsT, Act.put, List.setIfInBounds_toArray, List.set_cons_zero, List.set_cons_succ]
    go_wp2_with fail
    refine bodyPost_ret (v := .tuple #[.agg (trC s c'), .agg #[.int .u64 (x : Int), .int .u64 (y : Int)]]) ?_ rfl ⟨rfl, hI.2.2.1⟩
    exact results_row_row rfl _ _ (w.heap.size + 1) (w.heap.size + 1 + 1) _ _ _ _ _ _ rfl rfl h4 h5 Tryd.underlying32 rfl (trC_info hl c') Tryd.underlying36 rfl (by kernel_rfl)
end Go.Proofs.YtcaoajeplinopaaDoor

namespace Go.Proofs.YtcaoajeplinopaaDoor
set_option linter.unusedVariables false
set_option linter.unusedSimpArgs false
set_option maxRecDepth 8000
open Go.RowKit Go.Maps
theorem keyI : Keyed Tryd.prog 3 := int_keyed Tryd.underlying3
/-- block B is a set that holds the numbers of l, in increasing order -/
def SetM (w : World) (B : Nat) (l : List Nat) : Prop := l.Pairwise (· < ·) ∧ (∀ z ∈ l, z < 65536) ∧ ∃ D : DataW Unit, w.ownsMap Tryd.prog 3 (plainElem Tryd.prog 4) B l.length D ∧ Maps.size D = l.length ∧ ∀ z : Int, Maps.has D (.int .i64 z) = true ↔ ∃ x ∈ l, z = ((x : Nat) : Int)
theorem below_grown {w w' : World} (h : Below w.heap.size w w') : w.grownBy w' none := ⟨h.os, h.tape, h.output, h.size, fun i hi _ => h.block i hi⟩
theorem SetM.kept {w w' : World} {B : Nat} {l : List Nat} {row : Option Nat} (h : SetM w B l) (hg : w.grownBy w' row) (hne : some B ≠ row) : SetM w' B l := by
  obtain ⟨h1, h2, D, ho, h3⟩ := h
  exact ⟨h1, h2, D, ho.kept hg hne, h3⟩
theorem SetM.keep {w w' : World} {B : Nat} {l : List Nat} (h : SetM w B l) (hb : Below w.heap.size w w') : SetM w' B l := h.kept (below_grown hb) (by simp)
theorem SetM.lt {w : World} {B : Nat} {l : List Nat} (h : SetM w B l) : B < w.heap.size := by
  obtain ⟨_, _, D, ho, _⟩ := h
  exact ho.lt
theorem tightM {w : World} {b n : Nat} {D : DataW Unit} (h : w.ownsMap Tryd.prog 3 (plainElem Tryd.prog 4) b n D) : w.ownsMap Tryd.prog 3 (plainElem Tryd.prog 4) b (Maps.size D) D := by
  obtain ⟨es, clock, hb, F, hs, rfl⟩ := h
  exact ⟨es, clock, hb, F, by simp [Maps.size, length_sorted], rfl⟩
theorem wf_i64 {z : Int} (h : -9223372036854775808 ≤ z ∧ z ≤ 9223372036854775807) : (Lit.int .i64 z).wf = true := by
  unfold Lit.wf
  rw [Bool.and_eq_true, decide_eq_true_eq, decide_eq_true_eq]
  exact h
theorem SetM.made (w : World) : SetM (w.alloc (.map #[] 0)) w.heap.size [] :=
  ⟨List.Pairwise.nil, (fun z h => absurd h (List.not_mem_nil)), DataW.map [], World.ownsMap_made w _ _ _, rfl, fun z => ⟨fun h => (by cases h), fun ⟨x, h, _⟩ => absurd h (List.not_mem_nil)⟩⟩
theorem SetM.put {w : World} {B : Nat} {l : List Nat} {x : Nat} (h : SetM w B l) (hx : x < 65536) :
    ∃ w', (Instr.mapUpdate 90 (.map (some B)) (.int .i64 (x : Int)) (.bool true)).run Tryd.prog w = .ok () w' ∧ SetM w' B (insT l x) ∧ w.grownBy w' (some B) := by
  obtain ⟨hs, hlt, D, ho, hsz, hm⟩ := h
  have hl := sorted_leT 65536 l (sorted_nodupT hs) hlt
  have hkey : keyOf Tryd.prog 3 (.int .i64 (x : Int)) = some (.int .i64 (x : Int)) := keyOf_int_mk Tryd.underlying3 (wf_i64 (by omega))
  obtain ⟨w', hrun, ho', hg⟩ := ho.update keyI Tryd.underlying90 (by unfold maxLen; omega) hkey (plainElem_bool Tryd.underlying4 true)
  obtain ⟨es, hD, hp, hk⟩ := ho.entries keyI
  have hT : Tidy D := ⟨es, hD, hp⟩
  have hsz' : Maps.size (D.put (.int .i64 (x : Int)) (.lit (.bool true))) = (insT l x).length := by
    rw [size_put hT]
    by_cases hx' : x ∈ l
    · rw [if_pos ((hm _).2 ⟨x, hx', rfl⟩), insT_same hs hx', hsz]
    · rw [if_neg (fun e => by obtain ⟨y, hy, e⟩ := (hm _).1 e; exact hx' (by rwa [show x = y by omega])), insT_length hs hx', hsz]
  refine ⟨w', hrun, ⟨insT_sorted hs, fun z hz => ?_, _, ?_, hsz', fun z => ?_⟩, hg⟩
  · rcases mem_insT.1 hz with rfl | hz
    · exact hx
    · exact hlt z hz
  · rw [← hsz']
    exact tightM ho'
  · by_cases hz : z = (x : Int)
    · subst hz
      rw [has_put_same hT.isMap (keyI.key hkey)]
      exact ⟨fun _ => ⟨x, mem_insT.2 (Or.inl rfl), rfl⟩, fun _ => rfl⟩
    · rw [has_put_other (fun e => hz (by injection e)), hm]
      constructor
      · rintro ⟨y, hy, e⟩
        exact ⟨y, mem_insT.2 (Or.inr hy), e⟩
      · rintro ⟨y, hy, e⟩
        rcases mem_insT.1 hy with rfl | hy
        · exact absurd e hz
        · exact ⟨y, hy, e⟩
section
variable {ops : Array Oper} {rest : List Oper} {o : Oper} {a : Act} {Q : Exit → Act → World → Prop} {w : World} {B : Nat} {l : List Nat}
theorem wpList_lenM (n : Nat) (hn : l.length = n) (hg : o.guard = none) (m : Operand) (hop : o.op = Op.call { callee := Callee.builtin Builtin.len, args := #[m], argTypes := #[90] }) (hm : a.eval m = .map (some B)) (h : SetM w B l)
    (hK : wpList Tryd.prog ops Q rest (a.put o.dst (.int .i64 (n : Int))) w) : wpList Tryd.prog ops Q (o :: rest) a w := by
  obtain ⟨_, _, D, ho, hsz, _⟩ := h
  exact wpList_len_own w hg m _ hop 3 4 Tryd.underlying90 _ B _ D hm ho (by rw [hsz, hn]; exact hK)
theorem wpList_putM (hg : o.guard = none) (m x : Operand) (hop : o.op = Op.mapUpdate 90 m x (.const (.bool true))) (z : Nat) (hz : z < 65536) (hm : a.eval m = .map (some B)) (hx : a.eval x = .int .i64 (z : Int)) (h : SetM w B l)
    (hK : ∀ w', SetM w' B (insT l z) → w.grownBy w' (some B) → wpList Tryd.prog ops Q rest (a.put o.dst undef) w') : wpList Tryd.prog ops Q (o :: rest) a w := by
  refine wpList_plain hg fun K' hK' => ?_
  obtain ⟨w', hrun, r1, r2⟩ := h.put hz
  unfold Oper.wp
  have hv : a.eval (.const (.bool true)) = .bool true := rfl
  simp [execOp, hop, hm, hx, hv, hrun, Result.andThen]
  exact hK' _ _ (hK w' r1 r2)
end
theorem grownX_trans {a b c : World} {B : Nat} (h : a.grownBy b (some B)) (k : b.grownBy c (some B)) : a.grownBy c (some B) := h.andThen k (fun j hj => Or.inr hj)
set_option maxHeartbeats 1000000 in
theorem fill_any (B n L : Nat) (l : List Nat) (w : World) (h : SetM w B l) (hn : n ≤ L) (hL : L ≤ 65536) (R : List Nat) (hR : fillT n L 0 l = R) :
    Calls Tryd.prog 59 #[.map (some B), .int .i64 (n : Int)] w fun e w' => e = .returned (.tuple #[]) ∧ SetM w' B R ∧ w.grownBy w' (some B) := by
  have HM := Lib.hid h
  have HR := Lib.hid hR
  clear h hR
  go_enter Tryd.func59, Tryd.ntmps59
  go_wp2_with fail
  go_loopw [4] (fun s wr => ∃ (i : Nat) (t : List Nat), i ≤ L ∧ s = .int .i64 i ∧ SetM wr B t ∧ fillT n (L - i) i t = R ∧ (∀ z, z < i → z ∈ t) ∧ w.grownBy wr (some B)) (fun s _ => L - (intOf s).toNat)
  case atStart => exact ⟨0, l, by omega, rfl, HM.out, HR.out, fun z hz => by omega, World.grownBy.refl w _⟩
  case round =>
    clear HM HR
    obtain ⟨i, t, hi, rfl, hm, hr, hin, hg⟩ := hrel
    have HM := Lib.hid hm
    have HR := Lib.hid hr
    have HIN := Lib.hid hin
    have HGR := Lib.hid hg
    have hti := sorted_geT i t (sorted_nodupT hm.1) hin
    clear hm hr hin hg
    obtain ⟨m, hml⟩ : ∃ m, t.length = m := ⟨_, rfl⟩
    by_cases hlt : m < n
    · have hk1 : (m : Int) < (n : Int) := by omega
      have HST := Lib.hid (show fillT n (L - (i + 1)) (i + 1) (insT t i) = R by
        rw [← HR.out, show L - i = (L - (i + 1)) + 1 by omega]
        show _ = if t.length < n then _ else _
        rw [if_pos (by omega)])
      have HIN2 := Lib.hid (show ∀ z, z < i + 1 → z ∈ insT t i from fun z hz => mem_insT.2 (by
        rcases Nat.lt_succ_iff_lt_or_eq.1 hz with h2 | h2
        · exact Or.inr (HIN.out z h2)
        · exact Or.inl h2))
      go_upto_region 2 with (first | (at_len; refine wpList_lenM m hml rfl (.tmp 5) rfl rfl HM.out ?_) | (at_mapUpdate; refine wpList_putM rfl (.tmp 11) (.tmp 12) rfl i (by omega) rfl rfl HM.out ?_; intro w2 hm2 hg2; have HM2 := Lib.hid hm2; have HG2 := Lib.hid hg2; clear hm2 hg2))
      go_wp2_with fail
      go_roundw
      case rel => exact ⟨i + 1, insT t i, by omega, by go_num, HM2.out, HST.out, HIN2.out, grownX_trans HGR.out HG2.out⟩
      case measure => simp [intOf]; omega
    · have hk1 : ¬ (m : Int) < (n : Int) := by omega
      go_wp2_with (at_len; refine wpList_lenM m hml rfl (.tmp 5) rfl rfl HM.out ?_)
      (try simp only [Exit.inBlock, Exit.then])
      refine ⟨rfl, .tuple #[], results_none rfl _ _ _, ?_⟩
      have he : t = R := by rw [← HR.out, fillT_full _ _ _ (by omega)]
      exact ⟨rfl, he ▸ HM.out, HGR.out⟩
end Go.Proofs.YtcaoajeplinopaaDoor

