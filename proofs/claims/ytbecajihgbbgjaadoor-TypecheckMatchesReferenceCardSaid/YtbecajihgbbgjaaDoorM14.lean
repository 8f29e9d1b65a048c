/- Several texts in one: Yab. -/
import Derived.Test.YtbecajihgbbgjaaDoorM06
import Derived.Test.YtbecajihgbbgjaaDoorM13
set_option linter.unusedVariables false
set_option linter.unusedSimpArgs false
set_option linter.unusedSectionVars false
namespace Go.Proofs.YtbecajihgbbgjaaDoor
set_option maxRecDepth 8000
open Go.RowKit Go.Proofs.YtbecajihgbbgjaaDoor.K
attribute [local irreducible] wpList wpQuiet
set_option maxRecDepth 100000 in
set_option maxHeartbeats 32000000 in
theorem rvf_as (A : Option Addr) (n c : Nat) (cs : List Qu.Ci) (b : Bool) (hb : Qu.vL cs = b) (w : World) (hL : Sg ciC 3 w A n c cs) :
  Calls Tryd.prog 53 #[.slice A n c] w fun e w' => e = .returned (.bool b) ∧ Below w.heap.size w w' := by
 have HL := zh hL
 have hln := hL.len
 have hlc := hL.cap
 have hlt := hL.top
 clear hL
 go_enter Tryd.func53, Tryd.ntmps53
 go_upto_region 1 with fail
 by_cases hlong : n > 3
 ·have hci0 : ((n : Int) > 3) := by omega
  refine wp_region_lit ?_
  refine zr (.slice A n c) w rfl ?_
  simp only [Act.put, zA]
  refine zr (.int .i64 (n : Int)) w (xo_len A n c Tryd.underlying44 rfl rfl) ?_
  simp only [Act.put, zA]
  refine zr (.bool true) w (xo_gtrT .i64 (n : Int) 3 (by omega) rfl rfl rfl) ?_
  simp only [Act.put, zA]
  refine wpList_nil ?_
  go_upto_region 2 with fail
  refine wp_region_lit ?_
  refine zr (.bool false) w rfl ?_
  simp only [Act.put, zA]
  refine wpList_nil ?_
  obtain rfl : b = false := by rw [← hb, Qu.vL, show decide (cs.length ≤ 3) = false from decide_eq_false (by omega), Bool.and_false]
  try clear hmeq
  try clear hnf7
  try clear hbq
  have hbf := (Below.refl w.heap.size w)
  go_wp2_with fail
  go_ret
  exact ⟨rfl, hbf⟩
 ·have hci0 : ¬ ((n : Int) > 3) := by omega
  refine wp_region_lit ?_
  refine zr (.slice A n c) w rfl ?_
  simp only [Act.put, zA]
  refine zr (.int .i64 (n : Int)) w (xo_len A n c Tryd.underlying44 rfl rfl) ?_
  simp only [Act.put, zA]
  refine zr (.bool false) w (xo_gtrF .i64 (n : Int) 3 (by omega) rfl rfl rfl) ?_
  simp only [Act.put, zA]
  refine wpList_nil ?_
  go_upto_region 3 with fail
  refine wp_region_lit ?_
  refine zr (.int .i64 0) w rfl ?_
  simp only [Act.put, zA]
  refine wpList_nil ?_
  have O1 := (Below.refl w.heap.size w)
  have B0 := zh (Below.refl w.heap.size w)
  go_wp2_with fail
  go_loopw [3] (fun p wr => ∃ i : Nat, i ≤ n ∧ p = .int .i64 i ∧ (cs.take i).all Qu.vC = true ∧ Below w.heap.size w wr) (fun p _ => n - (intOf p).toNat)
  case atStart => exact ⟨0, Nat.zero_le _, rfl, (by simp), O1⟩
  case round =>
   clear O1
   obtain ⟨wo, rfl⟩ : ∃ wo : World, wo = wr := ⟨_, rfl⟩
   obtain ⟨i, hi, rfl, hHALL, hb0⟩ := hrel
   have hbr := hb0
   clear B0
   have B0 := zh hbr
   clear hbr
   have HALL := zh hHALL
   clear hb0 hHALL
   by_cases hlt2 : i < n
   ·have hci3 : ((i : Int) < (n : Int)) := by omega
    obtain ⟨e0, hx⟩ : ∃ e, cs[i]? = some e := ⟨_, List.getElem?_eq_getElem (by omega)⟩
    obtain ⟨col, lo, hi2⟩ := e0
    have HE := zh hx
    clear hx
    go_upto_region 4 with fail
    refine wp_region_lit ?_
    refine zr (.int .i64 (i : Int)) wo rfl ?_
    simp only [Act.put, zA]
    refine zr (.slice A n c) wo rfl ?_
    simp only [Act.put, zA]
    refine zr (.int .i64 (n : Int)) wo (xo_len A n c Tryd.underlying44 rfl rfl) ?_
    simp only [Act.put, zA]
    refine zr (.bool true) wo (xo_lssT .i64 (i : Int) (n : Int) (by omega) rfl rfl rfl) ?_
    simp only [Act.put, zA]
    refine wpList_nil ?_
    by_cases h1 : col < 0
    ·have hm : Qu.vC ⟨col, lo, hi2⟩ = false := by unfold Qu.vC Qu.isC; simp <;> omega
     go_upto_region 6 with fail
     refine wp_floatP [0, 1, 2, 3, 4, 5, 6, 7, 8, 9, 10, 11, 12, 13, 14, 15, 16, 17, 18, 19, 20, 21, 22, 23, 24, 25, 26, 27, 28, 29, 30, 31, 32, 33, 34, 35, 36, 37, 38, 39, 40, 41, 42, 43, 44, 45, 46, 47, 48] (l' := [_, _, _, _, _, _, _, _, _, _, _, _, _, _, _, _, _, _, _, _, _, _, _, _, _, _, _, _, _, _, _, _, _, _, _, _, _, _, _, _, _, _, _, _, _, _, _, _, _]) (by kernel_rfl) (lexOK_of (by kernel_rfl) (by kernel_rfl)) (ordOK_of (by kernel_rfl) (by kernel_rfl)) rfl rfl ?_
     simp only [List.getElem_toArray, List.getElem_cons_succ, List.getElem_cons_zero]
     intro V2 hb hSW
     have B1 := zh hb
     have HF2 := zh hSW
     clear hb hSW
     refine wpF_seg 46 (by kernel_rfl) ?_
     simp only [List.take_succ_cons, List.take_zero, List.drop_succ_cons, List.drop_zero]
     refine zv (.slice A n c) (fun v hv => rfl) ?_
     simp only [Act.put, zA]
     refine zv (.int .i64 (i : Int)) (fun v hv => rfl) ?_
     simp only [Act.put, zA]
     refine zv (.pointer (some (gad A (i * 3)))) (fun v hv => (xg_idx .i64 ((HL.out.keep B0.out).keep (laterF hv)) HE.out Tryd.underlying44 (by kernel_rfl) rfl rfl rfl)) ?_
     simp only [Act.put, zA]
     refine zv (.pointer (some (gad A ((i * 3) + 0)))) (fun v hv => (xg_fld 0 ((HL.out.keep B0.out).keep (laterF hv)) HE.out (by kernel_rfl) rfl rfl)) ?_
     simp only [Act.put, zA]
     refine zv (.int .i64 col) (fun v hv => (xg_load1 (E := ciC) (i := i) (j := 0) ((HL.out.keep B0.out).keep (laterF hv)) HE.out rfl rfl Tryd.underlying3 rfl rfl rfl)) ?_
     simp only [Act.put, zA]
     refine zv (.bool true) (fun v hv => (xo_lssT .i64 col 0 (by omega) rfl rfl rfl)) ?_
     simp only [Act.put, zA]
     refine zv (.bool true) (fun v hv => rfl) ?_
     simp only [Act.put, zA]
     refine BigFrame.wpQuiet_skip (by kernel_rfl) ?_
     try simp only [Act.put, zA]
     refine BigFrame.wpQuiet_skip (by kernel_rfl) ?_
     try simp only [Act.put, zA]
     refine BigFrame.wpQuiet_skip (by kernel_rfl) ?_
     try simp only [Act.put, zA]
     refine BigFrame.wpQuiet_skip (by kernel_rfl) ?_
     try simp only [Act.put, zA]
     refine BigFrame.wpQuiet_skip (by kernel_rfl) ?_
     try simp only [Act.put, zA]
     refine BigFrame.wpQuiet_skip (by kernel_rfl) ?_
     try simp only [Act.put, zA]
     refine zv (.bool true) (fun v hv => rfl) ?_
     simp only [Act.put, zA]
     refine zv (.bool true) (fun v hv => rfl) ?_
     simp only [Act.put, zA]
     refine BigFrame.wpQuiet_skip (by kernel_rfl) ?_
     try simp only [Act.put, zA]
     refine BigFrame.wpQuiet_skip (by kernel_rfl) ?_
     try simp only [Act.put, zA]
     refine BigFrame.wpQuiet_skip (by kernel_rfl) ?_
     try simp only [Act.put, zA]
     refine BigFrame.wpQuiet_skip (by kernel_rfl) ?_
     try simp only [Act.put, zA]
     refine BigFrame.wpQuiet_skip (by kernel_rfl) ?_
     try simp only [Act.put, zA]
     refine BigFrame.wpQuiet_skip (by kernel_rfl) ?_
     try simp only [Act.put, zA]
     refine zv (.bool true) (fun v hv => rfl) ?_
     simp only [Act.put, zA]
     refine zv (.bool true) (fun v hv => rfl) ?_
     simp only [Act.put, zA]
     refine BigFrame.wpQuiet_skip (by kernel_rfl) ?_
     try simp only [Act.put, zA]
     refine BigFrame.wpQuiet_skip (by kernel_rfl) ?_
     try simp only [Act.put, zA]
     refine BigFrame.wpQuiet_skip (by kernel_rfl) ?_
     try simp only [Act.put, zA]
     refine BigFrame.wpQuiet_skip (by kernel_rfl) ?_
     try simp only [Act.put, zA]
     refine BigFrame.wpQuiet_skip (by kernel_rfl) ?_
     try simp only [Act.put, zA]
     refine BigFrame.wpQuiet_skip (by kernel_rfl) ?_
     try simp only [Act.put, zA]
     refine BigFrame.wpQuiet_skip (by kernel_rfl) ?_
     try simp only [Act.put, zA]
     refine BigFrame.wpQuiet_skip (by kernel_rfl) ?_
     try simp only [Act.put, zA]
     refine BigFrame.wpQuiet_skip (by kernel_rfl) ?_
     try simp only [Act.put, zA]
     refine BigFrame.wpQuiet_skip (by kernel_rfl) ?_
     try simp only [Act.put, zA]
     refine BigFrame.wpQuiet_skip (by kernel_rfl) ?_
     try simp only [Act.put, zA]
     refine zv (.bool true) (fun v hv => rfl) ?_
     simp only [Act.put, zA]
     refine zv (.bool true) (fun v hv => rfl) ?_
     simp only [Act.put, zA]
     refine BigFrame.wpQuiet_skip (by kernel_rfl) ?_
     try simp only [Act.put, zA]
     refine BigFrame.wpQuiet_skip (by kernel_rfl) ?_
     try simp only [Act.put, zA]
     refine BigFrame.wpQuiet_skip (by kernel_rfl) ?_
     try simp only [Act.put, zA]
     refine BigFrame.wpQuiet_skip (by kernel_rfl) ?_
     try simp only [Act.put, zA]
     refine BigFrame.wpQuiet_skip (by kernel_rfl) ?_
     try simp only [Act.put, zA]
     refine BigFrame.wpQuiet_skip (by kernel_rfl) ?_
     try simp only [Act.put, zA]
     refine BigFrame.wpQuiet_skip (by kernel_rfl) ?_
     try simp only [Act.put, zA]
     refine BigFrame.wpQuiet_skip (by kernel_rfl) ?_
     try simp only [Act.put, zA]
     refine BigFrame.wpQuiet_skip (by kernel_rfl) ?_
     try simp only [Act.put, zA]
     refine BigFrame.wpQuiet_skip (by kernel_rfl) ?_
     try simp only [Act.put, zA]
     refine wpQuiet_nil ?_
     refine wpF_skip rfl ?_
     simp only [ptr, Act.put, zA]
     refine wpF_seg 2 (by kernel_rfl) ?_
     simp only [List.take_succ_cons, List.take_zero, List.drop_succ_cons, List.drop_zero]
     refine BigFrame.wpQuiet_skip (by kernel_rfl) ?_
     try simp only [Act.put, zA]
     refine zv (.bool true) (fun v hv => rfl) ?_
     simp only [Act.put, zA]
     refine wpQuiet_nil ?_
     refine wpF_nil (fun V3 hb => ?_)
     have B2 := zh hb
     clear hb
     clear HF2
     go_upto_region 7 with fail
     refine wp_region_lit ?_
     refine zr (.bool false) V3 rfl ?_
     simp only [Act.put, zA]
     refine wpList_nil ?_
     obtain rfl : b = false := by rw [← hb, Qu.vL, all_false HE.out hm]; rfl
     try clear hmeq
     try clear hnf7
     try clear hbq
     have C0_2 := zb B0 B1
     have C0_3 := zb C0_2 B2
     have hbf := C0_3.out
     go_wp2_with fail
     go_ret
     exact ⟨rfl, hbf⟩
    ·by_cases h2 : col > 3
     ·have hm : Qu.vC ⟨col, lo, hi2⟩ = false := by unfold Qu.vC Qu.isC; simp <;> omega
      go_upto_region 6 with fail
      refine wp_floatP [0, 1, 2, 3, 4, 5, 6, 7, 8, 9, 10, 11, 12, 13, 14, 15, 16, 17, 18, 19, 20, 21, 22, 23, 24, 25, 26, 27, 28, 29, 30, 31, 32, 33, 34, 35, 36, 37, 38, 39, 40, 41, 42, 43, 44, 45, 46, 47, 48] (l' := [_, _, _, _, _, _, _, _, _, _, _, _, _, _, _, _, _, _, _, _, _, _, _, _, _, _, _, _, _, _, _, _, _, _, _, _, _, _, _, _, _, _, _, _, _, _, _, _, _]) (by kernel_rfl) (lexOK_of (by kernel_rfl) (by kernel_rfl)) (ordOK_of (by kernel_rfl) (by kernel_rfl)) rfl rfl ?_
      simp only [List.getElem_toArray, List.getElem_cons_succ, List.getElem_cons_zero]
      intro V2 hb hSW
      have B1 := zh hb
      have HF2 := zh hSW
      clear hb hSW
      refine wpF_seg 46 (by kernel_rfl) ?_
      simp only [List.take_succ_cons, List.take_zero, List.drop_succ_cons, List.drop_zero]
      refine zv (.slice A n c) (fun v hv => rfl) ?_
      simp only [Act.put, zA]
      refine zv (.int .i64 (i : Int)) (fun v hv => rfl) ?_
      simp only [Act.put, zA]
      refine zv (.pointer (some (gad A (i * 3)))) (fun v hv => (xg_idx .i64 ((HL.out.keep B0.out).keep (laterF hv)) HE.out Tryd.underlying44 (by kernel_rfl) rfl rfl rfl)) ?_
      simp only [Act.put, zA]
      refine zv (.pointer (some (gad A ((i * 3) + 0)))) (fun v hv => (xg_fld 0 ((HL.out.keep B0.out).keep (laterF hv)) HE.out (by kernel_rfl) rfl rfl)) ?_
      simp only [Act.put, zA]
      refine zv (.int .i64 col) (fun v hv => (xg_load1 (E := ciC) (i := i) (j := 0) ((HL.out.keep B0.out).keep (laterF hv)) HE.out rfl rfl Tryd.underlying3 rfl rfl rfl)) ?_
      simp only [Act.put, zA]
      refine zv (.bool false) (fun v hv => (xo_lssF .i64 col 0 (by omega) rfl rfl rfl)) ?_
      simp only [Act.put, zA]
      refine zv (.bool false) (fun v hv => rfl) ?_
      simp only [Act.put, zA]
      refine zv (.slice A n c) (fun v hv => rfl) ?_
      simp only [Act.put, zA]
      refine zv (.int .i64 (i : Int)) (fun v hv => rfl) ?_
      simp only [Act.put, zA]
      refine zv (.pointer (some (gad A (i * 3)))) (fun v hv => (xg_idx .i64 ((HL.out.keep B0.out).keep (laterF hv)) HE.out Tryd.underlying44 (by kernel_rfl) rfl rfl rfl)) ?_
      simp only [Act.put, zA]
      refine zv (.pointer (some (gad A ((i * 3) + 0)))) (fun v hv => (xg_fld 0 ((HL.out.keep B0.out).keep (laterF hv)) HE.out (by kernel_rfl) rfl rfl)) ?_
      simp only [Act.put, zA]
      refine zv (.int .i64 col) (fun v hv => (xg_load1 (E := ciC) (i := i) (j := 0) ((HL.out.keep B0.out).keep (laterF hv)) HE.out rfl rfl Tryd.underlying3 rfl rfl rfl)) ?_
      simp only [Act.put, zA]
      refine zv (.bool true) (fun v hv => (xo_gtrT .i64 col 3 (by omega) rfl rfl rfl)) ?_
      simp only [Act.put, zA]
      refine zv (.bool true) (fun v hv => rfl) ?_
      simp only [Act.put, zA]
      refine zv (.bool true) (fun v hv => rfl) ?_
      simp only [Act.put, zA]
      refine BigFrame.wpQuiet_skip (by kernel_rfl) ?_
      try simp only [Act.put, zA]
      refine BigFrame.wpQuiet_skip (by kernel_rfl) ?_
      try simp only [Act.put, zA]
      refine BigFrame.wpQuiet_skip (by kernel_rfl) ?_
      try simp only [Act.put, zA]
      refine BigFrame.wpQuiet_skip (by kernel_rfl) ?_
      try simp only [Act.put, zA]
      refine BigFrame.wpQuiet_skip (by kernel_rfl) ?_
      try simp only [Act.put, zA]
      refine BigFrame.wpQuiet_skip (by kernel_rfl) ?_
      try simp only [Act.put, zA]
      refine zv (.bool true) (fun v hv => rfl) ?_
      simp only [Act.put, zA]
      refine zv (.bool true) (fun v hv => rfl) ?_
      simp only [Act.put, zA]
      refine BigFrame.wpQuiet_skip (by kernel_rfl) ?_
      try simp only [Act.put, zA]
      refine BigFrame.wpQuiet_skip (by kernel_rfl) ?_
      try simp only [Act.put, zA]
      refine BigFrame.wpQuiet_skip (by kernel_rfl) ?_
      try simp only [Act.put, zA]
      refine BigFrame.wpQuiet_skip (by kernel_rfl) ?_
      try simp only [Act.put, zA]
      refine BigFrame.wpQuiet_skip (by kernel_rfl) ?_
      try simp only [Act.put, zA]
      refine BigFrame.wpQuiet_skip (by kernel_rfl) ?_
      try simp only [Act.put, zA]
      refine BigFrame.wpQuiet_skip (by kernel_rfl) ?_
      try simp only [Act.put, zA]
      refine BigFrame.wpQuiet_skip (by kernel_rfl) ?_
      try simp only [Act.put, zA]
      refine BigFrame.wpQuiet_skip (by kernel_rfl) ?_
      try simp only [Act.put, zA]
      refine BigFrame.wpQuiet_skip (by kernel_rfl) ?_
      try simp only [Act.put, zA]
      refine BigFrame.wpQuiet_skip (by kernel_rfl) ?_
      try simp only [Act.put, zA]
      refine zv (.bool true) (fun v hv => rfl) ?_
      simp only [Act.put, zA]
      refine zv (.bool true) (fun v hv => rfl) ?_
      simp only [Act.put, zA]
      refine BigFrame.wpQuiet_skip (by kernel_rfl) ?_
      try simp only [Act.put, zA]
      refine BigFrame.wpQuiet_skip (by kernel_rfl) ?_
      try simp only [Act.put, zA]
      refine BigFrame.wpQuiet_skip (by kernel_rfl) ?_
      try simp only [Act.put, zA]
      refine BigFrame.wpQuiet_skip (by kernel_rfl) ?_
      try simp only [Act.put, zA]
      refine BigFrame.wpQuiet_skip (by kernel_rfl) ?_
      try simp only [Act.put, zA]
      refine BigFrame.wpQuiet_skip (by kernel_rfl) ?_
      try simp only [Act.put, zA]
      refine BigFrame.wpQuiet_skip (by kernel_rfl) ?_
      try simp only [Act.put, zA]
      refine BigFrame.wpQuiet_skip (by kernel_rfl) ?_
      try simp only [Act.put, zA]
      refine BigFrame.wpQuiet_skip (by kernel_rfl) ?_
      try simp only [Act.put, zA]
      refine BigFrame.wpQuiet_skip (by kernel_rfl) ?_
      try simp only [Act.put, zA]
      refine wpQuiet_nil ?_
      refine wpF_skip rfl ?_
      simp only [ptr, Act.put, zA]
      refine wpF_seg 2 (by kernel_rfl) ?_
      simp only [List.take_succ_cons, List.take_zero, List.drop_succ_cons, List.drop_zero]
      refine BigFrame.wpQuiet_skip (by kernel_rfl) ?_
      try simp only [Act.put, zA]
      refine zv (.bool true) (fun v hv => rfl) ?_
      simp only [Act.put, zA]
      refine wpQuiet_nil ?_
      refine wpF_nil (fun V3 hb => ?_)
      have B2 := zh hb
      clear hb
      clear HF2
      go_upto_region 7 with fail
      refine wp_region_lit ?_
      refine zr (.bool false) V3 rfl ?_
      simp only [Act.put, zA]
      refine wpList_nil ?_
      obtain rfl : b = false := by rw [← hb, Qu.vL, all_false HE.out hm]; rfl
      try clear hmeq
      try clear hnf7
      try clear hbq
      have C0_2 := zb B0 B1
      have C0_3 := zb C0_2 B2
      have hbf := C0_3.out
      go_wp2_with fail
      go_ret
      exact ⟨rfl, hbf⟩
     ·by_cases h3 : lo < 0
      ·have hm : Qu.vC ⟨col, lo, hi2⟩ = false := by unfold Qu.vC Qu.isC; simp <;> omega
       go_upto_region 6 with fail
       refine wp_floatP [0, 1, 2, 3, 4, 5, 6, 7, 8, 9, 10, 11, 12, 13, 14, 15, 16, 17, 18, 19, 20, 21, 22, 23, 24, 25, 26, 27, 28, 29, 30, 31, 32, 33, 34, 35, 36, 37, 38, 39, 40, 41, 42, 43, 44, 45, 46, 47, 48] (l' := [_, _, _, _, _, _, _, _, _, _, _, _, _, _, _, _, _, _, _, _, _, _, _, _, _, _, _, _, _, _, _, _, _, _, _, _, _, _, _, _, _, _, _, _, _, _, _, _, _]) (by kernel_rfl) (lexOK_of (by kernel_rfl) (by kernel_rfl)) (ordOK_of (by kernel_rfl) (by kernel_rfl)) rfl rfl ?_
       simp only [List.getElem_toArray, List.getElem_cons_succ, List.getElem_cons_zero]
       intro V2 hb hSW
       have B1 := zh hb
       have HF2 := zh hSW
       clear hb hSW
       refine wpF_seg 46 (by kernel_rfl) ?_
       simp only [List.take_succ_cons, List.take_zero, List.drop_succ_cons, List.drop_zero]
       refine zv (.slice A n c) (fun v hv => rfl) ?_
       simp only [Act.put, zA]
       refine zv (.int .i64 (i : Int)) (fun v hv => rfl) ?_
       simp only [Act.put, zA]
       refine zv (.pointer (some (gad A (i * 3)))) (fun v hv => (xg_idx .i64 ((HL.out.keep B0.out).keep (laterF hv)) HE.out Tryd.underlying44 (by kernel_rfl) rfl rfl rfl)) ?_
       simp only [Act.put, zA]
       refine zv (.pointer (some (gad A ((i * 3) + 0)))) (fun v hv => (xg_fld 0 ((HL.out.keep B0.out).keep (laterF hv)) HE.out (by kernel_rfl) rfl rfl)) ?_
       simp only [Act.put, zA]
       refine zv (.int .i64 col) (fun v hv => (xg_load1 (E := ciC) (i := i) (j := 0) ((HL.out.keep B0.out).keep (laterF hv)) HE.out rfl rfl Tryd.underlying3 rfl rfl rfl)) ?_
       simp only [Act.put, zA]
       refine zv (.bool false) (fun v hv => (xo_lssF .i64 col 0 (by omega) rfl rfl rfl)) ?_
       simp only [Act.put, zA]
       refine zv (.bool false) (fun v hv => rfl) ?_
       simp only [Act.put, zA]
       refine zv (.slice A n c) (fun v hv => rfl) ?_
       simp only [Act.put, zA]
       refine zv (.int .i64 (i : Int)) (fun v hv => rfl) ?_
       simp only [Act.put, zA]
       refine zv (.pointer (some (gad A (i * 3)))) (fun v hv => (xg_idx .i64 ((HL.out.keep B0.out).keep (laterF hv)) HE.out Tryd.underlying44 (by kernel_rfl) rfl rfl rfl)) ?_
       simp only [Act.put, zA]
       refine zv (.pointer (some (gad A ((i * 3) + 0)))) (fun v hv => (xg_fld 0 ((HL.out.keep B0.out).keep (laterF hv)) HE.out (by kernel_rfl) rfl rfl)) ?_
       simp only [Act.put, zA]
       refine zv (.int .i64 col) (fun v hv => (xg_load1 (E := ciC) (i := i) (j := 0) ((HL.out.keep B0.out).keep (laterF hv)) HE.out rfl rfl Tryd.underlying3 rfl rfl rfl)) ?_
       simp only [Act.put, zA]
       refine zv (.bool false) (fun v hv => (xo_gtrF .i64 col 3 (by omega) rfl rfl rfl)) ?_
       simp only [Act.put, zA]
       refine zv (.bool false) (fun v hv => rfl) ?_
       simp only [Act.put, zA]
       refine zv (.bool false) (fun v hv => rfl) ?_
       simp only [Act.put, zA]
       refine zv (.slice A n c) (fun v hv => rfl) ?_
       simp only [Act.put, zA]
       refine zv (.int .i64 (i : Int)) (fun v hv => rfl) ?_
       simp only [Act.put, zA]
       refine zv (.pointer (some (gad A (i * 3)))) (fun v hv => (xg_idx .i64 ((HL.out.keep B0.out).keep (laterF hv)) HE.out Tryd.underlying44 (by kernel_rfl) rfl rfl rfl)) ?_
       simp only [Act.put, zA]
       refine zv (.pointer (some (gad A ((i * 3) + 1)))) (fun v hv => (xg_fld 1 ((HL.out.keep B0.out).keep (laterF hv)) HE.out (by kernel_rfl) rfl rfl)) ?_
       simp only [Act.put, zA]
       refine zv (.int .i64 lo) (fun v hv => (xg_load1 (E := ciC) (i := i) (j := 1) ((HL.out.keep B0.out).keep (laterF hv)) HE.out rfl rfl Tryd.underlying3 rfl rfl rfl)) ?_
       simp only [Act.put, zA]
       refine zv (.bool true) (fun v hv => (xo_lssT .i64 lo 0 (by omega) rfl rfl rfl)) ?_
       simp only [Act.put, zA]
       refine zv (.bool true) (fun v hv => rfl) ?_
       simp only [Act.put, zA]
       refine zv (.bool true) (fun v hv => rfl) ?_
       simp only [Act.put, zA]
       refine BigFrame.wpQuiet_skip (by kernel_rfl) ?_
       try simp only [Act.put, zA]
       refine BigFrame.wpQuiet_skip (by kernel_rfl) ?_
       try simp only [Act.put, zA]
       refine BigFrame.wpQuiet_skip (by kernel_rfl) ?_
       try simp only [Act.put, zA]
       refine BigFrame.wpQuiet_skip (by kernel_rfl) ?_
       try simp only [Act.put, zA]
       refine BigFrame.wpQuiet_skip (by kernel_rfl) ?_
       try simp only [Act.put, zA]
       refine BigFrame.wpQuiet_skip (by kernel_rfl) ?_
       try simp only [Act.put, zA]
       refine BigFrame.wpQuiet_skip (by kernel_rfl) ?_
       try simp only [Act.put, zA]
       refine BigFrame.wpQuiet_skip (by kernel_rfl) ?_
       try simp only [Act.put, zA]
       refine BigFrame.wpQuiet_skip (by kernel_rfl) ?_
       try simp only [Act.put, zA]
       refine BigFrame.wpQuiet_skip (by kernel_rfl) ?_
       try simp only [Act.put, zA]
       refine BigFrame.wpQuiet_skip (by kernel_rfl) ?_
       try simp only [Act.put, zA]
       refine zv (.bool true) (fun v hv => rfl) ?_
       simp only [Act.put, zA]
       refine zv (.bool true) (fun v hv => rfl) ?_
       simp only [Act.put, zA]
       refine BigFrame.wpQuiet_skip (by kernel_rfl) ?_
       try simp only [Act.put, zA]
       refine BigFrame.wpQuiet_skip (by kernel_rfl) ?_
       try simp only [Act.put, zA]
       refine BigFrame.wpQuiet_skip (by kernel_rfl) ?_
       try simp only [Act.put, zA]
       refine BigFrame.wpQuiet_skip (by kernel_rfl) ?_
       try simp only [Act.put, zA]
       refine BigFrame.wpQuiet_skip (by kernel_rfl) ?_
       try simp only [Act.put, zA]
       refine BigFrame.wpQuiet_skip (by kernel_rfl) ?_
       try simp only [Act.put, zA]
       refine BigFrame.wpQuiet_skip (by kernel_rfl) ?_
       try simp only [Act.put, zA]
       refine BigFrame.wpQuiet_skip (by kernel_rfl) ?_
       try simp only [Act.put, zA]
       refine BigFrame.wpQuiet_skip (by kernel_rfl) ?_
       try simp only [Act.put, zA]
       refine BigFrame.wpQuiet_skip (by kernel_rfl) ?_
       try simp only [Act.put, zA]
       refine wpQuiet_nil ?_
       refine wpF_skip rfl ?_
       simp only [ptr, Act.put, zA]
       refine wpF_seg 2 (by kernel_rfl) ?_
       simp only [List.take_succ_cons, List.take_zero, List.drop_succ_cons, List.drop_zero]
       refine BigFrame.wpQuiet_skip (by kernel_rfl) ?_
       try simp only [Act.put, zA]
       refine zv (.bool true) (fun v hv => rfl) ?_
       simp only [Act.put, zA]
       refine wpQuiet_nil ?_
       refine wpF_nil (fun V3 hb => ?_)
       have B2 := zh hb
       clear hb
       clear HF2
       go_upto_region 7 with fail
       refine wp_region_lit ?_
       refine zr (.bool false) V3 rfl ?_
       simp only [Act.put, zA]
       refine wpList_nil ?_
       obtain rfl : b = false := by rw [← hb, Qu.vL, all_false HE.out hm]; rfl
       try clear hmeq
       try clear hnf7
       try clear hbq
       have C0_2 := zb B0 B1
       have C0_3 := zb C0_2 B2
       have hbf := C0_3.out
       go_wp2_with fail
       go_ret
       exact ⟨rfl, hbf⟩
      ·by_cases h4 : hi2 < lo
       ·have hm : Qu.vC ⟨col, lo, hi2⟩ = false := by unfold Qu.vC Qu.isC; simp <;> omega
        go_upto_region 6 with fail
        refine wp_floatP [0, 1, 2, 3, 4, 5, 6, 7, 8, 9, 10, 11, 12, 13, 14, 15, 16, 17, 18, 19, 20, 21, 22, 23, 24, 25, 26, 27, 28, 29, 30, 31, 32, 33, 34, 35, 36, 37, 38, 39, 40, 41, 42, 43, 44, 45, 46, 47, 48] (l' := [_, _, _, _, _, _, _, _, _, _, _, _, _, _, _, _, _, _, _, _, _, _, _, _, _, _, _, _, _, _, _, _, _, _, _, _, _, _, _, _, _, _, _, _, _, _, _, _, _]) (by kernel_rfl) (lexOK_of (by kernel_rfl) (by kernel_rfl)) (ordOK_of (by kernel_rfl) (by kernel_rfl)) rfl rfl ?_
        simp only [List.getElem_toArray, List.getElem_cons_succ, List.getElem_cons_zero]
        intro V2 hb hSW
        have B1 := zh hb
        have HF2 := zh hSW
        clear hb hSW
        refine wpF_seg 46 (by kernel_rfl) ?_
        simp only [List.take_succ_cons, List.take_zero, List.drop_succ_cons, List.drop_zero]
        refine zv (.slice A n c) (fun v hv => rfl) ?_
        simp only [Act.put, zA]
        refine zv (.int .i64 (i : Int)) (fun v hv => rfl) ?_
        simp only [Act.put, zA]
        refine zv (.pointer (some (gad A (i * 3)))) (fun v hv => (xg_idx .i64 ((HL.out.keep B0.out).keep (laterF hv)) HE.out Tryd.underlying44 (by kernel_rfl) rfl rfl rfl)) ?_
        simp only [Act.put, zA]
        refine zv (.pointer (some (gad A ((i * 3) + 0)))) (fun v hv => (xg_fld 0 ((HL.out.keep B0.out).keep (laterF hv)) HE.out (by kernel_rfl) rfl rfl)) ?_
        simp only [Act.put, zA]
        refine zv (.int .i64 col) (fun v hv => (xg_load1 (E := ciC) (i := i) (j := 0) ((HL.out.keep B0.out).keep (laterF hv)) HE.out rfl rfl Tryd.underlying3 rfl rfl rfl)) ?_
        simp only [Act.put, zA]
        refine zv (.bool false) (fun v hv => (xo_lssF .i64 col 0 (by omega) rfl rfl rfl)) ?_
        simp only [Act.put, zA]
        refine zv (.bool false) (fun v hv => rfl) ?_
        simp only [Act.put, zA]
        refine zv (.slice A n c) (fun v hv => rfl) ?_
        simp only [Act.put, zA]
        refine zv (.int .i64 (i : Int)) (fun v hv => rfl) ?_
        simp only [Act.put, zA]
        refine zv (.pointer (some (gad A (i * 3)))) (fun v hv => (xg_idx .i64 ((HL.out.keep B0.out).keep (laterF hv)) HE.out Tryd.underlying44 (by kernel_rfl) rfl rfl rfl)) ?_
        simp only [Act.put, zA]
        refine zv (.pointer (some (gad A ((i * 3) + 0)))) (fun v hv => (xg_fld 0 ((HL.out.keep B0.out).keep (laterF hv)) HE.out (by kernel_rfl) rfl rfl)) ?_
        simp only [Act.put, zA]
        refine zv (.int .i64 col) (fun v hv => (xg_load1 (E := ciC) (i := i) (j := 0) ((HL.out.keep B0.out).keep (laterF hv)) HE.out rfl rfl Tryd.underlying3 rfl rfl rfl)) ?_
        simp only [Act.put, zA]
        refine zv (.bool false) (fun v hv => (xo_gtrF .i64 col 3 (by omega) rfl rfl rfl)) ?_
        simp only [Act.put, zA]
        refine zv (.bool false) (fun v hv => rfl) ?_
        simp only [Act.put, zA]
        refine zv (.bool false) (fun v hv => rfl) ?_
        simp only [Act.put, zA]
        refine zv (.slice A n c) (fun v hv => rfl) ?_
        simp only [Act.put, zA]
        refine zv (.int .i64 (i : Int)) (fun v hv => rfl) ?_
        simp only [Act.put, zA]
        refine zv (.pointer (some (gad A (i * 3)))) (fun v hv => (xg_idx .i64 ((HL.out.keep B0.out).keep (laterF hv)) HE.out Tryd.underlying44 (by kernel_rfl) rfl rfl rfl)) ?_
        simp only [Act.put, zA]
        refine zv (.pointer (some (gad A ((i * 3) + 1)))) (fun v hv => (xg_fld 1 ((HL.out.keep B0.out).keep (laterF hv)) HE.out (by kernel_rfl) rfl rfl)) ?_
        simp only [Act.put, zA]
        refine zv (.int .i64 lo) (fun v hv => (xg_load1 (E := ciC) (i := i) (j := 1) ((HL.out.keep B0.out).keep (laterF hv)) HE.out rfl rfl Tryd.underlying3 rfl rfl rfl)) ?_
        simp only [Act.put, zA]
        refine zv (.bool false) (fun v hv => (xo_lssF .i64 lo 0 (by omega) rfl rfl rfl)) ?_
        simp only [Act.put, zA]
        refine zv (.bool false) (fun v hv => rfl) ?_
        simp only [Act.put, zA]
        refine zv (.bool false) (fun v hv => rfl) ?_
        simp only [Act.put, zA]
        refine zv (.slice A n c) (fun v hv => rfl) ?_
        simp only [Act.put, zA]
        refine zv (.int .i64 (i : Int)) (fun v hv => rfl) ?_
        simp only [Act.put, zA]
        refine zv (.pointer (some (gad A (i * 3)))) (fun v hv => (xg_idx .i64 ((HL.out.keep B0.out).keep (laterF hv)) HE.out Tryd.underlying44 (by kernel_rfl) rfl rfl rfl)) ?_
        simp only [Act.put, zA]
        refine zv (.pointer (some (gad A ((i * 3) + 2)))) (fun v hv => (xg_fld 2 ((HL.out.keep B0.out).keep (laterF hv)) HE.out (by kernel_rfl) rfl rfl)) ?_
        simp only [Act.put, zA]
        refine zv (.int .i64 hi2) (fun v hv => (xg_load1 (E := ciC) (i := i) (j := 2) ((HL.out.keep B0.out).keep (laterF hv)) HE.out rfl rfl Tryd.underlying3 rfl rfl rfl)) ?_
        simp only [Act.put, zA]
        refine zv (.slice A n c) (fun v hv => rfl) ?_
        simp only [Act.put, zA]
        refine zv (.int .i64 (i : Int)) (fun v hv => rfl) ?_
        simp only [Act.put, zA]
        refine zv (.pointer (some (gad A (i * 3)))) (fun v hv => (xg_idx .i64 ((HL.out.keep B0.out).keep (laterF hv)) HE.out Tryd.underlying44 (by kernel_rfl) rfl rfl rfl)) ?_
        simp only [Act.put, zA]
        refine zv (.pointer (some (gad A ((i * 3) + 1)))) (fun v hv => (xg_fld 1 ((HL.out.keep B0.out).keep (laterF hv)) HE.out (by kernel_rfl) rfl rfl)) ?_
        simp only [Act.put, zA]
        refine zv (.int .i64 lo) (fun v hv => (xg_load1 (E := ciC) (i := i) (j := 1) ((HL.out.keep B0.out).keep (laterF hv)) HE.out rfl rfl Tryd.underlying3 rfl rfl rfl)) ?_
        simp only [Act.put, zA]
        refine zv (.bool true) (fun v hv => (xo_lssT .i64 hi2 lo (by omega) rfl rfl rfl)) ?_
        simp only [Act.put, zA]
        refine zv (.bool true) (fun v hv => rfl) ?_
        simp only [Act.put, zA]
        refine zv (.bool true) (fun v hv => rfl) ?_
        simp only [Act.put, zA]
        refine BigFrame.wpQuiet_skip (by kernel_rfl) ?_
        try simp only [Act.put, zA]
        refine BigFrame.wpQuiet_skip (by kernel_rfl) ?_
        try simp only [Act.put, zA]
        refine BigFrame.wpQuiet_skip (by kernel_rfl) ?_
        try simp only [Act.put, zA]
        refine BigFrame.wpQuiet_skip (by kernel_rfl) ?_
        try simp only [Act.put, zA]
        refine BigFrame.wpQuiet_skip (by kernel_rfl) ?_
        try simp only [Act.put, zA]
        refine BigFrame.wpQuiet_skip (by kernel_rfl) ?_
        try simp only [Act.put, zA]
        refine BigFrame.wpQuiet_skip (by kernel_rfl) ?_
        try simp only [Act.put, zA]
        refine BigFrame.wpQuiet_skip (by kernel_rfl) ?_
        try simp only [Act.put, zA]
        refine BigFrame.wpQuiet_skip (by kernel_rfl) ?_
        try simp only [Act.put, zA]
        refine BigFrame.wpQuiet_skip (by kernel_rfl) ?_
        try simp only [Act.put, zA]
        refine wpQuiet_nil ?_
        refine wpF_skip rfl ?_
        simp only [ptr, Act.put, zA]
        refine wpF_seg 2 (by kernel_rfl) ?_
        simp only [List.take_succ_cons, List.take_zero, List.drop_succ_cons, List.drop_zero]
        refine BigFrame.wpQuiet_skip (by kernel_rfl) ?_
        try simp only [Act.put, zA]
        refine zv (.bool true) (fun v hv => rfl) ?_
        simp only [Act.put, zA]
        refine wpQuiet_nil ?_
        refine wpF_nil (fun V3 hb => ?_)
        have B2 := zh hb
        clear hb
        clear HF2
        go_upto_region 7 with fail
        refine wp_region_lit ?_
        refine zr (.bool false) V3 rfl ?_
        simp only [Act.put, zA]
        refine wpList_nil ?_
        obtain rfl : b = false := by rw [← hb, Qu.vL, all_false HE.out hm]; rfl
        try clear hmeq
        try clear hnf7
        try clear hbq
        have C0_2 := zb B0 B1
        have C0_3 := zb C0_2 B2
        have hbf := C0_3.out
        go_wp2_with fail
        go_ret
        exact ⟨rfl, hbf⟩
       ·obtain ⟨k, rfl⟩ : ∃ k : Nat, col = (k : Int) := ⟨col.toNat, by omega⟩
        have hk4 : k < 4 := by omega
        obtain ⟨m, hm0⟩ : ∃ m, Qu.maxN k = m := ⟨_, rfl⟩
        have HM := zh hm0
        clear hm0
        have hme : Qu.vC ⟨(k : Int), lo, hi2⟩ = decide (hi2 ≤ (m : Int)) := by
                 unfold Qu.vC Qu.isC
                 rw [show (Qu.Ci.mk (k : Int) lo hi2).col = (k : Int) from rfl, Int.toNat_natCast, HM.out, decide_eq_true (show (0 : Int) ≤ (k : Int) by omega), decide_eq_true (show (k : Int) < 4 by omega), decide_eq_true (show (0 : Int) ≤ (Qu.Ci.mk (k : Int) lo hi2).lo from by show (0 : Int) ≤ lo; omega), decide_eq_true (show (Qu.Ci.mk (k : Int) lo hi2).lo ≤ (Qu.Ci.mk (k : Int) lo hi2).hi from by show lo ≤ hi2; omega)]
                 rfl
        by_cases h5 : hi2 > ((m : Nat) : Int)
        ·have hm : Qu.vC ⟨(k : Int), lo, hi2⟩ = false := by rw [hme] <;> simp <;> omega
         go_upto_region 6 with fail
         refine wp_floatP [0, 1, 2, 3, 4, 5, 6, 7, 8, 9, 10, 11, 12, 13, 14, 15, 16, 17, 18, 19, 20, 21, 22, 23, 24, 25, 26, 27, 28, 29, 30, 31, 32, 33, 34, 35, 36, 37, 38, 39, 40, 41, 42, 43, 44, 45, 46, 47, 48] (l' := [_, _, _, _, _, _, _, _, _, _, _, _, _, _, _, _, _, _, _, _, _, _, _, _, _, _, _, _, _, _, _, _, _, _, _, _, _, _, _, _, _, _, _, _, _, _, _, _, _]) (by kernel_rfl) (lexOK_of (by kernel_rfl) (by kernel_rfl)) (ordOK_of (by kernel_rfl) (by kernel_rfl)) rfl rfl ?_
         simp only [List.getElem_toArray, List.getElem_cons_succ, List.getElem_cons_zero]
         intro V2 hb hSW
         have B1 := zh hb
         have HF2 := zh hSW
         clear hb hSW
         refine wpF_seg 46 (by kernel_rfl) ?_
         simp only [List.take_succ_cons, List.take_zero, List.drop_succ_cons, List.drop_zero]
         refine zv (.slice A n c) (fun v hv => rfl) ?_
         simp only [Act.put, zA]
         refine zv (.int .i64 (i : Int)) (fun v hv => rfl) ?_
         simp only [Act.put, zA]
         refine zv (.pointer (some (gad A (i * 3)))) (fun v hv => (xg_idx .i64 ((HL.out.keep B0.out).keep (laterF hv)) HE.out Tryd.underlying44 (by kernel_rfl) rfl rfl rfl)) ?_
         simp only [Act.put, zA]
         refine zv (.pointer (some (gad A ((i * 3) + 0)))) (fun v hv => (xg_fld 0 ((HL.out.keep B0.out).keep (laterF hv)) HE.out (by kernel_rfl) rfl rfl)) ?_
         simp only [Act.put, zA]
         refine zv (.int .i64 (k : Int)) (fun v hv => (xg_load1 (E := ciC) (i := i) (j := 0) ((HL.out.keep B0.out).keep (laterF hv)) HE.out rfl rfl Tryd.underlying3 rfl rfl rfl)) ?_
         simp only [Act.put, zA]
         refine zv (.bool false) (fun v hv => (xo_lssF .i64 (k : Int) 0 (by omega) rfl rfl rfl)) ?_
         simp only [Act.put, zA]
         refine zv (.bool false) (fun v hv => rfl) ?_
         simp only [Act.put, zA]
         refine zv (.slice A n c) (fun v hv => rfl) ?_
         simp only [Act.put, zA]
         refine zv (.int .i64 (i : Int)) (fun v hv => rfl) ?_
         simp only [Act.put, zA]
         refine zv (.pointer (some (gad A (i * 3)))) (fun v hv => (xg_idx .i64 ((HL.out.keep B0.out).keep (laterF hv)) HE.out Tryd.underlying44 (by kernel_rfl) rfl rfl rfl)) ?_
         simp only [Act.put, zA]
         refine zv (.pointer (some (gad A ((i * 3) + 0)))) (fun v hv => (xg_fld 0 ((HL.out.keep B0.out).keep (laterF hv)) HE.out (by kernel_rfl) rfl rfl)) ?_
         simp only [Act.put, zA]
         refine zv (.int .i64 (k : Int)) (fun v hv => (xg_load1 (E := ciC) (i := i) (j := 0) ((HL.out.keep B0.out).keep (laterF hv)) HE.out rfl rfl Tryd.underlying3 rfl rfl rfl)) ?_
         simp only [Act.put, zA]
         refine zv (.bool false) (fun v hv => (xo_gtrF .i64 (k : Int) 3 (by omega) rfl rfl rfl)) ?_
         simp only [Act.put, zA]
         refine zv (.bool false) (fun v hv => rfl) ?_
         simp only [Act.put, zA]
         refine zv (.bool false) (fun v hv => rfl) ?_
         simp only [Act.put, zA]
         refine zv (.slice A n c) (fun v hv => rfl) ?_
         simp only [Act.put, zA]
         refine zv (.int .i64 (i : Int)) (fun v hv => rfl) ?_
         simp only [Act.put, zA]
         refine zv (.pointer (some (gad A (i * 3)))) (fun v hv => (xg_idx .i64 ((HL.out.keep B0.out).keep (laterF hv)) HE.out Tryd.underlying44 (by kernel_rfl) rfl rfl rfl)) ?_
         simp only [Act.put, zA]
         refine zv (.pointer (some (gad A ((i * 3) + 1)))) (fun v hv => (xg_fld 1 ((HL.out.keep B0.out).keep (laterF hv)) HE.out (by kernel_rfl) rfl rfl)) ?_
         simp only [Act.put, zA]
         refine zv (.int .i64 lo) (fun v hv => (xg_load1 (E := ciC) (i := i) (j := 1) ((HL.out.keep B0.out).keep (laterF hv)) HE.out rfl rfl Tryd.underlying3 rfl rfl rfl)) ?_
         simp only [Act.put, zA]
         refine zv (.bool false) (fun v hv => (xo_lssF .i64 lo 0 (by omega) rfl rfl rfl)) ?_
         simp only [Act.put, zA]
         refine zv (.bool false) (fun v hv => rfl) ?_
         simp only [Act.put, zA]
         refine zv (.bool false) (fun v hv => rfl) ?_
         simp only [Act.put, zA]
         refine zv (.slice A n c) (fun v hv => rfl) ?_
         simp only [Act.put, zA]
         refine zv (.int .i64 (i : Int)) (fun v hv => rfl) ?_
         simp only [Act.put, zA]
         refine zv (.pointer (some (gad A (i * 3)))) (fun v hv => (xg_idx .i64 ((HL.out.keep B0.out).keep (laterF hv)) HE.out Tryd.underlying44 (by kernel_rfl) rfl rfl rfl)) ?_
         simp only [Act.put, zA]
         refine zv (.pointer (some (gad A ((i * 3) + 2)))) (fun v hv => (xg_fld 2 ((HL.out.keep B0.out).keep (laterF hv)) HE.out (by kernel_rfl) rfl rfl)) ?_
         simp only [Act.put, zA]
         refine zv (.int .i64 hi2) (fun v hv => (xg_load1 (E := ciC) (i := i) (j := 2) ((HL.out.keep B0.out).keep (laterF hv)) HE.out rfl rfl Tryd.underlying3 rfl rfl rfl)) ?_
         simp only [Act.put, zA]
         refine zv (.slice A n c) (fun v hv => rfl) ?_
         simp only [Act.put, zA]
         refine zv (.int .i64 (i : Int)) (fun v hv => rfl) ?_
         simp only [Act.put, zA]
         refine zv (.pointer (some (gad A (i * 3)))) (fun v hv => (xg_idx .i64 ((HL.out.keep B0.out).keep (laterF hv)) HE.out Tryd.underlying44 (by kernel_rfl) rfl rfl rfl)) ?_
         simp only [Act.put, zA]
         refine zv (.pointer (some (gad A ((i * 3) + 1)))) (fun v hv => (xg_fld 1 ((HL.out.keep B0.out).keep (laterF hv)) HE.out (by kernel_rfl) rfl rfl)) ?_
         simp only [Act.put, zA]
         refine zv (.int .i64 lo) (fun v hv => (xg_load1 (E := ciC) (i := i) (j := 1) ((HL.out.keep B0.out).keep (laterF hv)) HE.out rfl rfl Tryd.underlying3 rfl rfl rfl)) ?_
         simp only [Act.put, zA]
         refine zv (.bool false) (fun v hv => (xo_lssF .i64 hi2 lo (by omega) rfl rfl rfl)) ?_
         simp only [Act.put, zA]
         refine zv (.bool false) (fun v hv => rfl) ?_
         simp only [Act.put, zA]
         refine zv (.bool false) (fun v hv => rfl) ?_
         simp only [Act.put, zA]
         refine zv (.slice A n c) (fun v hv => rfl) ?_
         simp only [Act.put, zA]
         refine zv (.int .i64 (i : Int)) (fun v hv => rfl) ?_
         simp only [Act.put, zA]
         refine zv (.pointer (some (gad A (i * 3)))) (fun v hv => (xg_idx .i64 ((HL.out.keep B0.out).keep (laterF hv)) HE.out Tryd.underlying44 (by kernel_rfl) rfl rfl rfl)) ?_
         simp only [Act.put, zA]
         refine zv (.pointer (some (gad A ((i * 3) + 2)))) (fun v hv => (xg_fld 2 ((HL.out.keep B0.out).keep (laterF hv)) HE.out (by kernel_rfl) rfl rfl)) ?_
         simp only [Act.put, zA]
         refine zv (.int .i64 hi2) (fun v hv => (xg_load1 (E := ciC) (i := i) (j := 2) ((HL.out.keep B0.out).keep (laterF hv)) HE.out rfl rfl Tryd.underlying3 rfl rfl rfl)) ?_
         simp only [Act.put, zA]
         refine zv (.slice A n c) (fun v hv => rfl) ?_
         simp only [Act.put, zA]
         refine zv (.int .i64 (i : Int)) (fun v hv => rfl) ?_
         simp only [Act.put, zA]
         refine zv (.pointer (some (gad A (i * 3)))) (fun v hv => (xg_idx .i64 ((HL.out.keep B0.out).keep (laterF hv)) HE.out Tryd.underlying44 (by kernel_rfl) rfl rfl rfl)) ?_
         simp only [Act.put, zA]
         refine zv (.pointer (some (gad A ((i * 3) + 0)))) (fun v hv => (xg_fld 0 ((HL.out.keep B0.out).keep (laterF hv)) HE.out (by kernel_rfl) rfl rfl)) ?_
         simp only [Act.put, zA]
         refine zv (.int .i64 (k : Int)) (fun v hv => (xg_load1 (E := ciC) (i := i) (j := 0) ((HL.out.keep B0.out).keep (laterF hv)) HE.out rfl rfl Tryd.underlying3 rfl rfl rfl)) ?_
         simp only [Act.put, zA]
         refine wpQuiet_nil ?_
         refine wpF_call 26 Tryd.func26 (by kernel_rfl) (by kernel_rfl) _ _ #[.int .i64 (k : Int)] rfl (by kernel_rfl) (by kernel_rfl) HF2.out (fun V3 hb => ?_)
         have B2 := zh hb
         have HF3 := zh (HF2.out.ext hb)
         clear hb
         refine (max_as k m hk4 HM.out V3).mono ?_
         rintro e _ ⟨rfl, rfl⟩
         refine ⟨_, rfl, Below.refl _ _, ?_⟩
         simp only [Act.put, zA]
         refine wpF_seg 2 (by kernel_rfl) ?_
         simp only [List.take_succ_cons, List.take_zero, List.drop_succ_cons, List.drop_zero]
         refine zv (.bool true) (fun v hv => (xo_gtrT .i64 hi2 (m : Int) (by omega) rfl rfl rfl)) ?_
         simp only [Act.put, zA]
         refine zv (.bool true) (fun v hv => rfl) ?_
         simp only [Act.put, zA]
         refine wpQuiet_nil ?_
         refine wpF_nil (fun V4 hb => ?_)
         have B3 := zh hb
         clear hb
         clear HF2
         clear HF3
         go_upto_region 7 with fail
         refine wp_region_lit ?_
         refine zr (.bool false) V4 rfl ?_
         simp only [Act.put, zA]
         refine wpList_nil ?_
         obtain rfl : b = false := by rw [← hb, Qu.vL, all_false HE.out hm]; rfl
         try clear hmeq
         try clear hnf7
         try clear hbq
         have C0_2 := zb B0 B1
         have C0_3 := zb C0_2 B2
         have C0_4 := zb C0_3 B3
         have hbf := C0_4.out
         go_wp2_with fail
         go_ret
         exact ⟨rfl, hbf⟩
        ·have hm : Qu.vC ⟨(k : Int), lo, hi2⟩ = true := by rw [hme] <;> simp <;> omega
         go_upto_region 6 with fail
         refine wp_floatP [0, 1, 2, 3, 4, 5, 6, 7, 8, 9, 10, 11, 12, 13, 14, 15, 16, 17, 18, 19, 20, 21, 22, 23, 24, 25, 26, 27, 28, 29, 30, 31, 32, 33, 34, 35, 36, 37, 38, 39, 40, 41, 42, 43, 44, 45, 46, 47, 48] (l' := [_, _, _, _, _, _, _, _, _, _, _, _, _, _, _, _, _, _, _, _, _, _, _, _, _, _, _, _, _, _, _, _, _, _, _, _, _, _, _, _, _, _, _, _, _, _, _, _, _]) (by kernel_rfl) (lexOK_of (by kernel_rfl) (by kernel_rfl)) (ordOK_of (by kernel_rfl) (by kernel_rfl)) rfl rfl ?_
         simp only [List.getElem_toArray, List.getElem_cons_succ, List.getElem_cons_zero]
         intro V2 hb hSW
         have B1 := zh hb
         have HF2 := zh hSW
         clear hb hSW
         refine wpF_seg 46 (by kernel_rfl) ?_
         simp only [List.take_succ_cons, List.take_zero, List.drop_succ_cons, List.drop_zero]
         refine zv (.slice A n c) (fun v hv => rfl) ?_
         simp only [Act.put, zA]
         refine zv (.int .i64 (i : Int)) (fun v hv => rfl) ?_
         simp only [Act.put, zA]
         refine zv (.pointer (some (gad A (i * 3)))) (fun v hv => (xg_idx .i64 ((HL.out.keep B0.out).keep (laterF hv)) HE.out Tryd.underlying44 (by kernel_rfl) rfl rfl rfl)) ?_
         simp only [Act.put, zA]
         refine zv (.pointer (some (gad A ((i * 3) + 0)))) (fun v hv => (xg_fld 0 ((HL.out.keep B0.out).keep (laterF hv)) HE.out (by kernel_rfl) rfl rfl)) ?_
         simp only [Act.put, zA]
         refine zv (.int .i64 (k : Int)) (fun v hv => (xg_load1 (E := ciC) (i := i) (j := 0) ((HL.out.keep B0.out).keep (laterF hv)) HE.out rfl rfl Tryd.underlying3 rfl rfl rfl)) ?_
         simp only [Act.put, zA]
         refine zv (.bool false) (fun v hv => (xo_lssF .i64 (k : Int) 0 (by omega) rfl rfl rfl)) ?_
         simp only [Act.put, zA]
         refine zv (.bool false) (fun v hv => rfl) ?_
         simp only [Act.put, zA]
         refine zv (.slice A n c) (fun v hv => rfl) ?_
         simp only [Act.put, zA]
         refine zv (.int .i64 (i : Int)) (fun v hv => rfl) ?_
         simp only [Act.put, zA]
         refine zv (.pointer (some (gad A (i * 3)))) (fun v hv => (xg_idx .i64 ((HL.out.keep B0.out).keep (laterF hv)) HE.out Tryd.underlying44 (by kernel_rfl) rfl rfl rfl)) ?_
         simp only [Act.put, zA]
         refine zv (.pointer (some (gad A ((i * 3) + 0)))) (fun v hv => (xg_fld 0 ((HL.out.keep B0.out).keep (laterF hv)) HE.out (by kernel_rfl) rfl rfl)) ?_
         simp only [Act.put, zA]
         refine zv (.int .i64 (k : Int)) (fun v hv => (xg_load1 (E := ciC) (i := i) (j := 0) ((HL.out.keep B0.out).keep (laterF hv)) HE.out rfl rfl Tryd.underlying3 rfl rfl rfl)) ?_
         simp only [Act.put, zA]
         refine zv (.bool false) (fun v hv => (xo_gtrF .i64 (k : Int) 3 (by omega) rfl rfl rfl)) ?_
         simp only [Act.put, zA]
         refine zv (.bool false) (fun v hv => rfl) ?_
         simp only [Act.put, zA]
         refine zv (.bool false) (fun v hv => rfl) ?_
         simp only [Act.put, zA]
         refine zv (.slice A n c) (fun v hv => rfl) ?_
         simp only [Act.put, zA]
         refine zv (.int .i64 (i : Int)) (fun v hv => rfl) ?_
         simp only [Act.put, zA]
         refine zv (.pointer (some (gad A (i * 3)))) (fun v hv => (xg_idx .i64 ((HL.out.keep B0.out).keep (laterF hv)) HE.out Tryd.underlying44 (by kernel_rfl) rfl rfl rfl)) ?_
         simp only [Act.put, zA]
         refine zv (.pointer (some (gad A ((i * 3) + 1)))) (fun v hv => (xg_fld 1 ((HL.out.keep B0.out).keep (laterF hv)) HE.out (by kernel_rfl) rfl rfl)) ?_
         simp only [Act.put, zA]
         refine zv (.int .i64 lo) (fun v hv => (xg_load1 (E := ciC) (i := i) (j := 1) ((HL.out.keep B0.out).keep (laterF hv)) HE.out rfl rfl Tryd.underlying3 rfl rfl rfl)) ?_
         simp only [Act.put, zA]
         refine zv (.bool false) (fun v hv => (xo_lssF .i64 lo 0 (by omega) rfl rfl rfl)) ?_
         simp only [Act.put, zA]
         refine zv (.bool false) (fun v hv => rfl) ?_
         simp only [Act.put, zA]
         refine zv (.bool false) (fun v hv => rfl) ?_
         simp only [Act.put, zA]
         refine zv (.slice A n c) (fun v hv => rfl) ?_
         simp only [Act.put, zA]
         refine zv (.int .i64 (i : Int)) (fun v hv => rfl) ?_
         simp only [Act.put, zA]
         refine zv (.pointer (some (gad A (i * 3)))) (fun v hv => (xg_idx .i64 ((HL.out.keep B0.out).keep (laterF hv)) HE.out Tryd.underlying44 (by kernel_rfl) rfl rfl rfl)) ?_
         simp only [Act.put, zA]
         refine zv (.pointer (some (gad A ((i * 3) + 2)))) (fun v hv => (xg_fld 2 ((HL.out.keep B0.out).keep (laterF hv)) HE.out (by kernel_rfl) rfl rfl)) ?_
         simp only [Act.put, zA]
         refine zv (.int .i64 hi2) (fun v hv => (xg_load1 (E := ciC) (i := i) (j := 2) ((HL.out.keep B0.out).keep (laterF hv)) HE.out rfl rfl Tryd.underlying3 rfl rfl rfl)) ?_
         simp only [Act.put, zA]
         refine zv (.slice A n c) (fun v hv => rfl) ?_
         simp only [Act.put, zA]
         refine zv (.int .i64 (i : Int)) (fun v hv => rfl) ?_
         simp only [Act.put, zA]
         refine zv (.pointer (some (gad A (i * 3)))) (fun v hv => (xg_idx .i64 ((HL.out.keep B0.out).keep (laterF hv)) HE.out Tryd.underlying44 (by kernel_rfl) rfl rfl rfl)) ?_
         simp only [Act.put, zA]
         refine zv (.pointer (some (gad A ((i * 3) + 1)))) (fun v hv => (xg_fld 1 ((HL.out.keep B0.out).keep (laterF hv)) HE.out (by kernel_rfl) rfl rfl)) ?_
         simp only [Act.put, zA]
         refine zv (.int .i64 lo) (fun v hv => (xg_load1 (E := ciC) (i := i) (j := 1) ((HL.out.keep B0.out).keep (laterF hv)) HE.out rfl rfl Tryd.underlying3 rfl rfl rfl)) ?_
         simp only [Act.put, zA]
         refine zv (.bool false) (fun v hv => (xo_lssF .i64 hi2 lo (by omega) rfl rfl rfl)) ?_
         simp only [Act.put, zA]
         refine zv (.bool false) (fun v hv => rfl) ?_
         simp only [Act.put, zA]
         refine zv (.bool false) (fun v hv => rfl) ?_
         simp only [Act.put, zA]
         refine zv (.slice A n c) (fun v hv => rfl) ?_
         simp only [Act.put, zA]
         refine zv (.int .i64 (i : Int)) (fun v hv => rfl) ?_
         simp only [Act.put, zA]
         refine zv (.pointer (some (gad A (i * 3)))) (fun v hv => (xg_idx .i64 ((HL.out.keep B0.out).keep (laterF hv)) HE.out Tryd.underlying44 (by kernel_rfl) rfl rfl rfl)) ?_
         simp only [Act.put, zA]
         refine zv (.pointer (some (gad A ((i * 3) + 2)))) (fun v hv => (xg_fld 2 ((HL.out.keep B0.out).keep (laterF hv)) HE.out (by kernel_rfl) rfl rfl)) ?_
         simp only [Act.put, zA]
         refine zv (.int .i64 hi2) (fun v hv => (xg_load1 (E := ciC) (i := i) (j := 2) ((HL.out.keep B0.out).keep (laterF hv)) HE.out rfl rfl Tryd.underlying3 rfl rfl rfl)) ?_
         simp only [Act.put, zA]
         refine zv (.slice A n c) (fun v hv => rfl) ?_
         simp only [Act.put, zA]
         refine zv (.int .i64 (i : Int)) (fun v hv => rfl) ?_
         simp only [Act.put, zA]
         refine zv (.pointer (some (gad A (i * 3)))) (fun v hv => (xg_idx .i64 ((HL.out.keep B0.out).keep (laterF hv)) HE.out Tryd.underlying44 (by kernel_rfl) rfl rfl rfl)) ?_
         simp only [Act.put, zA]
         refine zv (.pointer (some (gad A ((i * 3) + 0)))) (fun v hv => (xg_fld 0 ((HL.out.keep B0.out).keep (laterF hv)) HE.out (by kernel_rfl) rfl rfl)) ?_
         simp only [Act.put, zA]
         refine zv (.int .i64 (k : Int)) (fun v hv => (xg_load1 (E := ciC) (i := i) (j := 0) ((HL.out.keep B0.out).keep (laterF hv)) HE.out rfl rfl Tryd.underlying3 rfl rfl rfl)) ?_
         simp only [Act.put, zA]
         refine wpQuiet_nil ?_
         refine wpF_call 26 Tryd.func26 (by kernel_rfl) (by kernel_rfl) _ _ #[.int .i64 (k : Int)] rfl (by kernel_rfl) (by kernel_rfl) HF2.out (fun V3 hb => ?_)
         have B2 := zh hb
         have HF3 := zh (HF2.out.ext hb)
         clear hb
         refine (max_as k m hk4 HM.out V3).mono ?_
         rintro e _ ⟨rfl, rfl⟩
         refine ⟨_, rfl, Below.refl _ _, ?_⟩
         simp only [Act.put, zA]
         refine wpF_seg 2 (by kernel_rfl) ?_
         simp only [List.take_succ_cons, List.take_zero, List.drop_succ_cons, List.drop_zero]
         refine zv (.bool false) (fun v hv => (xo_gtrF .i64 hi2 (m : Int) (by omega) rfl rfl rfl)) ?_
         simp only [Act.put, zA]
         refine zv (.bool false) (fun v hv => rfl) ?_
         simp only [Act.put, zA]
         refine wpQuiet_nil ?_
         refine wpF_nil (fun V4 hb => ?_)
         have B3 := zh hb
         clear hb
         clear HF2
         clear HF3
         go_upto_region 5 with fail
         refine wp_region_lit ?_
         refine zr (.int .i64 (i : Int)) V4 rfl ?_
         simp only [Act.put, zA]
         refine zr (.int .i64 ((i + 1 : Nat) : Int)) V4 (xo_addI (i : Int) 1 ((i + 1 : Nat) : Int) (by omega) (by omega) (by omega) rfl rfl rfl) ?_
         simp only [Act.put, zA]
         refine zr (.int .i64 ((i + 1 : Nat) : Int)) V4 rfl ?_
         simp only [Act.put, zA]
         refine wpList_nil ?_
         have hal := all_take HE.out HALL.out hm
         have C0_2 := zb B0 B1
         have C0_3 := zb C0_2 B2
         have C0_4 := zb C0_3 B3
         have hq4 := C0_4.out
         go_wp2_with fail
         go_roundw
         case rel => exact ⟨i + 1, by omega, by go_num, hal, hq4⟩
         case measure => simp [intOf]; omega
   ·have hci3 : ¬ ((i : Int) < (n : Int)) := by omega
    go_upto_region 4 with fail
    refine wp_region_lit ?_
    refine zr (.int .i64 (i : Int)) wo rfl ?_
    simp only [Act.put, zA]
    refine zr (.slice A n c) wo rfl ?_
    simp only [Act.put, zA]
    refine zr (.int .i64 (n : Int)) wo (xo_len A n c Tryd.underlying44 rfl rfl) ?_
    simp only [Act.put, zA]
    refine zr (.bool false) wo (xo_lssF .i64 (i : Int) (n : Int) (by omega) rfl rfl rfl) ?_
    simp only [Act.put, zA]
    refine wpList_nil ?_
    go_upto_region 8 with fail
    refine wp_region_lit ?_
    refine zr (.bool true) wo rfl ?_
    simp only [Act.put, zA]
    refine wpList_nil ?_
    have hal : cs.all Qu.vC = true := by rw [← List.take_length (l := cs), show cs.length = i from by omega]; exact HALL.out
    obtain rfl : b = true := by rw [← hb, Qu.vL, hal]; simp <;> omega
    try clear hmeq
    try clear hnf7
    try clear hbq
    have hbf := B0.out
    go_wp2_with fail
    go_ret
    exact ⟨rfl, hbf⟩
set_option maxRecDepth 100000 in
set_option maxHeartbeats 64000000 in
theorem rvalid_as13 (kind col k : Int) (A : Option Addr) (n c : Nat) (hs : List Hd) (fs : List (List Qu.Ci)) (b : Bool) (hbq : Qu.vQ kind col k fs = b) (w : World) (hF : FsR w A n c hs fs) :
  Calls Tryd.prog 33 #[.agg #[.int .i64 kind, .int .i64 col, .int .i64 k, .slice A n c]] w fun e w' => e = .returned (.bool b) ∧ Below w.heap.size w w' := by
 have HFR := zh hF
 have hln := hF.sg.len
 have hlc := hF.sg.cap
 have hlt := hF.sg.top
 have hfl := hF.len
 clear hF
 go_enter Tryd.func33, Tryd.ntmps33
 go_upto_region 1 with fail
 refine wp_named1 (fun V1 hb g0 hlt => ?_)
 have B0 := zh hb
 have Fv0_1 : Hid (V1.heap[w.heap.size]? = some (.cells #[.int .i64 kind, .int .i64 col, .int .i64 k, .slice A n c] 24 (0, 0))) := zh (g0)
 have Gb0 : Hid (w.heap.size ≤ w.heap.size) := zh (by omega)
 clear hb g0 hlt
 have Lt0 : Hid (w.heap.size < V1.heap.size) := zh (xp_lt Fv0_1.out)
 obtain ⟨cb, hcb⟩ : ∃ cb, Qu.hasC kind.toNat = cb := ⟨_, rfl⟩
 have Hcb := zh hcb
 clear hcb
 obtain ⟨mk, hmk⟩ : ∃ mk, Qu.maxK kind.toNat = mk := ⟨_, rfl⟩
 have Hmk := zh hmk
 clear hmk
 obtain ⟨nf, hnf⟩ : ∃ nf, Qu.numF kind.toNat = nf := ⟨_, rfl⟩
 have Hnf := zh hnf
 clear hnf
 obtain ⟨p1, hp1⟩ : ∃ p1, (decide (1 ≤ kind) && (decide (kind ≤ 7) && (Qu.isC col && (cb || decide (col = 0))))) = p1 := ⟨_, rfl⟩
 have Hp1 := zh hp1
 clear hp1
 obtain ⟨p2, hp2⟩ : ∃ p2, (decide (((min 1 mk : Nat) : Int) ≤ k) && decide (k ≤ (mk : Int))) = p2 := ⟨_, rfl⟩
 have Hp2 := zh hp2
 clear hp2
 have HV : Hid (b = (p1 && (p2 && (decide (n = nf) && fs.all Qu.vL)))) := zh (by
   rw [← hbq, ← Hp1.out, ← Hp2.out]
   unfold Qu.vQ Qu.mF
   rw [Hcb.out, Hmk.out, Hnf.out, show fs.length = n by omega]
   simp only [Bool.and_assoc])
 clear hbq
 skip
 go_cut [33] from 5 to 33 (fun s33 wx => s33 = .bool (!p1) ∧ wx.heap[w.heap.size]? = some (.cells #[.int .i64 kind, .int .i64 col, .int .i64 k, .slice A n c] 24 (0, 0)) ∧ Below w.heap.size w wx)
 case first =>
  by_cases hk1 : kind < 1
  ·have e0 : p1 = false := by rw [← Hp1.out]; unfold Qu.isC; simp <;> omega
   subst e0
   refine wp_region_lit ?_
   refine zr (.pointer (some ⟨w.heap.size, 0, none⟩)) V1 (xo_fld0 0 w.heap.size 0 (by kernel_rfl) rfl rfl) ?_
   simp only [Act.put, zA]
   refine zr (.int .i64 kind) V1 (xo_load1 ⟨w.heap.size, 0, none⟩ _ (cells_at Fv0_1.out 0 rfl) Tryd.underlying3 rfl rfl rfl) ?_
   simp only [Act.put, zA]
   refine zr (.bool true) V1 (xo_lssT .i64 kind 1 (by omega) rfl rfl rfl) ?_
   simp only [Act.put, zA]
   refine zr (.bool true) V1 rfl ?_
   simp only [Act.put, zA]
   refine zl ?_
   try simp only [Act.put, zA]
   refine zl ?_
   try simp only [Act.put, zA]
   refine zl ?_
   try simp only [Act.put, zA]
   refine zr (.bool true) V1 rfl ?_
   simp only [Act.put, zA]
   refine zr (.bool true) V1 rfl ?_
   simp only [Act.put, zA]
   refine zl ?_
   try simp only [Act.put, zA]
   refine zl ?_
   try simp only [Act.put, zA]
   refine zl ?_
   try simp only [Act.put, zA]
   refine zr (.bool true) V1 rfl ?_
   simp only [Act.put, zA]
   refine zr (.bool true) V1 rfl ?_
   simp only [Act.put, zA]
   refine zl ?_
   try simp only [Act.put, zA]
   refine zl ?_
   try simp only [Act.put, zA]
   refine zl ?_
   try simp only [Act.put, zA]
   refine zr (.bool true) V1 rfl ?_
   simp only [Act.put, zA]
   refine zr (.bool true) V1 rfl ?_
   simp only [Act.put, zA]
   refine zl ?_
   try simp only [Act.put, zA]
   refine zl ?_
   try simp only [Act.put, zA]
   refine zl ?_
   try simp only [Act.put, zA]
   refine zl ?_
   try simp only [Act.put, zA]
   refine zl ?_
   try simp only [Act.put, zA]
   refine zl ?_
   try simp only [Act.put, zA]
   refine zl ?_
   try simp only [Act.put, zA]
   refine zl ?_
   try simp only [Act.put, zA]
   refine zl ?_
   try simp only [Act.put, zA]
   refine zr (.bool true) V1 rfl ?_
   simp only [Act.put, zA]
   refine wpList_nil ?_
   try clear hz
   have hm1 := Fv0_1.out
   have hm2 := B0.out
   go_wp2_with fail
   go_meet
   case rel => exact ⟨(by first | trivial | rfl), hm1, hm2⟩
  ·by_cases hk7 : kind > 7
   ·have e0 : p1 = false := by rw [← Hp1.out]; unfold Qu.isC; simp <;> omega
    subst e0
    refine wp_region_lit ?_
    refine zr (.pointer (some ⟨w.heap.size, 0, none⟩)) V1 (xo_fld0 0 w.heap.size 0 (by kernel_rfl) rfl rfl) ?_
    simp only [Act.put, zA]
    refine zr (.int .i64 kind) V1 (xo_load1 ⟨w.heap.size, 0, none⟩ _ (cells_at Fv0_1.out 0 rfl) Tryd.underlying3 rfl rfl rfl) ?_
    simp only [Act.put, zA]
    refine zr (.bool false) V1 (xo_lssF .i64 kind 1 (by omega) rfl rfl rfl) ?_
    simp only [Act.put, zA]
    refine zr (.bool false) V1 rfl ?_
    simp only [Act.put, zA]
    refine zr (.pointer (some ⟨w.heap.size, 0, none⟩)) V1 (xo_fld0 0 w.heap.size 0 (by kernel_rfl) rfl rfl) ?_
    simp only [Act.put, zA]
    refine zr (.int .i64 kind) V1 (xo_load1 ⟨w.heap.size, 0, none⟩ _ (cells_at Fv0_1.out 0 rfl) Tryd.underlying3 rfl rfl rfl) ?_
    simp only [Act.put, zA]
    refine zr (.bool true) V1 (xo_gtrT .i64 kind 7 (by omega) rfl rfl rfl) ?_
    simp only [Act.put, zA]
    refine zr (.bool true) V1 rfl ?_
    simp only [Act.put, zA]
    refine zr (.bool true) V1 rfl ?_
    simp only [Act.put, zA]
    refine zl ?_
    try simp only [Act.put, zA]
    refine zl ?_
    try simp only [Act.put, zA]
    refine zl ?_
    try simp only [Act.put, zA]
    refine zr (.bool true) V1 rfl ?_
    simp only [Act.put, zA]
    refine zr (.bool true) V1 rfl ?_
    simp only [Act.put, zA]
    refine zl ?_
    try simp only [Act.put, zA]
    refine zl ?_
    try simp only [Act.put, zA]
    refine zl ?_
    try simp only [Act.put, zA]
    refine zr (.bool true) V1 rfl ?_
    simp only [Act.put, zA]
    refine zr (.bool true) V1 rfl ?_
    simp only [Act.put, zA]
    refine zl ?_
    try simp only [Act.put, zA]
    refine zl ?_
    try simp only [Act.put, zA]
    refine zl ?_
    try simp only [Act.put, zA]
    refine zl ?_
    try simp only [Act.put, zA]
    refine zl ?_
    try simp only [Act.put, zA]
    refine zl ?_
    try simp only [Act.put, zA]
    refine zl ?_
    try simp only [Act.put, zA]
    refine zl ?_
    try simp only [Act.put, zA]
    refine zl ?_
    try simp only [Act.put, zA]
    refine zr (.bool true) V1 rfl ?_
    simp only [Act.put, zA]
    refine wpList_nil ?_
    try clear hz
    have hm1 := Fv0_1.out
    have hm2 := B0.out
    go_wp2_with fail
    go_meet
    case rel => exact ⟨(by first | trivial | rfl), hm1, hm2⟩
   ·by_cases hc0 : col < 0
    ·have e0 : p1 = false := by rw [← Hp1.out]; unfold Qu.isC; simp <;> omega
     subst e0
     refine wp_region_lit ?_
     refine zr (.pointer (some ⟨w.heap.size, 0, none⟩)) V1 (xo_fld0 0 w.heap.size 0 (by kernel_rfl) rfl rfl) ?_
     simp only [Act.put, zA]
     refine zr (.int .i64 kind) V1 (xo_load1 ⟨w.heap.size, 0, none⟩ _ (cells_at Fv0_1.out 0 rfl) Tryd.underlying3 rfl rfl rfl) ?_
     simp only [Act.put, zA]
     refine zr (.bool false) V1 (xo_lssF .i64 kind 1 (by omega) rfl rfl rfl) ?_
     simp only [Act.put, zA]
     refine zr (.bool false) V1 rfl ?_
     simp only [Act.put, zA]
     refine zr (.pointer (some ⟨w.heap.size, 0, none⟩)) V1 (xo_fld0 0 w.heap.size 0 (by kernel_rfl) rfl rfl) ?_
     simp only [Act.put, zA]
     refine zr (.int .i64 kind) V1 (xo_load1 ⟨w.heap.size, 0, none⟩ _ (cells_at Fv0_1.out 0 rfl) Tryd.underlying3 rfl rfl rfl) ?_
     simp only [Act.put, zA]
     refine zr (.bool false) V1 (xo_gtrF .i64 kind 7 (by omega) rfl rfl rfl) ?_
     simp only [Act.put, zA]
     refine zr (.bool false) V1 rfl ?_
     simp only [Act.put, zA]
     refine zr (.bool false) V1 rfl ?_
     simp only [Act.put, zA]
     refine zr (.pointer (some ⟨w.heap.size, 1, none⟩)) V1 (xo_fld0 1 w.heap.size 1 (by kernel_rfl) rfl rfl) ?_
     simp only [Act.put, zA]
     refine zr (.int .i64 col) V1 (xo_load1 ⟨w.heap.size, 1, none⟩ _ (cells_at Fv0_1.out 1 rfl) Tryd.underlying3 rfl rfl rfl) ?_
     simp only [Act.put, zA]
     refine zr (.bool true) V1 (xo_lssT .i64 col 0 (by omega) rfl rfl rfl) ?_
     simp only [Act.put, zA]
     refine zr (.bool true) V1 rfl ?_
     simp only [Act.put, zA]
     refine zr (.bool true) V1 rfl ?_
     simp only [Act.put, zA]
     refine zl ?_
     try simp only [Act.put, zA]
     refine zl ?_
     try simp only [Act.put, zA]
     refine zl ?_
     try simp only [Act.put, zA]
     refine zr (.bool true) V1 rfl ?_
     simp only [Act.put, zA]
     refine zr (.bool true) V1 rfl ?_
     simp only [Act.put, zA]
     refine zl ?_
     try simp only [Act.put, zA]
     refine zl ?_
     try simp only [Act.put, zA]
     refine zl ?_
     try simp only [Act.put, zA]
     refine zl ?_
     try simp only [Act.put, zA]
     refine zl ?_
     try simp only [Act.put, zA]
     refine zl ?_
     try simp only [Act.put, zA]
     refine zl ?_
     try simp only [Act.put, zA]
     refine zl ?_
     try simp only [Act.put, zA]
     refine zl ?_
     try simp only [Act.put, zA]
     refine zr (.bool true) V1 rfl ?_
     simp only [Act.put, zA]
     refine wpList_nil ?_
     try clear hz
     have hm1 := Fv0_1.out
     have hm2 := B0.out
     go_wp2_with fail
     go_meet
     case rel => exact ⟨(by first | trivial | rfl), hm1, hm2⟩
    ·by_cases hc3 : col > 3
     ·have e0 : p1 = false := by rw [← Hp1.out]; unfold Qu.isC; simp <;> omega
      subst e0
      refine wp_region_lit ?_
      refine zr (.pointer (some ⟨w.heap.size, 0, none⟩)) V1 (xo_fld0 0 w.heap.size 0 (by kernel_rfl) rfl rfl) ?_
      simp only [Act.put, zA]
      refine zr (.int .i64 kind) V1 (xo_load1 ⟨w.heap.size, 0, none⟩ _ (cells_at Fv0_1.out 0 rfl) Tryd.underlying3 rfl rfl rfl) ?_
      simp only [Act.put, zA]
      refine zr (.bool false) V1 (xo_lssF .i64 kind 1 (by omega) rfl rfl rfl) ?_
      simp only [Act.put, zA]
      refine zr (.bool false) V1 rfl ?_
      simp only [Act.put, zA]
      refine zr (.pointer (some ⟨w.heap.size, 0, none⟩)) V1 (xo_fld0 0 w.heap.size 0 (by kernel_rfl) rfl rfl) ?_
      simp only [Act.put, zA]
      refine zr (.int .i64 kind) V1 (xo_load1 ⟨w.heap.size, 0, none⟩ _ (cells_at Fv0_1.out 0 rfl) Tryd.underlying3 rfl rfl rfl) ?_
      simp only [Act.put, zA]
      refine zr (.bool false) V1 (xo_gtrF .i64 kind 7 (by omega) rfl rfl rfl) ?_
      simp only [Act.put, zA]
      refine zr (.bool false) V1 rfl ?_
      simp only [Act.put, zA]
      refine zr (.bool false) V1 rfl ?_
      simp only [Act.put, zA]
      refine zr (.pointer (some ⟨w.heap.size, 1, none⟩)) V1 (xo_fld0 1 w.heap.size 1 (by kernel_rfl) rfl rfl) ?_
      simp only [Act.put, zA]
      refine zr (.int .i64 col) V1 (xo_load1 ⟨w.heap.size, 1, none⟩ _ (cells_at Fv0_1.out 1 rfl) Tryd.underlying3 rfl rfl rfl) ?_
      simp only [Act.put, zA]
      refine zr (.bool false) V1 (xo_lssF .i64 col 0 (by omega) rfl rfl rfl) ?_
      simp only [Act.put, zA]
      refine zr (.bool false) V1 rfl ?_
      simp only [Act.put, zA]
      refine zr (.bool false) V1 rfl ?_
      simp only [Act.put, zA]
      refine zr (.pointer (some ⟨w.heap.size, 1, none⟩)) V1 (xo_fld0 1 w.heap.size 1 (by kernel_rfl) rfl rfl) ?_
      simp only [Act.put, zA]
      refine zr (.int .i64 col) V1 (xo_load1 ⟨w.heap.size, 1, none⟩ _ (cells_at Fv0_1.out 1 rfl) Tryd.underlying3 rfl rfl rfl) ?_
      simp only [Act.put, zA]
      refine zr (.bool true) V1 (xo_gtrT .i64 col 3 (by omega) rfl rfl rfl) ?_
      simp only [Act.put, zA]
      refine zr (.bool true) V1 rfl ?_
      simp only [Act.put, zA]
      refine zr (.bool true) V1 rfl ?_
      simp only [Act.put, zA]
      refine zl ?_
      try simp only [Act.put, zA]
      refine zl ?_
      try simp only [Act.put, zA]
      refine zl ?_
      try simp only [Act.put, zA]
      refine zl ?_
      try simp only [Act.put, zA]
      refine zl ?_
      try simp only [Act.put, zA]
      refine zl ?_
      try simp only [Act.put, zA]
      refine zl ?_
      try simp only [Act.put, zA]
      refine zl ?_
      try simp only [Act.put, zA]
      refine zl ?_
      try simp only [Act.put, zA]
      refine zr (.bool true) V1 rfl ?_
      simp only [Act.put, zA]
      refine wpList_nil ?_
      try clear hz
      have hm1 := Fv0_1.out
      have hm2 := B0.out
      go_wp2_with fail
      go_meet
      case rel => exact ⟨(by first | trivial | rfl), hm1, hm2⟩
     ·have hic : Qu.isC col = true := by unfold Qu.isC; rw [decide_eq_true (show (0 : Int) ≤ col by omega), decide_eq_true (show col < 4 by omega)]; rfl
      by_cases hz : col = 0
      ·have e0 : p1 = true := by rw [← Hp1.out, decide_eq_true (show (1 : Int) ≤ kind by omega), decide_eq_true (show kind ≤ 7 by omega), hic, decide_eq_true hz, Bool.or_true]; rfl
       subst e0
       refine wp_region_lit ?_
       refine zr (.pointer (some ⟨w.heap.size, 0, none⟩)) V1 (xo_fld0 0 w.heap.size 0 (by kernel_rfl) rfl rfl) ?_
       simp only [Act.put, zA]
       refine zr (.int .i64 kind) V1 (xo_load1 ⟨w.heap.size, 0, none⟩ _ (cells_at Fv0_1.out 0 rfl) Tryd.underlying3 rfl rfl rfl) ?_
       simp only [Act.put, zA]
       refine zr (.bool false) V1 (xo_lssF .i64 kind 1 (by omega) rfl rfl rfl) ?_
       simp only [Act.put, zA]
       refine zr (.bool false) V1 rfl ?_
       simp only [Act.put, zA]
       refine zr (.pointer (some ⟨w.heap.size, 0, none⟩)) V1 (xo_fld0 0 w.heap.size 0 (by kernel_rfl) rfl rfl) ?_
       simp only [Act.put, zA]
       refine zr (.int .i64 kind) V1 (xo_load1 ⟨w.heap.size, 0, none⟩ _ (cells_at Fv0_1.out 0 rfl) Tryd.underlying3 rfl rfl rfl) ?_
       simp only [Act.put, zA]
       refine zr (.bool false) V1 (xo_gtrF .i64 kind 7 (by omega) rfl rfl rfl) ?_
       simp only [Act.put, zA]
       refine zr (.bool false) V1 rfl ?_
       simp only [Act.put, zA]
       refine zr (.bool false) V1 rfl ?_
       simp only [Act.put, zA]
       refine zr (.pointer (some ⟨w.heap.size, 1, none⟩)) V1 (xo_fld0 1 w.heap.size 1 (by kernel_rfl) rfl rfl) ?_
       simp only [Act.put, zA]
       refine zr (.int .i64 col) V1 (xo_load1 ⟨w.heap.size, 1, none⟩ _ (cells_at Fv0_1.out 1 rfl) Tryd.underlying3 rfl rfl rfl) ?_
       simp only [Act.put, zA]
       refine zr (.bool false) V1 (xo_lssF .i64 col 0 (by omega) rfl rfl rfl) ?_
       simp only [Act.put, zA]
       refine zr (.bool false) V1 rfl ?_
       simp only [Act.put, zA]
       refine zr (.bool false) V1 rfl ?_
       simp only [Act.put, zA]
       refine zr (.pointer (some ⟨w.heap.size, 1, none⟩)) V1 (xo_fld0 1 w.heap.size 1 (by kernel_rfl) rfl rfl) ?_
       simp only [Act.put, zA]
       refine zr (.int .i64 col) V1 (xo_load1 ⟨w.heap.size, 1, none⟩ _ (cells_at Fv0_1.out 1 rfl) Tryd.underlying3 rfl rfl rfl) ?_
       simp only [Act.put, zA]
       refine zr (.bool false) V1 (xo_gtrF .i64 col 3 (by omega) rfl rfl rfl) ?_
       simp only [Act.put, zA]
       refine zr (.bool false) V1 rfl ?_
       simp only [Act.put, zA]
       refine zr (.bool false) V1 rfl ?_
       simp only [Act.put, zA]
       refine zr (.pointer (some ⟨w.heap.size, 1, none⟩)) V1 (xo_fld0 1 w.heap.size 1 (by kernel_rfl) rfl rfl) ?_
       simp only [Act.put, zA]
       refine zr (.int .i64 col) V1 (xo_load1 ⟨w.heap.size, 1, none⟩ _ (cells_at Fv0_1.out 1 rfl) Tryd.underlying3 rfl rfl rfl) ?_
       simp only [Act.put, zA]
       refine zr (.bool false) V1 (xo_neqF .i64 col 0 (by omega) rfl rfl rfl) ?_
       simp only [Act.put, zA]
       refine zr (.bool false) V1 rfl ?_
       simp only [Act.put, zA]
       refine zl ?_
       try simp only [Act.put, zA]
       refine zl ?_
       try simp only [Act.put, zA]
       refine zl ?_
       try simp only [Act.put, zA]
       refine zl ?_
       try simp only [Act.put, zA]
       refine zr (.bool false) V1 rfl ?_
       simp only [Act.put, zA]
       refine zr (.bool false) V1 rfl ?_
       simp only [Act.put, zA]
       refine wpList_nil ?_
       try clear hz
       have hm1 := Fv0_1.out
       have hm2 := B0.out
       go_wp2_with fail
       go_meet
       case rel => exact ⟨(by first | trivial | rfl), hm1, hm2⟩
      ·obtain ⟨kd, rfl⟩ : ∃ kd : Nat, kind = (kd : Int) := ⟨kind.toNat, by omega⟩
       have hcd : Qu.hasC kd = cb := Hcb.out
       cases cb with
       | true =>
        have e0 : p1 = true := by rw [← Hp1.out, decide_eq_true (show (1 : Int) ≤ (kd : Int) by omega), decide_eq_true (show (kd : Int) ≤ 7 by omega), hic, Bool.true_or]; rfl
        subst e0
        refine wp_region_lit ?_
        refine zr (.pointer (some ⟨w.heap.size, 0, none⟩)) V1 (xo_fld0 0 w.heap.size 0 (by kernel_rfl) rfl rfl) ?_
        simp only [Act.put, zA]
        refine zr (.int .i64 (kd : Int)) V1 (xo_load1 ⟨w.heap.size, 0, none⟩ _ (cells_at Fv0_1.out 0 rfl) Tryd.underlying3 rfl rfl rfl) ?_
        simp only [Act.put, zA]
        refine zr (.bool false) V1 (xo_lssF .i64 (kd : Int) 1 (by omega) rfl rfl rfl) ?_
        simp only [Act.put, zA]
        refine zr (.bool false) V1 rfl ?_
        simp only [Act.put, zA]
        refine zr (.pointer (some ⟨w.heap.size, 0, none⟩)) V1 (xo_fld0 0 w.heap.size 0 (by kernel_rfl) rfl rfl) ?_
        simp only [Act.put, zA]
        refine zr (.int .i64 (kd : Int)) V1 (xo_load1 ⟨w.heap.size, 0, none⟩ _ (cells_at Fv0_1.out 0 rfl) Tryd.underlying3 rfl rfl rfl) ?_
        simp only [Act.put, zA]
        refine zr (.bool false) V1 (xo_gtrF .i64 (kd : Int) 7 (by omega) rfl rfl rfl) ?_
        simp only [Act.put, zA]
        refine zr (.bool false) V1 rfl ?_
        simp only [Act.put, zA]
        refine zr (.bool false) V1 rfl ?_
        simp only [Act.put, zA]
        refine zr (.pointer (some ⟨w.heap.size, 1, none⟩)) V1 (xo_fld0 1 w.heap.size 1 (by kernel_rfl) rfl rfl) ?_
        simp only [Act.put, zA]
        refine zr (.int .i64 col) V1 (xo_load1 ⟨w.heap.size, 1, none⟩ _ (cells_at Fv0_1.out 1 rfl) Tryd.underlying3 rfl rfl rfl) ?_
        simp only [Act.put, zA]
        refine zr (.bool false) V1 (xo_lssF .i64 col 0 (by omega) rfl rfl rfl) ?_
        simp only [Act.put, zA]
        refine zr (.bool false) V1 rfl ?_
        simp only [Act.put, zA]
        refine zr (.bool false) V1 rfl ?_
        simp only [Act.put, zA]
        refine zr (.pointer (some ⟨w.heap.size, 1, none⟩)) V1 (xo_fld0 1 w.heap.size 1 (by kernel_rfl) rfl rfl) ?_
        simp only [Act.put, zA]
        refine zr (.int .i64 col) V1 (xo_load1 ⟨w.heap.size, 1, none⟩ _ (cells_at Fv0_1.out 1 rfl) Tryd.underlying3 rfl rfl rfl) ?_
        simp only [Act.put, zA]
        refine zr (.bool false) V1 (xo_gtrF .i64 col 3 (by omega) rfl rfl rfl) ?_
        simp only [Act.put, zA]
        refine zr (.bool false) V1 rfl ?_
        simp only [Act.put, zA]
        refine zr (.bool false) V1 rfl ?_
        simp only [Act.put, zA]
        refine zr (.pointer (some ⟨w.heap.size, 1, none⟩)) V1 (xo_fld0 1 w.heap.size 1 (by kernel_rfl) rfl rfl) ?_
        simp only [Act.put, zA]
        refine zr (.int .i64 col) V1 (xo_load1 ⟨w.heap.size, 1, none⟩ _ (cells_at Fv0_1.out 1 rfl) Tryd.underlying3 rfl rfl rfl) ?_
        simp only [Act.put, zA]
        refine zr (.bool true) V1 (xo_neqT .i64 col 0 (by omega) rfl rfl rfl) ?_
        simp only [Act.put, zA]
        refine zr (.bool true) V1 rfl ?_
        simp only [Act.put, zA]
        refine zr (.pointer (some ⟨w.heap.size, 0, none⟩)) V1 (xo_fld0 0 w.heap.size 0 (by kernel_rfl) rfl rfl) ?_
        simp only [Act.put, zA]
        refine zr (.int .i64 (kd : Int)) V1 (xo_load1 ⟨w.heap.size, 0, none⟩ _ (cells_at Fv0_1.out 0 rfl) Tryd.underlying3 rfl rfl rfl) ?_
        simp only [Act.put, zA]
        refine wpList_call (by kernel_rfl) 36 Tryd.func36 (by kernel_rfl) (by kernel_rfl) _ _ #[.int .i64 (kd : Int)] rfl (by kernel_rfl) ?_
        refine (rhasC_as kd true hcd V1).mono ?_
        rintro e W1 ⟨rfl, hw1⟩
        rw [hw1]
        clear hw1 W1
        refine ⟨_, rfl, ?_⟩
        simp only [Act.put, zA]
        refine zr (.bool false) V1 rfl ?_
        simp only [Act.put, zA]
        refine zr (.bool false) V1 rfl ?_
        simp only [Act.put, zA]
        refine zr (.bool false) V1 rfl ?_
        simp only [Act.put, zA]
        refine wpList_nil ?_
        try clear hz
        have hm1 := Fv0_1.out
        have hm2 := B0.out
        go_wp2_with fail
        go_meet
        case rel => exact ⟨(by first | trivial | rfl), hm1, hm2⟩
       | false =>
        have e0 : p1 = false := by rw [← Hp1.out, decide_eq_true (show (1 : Int) ≤ (kd : Int) by omega), decide_eq_true (show (kd : Int) ≤ 7 by omega), hic, decide_eq_false hz, Bool.or_false]; rfl
        subst e0
        refine wp_region_lit ?_
        refine zr (.pointer (some ⟨w.heap.size, 0, none⟩)) V1 (xo_fld0 0 w.heap.size 0 (by kernel_rfl) rfl rfl) ?_
        simp only [Act.put, zA]
        refine zr (.int .i64 (kd : Int)) V1 (xo_load1 ⟨w.heap.size, 0, none⟩ _ (cells_at Fv0_1.out 0 rfl) Tryd.underlying3 rfl rfl rfl) ?_
        simp only [Act.put, zA]
        refine zr (.bool false) V1 (xo_lssF .i64 (kd : Int) 1 (by omega) rfl rfl rfl) ?_
        simp only [Act.put, zA]
        refine zr (.bool false) V1 rfl ?_
        simp only [Act.put, zA]
        refine zr (.pointer (some ⟨w.heap.size, 0, none⟩)) V1 (xo_fld0 0 w.heap.size 0 (by kernel_rfl) rfl rfl) ?_
        simp only [Act.put, zA]
        refine zr (.int .i64 (kd : Int)) V1 (xo_load1 ⟨w.heap.size, 0, none⟩ _ (cells_at Fv0_1.out 0 rfl) Tryd.underlying3 rfl rfl rfl) ?_
        simp only [Act.put, zA]
        refine zr (.bool false) V1 (xo_gtrF .i64 (kd : Int) 7 (by omega) rfl rfl rfl) ?_
        simp only [Act.put, zA]
        refine zr (.bool false) V1 rfl ?_
        simp only [Act.put, zA]
        refine zr (.bool false) V1 rfl ?_
        simp only [Act.put, zA]
        refine zr (.pointer (some ⟨w.heap.size, 1, none⟩)) V1 (xo_fld0 1 w.heap.size 1 (by kernel_rfl) rfl rfl) ?_
        simp only [Act.put, zA]
        refine zr (.int .i64 col) V1 (xo_load1 ⟨w.heap.size, 1, none⟩ _ (cells_at Fv0_1.out 1 rfl) Tryd.underlying3 rfl rfl rfl) ?_
        simp only [Act.put, zA]
        refine zr (.bool false) V1 (xo_lssF .i64 col 0 (by omega) rfl rfl rfl) ?_
        simp only [Act.put, zA]
        refine zr (.bool false) V1 rfl ?_
        simp only [Act.put, zA]
        refine zr (.bool false) V1 rfl ?_
        simp only [Act.put, zA]
        refine zr (.pointer (some ⟨w.heap.size, 1, none⟩)) V1 (xo_fld0 1 w.heap.size 1 (by kernel_rfl) rfl rfl) ?_
        simp only [Act.put, zA]
        refine zr (.int .i64 col) V1 (xo_load1 ⟨w.heap.size, 1, none⟩ _ (cells_at Fv0_1.out 1 rfl) Tryd.underlying3 rfl rfl rfl) ?_
        simp only [Act.put, zA]
        refine zr (.bool false) V1 (xo_gtrF .i64 col 3 (by omega) rfl rfl rfl) ?_
        simp only [Act.put, zA]
        refine zr (.bool false) V1 rfl ?_
        simp only [Act.put, zA]
        refine zr (.bool false) V1 rfl ?_
        simp only [Act.put, zA]
        refine zr (.pointer (some ⟨w.heap.size, 1, none⟩)) V1 (xo_fld0 1 w.heap.size 1 (by kernel_rfl) rfl rfl) ?_
        simp only [Act.put, zA]
        refine zr (.int .i64 col) V1 (xo_load1 ⟨w.heap.size, 1, none⟩ _ (cells_at Fv0_1.out 1 rfl) Tryd.underlying3 rfl rfl rfl) ?_
        simp only [Act.put, zA]
        refine zr (.bool true) V1 (xo_neqT .i64 col 0 (by omega) rfl rfl rfl) ?_
        simp only [Act.put, zA]
        refine zr (.bool true) V1 rfl ?_
        simp only [Act.put, zA]
        refine zr (.pointer (some ⟨w.heap.size, 0, none⟩)) V1 (xo_fld0 0 w.heap.size 0 (by kernel_rfl) rfl rfl) ?_
        simp only [Act.put, zA]
        refine zr (.int .i64 (kd : Int)) V1 (xo_load1 ⟨w.heap.size, 0, none⟩ _ (cells_at Fv0_1.out 0 rfl) Tryd.underlying3 rfl rfl rfl) ?_
        simp only [Act.put, zA]
        refine wpList_call (by kernel_rfl) 36 Tryd.func36 (by kernel_rfl) (by kernel_rfl) _ _ #[.int .i64 (kd : Int)] rfl (by kernel_rfl) ?_
        refine (rhasC_as kd false hcd V1).mono ?_
        rintro e W1 ⟨rfl, hw1⟩
        rw [hw1]
        clear hw1 W1
        refine ⟨_, rfl, ?_⟩
        simp only [Act.put, zA]
        refine zr (.bool true) V1 rfl ?_
        simp only [Act.put, zA]
        refine zr (.bool true) V1 rfl ?_
        simp only [Act.put, zA]
        refine zr (.bool true) V1 rfl ?_
        simp only [Act.put, zA]
        refine wpList_nil ?_
        try clear hz
        have hm1 := Fv0_1.out
        have hm2 := B0.out
        go_wp2_with fail
        go_meet
        case rel => exact ⟨(by first | trivial | rfl), hm1, hm2⟩
 case rest =>
  obtain ⟨wc1, rfl⟩ : ∃ W, W = wc := ⟨_, rfl⟩
  obtain ⟨hs33, hr0, hb0⟩ := hcut
  have hbr := hb0
  clear B0
  have B0 := zh hbr
  clear hbr
  clear Fv0_1
  have Fv0_1 : Hid (wc1.heap[w.heap.size]? = some (.cells #[.int .i64 kind, .int .i64 col, .int .i64 k, .slice A n c] 24 (0, 0))) := zh (hr0)
  clear hb0 hr0
  cases p1 with
  | false =>
   subst hs33
   go_upto_region 2 with fail
   refine wp_region_lit ?_
   refine zr (.bool false) wc1 rfl ?_
   simp only [Act.put, zA]
   refine wpList_nil ?_
   obtain rfl : b = false := by rw [HV.out]; rfl
   have hbf := B0.out
   go_wp2_with fail
   go_ret
   exact ⟨rfl, hbf⟩
  | true =>
   subst hs33
   have h1 := Hp1.out
   simp only [Bool.and_eq_true, decide_eq_true_eq] at h1
   obtain ⟨hk1, hk7, _⟩ := h1
   clear Hp1
   obtain ⟨kd, rfl⟩ : ∃ kd : Nat, kind = (kd : Int) := ⟨kind.toNat, by omega⟩
   have hmd : Qu.maxK kd = mk := Hmk.out
   have HMD := zh hmd
   clear hmd
   go_upto_region 3 with fail
   go_cut [55] from 34 to 55 (fun s55 wx => s55 = .bool (!p2) ∧ wx.heap[w.heap.size]? = some (.cells #[.int .i64 (kd : Int), .int .i64 col, .int .i64 k, .slice A n c] 24 (0, 0)) ∧ Below w.heap.size w wx)
   case first =>
    by_cases hkn : k < 0
    ·have e0 : p2 = false := by
           rw [← Hp2.out]
           rw [Bool.and_eq_false_iff, decide_eq_false_iff_not, decide_eq_false_iff_not]
           omega
     subst e0
     refine wp_floatP [0, 1, 2, 3, 4, 5, 6, 7, 8, 9, 10, 11, 12, 13, 14, 15, 16, 17, 18, 19, 20, 21] (l' := [_, _, _, _, _, _, _, _, _, _, _, _, _, _, _, _, _, _, _, _, _, _]) (by kernel_rfl) (lexOK_of (by kernel_rfl) (by kernel_rfl)) (ordOK_of (by kernel_rfl) (by kernel_rfl)) rfl rfl ?_
     simp only [List.getElem_toArray, List.getElem_cons_succ, List.getElem_cons_zero]
     intro V2 hb hSW
     have B1 := zh hb
     have HF2 := zh hSW
     clear hb hSW
     refine wpF_seg 8 (by kernel_rfl) ?_
     simp only [List.take_succ_cons, List.take_zero, List.drop_succ_cons, List.drop_zero]
     refine zv (.pointer (some ⟨w.heap.size, 2, none⟩)) (fun v hv => (xo_fld0 2 w.heap.size 2 (by kernel_rfl) rfl rfl)) ?_
     simp only [Act.put, zA]
     refine zv (.int .i64 k) (fun v hv => (xo_load1 ⟨w.heap.size, 2, none⟩ _ (cells_at (heap_keep Fv0_1.out (laterF hv)) 2 rfl) Tryd.underlying3 rfl rfl rfl)) ?_
     simp only [Act.put, zA]
     refine zv (.bool true) (fun v hv => (xo_lssT .i64 k 0 (by omega) rfl rfl rfl)) ?_
     simp only [Act.put, zA]
     refine zv (.bool true) (fun v hv => rfl) ?_
     simp only [Act.put, zA]
     refine BigFrame.wpQuiet_skip (by kernel_rfl) ?_
     try simp only [Act.put, zA]
     refine BigFrame.wpQuiet_skip (by kernel_rfl) ?_
     try simp only [Act.put, zA]
     refine BigFrame.wpQuiet_skip (by kernel_rfl) ?_
     try simp only [Act.put, zA]
     refine BigFrame.wpQuiet_skip (by kernel_rfl) ?_
     try simp only [Act.put, zA]
     refine wpQuiet_nil ?_
     refine wpF_skip rfl ?_
     simp only [ptr, Act.put, zA]
     refine wpF_seg 5 (by kernel_rfl) ?_
     simp only [List.take_succ_cons, List.take_zero, List.drop_succ_cons, List.drop_zero]
     refine BigFrame.wpQuiet_skip (by kernel_rfl) ?_
     try simp only [Act.put, zA]
     refine zv (.bool true) (fun v hv => rfl) ?_
     simp only [Act.put, zA]
     refine zv (.bool true) (fun v hv => rfl) ?_
     simp only [Act.put, zA]
     refine BigFrame.wpQuiet_skip (by kernel_rfl) ?_
     try simp only [Act.put, zA]
     refine BigFrame.wpQuiet_skip (by kernel_rfl) ?_
     try simp only [Act.put, zA]
     refine wpQuiet_nil ?_
     refine wpF_skip rfl ?_
     simp only [ptr, Act.put, zA]
     refine wpF_seg 7 (by kernel_rfl) ?_
     simp only [List.take_succ_cons, List.take_zero, List.drop_succ_cons, List.drop_zero]
     refine BigFrame.wpQuiet_skip (by kernel_rfl) ?_
     try simp only [Act.put, zA]
     refine BigFrame.wpQuiet_skip (by kernel_rfl) ?_
     try simp only [Act.put, zA]
     refine BigFrame.wpQuiet_skip (by kernel_rfl) ?_
     try simp only [Act.put, zA]
     refine BigFrame.wpQuiet_skip (by kernel_rfl) ?_
     try simp only [Act.put, zA]
     refine BigFrame.wpQuiet_skip (by kernel_rfl) ?_
     try simp only [Act.put, zA]
     refine BigFrame.wpQuiet_skip (by kernel_rfl) ?_
     try simp only [Act.put, zA]
     refine zv (.bool true) (fun v hv => rfl) ?_
     simp only [Act.put, zA]
     refine wpQuiet_nil ?_
     refine wpF_nil (fun V3 hb => ?_)
     have B2 := zh hb
     clear hb
     clear HF2
     try clear hk0
     have C1_3 := zb B1 B2
     have hm3 := (heap_keep Fv0_1.out C1_3.out)
     have C0_2 := zb B0 B1
     have C0_3 := zb C0_2 B2
     have hm4 := C0_3.out
     go_wp2_with fail
     go_meet
     case rel => exact ⟨(by first | trivial | rfl), hm3, hm4⟩
    ·by_cases hkm : k > ((mk : Nat) : Int)
     ·have e0 : p2 = false := by
             rw [← Hp2.out]
             rw [Bool.and_eq_false_iff, decide_eq_false_iff_not, decide_eq_false_iff_not]
             omega
      subst e0
      refine wp_floatP [0, 1, 2, 3, 4, 5, 6, 7, 8, 9, 10, 11, 12, 13, 14, 15, 16, 17, 18, 19, 20, 21] (l' := [_, _, _, _, _, _, _, _, _, _, _, _, _, _, _, _, _, _, _, _, _, _]) (by kernel_rfl) (lexOK_of (by kernel_rfl) (by kernel_rfl)) (ordOK_of (by kernel_rfl) (by kernel_rfl)) rfl rfl ?_
      simp only [List.getElem_toArray, List.getElem_cons_succ, List.getElem_cons_zero]
      intro V2 hb hSW
      have B1 := zh hb
      have HF2 := zh hSW
      clear hb hSW
      refine wpF_seg 8 (by kernel_rfl) ?_
      simp only [List.take_succ_cons, List.take_zero, List.drop_succ_cons, List.drop_zero]
      refine zv (.pointer (some ⟨w.heap.size, 2, none⟩)) (fun v hv => (xo_fld0 2 w.heap.size 2 (by kernel_rfl) rfl rfl)) ?_
      simp only [Act.put, zA]
      refine zv (.int .i64 k) (fun v hv => (xo_load1 ⟨w.heap.size, 2, none⟩ _ (cells_at (heap_keep Fv0_1.out (laterF hv)) 2 rfl) Tryd.underlying3 rfl rfl rfl)) ?_
      simp only [Act.put, zA]
      refine zv (.bool false) (fun v hv => (xo_lssF .i64 k 0 (by omega) rfl rfl rfl)) ?_
      simp only [Act.put, zA]
      refine zv (.bool false) (fun v hv => rfl) ?_
      simp only [Act.put, zA]
      refine zv (.pointer (some ⟨w.heap.size, 2, none⟩)) (fun v hv => (xo_fld0 2 w.heap.size 2 (by kernel_rfl) rfl rfl)) ?_
      simp only [Act.put, zA]
      refine zv (.int .i64 k) (fun v hv => (xo_load1 ⟨w.heap.size, 2, none⟩ _ (cells_at (heap_keep Fv0_1.out (laterF hv)) 2 rfl) Tryd.underlying3 rfl rfl rfl)) ?_
      simp only [Act.put, zA]
      refine zv (.pointer (some ⟨w.heap.size, 0, none⟩)) (fun v hv => (xo_fld0 0 w.heap.size 0 (by kernel_rfl) rfl rfl)) ?_
      simp only [Act.put, zA]
      refine zv (.int .i64 (kd : Int)) (fun v hv => (xo_load1 ⟨w.heap.size, 0, none⟩ _ (cells_at (heap_keep Fv0_1.out (laterF hv)) 0 rfl) Tryd.underlying3 rfl rfl rfl)) ?_
      simp only [Act.put, zA]
      refine wpQuiet_nil ?_
      refine wpF_call 37 Tryd.func37 (by kernel_rfl) (by kernel_rfl) _ _ #[.int .i64 (kd : Int)] rfl (by kernel_rfl) (by kernel_rfl) HF2.out (fun V3 hb => ?_)
      have B2 := zh hb
      have HF3 := zh (HF2.out.ext hb)
      clear hb
      refine (rmaxK_as kd mk HMD.out V3).mono ?_
      rintro e _ ⟨rfl, rfl⟩
      refine ⟨_, rfl, Below.refl _ _, ?_⟩
      simp only [Act.put, zA]
      refine wpF_seg 5 (by kernel_rfl) ?_
      simp only [List.take_succ_cons, List.take_zero, List.drop_succ_cons, List.drop_zero]
      refine zv (.bool true) (fun v hv => (xo_gtrT .i64 k (mk : Int) (by omega) rfl rfl rfl)) ?_
      simp only [Act.put, zA]
      refine zv (.bool true) (fun v hv => rfl) ?_
      simp only [Act.put, zA]
      refine zv (.bool true) (fun v hv => rfl) ?_
      simp only [Act.put, zA]
      refine BigFrame.wpQuiet_skip (by kernel_rfl) ?_
      try simp only [Act.put, zA]
      refine BigFrame.wpQuiet_skip (by kernel_rfl) ?_
      try simp only [Act.put, zA]
      refine wpQuiet_nil ?_
      refine wpF_skip rfl ?_
      simp only [ptr, Act.put, zA]
      refine wpF_seg 7 (by kernel_rfl) ?_
      simp only [List.take_succ_cons, List.take_zero, List.drop_succ_cons, List.drop_zero]
      refine BigFrame.wpQuiet_skip (by kernel_rfl) ?_
      try simp only [Act.put, zA]
      refine BigFrame.wpQuiet_skip (by kernel_rfl) ?_
      try simp only [Act.put, zA]
      refine BigFrame.wpQuiet_skip (by kernel_rfl) ?_
      try simp only [Act.put, zA]
      refine BigFrame.wpQuiet_skip (by kernel_rfl) ?_
      try simp only [Act.put, zA]
      refine BigFrame.wpQuiet_skip (by kernel_rfl) ?_
      try simp only [Act.put, zA]
      refine BigFrame.wpQuiet_skip (by kernel_rfl) ?_
      try simp only [Act.put, zA]
      refine zv (.bool true) (fun v hv => rfl) ?_
      simp only [Act.put, zA]
      refine wpQuiet_nil ?_
      refine wpF_nil (fun V4 hb => ?_)
      have B3 := zh hb
      clear hb
      clear HF2
      clear HF3
      try clear hk0
      have C1_3 := zb B1 B2
      have C1_4 := zb C1_3 B3
      have hm3 := (heap_keep Fv0_1.out C1_4.out)
      have C0_2 := zb B0 B1
      have C0_3 := zb C0_2 B2
      have C0_4 := zb C0_3 B3
      have hm4 := C0_4.out
      go_wp2_with fail
      go_meet
      case rel => exact ⟨(by first | trivial | rfl), hm3, hm4⟩
     ·by_cases hmk0 : 0 < mk
      ·have hci3 : ((mk : Int) > 0) := by omega
       by_cases hk0 : k = 0
       ·have e0 : p2 = false := by
                 rw [← Hp2.out]
                 rw [Bool.and_eq_false_iff, decide_eq_false_iff_not, decide_eq_false_iff_not]
                 omega
        subst e0
        refine wp_floatP [0, 1, 2, 3, 4, 5, 6, 7, 8, 9, 10, 11, 12, 13, 14, 15, 16, 17, 18, 19, 20, 21] (l' := [_, _, _, _, _, _, _, _, _, _, _, _, _, _, _, _, _, _, _, _, _, _]) (by kernel_rfl) (lexOK_of (by kernel_rfl) (by kernel_rfl)) (ordOK_of (by kernel_rfl) (by kernel_rfl)) rfl rfl ?_
        simp only [List.getElem_toArray, List.getElem_cons_succ, List.getElem_cons_zero]
        intro V2 hb hSW
        have B1 := zh hb
        have HF2 := zh hSW
        clear hb hSW
        refine wpF_seg 8 (by kernel_rfl) ?_
        simp only [List.take_succ_cons, List.take_zero, List.drop_succ_cons, List.drop_zero]
        refine zv (.pointer (some ⟨w.heap.size, 2, none⟩)) (fun v hv => (xo_fld0 2 w.heap.size 2 (by kernel_rfl) rfl rfl)) ?_
        simp only [Act.put, zA]
        refine zv (.int .i64 k) (fun v hv => (xo_load1 ⟨w.heap.size, 2, none⟩ _ (cells_at (heap_keep Fv0_1.out (laterF hv)) 2 rfl) Tryd.underlying3 rfl rfl rfl)) ?_
        simp only [Act.put, zA]
        refine zv (.bool false) (fun v hv => (xo_lssF .i64 k 0 (by omega) rfl rfl rfl)) ?_
        simp only [Act.put, zA]
        refine zv (.bool false) (fun v hv => rfl) ?_
        simp only [Act.put, zA]
        refine zv (.pointer (some ⟨w.heap.size, 2, none⟩)) (fun v hv => (xo_fld0 2 w.heap.size 2 (by kernel_rfl) rfl rfl)) ?_
        simp only [Act.put, zA]
        refine zv (.int .i64 k) (fun v hv => (xo_load1 ⟨w.heap.size, 2, none⟩ _ (cells_at (heap_keep Fv0_1.out (laterF hv)) 2 rfl) Tryd.underlying3 rfl rfl rfl)) ?_
        simp only [Act.put, zA]
        refine zv (.pointer (some ⟨w.heap.size, 0, none⟩)) (fun v hv => (xo_fld0 0 w.heap.size 0 (by kernel_rfl) rfl rfl)) ?_
        simp only [Act.put, zA]
        refine zv (.int .i64 (kd : Int)) (fun v hv => (xo_load1 ⟨w.heap.size, 0, none⟩ _ (cells_at (heap_keep Fv0_1.out (laterF hv)) 0 rfl) Tryd.underlying3 rfl rfl rfl)) ?_
        simp only [Act.put, zA]
        refine wpQuiet_nil ?_
        refine wpF_call 37 Tryd.func37 (by kernel_rfl) (by kernel_rfl) _ _ #[.int .i64 (kd : Int)] rfl (by kernel_rfl) (by kernel_rfl) HF2.out (fun V3 hb => ?_)
        have B2 := zh hb
        have HF3 := zh (HF2.out.ext hb)
        clear hb
        refine (rmaxK_as kd mk HMD.out V3).mono ?_
        rintro e _ ⟨rfl, rfl⟩
        refine ⟨_, rfl, Below.refl _ _, ?_⟩
        simp only [Act.put, zA]
        refine wpF_seg 5 (by kernel_rfl) ?_
        simp only [List.take_succ_cons, List.take_zero, List.drop_succ_cons, List.drop_zero]
        refine zv (.bool false) (fun v hv => (xo_gtrF .i64 k (mk : Int) (by omega) rfl rfl rfl)) ?_
        simp only [Act.put, zA]
        refine zv (.bool false) (fun v hv => rfl) ?_
        simp only [Act.put, zA]
        refine zv (.bool false) (fun v hv => rfl) ?_
        simp only [Act.put, zA]
        refine zv (.pointer (some ⟨w.heap.size, 0, none⟩)) (fun v hv => (xo_fld0 0 w.heap.size 0 (by kernel_rfl) rfl rfl)) ?_
        simp only [Act.put, zA]
        refine zv (.int .i64 (kd : Int)) (fun v hv => (xo_load1 ⟨w.heap.size, 0, none⟩ _ (cells_at (heap_keep Fv0_1.out (laterF hv)) 0 rfl) Tryd.underlying3 rfl rfl rfl)) ?_
        simp only [Act.put, zA]
        refine wpQuiet_nil ?_
        refine wpF_call 37 Tryd.func37 (by kernel_rfl) (by kernel_rfl) _ _ #[.int .i64 (kd : Int)] rfl (by kernel_rfl) (by kernel_rfl) HF3.out (fun V4 hb => ?_)
        have B3 := zh hb
        have HF4 := zh (HF3.out.ext hb)
        clear hb
        refine (rmaxK_as kd mk HMD.out V4).mono ?_
        rintro e _ ⟨rfl, rfl⟩
        refine ⟨_, rfl, Below.refl _ _, ?_⟩
        simp only [Act.put, zA]
        refine wpF_seg 7 (by kernel_rfl) ?_
        simp only [List.take_succ_cons, List.take_zero, List.drop_succ_cons, List.drop_zero]
        refine zv (.bool true) (fun v hv => (xo_gtrT .i64 (mk : Int) 0 (by omega) rfl rfl rfl)) ?_
        simp only [Act.put, zA]
        refine zv (.bool true) (fun v hv => rfl) ?_
        simp only [Act.put, zA]
        refine zv (.pointer (some ⟨w.heap.size, 2, none⟩)) (fun v hv => (xo_fld0 2 w.heap.size 2 (by kernel_rfl) rfl rfl)) ?_
        simp only [Act.put, zA]
        refine zv (.int .i64 k) (fun v hv => (xo_load1 ⟨w.heap.size, 2, none⟩ _ (cells_at (heap_keep Fv0_1.out (laterF hv)) 2 rfl) Tryd.underlying3 rfl rfl rfl)) ?_
        simp only [Act.put, zA]
        refine zv (.bool true) (fun v hv => (xo_eqlT .i64 k 0 (by omega) rfl rfl rfl)) ?_
        simp only [Act.put, zA]
        refine zv (.bool true) (fun v hv => rfl) ?_
        simp only [Act.put, zA]
        refine zv (.bool true) (fun v hv => rfl) ?_
        simp only [Act.put, zA]
        refine wpQuiet_nil ?_
        refine wpF_nil (fun V5 hb => ?_)
        have B4 := zh hb
        clear hb
        clear HF2
        clear HF3
        clear HF4
        try clear hk0
        have C1_3 := zb B1 B2
        have C1_4 := zb C1_3 B3
        have C1_5 := zb C1_4 B4
        have hm4 := (heap_keep Fv0_1.out C1_5.out)
        have C0_2 := zb B0 B1
        have C0_3 := zb C0_2 B2
        have C0_4 := zb C0_3 B3
        have C0_5 := zb C0_4 B4
        have hm5 := C0_5.out
        go_wp2_with fail
        go_meet
        case rel => exact ⟨(by first | trivial | rfl), hm4, hm5⟩
       ·have e0 : p2 = true := by
                 rw [← Hp2.out]
                 rw [Bool.and_eq_true]
                 exact ⟨decide_eq_true (by omega), decide_eq_true (by omega)⟩
        subst e0
        refine wp_floatP [0, 1, 2, 3, 4, 5, 6, 7, 8, 9, 10, 11, 12, 13, 14, 15, 16, 17, 18, 19, 20, 21] (l' := [_, _, _, _, _, _, _, _, _, _, _, _, _, _, _, _, _, _, _, _, _, _]) (by kernel_rfl) (lexOK_of (by kernel_rfl) (by kernel_rfl)) (ordOK_of (by kernel_rfl) (by kernel_rfl)) rfl rfl ?_
        simp only [List.getElem_toArray, List.getElem_cons_succ, List.getElem_cons_zero]
        intro V2 hb hSW
        have B1 := zh hb
        have HF2 := zh hSW
        clear hb hSW
        refine wpF_seg 8 (by kernel_rfl) ?_
        simp only [List.take_succ_cons, List.take_zero, List.drop_succ_cons, List.drop_zero]
        refine zv (.pointer (some ⟨w.heap.size, 2, none⟩)) (fun v hv => (xo_fld0 2 w.heap.size 2 (by kernel_rfl) rfl rfl)) ?_
        simp only [Act.put, zA]
        refine zv (.int .i64 k) (fun v hv => (xo_load1 ⟨w.heap.size, 2, none⟩ _ (cells_at (heap_keep Fv0_1.out (laterF hv)) 2 rfl) Tryd.underlying3 rfl rfl rfl)) ?_
        simp only [Act.put, zA]
        refine zv (.bool false) (fun v hv => (xo_lssF .i64 k 0 (by omega) rfl rfl rfl)) ?_
        simp only [Act.put, zA]
        refine zv (.bool false) (fun v hv => rfl) ?_
        simp only [Act.put, zA]
        refine zv (.pointer (some ⟨w.heap.size, 2, none⟩)) (fun v hv => (xo_fld0 2 w.heap.size 2 (by kernel_rfl) rfl rfl)) ?_
        simp only [Act.put, zA]
        refine zv (.int .i64 k) (fun v hv => (xo_load1 ⟨w.heap.size, 2, none⟩ _ (cells_at (heap_keep Fv0_1.out (laterF hv)) 2 rfl) Tryd.underlying3 rfl rfl rfl)) ?_
        simp only [Act.put, zA]
        refine zv (.pointer (some ⟨w.heap.size, 0, none⟩)) (fun v hv => (xo_fld0 0 w.heap.size 0 (by kernel_rfl) rfl rfl)) ?_
        simp only [Act.put, zA]
        refine zv (.int .i64 (kd : Int)) (fun v hv => (xo_load1 ⟨w.heap.size, 0, none⟩ _ (cells_at (heap_keep Fv0_1.out (laterF hv)) 0 rfl) Tryd.underlying3 rfl rfl rfl)) ?_
        simp only [Act.put, zA]
        refine wpQuiet_nil ?_
        refine wpF_call 37 Tryd.func37 (by kernel_rfl) (by kernel_rfl) _ _ #[.int .i64 (kd : Int)] rfl (by kernel_rfl) (by kernel_rfl) HF2.out (fun V3 hb => ?_)
        have B2 := zh hb
        have HF3 := zh (HF2.out.ext hb)
        clear hb
        refine (rmaxK_as kd mk HMD.out V3).mono ?_
        rintro e _ ⟨rfl, rfl⟩
        refine ⟨_, rfl, Below.refl _ _, ?_⟩
        simp only [Act.put, zA]
        refine wpF_seg 5 (by kernel_rfl) ?_
        simp only [List.take_succ_cons, List.take_zero, List.drop_succ_cons, List.drop_zero]
        refine zv (.bool false) (fun v hv => (xo_gtrF .i64 k (mk : Int) (by omega) rfl rfl rfl)) ?_
        simp only [Act.put, zA]
        refine zv (.bool false) (fun v hv => rfl) ?_
        simp only [Act.put, zA]
        refine zv (.bool false) (fun v hv => rfl) ?_
        simp only [Act.put, zA]
        refine zv (.pointer (some ⟨w.heap.size, 0, none⟩)) (fun v hv => (xo_fld0 0 w.heap.size 0 (by kernel_rfl) rfl rfl)) ?_
        simp only [Act.put, zA]
        refine zv (.int .i64 (kd : Int)) (fun v hv => (xo_load1 ⟨w.heap.size, 0, none⟩ _ (cells_at (heap_keep Fv0_1.out (laterF hv)) 0 rfl) Tryd.underlying3 rfl rfl rfl)) ?_
        simp only [Act.put, zA]
        refine wpQuiet_nil ?_
        refine wpF_call 37 Tryd.func37 (by kernel_rfl) (by kernel_rfl) _ _ #[.int .i64 (kd : Int)] rfl (by kernel_rfl) (by kernel_rfl) HF3.out (fun V4 hb => ?_)
        have B3 := zh hb
        have HF4 := zh (HF3.out.ext hb)
        clear hb
        refine (rmaxK_as kd mk HMD.out V4).mono ?_
        rintro e _ ⟨rfl, rfl⟩
        refine ⟨_, rfl, Below.refl _ _, ?_⟩
        simp only [Act.put, zA]
        refine wpF_seg 7 (by kernel_rfl) ?_
        simp only [List.take_succ_cons, List.take_zero, List.drop_succ_cons, List.drop_zero]
        refine zv (.bool true) (fun v hv => (xo_gtrT .i64 (mk : Int) 0 (by omega) rfl rfl rfl)) ?_
        simp only [Act.put, zA]
        refine zv (.bool true) (fun v hv => rfl) ?_
        simp only [Act.put, zA]
        refine zv (.pointer (some ⟨w.heap.size, 2, none⟩)) (fun v hv => (xo_fld0 2 w.heap.size 2 (by kernel_rfl) rfl rfl)) ?_
        simp only [Act.put, zA]
        refine zv (.int .i64 k) (fun v hv => (xo_load1 ⟨w.heap.size, 2, none⟩ _ (cells_at (heap_keep Fv0_1.out (laterF hv)) 2 rfl) Tryd.underlying3 rfl rfl rfl)) ?_
        simp only [Act.put, zA]
        refine zv (.bool false) (fun v hv => (xo_eqlF .i64 k 0 (by omega) rfl rfl rfl)) ?_
        simp only [Act.put, zA]
        refine zv (.bool false) (fun v hv => rfl) ?_
        simp only [Act.put, zA]
        refine zv (.bool false) (fun v hv => rfl) ?_
        simp only [Act.put, zA]
        refine wpQuiet_nil ?_
        refine wpF_nil (fun V5 hb => ?_)
        have B4 := zh hb
        clear hb
        clear HF2
        clear HF3
        clear HF4
        try clear hk0
        have C1_3 := zb B1 B2
        have C1_4 := zb C1_3 B3
        have C1_5 := zb C1_4 B4
        have hm4 := (heap_keep Fv0_1.out C1_5.out)
        have C0_2 := zb B0 B1
        have C0_3 := zb C0_2 B2
        have C0_4 := zb C0_3 B3
        have C0_5 := zb C0_4 B4
        have hm5 := C0_5.out
        go_wp2_with fail
        go_meet
        case rel => exact ⟨(by first | trivial | rfl), hm4, hm5⟩
      ·have hci3 : ¬ ((mk : Int) > 0) := by omega
       have e0 : p2 = true := by
               rw [← Hp2.out]
               rw [Bool.and_eq_true]
               exact ⟨decide_eq_true (by omega), decide_eq_true (by omega)⟩
       subst e0
       refine wp_floatP [0, 1, 2, 3, 4, 5, 6, 7, 8, 9, 10, 11, 12, 13, 14, 15, 16, 17, 18, 19, 20, 21] (l' := [_, _, _, _, _, _, _, _, _, _, _, _, _, _, _, _, _, _, _, _, _, _]) (by kernel_rfl) (lexOK_of (by kernel_rfl) (by kernel_rfl)) (ordOK_of (by kernel_rfl) (by kernel_rfl)) rfl rfl ?_
       simp only [List.getElem_toArray, List.getElem_cons_succ, List.getElem_cons_zero]
       intro V2 hb hSW
       have B1 := zh hb
       have HF2 := zh hSW
       clear hb hSW
       refine wpF_seg 8 (by kernel_rfl) ?_
       simp only [List.take_succ_cons, List.take_zero, List.drop_succ_cons, List.drop_zero]
       refine zv (.pointer (some ⟨w.heap.size, 2, none⟩)) (fun v hv => (xo_fld0 2 w.heap.size 2 (by kernel_rfl) rfl rfl)) ?_
       simp only [Act.put, zA]
       refine zv (.int .i64 k) (fun v hv => (xo_load1 ⟨w.heap.size, 2, none⟩ _ (cells_at (heap_keep Fv0_1.out (laterF hv)) 2 rfl) Tryd.underlying3 rfl rfl rfl)) ?_
       simp only [Act.put, zA]
       refine zv (.bool false) (fun v hv => (xo_lssF .i64 k 0 (by omega) rfl rfl rfl)) ?_
       simp only [Act.put, zA]
       refine zv (.bool false) (fun v hv => rfl) ?_
       simp only [Act.put, zA]
       refine zv (.pointer (some ⟨w.heap.size, 2, none⟩)) (fun v hv => (xo_fld0 2 w.heap.size 2 (by kernel_rfl) rfl rfl)) ?_
       simp only [Act.put, zA]
       refine zv (.int .i64 k) (fun v hv => (xo_load1 ⟨w.heap.size, 2, none⟩ _ (cells_at (heap_keep Fv0_1.out (laterF hv)) 2 rfl) Tryd.underlying3 rfl rfl rfl)) ?_
       simp only [Act.put, zA]
       refine zv (.pointer (some ⟨w.heap.size, 0, none⟩)) (fun v hv => (xo_fld0 0 w.heap.size 0 (by kernel_rfl) rfl rfl)) ?_
       simp only [Act.put, zA]
       refine zv (.int .i64 (kd : Int)) (fun v hv => (xo_load1 ⟨w.heap.size, 0, none⟩ _ (cells_at (heap_keep Fv0_1.out (laterF hv)) 0 rfl) Tryd.underlying3 rfl rfl rfl)) ?_
       simp only [Act.put, zA]
       refine wpQuiet_nil ?_
       refine wpF_call 37 Tryd.func37 (by kernel_rfl) (by kernel_rfl) _ _ #[.int .i64 (kd : Int)] rfl (by kernel_rfl) (by kernel_rfl) HF2.out (fun V3 hb => ?_)
       have B2 := zh hb
       have HF3 := zh (HF2.out.ext hb)
       clear hb
       refine (rmaxK_as kd mk HMD.out V3).mono ?_
       rintro e _ ⟨rfl, rfl⟩
       refine ⟨_, rfl, Below.refl _ _, ?_⟩
       simp only [Act.put, zA]
       refine wpF_seg 5 (by kernel_rfl) ?_
       simp only [List.take_succ_cons, List.take_zero, List.drop_succ_cons, List.drop_zero]
       refine zv (.bool false) (fun v hv => (xo_gtrF .i64 k (mk : Int) (by omega) rfl rfl rfl)) ?_
       simp only [Act.put, zA]
       refine zv (.bool false) (fun v hv => rfl) ?_
       simp only [Act.put, zA]
       refine zv (.bool false) (fun v hv => rfl) ?_
       simp only [Act.put, zA]
       refine zv (.pointer (some ⟨w.heap.size, 0, none⟩)) (fun v hv => (xo_fld0 0 w.heap.size 0 (by kernel_rfl) rfl rfl)) ?_
       simp only [Act.put, zA]
       refine zv (.int .i64 (kd : Int)) (fun v hv => (xo_load1 ⟨w.heap.size, 0, none⟩ _ (cells_at (heap_keep Fv0_1.out (laterF hv)) 0 rfl) Tryd.underlying3 rfl rfl rfl)) ?_
       simp only [Act.put, zA]
       refine wpQuiet_nil ?_
       refine wpF_call 37 Tryd.func37 (by kernel_rfl) (by kernel_rfl) _ _ #[.int .i64 (kd : Int)] rfl (by kernel_rfl) (by kernel_rfl) HF3.out (fun V4 hb => ?_)
       have B3 := zh hb
       have HF4 := zh (HF3.out.ext hb)
       clear hb
       refine (rmaxK_as kd mk HMD.out V4).mono ?_
       rintro e _ ⟨rfl, rfl⟩
       refine ⟨_, rfl, Below.refl _ _, ?_⟩
       simp only [Act.put, zA]
       refine wpF_seg 7 (by kernel_rfl) ?_
       simp only [List.take_succ_cons, List.take_zero, List.drop_succ_cons, List.drop_zero]
       refine zv (.bool false) (fun v hv => (xo_gtrF .i64 (mk : Int) 0 (by omega) rfl rfl rfl)) ?_
       simp only [Act.put, zA]
       refine zv (.bool false) (fun v hv => rfl) ?_
       simp only [Act.put, zA]
       refine BigFrame.wpQuiet_skip (by kernel_rfl) ?_
       try simp only [Act.put, zA]
       refine BigFrame.wpQuiet_skip (by kernel_rfl) ?_
       try simp only [Act.put, zA]
       refine BigFrame.wpQuiet_skip (by kernel_rfl) ?_
       try simp only [Act.put, zA]
       refine zv (.bool false) (fun v hv => rfl) ?_
       simp only [Act.put, zA]
       refine zv (.bool false) (fun v hv => rfl) ?_
       simp only [Act.put, zA]
       refine wpQuiet_nil ?_
       refine wpF_nil (fun V5 hb => ?_)
       have B4 := zh hb
       clear hb
       clear HF2
       clear HF3
       clear HF4
       try clear hk0
       have C1_3 := zb B1 B2
       have C1_4 := zb C1_3 B3
       have C1_5 := zb C1_4 B4
       have hm4 := (heap_keep Fv0_1.out C1_5.out)
       have C0_2 := zb B0 B1
       have C0_3 := zb C0_2 B2
       have C0_4 := zb C0_3 B3
       have C0_5 := zb C0_4 B4
       have hm5 := C0_5.out
       go_wp2_with fail
       go_meet
       case rel => exact ⟨(by first | trivial | rfl), hm4, hm5⟩
   case rest =>
    obtain ⟨wc3, rfl⟩ : ∃ W, W = wc := ⟨_, rfl⟩
    obtain ⟨hs55, hr0, hb0⟩ := hcut
    have hbr := hb0
    clear B0
    have B0 := zh hbr
    clear hbr
    clear Fv0_1
    have Fv0_1 : Hid (wc3.heap[w.heap.size]? = some (.cells #[.int .i64 (kd : Int), .int .i64 col, .int .i64 k, .slice A n c] 24 (0, 0))) := zh (hr0)
    clear hb0 hr0
    cases p2 with
    | false =>
     subst hs55
     go_upto_region 4 with fail
     refine wp_region_lit ?_
     refine zr (.bool false) wc3 rfl ?_
     simp only [Act.put, zA]
     refine wpList_nil ?_
     obtain rfl : b = false := by rw [HV.out]; rfl
     have hbf := B0.out
     go_wp2_with fail
     go_ret
     exact ⟨rfl, hbf⟩
    | true =>
     subst hs55
     clear Hp2
     have hnf7 : nf = if kd = 7 then 2 else 1 := by rw [← Hnf.out, Int.toNat_natCast]; unfold Qu.numF; split <;> simp_all
     have HN7 := zh hnf7
     clear hnf7
     go_upto_region 5 with fail
     refine wp_region_lit ?_
     refine zr (.int .i64 1) wc3 rfl ?_
     simp only [Act.put, zA]
     refine wpList_nil ?_
     go_upto_region 6 with fail
     refine wp_region_lit ?_
     refine zr (.pointer (some ⟨w.heap.size, 0, none⟩)) wc3 (xo_fld0 0 w.heap.size 0 (by kernel_rfl) rfl rfl) ?_
     simp only [Act.put, zA]
     refine zr (.int .i64 (kd : Int)) wc3 (xo_load1 ⟨w.heap.size, 0, none⟩ _ (cells_at Fv0_1.out 0 rfl) Tryd.underlying3 rfl rfl rfl) ?_
     simp only [Act.put, zA]
     refine zr (.bool (decide (kd = 7))) wc3 (xo_cmp .eql .i64 (kd : Int) 7 (decide (kd = 7)) (.inl ⟨rfl, (by rw [Bool.eq_iff_iff, beq_iff_eq, decide_eq_true_iff]; omega)⟩) rfl rfl rfl) ?_
     simp only [Act.put, zA]
     refine wpList_nil ?_
     go_upto_if 58 with fail
     go_cut [3] from 56 to 58 (fun s3 wx => s3 = .int .i64 (nf : Int) ∧ wx.heap[w.heap.size]? = some (.cells #[.int .i64 (kd : Int), .int .i64 col, .int .i64 k, .slice A n c] 24 (0, 0)) ∧ Below w.heap.size w wx)
     case first =>
      by_cases h7 : kd = 7
      ·have hd : decide (kd = 7) = true := decide_eq_true h7
       have e0 : 2 = nf := by rw [HN7.out, if_pos h7]
       subst e0
       go_upto_region 7 with fail
       refine wp_region_lit ?_
       refine zr (.int .i64 2) wc3 rfl ?_
       simp only [Act.put, zA]
       refine wpList_nil ?_
       clear h7
       have hm5 := Fv0_1.out
       have hm6 := B0.out
       go_wp2_with fail
       go_meet
       case rel => exact ⟨rfl, hm5, hm6⟩
      ·have hd : decide (kd = 7) = false := decide_eq_false h7
       have e0 : 1 = nf := by rw [HN7.out, if_neg h7]
       subst e0
       have hm5 := Fv0_1.out
       have hm6 := B0.out
       go_wp2_with fail
       go_meet
       case rel => exact ⟨rfl, hm5, hm6⟩
     case rest =>
      obtain ⟨wc5, rfl⟩ : ∃ W, W = wc := ⟨_, rfl⟩
      obtain ⟨hs3, hr0, hb0⟩ := hcut
      have hbr := hb0
      clear B0
      have B0 := zh hbr
      clear hbr
      clear Fv0_1
      have Fv0_1 : Hid (wc5.heap[w.heap.size]? = some (.cells #[.int .i64 (kd : Int), .int .i64 col, .int .i64 k, .slice A n c] 24 (0, 0))) := zh (hr0)
      clear hb0 hr0
      subst hs3
      by_cases hnn : n = nf
      ·have hci7 : ¬ ((n : Int) ≠ (nf : Int)) := by omega
       go_upto_region 8 with fail
       refine wp_region_lit ?_
       refine zr (.pointer (some ⟨w.heap.size, 3, none⟩)) wc5 (xo_fld0 3 w.heap.size 3 (by kernel_rfl) rfl rfl) ?_
       simp only [Act.put, zA]
       refine zr (.slice A n c) wc5 (xo_load1 ⟨w.heap.size, 3, none⟩ _ (cells_at Fv0_1.out 3 rfl) Tryd.underlying22 rfl rfl rfl) ?_
       simp only [Act.put, zA]
       refine zr (.int .i64 (n : Int)) wc5 (xo_len A n c Tryd.underlying22 rfl rfl) ?_
       simp only [Act.put, zA]
       refine zr (.int .i64 (nf : Int)) wc5 rfl ?_
       simp only [Act.put, zA]
       refine zr (.bool false) wc5 (xo_neqF .i64 (n : Int) (nf : Int) (by omega) rfl rfl rfl) ?_
       simp only [Act.put, zA]
       refine wpList_nil ?_
       go_upto_region 10 with fail
       refine wp_region_lit ?_
       refine zr (.int .i64 0) wc5 rfl ?_
       simp only [Act.put, zA]
       refine wpList_nil ?_
       have HV2 : Hid (b = fs.all Qu.vL) := zh (by rw [HV.out, decide_eq_true hnn]; rfl)
       have O8 := Fv0_1.out
       have O9 := B0.out
       go_wp2_with fail
       go_loopw [4] (fun p wr => ∃ i : Nat, i ≤ nf ∧ p = .int .i64 i ∧ (fs.take i).all Qu.vL = true ∧ wr.heap[w.heap.size]? = some (.cells #[.int .i64 (kd : Int), .int .i64 col, .int .i64 k, .slice A n c] 24 (0, 0)) ∧ Below w.heap.size w wr) (fun p _ => nf - (intOf p).toNat)
       case atStart => exact ⟨0, Nat.zero_le _, rfl, (by simp), O8, O9⟩
       case round =>
        clear O8 O9
        obtain ⟨wo, rfl⟩ : ∃ wo : World, wo = wr := ⟨_, rfl⟩
        obtain ⟨i, hi, rfl, hHALL, hr0, hb0⟩ := hrel
        have hbr := hb0
        clear B0
        have B0 := zh hbr
        clear hbr
        clear Fv0_1
        have Fv0_1 : Hid (wo.heap[w.heap.size]? = some (.cells #[.int .i64 (kd : Int), .int .i64 col, .int .i64 k, .slice A n c] 24 (0, 0))) := zh (hr0)
        have HALL := zh hHALL
        clear hb0 hr0 hHALL
        by_cases hlt2 : i < nf
        ·have hci11 : ((i : Int) < (nf : Int)) := by omega
         obtain ⟨h, hh⟩ : ∃ h, hs[i]? = some h := ⟨_, List.getElem?_eq_getElem (by omega)⟩
         obtain ⟨xs, hxs⟩ : ∃ x, fs[i]? = some x := ⟨_, List.getElem?_eq_getElem (by omega)⟩
         have HH := zh hh
         have HX := zh hxs
         clear hh hxs
         go_upto_region 11 with fail
         refine wp_region_lit ?_
         refine zr (.int .i64 (i : Int)) wo rfl ?_
         simp only [Act.put, zA]
         refine zr (.int .i64 (nf : Int)) wo rfl ?_
         simp only [Act.put, zA]
         refine zr (.bool true) wo (xo_lssT .i64 (i : Int) (nf : Int) (by omega) rfl rfl rfl) ?_
         simp only [Act.put, zA]
         refine wpList_nil ?_
         cases hm : Qu.vL xs with
         | false =>
          go_upto_region 13 with fail
          refine wp_region_lit ?_
          refine zr (.pointer (some ⟨w.heap.size, 3, none⟩)) wo (xo_fld0 3 w.heap.size 3 (by kernel_rfl) rfl rfl) ?_
          simp only [Act.put, zA]
          refine zr (.slice A n c) wo (xo_load1 ⟨w.heap.size, 3, none⟩ _ (cells_at Fv0_1.out 3 rfl) Tryd.underlying22 rfl rfl rfl) ?_
          simp only [Act.put, zA]
          refine zr (.int .i64 (i : Int)) wo rfl ?_
          simp only [Act.put, zA]
          refine zr (.pointer (some (gad A (i * 1)))) wo (xg_idx .i64 (HFR.out.keep B0.out).sg HH.out Tryd.underlying22 (by kernel_rfl) rfl rfl rfl) ?_
          simp only [Act.put, zA]
          refine zr (.slice h.A h.n h.c) wo (xg_load1 (E := hdC) (i := i) (j := 0) (HFR.out.keep B0.out).sg HH.out rfl rfl Tryd.underlying44 rfl rfl rfl) ?_
          simp only [Act.put, zA]
          refine wpList_call (by kernel_rfl) 53 Tryd.func53 (by kernel_rfl) (by kernel_rfl) _ _ #[.slice h.A h.n h.c] rfl (by kernel_rfl) ?_
          refine (rvf_as h.A h.n h.c xs false hm wo ((HFR.out.keep B0.out).row i h xs HH.out HX.out)).mono ?_
          rintro e V2 ⟨rfl, hb⟩
          have B1 := zh hb
          clear hb 
          refine ⟨_, rfl, ?_⟩
          simp only [Act.put, zA]
          refine zr (.bool true) V2 rfl ?_
          simp only [Act.put, zA]
          refine wpList_nil ?_
          go_upto_region 14 with fail
          refine wp_region_lit ?_
          refine zr (.bool false) V2 rfl ?_
          simp only [Act.put, zA]
          refine wpList_nil ?_
          have HV := HV2
          obtain rfl : b = false := by rw [HV.out]; rw [all_false HX.out hm]
          have C0_2 := zb B0 B1
          have hbf := C0_2.out
          go_wp2_with fail
          go_ret
          exact ⟨rfl, hbf⟩
         | true =>
          go_upto_region 13 with fail
          refine wp_region_lit ?_
          refine zr (.pointer (some ⟨w.heap.size, 3, none⟩)) wo (xo_fld0 3 w.heap.size 3 (by kernel_rfl) rfl rfl) ?_
          simp only [Act.put, zA]
          refine zr (.slice A n c) wo (xo_load1 ⟨w.heap.size, 3, none⟩ _ (cells_at Fv0_1.out 3 rfl) Tryd.underlying22 rfl rfl rfl) ?_
          simp only [Act.put, zA]
          refine zr (.int .i64 (i : Int)) wo rfl ?_
          simp only [Act.put, zA]
          refine zr (.pointer (some (gad A (i * 1)))) wo (xg_idx .i64 (HFR.out.keep B0.out).sg HH.out Tryd.underlying22 (by kernel_rfl) rfl rfl rfl) ?_
          simp only [Act.put, zA]
          refine zr (.slice h.A h.n h.c) wo (xg_load1 (E := hdC) (i := i) (j := 0) (HFR.out.keep B0.out).sg HH.out rfl rfl Tryd.underlying44 rfl rfl rfl) ?_
          simp only [Act.put, zA]
          refine wpList_call (by kernel_rfl) 53 Tryd.func53 (by kernel_rfl) (by kernel_rfl) _ _ #[.slice h.A h.n h.c] rfl (by kernel_rfl) ?_
          refine (rvf_as h.A h.n h.c xs true hm wo ((HFR.out.keep B0.out).row i h xs HH.out HX.out)).mono ?_
          rintro e V2 ⟨rfl, hb⟩
          have B1 := zh hb
          clear hb 
          refine ⟨_, rfl, ?_⟩
          simp only [Act.put, zA]
          refine zr (.bool false) V2 rfl ?_
          simp only [Act.put, zA]
          refine wpList_nil ?_
          go_upto_region 12 with fail
          refine wp_region_lit ?_
          refine zr (.int .i64 (i : Int)) V2 rfl ?_
          simp only [Act.put, zA]
          refine zr (.int .i64 ((i + 1 : Nat) : Int)) V2 (xo_addI (i : Int) 1 ((i + 1 : Nat) : Int) (by omega) (by omega) (by omega) rfl rfl rfl) ?_
          simp only [Act.put, zA]
          refine zr (.int .i64 ((i + 1 : Nat) : Int)) V2 rfl ?_
          simp only [Act.put, zA]
          refine wpList_nil ?_
          have hal := all_take HX.out HALL.out hm
          have hq12 := (heap_keep Fv0_1.out B1.out)
          have C0_2 := zb B0 B1
          have hq13 := C0_2.out
          go_wp2_with fail
          go_roundw
          case rel => exact ⟨i + 1, by omega, by go_num, hal, hq12, hq13⟩
          case measure => simp [intOf]; omega
        ·have hci11 : ¬ ((i : Int) < (nf : Int)) := by omega
         go_upto_region 11 with fail
         refine wp_region_lit ?_
         refine zr (.int .i64 (i : Int)) wo rfl ?_
         simp only [Act.put, zA]
         refine zr (.int .i64 (nf : Int)) wo rfl ?_
         simp only [Act.put, zA]
         refine zr (.bool false) wo (xo_lssF .i64 (i : Int) (nf : Int) (by omega) rfl rfl rfl) ?_
         simp only [Act.put, zA]
         refine wpList_nil ?_
         go_upto_region 15 with fail
         refine wp_region_lit ?_
         refine zr (.bool true) wo rfl ?_
         simp only [Act.put, zA]
         refine wpList_nil ?_
         have HV := HV2
         obtain rfl : b = true := by rw [HV.out]; rw [← List.take_length (l := fs), show fs.length = i by omega]; exact HALL.out
         have hbf := B0.out
         go_wp2_with fail
         go_ret
         exact ⟨rfl, hbf⟩
      ·have hci7 : ((n : Int) ≠ (nf : Int)) := by omega
       go_upto_region 8 with fail
       refine wp_region_lit ?_
       refine zr (.pointer (some ⟨w.heap.size, 3, none⟩)) wc5 (xo_fld0 3 w.heap.size 3 (by kernel_rfl) rfl rfl) ?_
       simp only [Act.put, zA]
       refine zr (.slice A n c) wc5 (xo_load1 ⟨w.heap.size, 3, none⟩ _ (cells_at Fv0_1.out 3 rfl) Tryd.underlying22 rfl rfl rfl) ?_
       simp only [Act.put, zA]
       refine zr (.int .i64 (n : Int)) wc5 (xo_len A n c Tryd.underlying22 rfl rfl) ?_
       simp only [Act.put, zA]
       refine zr (.int .i64 (nf : Int)) wc5 rfl ?_
       simp only [Act.put, zA]
       refine zr (.bool true) wc5 (xo_neqT .i64 (n : Int) (nf : Int) (by omega) rfl rfl rfl) ?_
       simp only [Act.put, zA]
       refine wpList_nil ?_
       go_upto_region 9 with fail
       refine wp_region_lit ?_
       refine zr (.bool false) wc5 rfl ?_
       simp only [Act.put, zA]
       refine wpList_nil ?_
       obtain rfl : b = false := by rw [HV.out]; rw [decide_eq_false hnn]; rfl
       have hbf := B0.out
       go_wp2_with fail
       go_ret
       exact ⟨rfl, hbf⟩
end Go.Proofs.YtbecajihgbbgjaaDoor

