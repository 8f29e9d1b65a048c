/- Several texts in one: Ycb, Ycc, Ycd, Ycf, Ycn, Yci. -/
import Derived.Test.YtbecajihgbbgjaaDoorU06
set_option linter.unusedVariables false
set_option linter.unusedSimpArgs false
set_option linter.unusedSectionVars false
namespace Go.Proofs.YtbecajihgbbgjaaDoor
set_option maxRecDepth 8000
open Go.RowKit Go.Proofs.YtbecajihgbbgjaaDoor.K
attribute [local irreducible] wpList wpQuiet
namespace Ty
def inC (c v : Nat) (e : Qu.Cd) : Bool := !decide (e.col = c) || (decide (e.lo ≤ v) && decide (v ≤ e.hi))
theorem posN_in (l : List Qu.Cd) (c v : Nat) : posN l c v = (decide (v ≤ Qu.maxN c) && l.all (inC c v)) := rfl
end Ty
set_option maxRecDepth 100000 in
set_option maxHeartbeats 16000000 in
theorem has_as (lo hi v : Nat) (b : Bool) (hb : (decide (lo ≤ v) && decide (v ≤ hi)) = b) (w : World) : Calls Tryd.prog 57 #[.agg #[.int .i64 (lo : Int), .int .i64 (hi : Int)], .int .i64 (v : Int)] w fun e w' => e = .returned (.bool b) ∧ Below w.heap.size w w' := by
 go_enter Tryd.func57, Tryd.ntmps57
 go_upto_region 1 with fail
 refine wp_named1 (fun V1 hb g0 hlt => ?_)
 have B0 := zh hb
 have Fv0_2 : Hid (V1.heap[w.heap.size]? = some (.cells #[.int .i64 (lo : Int), .int .i64 (hi : Int)] 82 (0, 0))) := zh (g0)
 have Gb0 : Hid (w.heap.size ≤ w.heap.size) := zh (by omega)
 clear hb g0 hlt
 have Lt0 : Hid (w.heap.size < V1.heap.size) := zh (xp_lt Fv0_2.out)
 by_cases h1 : lo ≤ v
 ·have hci1 : ((lo : Int) ≤ (v : Int)) := by omega
  by_cases h2 : v ≤ hi
  ·have hci2 : ((v : Int) ≤ (hi : Int)) := by omega
   refine wp_region_lit ?_
   refine zr (.pointer (some ⟨w.heap.size, 0, none⟩)) V1 (xo_fld0 0 w.heap.size 0 (by kernel_rfl) rfl rfl) ?_
   simp only [Act.put, zA]
   refine zr (.int .i64 (lo : Int)) V1 (xo_load1 ⟨w.heap.size, 0, none⟩ _ (cells_at Fv0_2.out 0 rfl) Tryd.underlying3 rfl rfl rfl) ?_
   simp only [Act.put, zA]
   refine zr (.int .i64 (v : Int)) V1 rfl ?_
   simp only [Act.put, zA]
   refine zr (.bool true) V1 (xo_leqT .i64 (lo : Int) (v : Int) (by omega) rfl rfl rfl) ?_
   simp only [Act.put, zA]
   refine zr (.bool true) V1 rfl ?_
   simp only [Act.put, zA]
   refine zr (.int .i64 (v : Int)) V1 rfl ?_
   simp only [Act.put, zA]
   refine zr (.pointer (some ⟨w.heap.size, 1, none⟩)) V1 (xo_fld0 1 w.heap.size 1 (by kernel_rfl) rfl rfl) ?_
   simp only [Act.put, zA]
   refine zr (.int .i64 (hi : Int)) V1 (xo_load1 ⟨w.heap.size, 1, none⟩ _ (cells_at Fv0_2.out 1 rfl) Tryd.underlying3 rfl rfl rfl) ?_
   simp only [Act.put, zA]
   refine zr (.bool true) V1 (xo_leqT .i64 (v : Int) (hi : Int) (by omega) rfl rfl rfl) ?_
   simp only [Act.put, zA]
   refine zr (.bool true) V1 rfl ?_
   simp only [Act.put, zA]
   refine zr (.bool true) V1 rfl ?_
   simp only [Act.put, zA]
   refine wpList_nil ?_
   obtain rfl : b = true := by rw [← hb] <;> simp <;> omega
   have hbf := B0.out
   go_wp2_with fail
   go_ret
   exact ⟨rfl, hbf⟩
  ·have hci2 : ¬ ((v : Int) ≤ (hi : Int)) := by omega
   refine wp_region_lit ?_
   refine zr (.pointer (some ⟨w.heap.size, 0, none⟩)) V1 (xo_fld0 0 w.heap.size 0 (by kernel_rfl) rfl rfl) ?_
   simp only [Act.put, zA]
   refine zr (.int .i64 (lo : Int)) V1 (xo_load1 ⟨w.heap.size, 0, none⟩ _ (cells_at Fv0_2.out 0 rfl) Tryd.underlying3 rfl rfl rfl) ?_
   simp only [Act.put, zA]
   refine zr (.int .i64 (v : Int)) V1 rfl ?_
   simp only [Act.put, zA]
   refine zr (.bool true) V1 (xo_leqT .i64 (lo : Int) (v : Int) (by omega) rfl rfl rfl) ?_
   simp only [Act.put, zA]
   refine zr (.bool true) V1 rfl ?_
   simp only [Act.put, zA]
   refine zr (.int .i64 (v : Int)) V1 rfl ?_
   simp only [Act.put, zA]
   refine zr (.pointer (some ⟨w.heap.size, 1, none⟩)) V1 (xo_fld0 1 w.heap.size 1 (by kernel_rfl) rfl rfl) ?_
   simp only [Act.put, zA]
   refine zr (.int .i64 (hi : Int)) V1 (xo_load1 ⟨w.heap.size, 1, none⟩ _ (cells_at Fv0_2.out 1 rfl) Tryd.underlying3 rfl rfl rfl) ?_
   simp only [Act.put, zA]
   refine zr (.bool false) V1 (xo_leqF .i64 (v : Int) (hi : Int) (by omega) rfl rfl rfl) ?_
   simp only [Act.put, zA]
   refine zr (.bool false) V1 rfl ?_
   simp only [Act.put, zA]
   refine zr (.bool false) V1 rfl ?_
   simp only [Act.put, zA]
   refine wpList_nil ?_
   obtain rfl : b = false := by rw [← hb] <;> simp <;> omega
   have hbf := B0.out
   go_wp2_with fail
   go_ret
   exact ⟨rfl, hbf⟩
 ·have hci1 : ¬ ((lo : Int) ≤ (v : Int)) := by omega
  refine wp_region_lit ?_
  refine zr (.pointer (some ⟨w.heap.size, 0, none⟩)) V1 (xo_fld0 0 w.heap.size 0 (by kernel_rfl) rfl rfl) ?_
  simp only [Act.put, zA]
  refine zr (.int .i64 (lo : Int)) V1 (xo_load1 ⟨w.heap.size, 0, none⟩ _ (cells_at Fv0_2.out 0 rfl) Tryd.underlying3 rfl rfl rfl) ?_
  simp only [Act.put, zA]
  refine zr (.int .i64 (v : Int)) V1 rfl ?_
  simp only [Act.put, zA]
  refine zr (.bool false) V1 (xo_leqF .i64 (lo : Int) (v : Int) (by omega) rfl rfl rfl) ?_
  simp only [Act.put, zA]
  refine zr (.bool false) V1 rfl ?_
  simp only [Act.put, zA]
  refine zl ?_
  try simp only [Act.put, zA]
  refine zl ?_
  try simp only [Act.put, zA]
  refine zl ?_
  try simp only [Act.put, zA]
  refine zl ?_
  try simp only [Act.put, zA]
  refine zr (.bool false) V1 rfl ?_
  simp only [Act.put, zA]
  refine zr (.bool false) V1 rfl ?_
  simp only [Act.put, zA]
  refine wpList_nil ?_
  obtain rfl : b = false := by rw [← hb] <;> simp <;> omega
  have hbf := B0.out
  go_wp2_with fail
  go_ret
  exact ⟨rfl, hbf⟩
set_option maxRecDepth 100000 in
set_option maxHeartbeats 32000000 in
theorem possible_as (A : Option Addr) (n c : Nat) (l : List Qu.Cd) (col v : Nat) (hc : col < 4) (b : Bool) (hb : Ty.posN l col v = b) (w : World) (hL : Sg ciC 3 w A n c (l.map Qu.Cd.ci)) :
  Calls Tryd.prog 39 #[.slice A n c, .int .i64 (col : Int), .int .i64 (v : Int)] w fun e w' => e = .returned (.bool b) ∧ Below w.heap.size w w' := by
 have HL := zh hL
 have hln : l.length = n := by have := hL.len; rwa [List.length_map] at this
 have hlc := hL.cap
 have hlt := hL.top
 have HBB := zh hb
 clear hL hb
 obtain ⟨m, hm⟩ : ∃ m, Qu.maxN col = m := ⟨_, rfl⟩
 have HM := zh hm
 clear hm
 go_enter Tryd.func39, Tryd.ntmps39
 go_upto_region 1 with fail
 refine wp_region_lit ?_
 refine zr (.int .i64 0) w rfl ?_
 simp only [Act.put, zA]
 refine wpList_nil ?_
 have O0 := (Below.refl w.heap.size w)
 have B0 := zh (Below.refl w.heap.size w)
 go_wp2_with fail
 go_loopw [7] (fun p wr => ∃ i : Nat, i ≤ n ∧ p = .int .i64 i ∧ (l.take i).all (Ty.inC col v) = true ∧ Below w.heap.size w wr) (fun p _ => n - (intOf p).toNat)
 case atStart => exact ⟨0, Nat.zero_le _, rfl, (by simp), O0⟩
 case round =>
  clear O0
  obtain ⟨wo, rfl⟩ : ∃ wo : World, wo = wr := ⟨_, rfl⟩
  obtain ⟨i, hi, rfl, hHALL, hb0⟩ := hrel
  have hbr := hb0
  clear B0
  have B0 := zh hbr
  clear hbr
  have HALL := zh hHALL
  clear hb0 hHALL
  by_cases hlt2 : i < n
  ·have hci2 : ((i : Int) < (n : Int)) := by omega
   obtain ⟨e0, hx⟩ : ∃ e, l[i]? = some e := ⟨_, List.getElem?_eq_getElem (by omega)⟩
   obtain ⟨k, lo, hi2⟩ := e0
   have HX := zh hx
   have HE : Hid ((l.map Qu.Cd.ci)[i]? = some (Qu.Ci.mk (k : Int) (lo : Int) (hi2 : Int))) := zh (by rw [List.getElem?_map, hx]; rfl)
   clear hx
   go_upto_region 2 with fail
   refine wp_region_lit ?_
   refine zr (.int .i64 (i : Int)) wo rfl ?_
   simp only [Act.put, zA]
   refine zr (.slice A n c) wo rfl ?_
   simp only [Act.put, zA]
   refine zr (.int .i64 (n : Int)) wo (xo_len A n c Tryd.underlying44 rfl rfl) ?_
   simp only [Act.put, zA]
   refine zr (.bool true) wo (xo_lssT .i64 (i : Int) (n : Int) (by omega) rfl rfl rfl) ?_
   simp only [Act.put, zA]
   refine wpList_nil ?_
   by_cases hkc : k = col
   ·have hci3 : ((k : Int) = (col : Int)) := by omega
    by_cases h1 : v < lo
    ·have hci4 : ((v : Int) < (lo : Int)) := by omega
     go_upto_region 4 with fail
     refine wp_region_lit ?_
     refine zr (.slice A n c) wo rfl ?_
     simp only [Act.put, zA]
     refine zr (.int .i64 (i : Int)) wo rfl ?_
     simp only [Act.put, zA]
     refine zr (.pointer (some (gad A (i * 3)))) wo (xg_idx .i64 (HL.out.keep B0.out) HE.out Tryd.underlying44 (by kernel_rfl) rfl rfl rfl) ?_
     simp only [Act.put, zA]
     refine zr (.pointer (some (gad A ((i * 3) + 0)))) wo (xg_fld 0 (HL.out.keep B0.out) HE.out (by kernel_rfl) rfl rfl) ?_
     simp only [Act.put, zA]
     refine zr (.int .i64 (k : Int)) wo (xg_load1 (E := ciC) (i := i) (j := 0) (HL.out.keep B0.out) HE.out rfl rfl Tryd.underlying3 rfl rfl rfl) ?_
     simp only [Act.put, zA]
     refine zr (.int .i64 (col : Int)) wo rfl ?_
     simp only [Act.put, zA]
     refine zr (.bool true) wo (xo_eqlT .i64 (k : Int) (col : Int) (by omega) rfl rfl rfl) ?_
     simp only [Act.put, zA]
     refine zr (.bool true) wo rfl ?_
     simp only [Act.put, zA]
     refine zr (.int .i64 (v : Int)) wo rfl ?_
     simp only [Act.put, zA]
     refine zr (.slice A n c) wo rfl ?_
     simp only [Act.put, zA]
     refine zr (.int .i64 (i : Int)) wo rfl ?_
     simp only [Act.put, zA]
     refine zr (.pointer (some (gad A (i * 3)))) wo (xg_idx .i64 (HL.out.keep B0.out) HE.out Tryd.underlying44 (by kernel_rfl) rfl rfl rfl) ?_
     simp only [Act.put, zA]
     refine zr (.pointer (some (gad A ((i * 3) + 1)))) wo (xg_fld 1 (HL.out.keep B0.out) HE.out (by kernel_rfl) rfl rfl) ?_
     simp only [Act.put, zA]
     refine zr (.int .i64 (lo : Int)) wo (xg_load1 (E := ciC) (i := i) (j := 1) (HL.out.keep B0.out) HE.out rfl rfl Tryd.underlying3 rfl rfl rfl) ?_
     simp only [Act.put, zA]
     refine zr (.bool true) wo (xo_lssT .i64 (v : Int) (lo : Int) (by omega) rfl rfl rfl) ?_
     simp only [Act.put, zA]
     refine zr (.bool true) wo rfl ?_
     simp only [Act.put, zA]
     refine zl ?_
     try simp only [Act.put, zA]
     refine zl ?_
     try simp only [Act.put, zA]
     refine zl ?_
     try simp only [Act.put, zA]
     refine zl ?_
     try simp only [Act.put, zA]
     refine zl ?_
     try simp only [Act.put, zA]
     refine zl ?_
     try simp only [Act.put, zA]
     refine zl ?_
     try simp only [Act.put, zA]
     refine zr (.bool true) wo rfl ?_
     simp only [Act.put, zA]
     refine zr (.bool true) wo rfl ?_
     simp only [Act.put, zA]
     refine wpList_nil ?_
     go_upto_region 5 with fail
     refine wp_region_lit ?_
     refine zr (.bool false) wo rfl ?_
     simp only [Act.put, zA]
     refine wpList_nil ?_
     obtain rfl : b = false := by rw [← HBB.out, Ty.posN_in, all_false HX.out (by unfold Ty.inC; simp <;> omega), Bool.and_false]
     have hbf := B0.out
     go_wp2_with fail
     go_ret
     exact ⟨rfl, hbf⟩
    ·have hci4 : ¬ ((v : Int) < (lo : Int)) := by omega
     by_cases h2 : v > hi2
     ·have hci5 : ((v : Int) > (hi2 : Int)) := by omega
      go_upto_region 4 with fail
      refine wp_region_lit ?_
      refine zr (.slice A n c) wo rfl ?_
      simp only [Act.put, zA]
      refine zr (.int .i64 (i : Int)) wo rfl ?_
      simp only [Act.put, zA]
      refine zr (.pointer (some (gad A (i * 3)))) wo (xg_idx .i64 (HL.out.keep B0.out) HE.out Tryd.underlying44 (by kernel_rfl) rfl rfl rfl) ?_
      simp only [Act.put, zA]
      refine zr (.pointer (some (gad A ((i * 3) + 0)))) wo (xg_fld 0 (HL.out.keep B0.out) HE.out (by kernel_rfl) rfl rfl) ?_
      simp only [Act.put, zA]
      refine zr (.int .i64 (k : Int)) wo (xg_load1 (E := ciC) (i := i) (j := 0) (HL.out.keep B0.out) HE.out rfl rfl Tryd.underlying3 rfl rfl rfl) ?_
      simp only [Act.put, zA]
      refine zr (.int .i64 (col : Int)) wo rfl ?_
      simp only [Act.put, zA]
      refine zr (.bool true) wo (xo_eqlT .i64 (k : Int) (col : Int) (by omega) rfl rfl rfl) ?_
      simp only [Act.put, zA]
      refine zr (.bool true) wo rfl ?_
      simp only [Act.put, zA]
      refine zr (.int .i64 (v : Int)) wo rfl ?_
      simp only [Act.put, zA]
      refine zr (.slice A n c) wo rfl ?_
      simp only [Act.put, zA]
      refine zr (.int .i64 (i : Int)) wo rfl ?_
      simp only [Act.put, zA]
      refine zr (.pointer (some (gad A (i * 3)))) wo (xg_idx .i64 (HL.out.keep B0.out) HE.out Tryd.underlying44 (by kernel_rfl) rfl rfl rfl) ?_
      simp only [Act.put, zA]
      refine zr (.pointer (some (gad A ((i * 3) + 1)))) wo (xg_fld 1 (HL.out.keep B0.out) HE.out (by kernel_rfl) rfl rfl) ?_
      simp only [Act.put, zA]
      refine zr (.int .i64 (lo : Int)) wo (xg_load1 (E := ciC) (i := i) (j := 1) (HL.out.keep B0.out) HE.out rfl rfl Tryd.underlying3 rfl rfl rfl) ?_
      simp only [Act.put, zA]
      refine zr (.bool false) wo (xo_lssF .i64 (v : Int) (lo : Int) (by omega) rfl rfl rfl) ?_
      simp only [Act.put, zA]
      refine zr (.bool false) wo rfl ?_
      simp only [Act.put, zA]
      refine zr (.int .i64 (v : Int)) wo rfl ?_
      simp only [Act.put, zA]
      refine zr (.slice A n c) wo rfl ?_
      simp only [Act.put, zA]
      refine zr (.int .i64 (i : Int)) wo rfl ?_
      simp only [Act.put, zA]
      refine zr (.pointer (some (gad A (i * 3)))) wo (xg_idx .i64 (HL.out.keep B0.out) HE.out Tryd.underlying44 (by kernel_rfl) rfl rfl rfl) ?_
      simp only [Act.put, zA]
      refine zr (.pointer (some (gad A ((i * 3) + 2)))) wo (xg_fld 2 (HL.out.keep B0.out) HE.out (by kernel_rfl) rfl rfl) ?_
      simp only [Act.put, zA]
      refine zr (.int .i64 (hi2 : Int)) wo (xg_load1 (E := ciC) (i := i) (j := 2) (HL.out.keep B0.out) HE.out rfl rfl Tryd.underlying3 rfl rfl rfl) ?_
      simp only [Act.put, zA]
      refine zr (.bool true) wo (xo_gtrT .i64 (v : Int) (hi2 : Int) (by omega) rfl rfl rfl) ?_
      simp only [Act.put, zA]
      refine zr (.bool true) wo rfl ?_
      simp only [Act.put, zA]
      refine zr (.bool true) wo rfl ?_
      simp only [Act.put, zA]
      refine wpList_nil ?_
      go_upto_region 5 with fail
      refine wp_region_lit ?_
      refine zr (.bool false) wo rfl ?_
      simp only [Act.put, zA]
      refine wpList_nil ?_
      obtain rfl : b = false := by rw [← HBB.out, Ty.posN_in, all_false HX.out (by unfold Ty.inC; simp <;> omega), Bool.and_false]
      have hbf := B0.out
      go_wp2_with fail
      go_ret
      exact ⟨rfl, hbf⟩
     ·have hci5 : ¬ ((v : Int) > (hi2 : Int)) := by omega
      go_upto_region 4 with fail
      refine wp_region_lit ?_
      refine zr (.slice A n c) wo rfl ?_
      simp only [Act.put, zA]
      refine zr (.int .i64 (i : Int)) wo rfl ?_
      simp only [Act.put, zA]
      refine zr (.pointer (some (gad A (i * 3)))) wo (xg_idx .i64 (HL.out.keep B0.out) HE.out Tryd.underlying44 (by kernel_rfl) rfl rfl rfl) ?_
      simp only [Act.put, zA]
      refine zr (.pointer (some (gad A ((i * 3) + 0)))) wo (xg_fld 0 (HL.out.keep B0.out) HE.out (by kernel_rfl) rfl rfl) ?_
      simp only [Act.put, zA]
      refine zr (.int .i64 (k : Int)) wo (xg_load1 (E := ciC) (i := i) (j := 0) (HL.out.keep B0.out) HE.out rfl rfl Tryd.underlying3 rfl rfl rfl) ?_
      simp only [Act.put, zA]
      refine zr (.int .i64 (col : Int)) wo rfl ?_
      simp only [Act.put, zA]
      refine zr (.bool true) wo (xo_eqlT .i64 (k : Int) (col : Int) (by omega) rfl rfl rfl) ?_
      simp only [Act.put, zA]
      refine zr (.bool true) wo rfl ?_
      simp only [Act.put, zA]
      refine zr (.int .i64 (v : Int)) wo rfl ?_
      simp only [Act.put, zA]
      refine zr (.slice A n c) wo rfl ?_
      simp only [Act.put, zA]
      refine zr (.int .i64 (i : Int)) wo rfl ?_
      simp only [Act.put, zA]
      refine zr (.pointer (some (gad A (i * 3)))) wo (xg_idx .i64 (HL.out.keep B0.out) HE.out Tryd.underlying44 (by kernel_rfl) rfl rfl rfl) ?_
      simp only [Act.put, zA]
      refine zr (.pointer (some (gad A ((i * 3) + 1)))) wo (xg_fld 1 (HL.out.keep B0.out) HE.out (by kernel_rfl) rfl rfl) ?_
      simp only [Act.put, zA]
      refine zr (.int .i64 (lo : Int)) wo (xg_load1 (E := ciC) (i := i) (j := 1) (HL.out.keep B0.out) HE.out rfl rfl Tryd.underlying3 rfl rfl rfl) ?_
      simp only [Act.put, zA]
      refine zr (.bool false) wo (xo_lssF .i64 (v : Int) (lo : Int) (by omega) rfl rfl rfl) ?_
      simp only [Act.put, zA]
      refine zr (.bool false) wo rfl ?_
      simp only [Act.put, zA]
      refine zr (.int .i64 (v : Int)) wo rfl ?_
      simp only [Act.put, zA]
      refine zr (.slice A n c) wo rfl ?_
      simp only [Act.put, zA]
      refine zr (.int .i64 (i : Int)) wo rfl ?_
      simp only [Act.put, zA]
      refine zr (.pointer (some (gad A (i * 3)))) wo (xg_idx .i64 (HL.out.keep B0.out) HE.out Tryd.underlying44 (by kernel_rfl) rfl rfl rfl) ?_
      simp only [Act.put, zA]
      refine zr (.pointer (some (gad A ((i * 3) + 2)))) wo (xg_fld 2 (HL.out.keep B0.out) HE.out (by kernel_rfl) rfl rfl) ?_
      simp only [Act.put, zA]
      refine zr (.int .i64 (hi2 : Int)) wo (xg_load1 (E := ciC) (i := i) (j := 2) (HL.out.keep B0.out) HE.out rfl rfl Tryd.underlying3 rfl rfl rfl) ?_
      simp only [Act.put, zA]
      refine zr (.bool false) wo (xo_gtrF .i64 (v : Int) (hi2 : Int) (by omega) rfl rfl rfl) ?_
      simp only [Act.put, zA]
      refine zr (.bool false) wo rfl ?_
      simp only [Act.put, zA]
      refine zr (.bool false) wo rfl ?_
      simp only [Act.put, zA]
      refine wpList_nil ?_
      go_upto_region 3 with fail
      refine wp_region_lit ?_
      refine zr (.int .i64 (i : Int)) wo rfl ?_
      simp only [Act.put, zA]
      refine zr (.int .i64 ((i + 1 : Nat) : Int)) wo (xo_addI (i : Int) 1 ((i + 1 : Nat) : Int) (by omega) (by omega) (by omega) rfl rfl rfl) ?_
      simp only [Act.put, zA]
      refine zr (.int .i64 ((i + 1 : Nat) : Int)) wo rfl ?_
      simp only [Act.put, zA]
      refine wpList_nil ?_
      have hal := all_take HX.out HALL.out (show Ty.inC col v ⟨k, lo, hi2⟩ = true by unfold Ty.inC; simp <;> omega)
      have hq6 := B0.out
      go_wp2_with fail
      go_roundw
      case rel => exact ⟨i + 1, by omega, by go_num, hal, hq6⟩
      case measure => simp [intOf]; omega
   ·have hci3 : ¬ ((k : Int) = (col : Int)) := by omega
    go_upto_region 4 with fail
    refine wp_region_lit ?_
    refine zr (.slice A n c) wo rfl ?_
    simp only [Act.put, zA]
    refine zr (.int .i64 (i : Int)) wo rfl ?_
    simp only [Act.put, zA]
    refine zr (.pointer (some (gad A (i * 3)))) wo (xg_idx .i64 (HL.out.keep B0.out) HE.out Tryd.underlying44 (by kernel_rfl) rfl rfl rfl) ?_
    simp only [Act.put, zA]
    refine zr (.pointer (some (gad A ((i * 3) + 0)))) wo (xg_fld 0 (HL.out.keep B0.out) HE.out (by kernel_rfl) rfl rfl) ?_
    simp only [Act.put, zA]
    refine zr (.int .i64 (k : Int)) wo (xg_load1 (E := ciC) (i := i) (j := 0) (HL.out.keep B0.out) HE.out rfl rfl Tryd.underlying3 rfl rfl rfl) ?_
    simp only [Act.put, zA]
    refine zr (.int .i64 (col : Int)) wo rfl ?_
    simp only [Act.put, zA]
    refine zr (.bool false) wo (xo_eqlF .i64 (k : Int) (col : Int) (by omega) rfl rfl rfl) ?_
    simp only [Act.put, zA]
    refine zr (.bool false) wo rfl ?_
    simp only [Act.put, zA]
    refine zl ?_
    try simp only [Act.put, zA]
    refine zl ?_
    try simp only [Act.put, zA]
    refine zl ?_
    try simp only [Act.put, zA]
    refine zl ?_
    try simp only [Act.put, zA]
    refine zl ?_
    try simp only [Act.put, zA]
    refine zl ?_
    try simp only [Act.put, zA]
    refine zl ?_
    try simp only [Act.put, zA]
    refine zl ?_
    try simp only [Act.put, zA]
    refine zl ?_
    try simp only [Act.put, zA]
    refine zl ?_
    try simp only [Act.put, zA]
    refine zl ?_
    try simp only [Act.put, zA]
    refine zl ?_
    try simp only [Act.put, zA]
    refine zl ?_
    try simp only [Act.put, zA]
    refine zl ?_
    try simp only [Act.put, zA]
    refine zl ?_
    try simp only [Act.put, zA]
    refine zl ?_
    try simp only [Act.put, zA]
    refine zr (.bool false) wo rfl ?_
    simp only [Act.put, zA]
    refine wpList_nil ?_
    go_upto_region 3 with fail
    refine wp_region_lit ?_
    refine zr (.int .i64 (i : Int)) wo rfl ?_
    simp only [Act.put, zA]
    refine zr (.int .i64 ((i + 1 : Nat) : Int)) wo (xo_addI (i : Int) 1 ((i + 1 : Nat) : Int) (by omega) (by omega) (by omega) rfl rfl rfl) ?_
    simp only [Act.put, zA]
    refine zr (.int .i64 ((i + 1 : Nat) : Int)) wo rfl ?_
    simp only [Act.put, zA]
    refine wpList_nil ?_
    have hal := all_take HX.out HALL.out (show Ty.inC col v ⟨k, lo, hi2⟩ = true by unfold Ty.inC; simp <;> omega)
    have hq4 := B0.out
    go_wp2_with fail
    go_roundw
    case rel => exact ⟨i + 1, by omega, by go_num, hal, hq4⟩
    case measure => simp [intOf]; omega
  ·have hci2 : ¬ ((i : Int) < (n : Int)) := by omega
   go_upto_region 2 with fail
   refine wp_region_lit ?_
   refine zr (.int .i64 (i : Int)) wo rfl ?_
   simp only [Act.put, zA]
   refine zr (.slice A n c) wo rfl ?_
   simp only [Act.put, zA]
   refine zr (.int .i64 (n : Int)) wo (xo_len A n c Tryd.underlying44 rfl rfl) ?_
   simp only [Act.put, zA]
   refine zr (.bool false) wo (xo_lssF .i64 (i : Int) (n : Int) (by omega) rfl rfl rfl) ?_
   simp only [Act.put, zA]
   refine wpList_nil ?_
   have hall : l.all (Ty.inC col v) = true := by rw [← List.take_length (l := l), show l.length = i from by omega]; exact HALL.out
   have HAL2 := zh hall
   clear hall
   have hci3 : ((v : Int) ≥ 0) := by omega
   by_cases hvm : v ≤ m
   ·have hci4 : ((v : Int) ≤ (m : Int)) := by omega
    go_upto_region 6 with fail
    refine wp_region_lit ?_
    refine zr (.int .i64 (v : Int)) wo rfl ?_
    simp only [Act.put, zA]
    refine zr (.bool true) wo (xo_geqT .i64 (v : Int) 0 (by omega) rfl rfl rfl) ?_
    simp only [Act.put, zA]
    refine zr (.bool true) wo rfl ?_
    simp only [Act.put, zA]
    refine zr (.int .i64 (v : Int)) wo rfl ?_
    simp only [Act.put, zA]
    refine zr (.int .i64 (col : Int)) wo rfl ?_
    simp only [Act.put, zA]
    refine wpList_call (by kernel_rfl) 26 Tryd.func26 (by kernel_rfl) (by kernel_rfl) _ _ #[.int .i64 (col : Int)] rfl (by kernel_rfl) ?_
    refine (max_as col m hc HM.out wo).mono ?_
    rintro e W1 ⟨rfl, hw1⟩
    rw [hw1]
    clear hw1 W1
    refine ⟨_, rfl, ?_⟩
    simp only [Act.put, zA]
    refine zr (.bool true) wo (xo_leqT .i64 (v : Int) (m : Int) (by omega) rfl rfl rfl) ?_
    simp only [Act.put, zA]
    refine zr (.bool true) wo rfl ?_
    simp only [Act.put, zA]
    refine zr (.bool true) wo rfl ?_
    simp only [Act.put, zA]
    refine wpList_nil ?_
    obtain rfl : b = true := by rw [← HBB.out, Ty.posN_in, HAL2.out, HM.out] <;> simp <;> omega
    have hbf := B0.out
    go_wp2_with fail
    go_ret
    exact ⟨rfl, hbf⟩
   ·have hci4 : ¬ ((v : Int) ≤ (m : Int)) := by omega
    go_upto_region 6 with fail
    refine wp_region_lit ?_
    refine zr (.int .i64 (v : Int)) wo rfl ?_
    simp only [Act.put, zA]
    refine zr (.bool true) wo (xo_geqT .i64 (v : Int) 0 (by omega) rfl rfl rfl) ?_
    simp only [Act.put, zA]
    refine zr (.bool true) wo rfl ?_
    simp only [Act.put, zA]
    refine zr (.int .i64 (v : Int)) wo rfl ?_
    simp only [Act.put, zA]
    refine zr (.int .i64 (col : Int)) wo rfl ?_
    simp only [Act.put, zA]
    refine wpList_call (by kernel_rfl) 26 Tryd.func26 (by kernel_rfl) (by kernel_rfl) _ _ #[.int .i64 (col : Int)] rfl (by kernel_rfl) ?_
    refine (max_as col m hc HM.out wo).mono ?_
    rintro e W1 ⟨rfl, hw1⟩
    rw [hw1]
    clear hw1 W1
    refine ⟨_, rfl, ?_⟩
    simp only [Act.put, zA]
    refine zr (.bool false) wo (xo_leqF .i64 (v : Int) (m : Int) (by omega) rfl rfl rfl) ?_
    simp only [Act.put, zA]
    refine zr (.bool false) wo rfl ?_
    simp only [Act.put, zA]
    refine zr (.bool false) wo rfl ?_
    simp only [Act.put, zA]
    refine wpList_nil ?_
    obtain rfl : b = false := by rw [← HBB.out, Ty.posN_in, HAL2.out, HM.out] <;> simp <;> omega
    have hbf := B0.out
    go_wp2_with fail
    go_ret
    exact ⟨rfl, hbf⟩
end Go.Proofs.YtbecajihgbbgjaaDoor

namespace Go.Proofs.YtbecajihgbbgjaaDoor
set_option maxRecDepth 8000
open Go.RowKit Go.Proofs.YtbecajihgbbgjaaDoor.K
attribute [local irreducible] wpList wpQuiet
set_option maxRecDepth 100000 in
set_option maxHeartbeats 32000000 in
theorem largest_as (A : Option Addr) (n c : Nat) (l : List Qu.Cd) (col : Nat) (hc : col < 4) (g : Int) (hg : Ty.lgN l col = g) (w : World) (hL : Sg ciC 3 w A n c (l.map Qu.Cd.ci)) :
  Calls Tryd.prog 24 #[.slice A n c, .int .i64 (col : Int)] w fun e w' => e = .returned (.int .i64 g) ∧ Below w.heap.size w w' := by
 have HL := zh hL
 have HGG := zh hg
 clear hL hg
 obtain ⟨m, hm⟩ : ∃ m, Qu.maxN col = m := ⟨_, rfl⟩
 have HM := zh hm
 have lm : m ≤ 255 := by rw [← hm]; exact Ty.maxN_le _
 clear hm
 go_enter Tryd.func24, Tryd.ntmps24
 go_upto_region 1 with fail
 refine wp_region_lit ?_
 refine zr (.int .i64 (col : Int)) w rfl ?_
 simp only [Act.put, zA]
 refine wpList_call (by kernel_rfl) 26 Tryd.func26 (by kernel_rfl) (by kernel_rfl) _ _ #[.int .i64 (col : Int)] rfl (by kernel_rfl) ?_
 refine (max_as col m hc HM.out w).mono ?_
 rintro e W1 ⟨rfl, hw1⟩
 rw [hw1]
 clear hw1 W1
 refine ⟨_, rfl, ?_⟩
 simp only [Act.put, zA]
 refine zr (.int .i64 (m : Int)) w rfl ?_
 simp only [Act.put, zA]
 refine wpList_nil ?_
 have O1 : Below w.heap.size w w := Below.refl _ _
 have B0 := zh O1
 go_wp2_with fail
 go_loopw [5] (fun p wr => ∃ i : Nat, i ≤ m + 1 ∧ p = .int .i64 ((m : Int) - (i : Int)) ∧ (∀ u, m < u + i → u ≤ m → Ty.posN l col u = false) ∧ Below w.heap.size w wr) (fun p _ => (intOf p + 1).toNat)
 case atStart => exact ⟨0, Nat.zero_le _, by simp, fun u h1 h2 => absurd h1 (by omega), O1⟩
 case round =>
  clear O1
  obtain ⟨wo, rfl⟩ : ∃ wo : World, wo = wr := ⟨_, rfl⟩
  obtain ⟨i, hi, rfl, hAL, hb0⟩ := hrel
  have HAL := zh hAL
  have hbr := hb0
  clear B0
  have B0 := zh hbr
  clear hbr
  clear hb0 hAL
  obtain ⟨z, hz⟩ : ∃ z : Int, (m : Int) - (i : Int) = z := ⟨_, rfl⟩
  rw [hz]
  have HZ := zh hz
  by_cases hz0 : z ≥ 0
  ·obtain ⟨j, rfl⟩ : ∃ j : Nat, z = (j : Int) := ⟨z.toNat, by omega⟩
   have hji : j + i = m := by omega
   clear hz hz0
   have hci1 : ((j : Int) ≥ 0) := by omega
   go_upto_region 2 with fail
   refine wp_region_lit ?_
   refine zr (.int .i64 (j : Int)) wo rfl ?_
   simp only [Act.put, zA]
   refine zr (.bool true) wo (xo_geqT .i64 (j : Int) 0 (by omega) rfl rfl rfl) ?_
   simp only [Act.put, zA]
   refine wpList_nil ?_
   obtain ⟨pb, hpb⟩ : ∃ b, Ty.posN l col j = b := ⟨_, rfl⟩
   have HPB := zh hpb
   clear hpb
   cases pb with
   | true =>
    go_upto_region 4 with fail
    refine wp_region_lit ?_
    refine zr (.slice A n c) wo rfl ?_
    simp only [Act.put, zA]
    refine zr (.int .i64 (col : Int)) wo rfl ?_
    simp only [Act.put, zA]
    refine zr (.int .i64 (j : Int)) wo rfl ?_
    simp only [Act.put, zA]
    refine wpList_call (by kernel_rfl) 39 Tryd.func39 (by kernel_rfl) (by kernel_rfl) _ _ #[.slice A n c, .int .i64 (col : Int), .int .i64 (j : Int)] rfl (by kernel_rfl) ?_
    refine (possible_as A n c l col j hc true HPB.out wo (HL.out.keep B0.out)).mono ?_
    rintro e V2 ⟨rfl, hb⟩
    have B1 := zh hb
    clear hb 
    refine ⟨_, rfl, ?_⟩
    simp only [Act.put, zA]
    refine wpList_nil ?_
    go_upto_region 5 with fail
    refine wp_region_lit ?_
    refine zr (.int .i64 (j : Int)) V2 rfl ?_
    simp only [Act.put, zA]
    refine zr (.int .i64 (j : Int)) V2 rfl ?_
    simp only [Act.put, zA]
    refine wpList_nil ?_
    obtain rfl : g = (j : Int) := by rw [← HGG.out]; exact Ty.lg_some HPB.out (fun u h1 h2 => HAL.out u (by omega) (by rw [HM.out] at h2; exact h2))
    have C0_2 := zb B0 B1
    have hbf := C0_2.out
    go_wp2_with fail
    go_ret
    exact ⟨rfl, hbf⟩
   | false =>
    go_upto_region 4 with fail
    refine wp_region_lit ?_
    refine zr (.slice A n c) wo rfl ?_
    simp only [Act.put, zA]
    refine zr (.int .i64 (col : Int)) wo rfl ?_
    simp only [Act.put, zA]
    refine zr (.int .i64 (j : Int)) wo rfl ?_
    simp only [Act.put, zA]
    refine wpList_call (by kernel_rfl) 39 Tryd.func39 (by kernel_rfl) (by kernel_rfl) _ _ #[.slice A n c, .int .i64 (col : Int), .int .i64 (j : Int)] rfl (by kernel_rfl) ?_
    refine (possible_as A n c l col j hc false HPB.out wo (HL.out.keep B0.out)).mono ?_
    rintro e V2 ⟨rfl, hb⟩
    have B1 := zh hb
    clear hb 
    refine ⟨_, rfl, ?_⟩
    simp only [Act.put, zA]
    refine wpList_nil ?_
    go_upto_region 3 with fail
    refine wp_region_lit ?_
    refine zr (.int .i64 (j : Int)) V2 rfl ?_
    simp only [Act.put, zA]
    refine zr (.int .i64 ((j : Int) - 1)) V2 (xo_subI (j : Int) 1 ((j : Int) - 1) (by omega) (by omega) (by omega) rfl rfl rfl) ?_
    simp only [Act.put, zA]
    refine zr (.int .i64 ((j : Int) - 1)) V2 rfl ?_
    simp only [Act.put, zA]
    refine wpList_nil ?_
    have C0_2 := zb B0 B1
    have hq := C0_2.out
    have hn : ∀ u, m < u + (i + 1) → u ≤ m → Ty.posN l col u = false := fun u h1 h2 => by
         by_cases hu : u = j
         ·rw [hu]; exact HPB.out
         ·exact HAL.out u (by omega) h2
    go_wp2_with fail
    go_roundw
    case rel => exact ⟨i + 1, by omega, by rw [show (m : Int) - ((i + 1 : Nat) : Int) = (j : Int) - 1 by omega], hn, hq⟩
    case measure => simp [intOf] <;> omega
  ·go_upto_region 2 with fail
   refine wp_region_lit ?_
   refine zr (.int .i64 z) wo rfl ?_
   simp only [Act.put, zA]
   refine zr (.bool false) wo (xo_geqF .i64 z 0 (by omega) rfl rfl rfl) ?_
   simp only [Act.put, zA]
   refine wpList_nil ?_
   go_upto_region 6 with fail
   refine wp_region_lit ?_
   refine zr (.int .i64 (-1)) wo rfl ?_
   simp only [Act.put, zA]
   refine wpList_nil ?_
   obtain rfl : g = -1 := by rw [← HGG.out]; exact Ty.lg_none (fun v hv => HAL.out v (by omega) (by rw [HM.out] at hv; exact hv))
   have hbf := B0.out
   go_wp2_with fail
   go_ret
   exact ⟨rfl, hbf⟩
set_option maxRecDepth 100000 in
set_option maxHeartbeats 16000000 in
theorem intersect_as (a b c d x y : Nat) (hx : max a c = x) (hy : min b d = y) (w : World) : Calls Tryd.prog 58 #[.agg #[.int .i64 (a : Int), .int .i64 (b : Int)], .agg #[.int .i64 (c : Int), .int .i64 (d : Int)]] w fun e w' => e = .returned (.agg #[.int .i64 (x : Int), .int .i64 (y : Int)]) ∧ Below w.heap.size w w' := by
 have HX := zh hx
 have HY := zh hy
 clear hx hy
 go_enter Tryd.func58, Tryd.ntmps58
 go_upto_region 1 with fail
 refine wp_named3 (fun V1 hb g0 g1 g2 hlt => ?_)
 have B0 := zh hb
 have Fv0_2 : Hid (V1.heap[w.heap.size]? = some (.cells #[.int .i64 (a : Int), .int .i64 (b : Int)] 82 (0, 0))) := zh (g0)
 have Fv1_3 : Hid (V1.heap[(w.heap.size + 1)]? = some (.cells #[.int .i64 (c : Int), .int .i64 (d : Int)] 82 (0, 0))) := zh (g1)
 have Fv2_4 : Hid (V1.heap[(w.heap.size + 1 + 1)]? = some (.cells #[.int .i64 0, .int .i64 0] 82 (0, 0))) := zh (g2)
 have Nb0_1 : Hid (w.heap.size ≠ (w.heap.size + 1)) := zh (by omega)
 have Nb0_2 : Hid (w.heap.size ≠ (w.heap.size + 1 + 1)) := zh (by omega)
 have Nb1_2 : Hid ((w.heap.size + 1) ≠ (w.heap.size + 1 + 1)) := zh (by omega)
 have Gb0 : Hid (w.heap.size ≤ w.heap.size) := zh (by omega)
 have Gb1 : Hid (w.heap.size ≤ (w.heap.size + 1)) := zh (by omega)
 have Gb2 : Hid (w.heap.size ≤ (w.heap.size + 1 + 1)) := zh (by omega)
 clear hb g0 g1 g2 hlt
 have Lt0 : Hid (w.heap.size < V1.heap.size) := zh (xp_lt Fv0_2.out)
 have Lt1 : Hid ((w.heap.size + 1) < V1.heap.size) := zh (xp_lt Fv1_3.out)
 have Lt2 : Hid ((w.heap.size + 1 + 1) < V1.heap.size) := zh (xp_lt Fv2_4.out)
 refine wp_region_lit ?_
 refine zr (.pointer (some ⟨w.heap.size, 0, none⟩)) V1 (xo_fld0 0 w.heap.size 0 (by kernel_rfl) rfl rfl) ?_
 simp only [Act.put, zA]
 refine zr (.int .i64 (a : Int)) V1 (xo_load1 ⟨w.heap.size, 0, none⟩ _ (cells_at Fv0_2.out 0 rfl) Tryd.underlying3 rfl rfl rfl) ?_
 simp only [Act.put, zA]
 refine zr (.pointer (some ⟨(w.heap.size + 1), 0, none⟩)) V1 (xo_fld0 0 (w.heap.size + 1) 0 (by kernel_rfl) rfl rfl) ?_
 simp only [Act.put, zA]
 refine zr (.int .i64 (c : Int)) V1 (xo_load1 ⟨(w.heap.size + 1), 0, none⟩ _ (cells_at Fv1_3.out 0 rfl) Tryd.underlying3 rfl rfl rfl) ?_
 simp only [Act.put, zA]
 refine zr (.int .i64 (x : Int)) V1 (xo_max .i64 (a : Int) (c : Int) (x : Int) (by have := HX.out; split <;> omega) rfl rfl rfl) ?_
 simp only [Act.put, zA]
 refine zr (.pointer (some ⟨w.heap.size, 1, none⟩)) V1 (xo_fld0 1 w.heap.size 1 (by kernel_rfl) rfl rfl) ?_
 simp only [Act.put, zA]
 refine zr (.int .i64 (b : Int)) V1 (xo_load1 ⟨w.heap.size, 1, none⟩ _ (cells_at Fv0_2.out 1 rfl) Tryd.underlying3 rfl rfl rfl) ?_
 simp only [Act.put, zA]
 refine zr (.pointer (some ⟨(w.heap.size + 1), 1, none⟩)) V1 (xo_fld0 1 (w.heap.size + 1) 1 (by kernel_rfl) rfl rfl) ?_
 simp only [Act.put, zA]
 refine zr (.int .i64 (d : Int)) V1 (xo_load1 ⟨(w.heap.size + 1), 1, none⟩ _ (cells_at Fv1_3.out 1 rfl) Tryd.underlying3 rfl rfl rfl) ?_
 simp only [Act.put, zA]
 refine zr (.int .i64 (y : Int)) V1 (xo_min .i64 (b : Int) (d : Int) (y : Int) (by have := HY.out; split <;> omega) rfl rfl rfl) ?_
 simp only [Act.put, zA]
 refine zr (.agg #[.int .i64 (x : Int), .int .i64 (y : Int)]) V1 (by unfold execOp; go_simp <;> rfl) ?_
 simp only [Act.put, zA]
 refine wpList_storeW (w.heap.size + 1 + 1) #[.int .i64 0, .int .i64 0] #[.int .i64 (x : Int), .int .i64 (y : Int)] 82 (by kernel_rfl) Fv2_4.out (xo_storeW (w.heap.size + 1 + 1) #[.int .i64 0, .int .i64 0] #[.int .i64 (x : Int), .int .i64 (y : Int)] Fv2_4.out (by kernel_rfl) rfl (by simp [Value.oneCell']) rfl rfl rfl) ?_
 intro X1_3 h1 hfar hbel hsz
 have YFv0_2 : X1_3.heap[w.heap.size]? = some (.cells #[.int .i64 (a : Int), .int .i64 (b : Int)] 82 (0, 0)) := hfar _ _ Nb0_2.out Fv0_2.out
 have YFv1_3 : X1_3.heap[(w.heap.size + 1)]? = some (.cells #[.int .i64 (c : Int), .int .i64 (d : Int)] 82 (0, 0)) := hfar _ _ Nb1_2.out Fv1_3.out
 have hbr := hbel _ _ Gb2.out B0.out
 clear B0
 have B0 := zh hbr
 clear hbr
 clear Fv0_2
 have Fv0_2 : Hid (X1_3.heap[w.heap.size]? = some (.cells #[.int .i64 (a : Int), .int .i64 (b : Int)] 82 (0, 0))) := zh YFv0_2
 clear YFv0_2
 clear Fv1_3
 have Fv1_3 : Hid (X1_3.heap[(w.heap.size + 1)]? = some (.cells #[.int .i64 (c : Int), .int .i64 (d : Int)] 82 (0, 0))) := zh YFv1_3
 clear YFv1_3
 clear Fv2_4
 have Fv2_4 : Hid (X1_3.heap[(w.heap.size + 1 + 1)]? = some (.cells #[.int .i64 (x : Int), .int .i64 (y : Int)] 82 (0, 0))) := zh (h1)
 have HszX1_3 := zh hsz
 clear h1 hfar hbel hsz
 simp only [ptr, Act.put, zA]
 refine wpList_nil ?_
 have hbf := B0.out
 go_wp2_with fail
 refine bodyPost_ret (v := .agg #[.int .i64 (x : Int), .int .i64 (y : Int)]) ?_ rfl ⟨rfl, hbf⟩
 exact results_cell_row rfl _ _ (w.heap.size + 1 + 1) 82 _ (0, 0) _ rfl Fv2_4.out Tryd.underlying82 rfl (by kernel_rfl)
end Go.Proofs.YtbecajihgbbgjaaDoor

namespace Go.Proofs.YtbecajihgbbgjaaDoor
set_option maxRecDepth 8000
open Go.RowKit Go.Proofs.YtbecajihgbbgjaaDoor.K
attribute [local irreducible] wpList wpQuiet
namespace Ty
/-- the number of bits of a column -/
def btN (c : Int) : Nat := if c = 0 then 4 else if c = 1 then 8 else if c = 2 then 4 else if c = 3 then 8 else if c = 4 then 1 else 0
theorem bt_out {c : Int} (h : c < 0 ∨ 5 ≤ c) : btN c = 0 := by
 unfold btN
 repeat' split
 all_goals omega
def widN : Nat → Nat
 | 0 => 4
 | 1 => 8
 | 2 => 4
 | 3 => 8
 | _ => 1
theorem bt_wid {k : Nat} (h : k < 5) : btN (k : Int) = widN k := by
 rcases k with _ | _ | _ | _ | _ | k <;> first | rfl | omega
end Ty
theorem xw_iad {ev : Operand → Value} {o : Oper} {w : World} {x y : Operand} (i : Nat) (hi : i < 5) (ho : o.op = .indexAddr 72 x y) (hx : ev x = .pointer (some ⟨0, 0, none⟩)) (hy : ev y = .int .i64 (i : Int)) :
  (execOp ev o).run Tryd.prog w = .ok (.value (.pointer (some ⟨0, i, none⟩))) w := by
 unfold execOp
 simp only [ho, hx, hy]
 rcases i with _ | _ | _ | _ | _ | i
 ·rfl
 ·rfl
 ·rfl
 ·rfl
 ·rfl
 ·omega
/-- the table of the widths -/
def Gw5 (w : World) : Prop := w.rangeAt 0 0 [.int .i64 4, .int .i64 8, .int .i64 4, .int .i64 8, .int .i64 1]
theorem Gw5.keep {w w' : World} (h : Gw5 w) (hb : Below w.heap.size w w') : Gw5 w' := fun j v hv => cell_keep (h j v hv) hb
theorem Gw5.at {w : World} (h : Gw5 w) (i : Nat) (hi : i < 5) : w.cell? ⟨0, i, none⟩ = some (.int .i64 (Ty.widN i : Int)) := by
 rcases i with _ | _ | _ | _ | _ | i
 ·exact h 0 _ rfl
 ·exact h 1 _ rfl
 ·exact h 2 _ rfl
 ·exact h 3 _ rfl
 ·exact h 4 _ rfl
 ·omega
set_option maxRecDepth 100000 in
set_option maxHeartbeats 16000000 in
theorem bits_as (c : Int) (b : Nat) (hb : Ty.btN c = b) (w : World) (hG : Gw5 w) : Calls Tryd.prog 17 #[.int .i64 c] w fun e w' => e = .returned (.int .i64 (b : Int)) ∧ w' = w := by
 have HG := zh hG
 have HBB := zh hb
 clear hb hG
 go_enter Tryd.func17, Tryd.ntmps17
 go_upto_region 1 with fail
 by_cases h0 : c < 0
 ·refine wp_region_lit ?_
  refine zr (.int .i64 c) w rfl ?_
  simp only [Act.put, zA]
  refine zr (.bool true) w (xo_lssT .i64 c 0 (by omega) rfl rfl rfl) ?_
  simp only [Act.put, zA]
  refine zr (.bool true) w rfl ?_
  simp only [Act.put, zA]
  refine zl ?_
  try simp only [Act.put, zA]
  refine zl ?_
  try simp only [Act.put, zA]
  refine zr (.bool true) w rfl ?_
  simp only [Act.put, zA]
  refine wpList_nil ?_
  go_upto_region 2 with fail
  refine wp_region_lit ?_
  refine zr (.int .i64 0) w rfl ?_
  simp only [Act.put, zA]
  refine wpList_nil ?_
  obtain rfl : b = 0 := by rw [← HBB.out]; exact Ty.bt_out (.inl h0)
  go_wp2_with fail
  go_ret
  exact ⟨rfl, rfl⟩
 ·by_cases h5 : c ≥ 5
  ·refine wp_region_lit ?_
   refine zr (.int .i64 c) w rfl ?_
   simp only [Act.put, zA]
   refine zr (.bool false) w (xo_lssF .i64 c 0 (by omega) rfl rfl rfl) ?_
   simp only [Act.put, zA]
   refine zr (.bool false) w rfl ?_
   simp only [Act.put, zA]
   refine zr (.int .i64 c) w rfl ?_
   simp only [Act.put, zA]
   refine zr (.bool true) w (xo_geqT .i64 c 5 (by omega) rfl rfl rfl) ?_
   simp only [Act.put, zA]
   refine zr (.bool true) w rfl ?_
   simp only [Act.put, zA]
   refine wpList_nil ?_
   go_upto_region 2 with fail
   refine wp_region_lit ?_
   refine zr (.int .i64 0) w rfl ?_
   simp only [Act.put, zA]
   refine wpList_nil ?_
   obtain rfl : b = 0 := by rw [← HBB.out]; exact Ty.bt_out (.inr h5)
   go_wp2_with fail
   go_ret
   exact ⟨rfl, rfl⟩
  ·obtain ⟨k, rfl⟩ : ∃ k : Nat, c = (k : Int) := ⟨c.toNat, by omega⟩
   have hk5 : k < 5 := by omega
   clear h0 h5
   have hci0 : ¬ ((k : Int) < 0) := by omega
   have hci1 : ¬ ((k : Int) ≥ 5) := by omega
   refine wp_region_lit ?_
   refine zr (.int .i64 (k : Int)) w rfl ?_
   simp only [Act.put, zA]
   refine zr (.bool false) w (xo_lssF .i64 (k : Int) 0 (by omega) rfl rfl rfl) ?_
   simp only [Act.put, zA]
   refine zr (.bool false) w rfl ?_
   simp only [Act.put, zA]
   refine zr (.int .i64 (k : Int)) w rfl ?_
   simp only [Act.put, zA]
   refine zr (.bool false) w (xo_geqF .i64 (k : Int) 5 (by omega) rfl rfl rfl) ?_
   simp only [Act.put, zA]
   refine zr (.bool false) w rfl ?_
   simp only [Act.put, zA]
   refine wpList_nil ?_
   go_upto_region 3 with fail
   refine wp_region_lit ?_
   refine zr (.int .i64 (k : Int)) w rfl ?_
   simp only [Act.put, zA]
   refine zr (.pointer (some ⟨0, k, none⟩)) w (xw_iad k (by omega) rfl rfl rfl) ?_
   simp only [Act.put, zA]
   refine zr (.int .i64 (Ty.widN k : Int)) w (xo_load1 ⟨0, k, none⟩ _ (Gw5.at HG.out k (by omega)) Tryd.underlying3 rfl rfl rfl) ?_
   simp only [Act.put, zA]
   refine zr (.int .i64 (Ty.widN k : Int)) w rfl ?_
   simp only [Act.put, zA]
   refine wpList_nil ?_
   obtain rfl : b = Ty.widN k := by rw [← HBB.out]; exact Ty.bt_wid hk5
   go_wp2_with fail
   go_ret
   exact ⟨rfl, rfl⟩
end Go.Proofs.YtbecajihgbbgjaaDoor

namespace Go.Proofs.YtbecajihgbbgjaaDoor
set_option maxRecDepth 8000
open Go.RowKit Go.Proofs.YtbecajihgbbgjaaDoor.K
attribute [local irreducible] wpList wpQuiet
namespace Ty
/-- the number of sums of any query -/
def suZ (kd : Int) : Nat := if 1 ≤ kd ∧ kd ≤ 7 then suN kd.toNat else 0
end Ty
end Go.Proofs.YtbecajihgbbgjaaDoor

namespace Go.Proofs.YtbecajihgbbgjaaDoor
set_option maxRecDepth 8000
open Go.RowKit Go.Proofs.YtbecajihgbbgjaaDoor.K
attribute [local irreducible] wpList wpQuiet
namespace Ty
/-- kinds whose column is counted value by value -/
def grN : Nat → Bool
 | 4 => true
 | 5 => true
 | 6 => true
 | _ => false
end Ty
/-- the function of a kind -/
def kfN : Nat → FuncId
 | 1 => 46
 | 2 => 47
 | 3 => 48
 | 4 => 44
 | 5 => 44
 | 6 => 44
 | _ => 49
def kindV (i : Nat) : Value := .agg #[.int .i64 (Ty.suN i : Int), .bool (Ty.grN i), .func (.func (kfN i)) #[] #[]]
def kindE (i : Nat) : MapEntry := ⟨.int .i64 (i : Int), kindV i, i - 1⟩
def kindsM : Obj := .map [kindE 1, kindE 2, kindE 3, kindE 4, kindE 5, kindE 6, kindE 7].toArray 7
theorem kinds_find (i : Nat) (h1 : 1 ≤ i) (h7 : i ≤ 7) : Instr.findNow (.int .i64) (.int .i64 (i : Int)) [kindE 1, kindE 2, kindE 3, kindE 4, kindE 5, kindE 6, kindE 7] 0 = some (some (i - 1, kindV i)) := by
 rcases i with _ | _ | _ | _ | _ | _ | _ | _ | i
 ·omega
 all_goals first | rfl | omega
theorem kinds_miss (i : Int) (h : i < 1 ∨ 7 < i) : Instr.findNow (.int .i64) (.int .i64 i) [kindE 1, kindE 2, kindE 3, kindE 4, kindE 5, kindE 6, kindE 7] 0 = some none := by
 have e : ∀ j : Nat, 1 ≤ j → j ≤ 7 → (i == ((j : Nat) : Int)) = false := fun j h1 h7 => by
  rw [beq_eq_false_iff_ne]
  omega
 simp only [Instr.findNow, Instr.sameNow, kindE, e 1 (by omega) (by omega), e 2 (by omega) (by omega), e 3 (by omega) (by omega), e 4 (by omega) (by omega), e 5 (by omega) (by omega), e 6 (by omega) (by omega), e 7 (by omega) (by omega), if_true]
set_option maxRecDepth 100000 in
set_option maxHeartbeats 16000000 in
theorem kinds_as (w : World) : Calls Tryd.prog 31 #[] w fun e w' => ∃ b, e = .returned (.map (some b)) ∧ w.heap.size ≤ b ∧ w'.heap[b]? = some kindsM ∧ Below w.heap.size w w' := by
 go_enter Tryd.func31, Tryd.ntmps31
 go_upto_region 1 with fail
 refine wp_region_lit ?_
 refine zr (.func (.func 44) #[] #[]) w rfl ?_
 simp only [Act.put, zA]
 refine wpList_nil ?_
 go_upto_region 2 with fail
 refine wp_region_lit ?_
 refine wpList_mkmap (by kernel_rfl) rfl ?_
 intro b X0 hge hm0 hB0
 simp only [ptr, Act.put, zA]
 refine zr (.agg #[.int .i64 1, .bool false, .func (.func 46) #[] #[]]) X0 (by unfold execOp; go_simp <;> rfl) ?_
 simp only [Act.put, zA]
 refine wpList_ins (by kernel_rfl) b _ 0 1 (kindV 1) hm0 rfl Tryd.underlying64 Tryd.underlying3 rfl rfl rfl rfl ?_
 intro X1 hm1 hl1
 have hB1 := hl1 _ _ hge hB0
 clear hl1 hm0 hB0
 simp only [ptr, Act.put, zA]
 refine zr (.agg #[.int .i64 1, .bool false, .func (.func 47) #[] #[]]) X1 (by unfold execOp; go_simp <;> rfl) ?_
 simp only [Act.put, zA]
 refine wpList_ins (by kernel_rfl) b _ 1 2 (kindV 2) hm1 rfl Tryd.underlying64 Tryd.underlying3 rfl rfl rfl rfl ?_
 intro X2 hm2 hl2
 have hB2 := hl2 _ _ hge hB1
 clear hl2 hm1 hB1
 simp only [ptr, Act.put, zA]
 refine zr (.agg #[.int .i64 1, .bool false, .func (.func 48) #[] #[]]) X2 (by unfold execOp; go_simp <;> rfl) ?_
 simp only [Act.put, zA]
 refine wpList_ins (by kernel_rfl) b _ 2 3 (kindV 3) hm2 rfl Tryd.underlying64 Tryd.underlying3 rfl rfl rfl rfl ?_
 intro X3 hm3 hl3
 have hB3 := hl3 _ _ hge hB2
 clear hl3 hm2 hB2
 simp only [ptr, Act.put, zA]
 refine zr (.func (.func 44) #[] #[]) X3 rfl ?_
 simp only [Act.put, zA]
 refine zr (.agg #[.int .i64 16, .bool true, .func (.func 44) #[] #[]]) X3 (by unfold execOp; go_simp <;> rfl) ?_
 simp only [Act.put, zA]
 refine wpList_ins (by kernel_rfl) b _ 3 4 (kindV 4) hm3 rfl Tryd.underlying64 Tryd.underlying3 rfl rfl rfl rfl ?_
 intro X4 hm4 hl4
 have hB4 := hl4 _ _ hge hB3
 clear hl4 hm3 hB3
 simp only [ptr, Act.put, zA]
 refine zr (.func (.func 44) #[] #[]) X4 rfl ?_
 simp only [Act.put, zA]
 refine zr (.agg #[.int .i64 16, .bool true, .func (.func 44) #[] #[]]) X4 (by unfold execOp; go_simp <;> rfl) ?_
 simp only [Act.put, zA]
 refine wpList_ins (by kernel_rfl) b _ 4 5 (kindV 5) hm4 rfl Tryd.underlying64 Tryd.underlying3 rfl rfl rfl rfl ?_
 intro X5 hm5 hl5
 have hB5 := hl5 _ _ hge hB4
 clear hl5 hm4 hB4
 simp only [ptr, Act.put, zA]
 refine zr (.func (.func 44) #[] #[]) X5 rfl ?_
 simp only [Act.put, zA]
 refine zr (.agg #[.int .i64 16, .bool true, .func (.func 44) #[] #[]]) X5 (by unfold execOp; go_simp <;> rfl) ?_
 simp only [Act.put, zA]
 refine wpList_ins (by kernel_rfl) b _ 5 6 (kindV 6) hm5 rfl Tryd.underlying64 Tryd.underlying3 rfl rfl rfl rfl ?_
 intro X6 hm6 hl6
 have hB6 := hl6 _ _ hge hB5
 clear hl6 hm5 hB5
 simp only [ptr, Act.put, zA]
 refine zr (.agg #[.int .i64 32, .bool false, .func (.func 49) #[] #[]]) X6 (by unfold execOp; go_simp <;> rfl) ?_
 simp only [Act.put, zA]
 refine wpList_ins (by kernel_rfl) b _ 6 7 (kindV 7) hm6 rfl Tryd.underlying64 Tryd.underlying3 rfl rfl rfl rfl ?_
 intro X7 hm7 hl7
 have hB7 := hl7 _ _ hge hB6
 clear hl7 hm6 hB6
 simp only [ptr, Act.put, zA]
 refine zr (.map (some b)) X7 rfl ?_
 simp only [Act.put, zA]
 refine zr (.map (some b)) X7 rfl ?_
 simp only [Act.put, zA]
 refine wpList_nil ?_
 go_wp2_with fail
 go_ret
 exact ⟨b, rfl, hge, hm7, hB7⟩
set_option maxRecDepth 100000 in
set_option maxHeartbeats 16000000 in
theorem sums_as (kd col k : Int) (A : Option Addr) (n c : Nat) (s : Nat) (hs : Ty.suZ kd = s) (w : World) : Calls Tryd.prog 15 #[.agg #[.int .i64 kd, .int .i64 col, .int .i64 k, .slice A n c]] w fun e w' => e = .returned (.int .i64 (s : Int)) ∧ Below w.heap.size w w' := by
 have HSS := zh hs
 clear hs
 go_enter Tryd.func15, Tryd.ntmps15
 go_upto_region 1 with fail
 refine wp_named1 (fun V1 hb g0 hlt => ?_)
 have B0 := zh hb
 have Fv0_1 : Hid (V1.heap[w.heap.size]? = some (.cells #[.int .i64 kd, .int .i64 col, .int .i64 k, .slice A n c] 24 (0, 0))) := zh (g0)
 have Gb0 : Hid (w.heap.size ≤ w.heap.size) := zh (by omega)
 clear hb g0 hlt
 have Lt0 : Hid (w.heap.size < V1.heap.size) := zh (xp_lt Fv0_1.out)
 by_cases hkn : 1 ≤ kd ∧ kd ≤ 7
 ·obtain ⟨j, rfl⟩ : ∃ j : Nat, kd = (j : Int) := ⟨kd.toNat, by omega⟩
  have hj1 : 1 ≤ j := by omega
  have hj7 : j ≤ 7 := by omega
  clear hkn
  try simp only [List.append_eq, List.cons_append, List.nil_append]
  refine wp_ordT (fun W => Below V1.heap.size V1 W) (.q 1 (.q 2 (.one 0 (.one 3 (.q 4 (.q 5 .nil)))))) (by kernel_rfl) (by kernel_rfl) (fun _ _ dt _ _ h => by first | exact h.elim | (cases dt <;> exact h)) (by kernel_rfl) (by kernel_rfl) (Below.refl _ _).drew ?_
  have hb : Below V1.heap.size V1 V1.drew := (Below.refl _ _).drew
  generalize V1.drew = V2 at hb ⊢
  have B1 := zh hb
  clear hb
  refine wpOT_q (.pointer (some ⟨w.heap.size, 0, none⟩)) rfl (by kernel_rfl) (fun v hW => (xo_fld0 0 w.heap.size 0 (by kernel_rfl) rfl rfl)) ?_
  simp only [ptr, Act.put, zA]
  refine wpOT_q (.int .i64 (j : Int)) rfl (by kernel_rfl) (fun v hW => (xo_load1 ⟨w.heap.size, 0, none⟩ _ (cells_at (heap_keep Fv0_1.out hW) 0 rfl) Tryd.underlying3 rfl rfl rfl)) ?_
  simp only [ptr, Act.put, zA]
  refine wpOT_one rfl (by kernel_rfl) ?_
  refine hOp_call 31 Tryd.func31 (by kernel_rfl) (by kernel_rfl) _ _ #[] rfl (by kernel_rfl) ?_
  refine (kinds_as V2).mono ?_
  rintro e V3 ⟨kb, rfl, hge, hkm, hb⟩
  have B2 := zh hb
  clear hge
  have HKm := zh hkm
  clear hb hkm
  have C1_3 := zb B1 B2
  refine ⟨_, rfl, C1_3.out, ?_⟩
  simp only [ptr, Act.put, zA]
  refine wpOT_one rfl (by kernel_rfl) ?_
  refine hOp_val (.agg #[.int .i64 (Ty.suN j : Int), .bool (Ty.grN j), .func (.func (kfN j)) #[] #[]]) (xm_lookup kb [kindE 1, kindE 2, kindE 3, kindE 4, kindE 5, kindE 6, kindE 7] 7 (j : Int) (j - 1) (kindV j) HKm.out (kinds_find j hj1 hj7) Tryd.underlying64 Tryd.underlying3 rfl rfl rfl) ⟨C1_3.out, ?_⟩
  simp only [ptr, Act.put, zA]
  refine wpOT_q (.int .i64 (Ty.suN j : Int)) rfl (by kernel_rfl) (fun v hW => (by first | kernel_rfl | (unfold execOp; go_simp))) ?_
  simp only [ptr, Act.put, zA]
  refine wpOT_q (.int .i64 (Ty.suN j : Int)) rfl (by kernel_rfl) (fun v hW => rfl) ?_
  simp only [ptr, Act.put, zA]
  refine wpOT_nil ?_
  obtain rfl : s = Ty.suN j := by rw [← HSS.out]; unfold Ty.suZ; rw [if_pos (by omega), Int.toNat_natCast]
  have C0_2 := zb B0 B1
  have C0_3 := zb C0_2 B2
  have hbf := C0_3.out
  go_wp2_with fail
  go_ret
  exact ⟨rfl, hbf⟩
 ·try simp only [List.append_eq, List.cons_append, List.nil_append]
  refine wp_ordT (fun W => Below V1.heap.size V1 W) (.q 1 (.q 2 (.one 0 (.one 3 (.q 4 (.q 5 .nil)))))) (by kernel_rfl) (by kernel_rfl) (fun _ _ dt _ _ h => by first | exact h.elim | (cases dt <;> exact h)) (by kernel_rfl) (by kernel_rfl) (Below.refl _ _).drew ?_
  have hb : Below V1.heap.size V1 V1.drew := (Below.refl _ _).drew
  generalize V1.drew = V2 at hb ⊢
  have B1 := zh hb
  clear hb
  refine wpOT_q (.pointer (some ⟨w.heap.size, 0, none⟩)) rfl (by kernel_rfl) (fun v hW => (xo_fld0 0 w.heap.size 0 (by kernel_rfl) rfl rfl)) ?_
  simp only [ptr, Act.put, zA]
  refine wpOT_q (.int .i64 kd) rfl (by kernel_rfl) (fun v hW => (xo_load1 ⟨w.heap.size, 0, none⟩ _ (cells_at (heap_keep Fv0_1.out hW) 0 rfl) Tryd.underlying3 rfl rfl rfl)) ?_
  simp only [ptr, Act.put, zA]
  refine wpOT_one rfl (by kernel_rfl) ?_
  refine hOp_call 31 Tryd.func31 (by kernel_rfl) (by kernel_rfl) _ _ #[] rfl (by kernel_rfl) ?_
  refine (kinds_as V2).mono ?_
  rintro e V3 ⟨kb, rfl, hge, hkm, hb⟩
  have B2 := zh hb
  clear hge
  have HKm := zh hkm
  clear hb hkm
  have C1_3 := zb B1 B2
  refine ⟨_, rfl, C1_3.out, ?_⟩
  simp only [ptr, Act.put, zA]
  refine wpOT_one rfl (by kernel_rfl) ?_
  refine hOp_val (.agg #[.int .i64 0, .bool false, .nilFunc]) (xm_miss kb [kindE 1, kindE 2, kindE 3, kindE 4, kindE 5, kindE 6, kindE 7] 7 kd _ HKm.out (by kernel_rfl) (kinds_miss kd (by omega)) Tryd.underlying64 Tryd.underlying3 rfl rfl rfl) ⟨C1_3.out, ?_⟩
  simp only [ptr, Act.put, zA]
  refine wpOT_q (.int .i64 0) rfl (by kernel_rfl) (fun v hW => (by first | kernel_rfl | (unfold execOp; go_simp))) ?_
  simp only [ptr, Act.put, zA]
  refine wpOT_q (.int .i64 0) rfl (by kernel_rfl) (fun v hW => rfl) ?_
  simp only [ptr, Act.put, zA]
  refine wpOT_nil ?_
  obtain rfl : s = 0 := by rw [← HSS.out]; unfold Ty.suZ; rw [if_neg hkn]
  have C0_2 := zb B0 B1
  have C0_3 := zb C0_2 B2
  have hbf := C0_3.out
  go_wp2_with fail
  go_ret
  exact ⟨rfl, hbf⟩
end Go.Proofs.YtbecajihgbbgjaaDoor

namespace Go.Proofs.YtbecajihgbbgjaaDoor
set_option maxRecDepth 8000
open Go.RowKit Go.Proofs.YtbecajihgbbgjaaDoor.K
attribute [local irreducible] wpList wpQuiet
theorem xsp_index {ev : Operand → Value} {o : Oper} {w : World} {x y : Operand} (lw up : Nat → Nat) (i a d : Nat) (hi4 : i < 4) (ha : lw i = a) (hd : up i = d) (ho : o.op = .index 84 x y) (hx : ev x = .agg #[.int .i64 (lw 0 : Int), .int .i64 (up 0 : Int), .int .i64 (lw 1 : Int), .int .i64 (up 1 : Int), .int .i64 (lw 2 : Int), .int .i64 (up 2 : Int), .int .i64 (lw 3 : Int), .int .i64 (up 3 : Int)]) (hy : ev y = .int .i64 (i : Int)) :
  (execOp ev o).run Tryd.prog w = .ok (.value (.agg #[.int .i64 (a : Int), .int .i64 (d : Int)])) w := by
 unfold execOp
 simp only [ho, hx, hy]
 subst ha hd
 rcases i with _ | _ | _ | _ | i
 ·rfl
 ·rfl
 ·rfl
 ·rfl
 ·omega
set_option maxRecDepth 100000 in
set_option maxHeartbeats 16000000 in
theorem satisfiable_sp (lw up : Nat → Nat) (b : Bool) (hb : (List.range 4).all (fun c => decide (lw c ≤ up c)) = b) (w : World) : Calls Tryd.prog 51 #[.agg #[.int .i64 (lw 0 : Int), .int .i64 (up 0 : Int), .int .i64 (lw 1 : Int), .int .i64 (up 1 : Int), .int .i64 (lw 2 : Int), .int .i64 (up 2 : Int), .int .i64 (lw 3 : Int), .int .i64 (up 3 : Int)]] w fun e w' => e = .returned (.bool b) ∧ Below w.heap.size w w' := by
 have HBB := zh hb
 clear hb
 go_enter Tryd.func51, Tryd.ntmps51
 go_upto_region 1 with fail
 refine wp_named1 (fun V1 hb g0 hlt => ?_)
 have B0 := zh hb
 have Fv0_1 : Hid (V1.heap[w.heap.size]? = some (.cells #[.int .i64 ((lw 0 : Nat) : Int), .int .i64 ((up 0 : Nat) : Int), .int .i64 ((lw 1 : Nat) : Int), .int .i64 ((up 1 : Nat) : Int), .int .i64 ((lw 2 : Nat) : Int), .int .i64 ((up 2 : Nat) : Int), .int .i64 ((lw 3 : Nat) : Int), .int .i64 ((up 3 : Nat) : Int)] 84 (0, 0))) := zh (g0)
 have Gb0 : Hid (w.heap.size ≤ w.heap.size) := zh (by omega)
 clear hb g0 hlt
 have Lt0 : Hid (w.heap.size < V1.heap.size) := zh (xp_lt Fv0_1.out)
 refine wp_region_lit ?_
 refine zr (.agg #[.int .i64 ((lw 0 : Nat) : Int), .int .i64 ((up 0 : Nat) : Int), .int .i64 ((lw 1 : Nat) : Int), .int .i64 ((up 1 : Nat) : Int), .int .i64 ((lw 2 : Nat) : Int), .int .i64 ((up 2 : Nat) : Int), .int .i64 ((lw 3 : Nat) : Int), .int .i64 ((up 3 : Nat) : Int)]) V1 (xo_loadW w.heap.size _ Fv0_1.out Tryd.underlying84 rfl (by kernel_rfl) rfl rfl) ?_
 simp only [Act.put, zA]
 refine zr (.int .i64 0) V1 rfl ?_
 simp only [Act.put, zA]
 refine wpList_nil ?_
 have O1 := Fv0_1.out
 have O2 := B0.out
 go_wp2_with fail
 go_loopw [6] (fun p wr => ∃ i : Nat, i ≤ 4 ∧ p = .int .i64 i ∧ (∀ c, c < i → lw c ≤ up c) ∧ wr.heap[w.heap.size]? = some (.cells #[.int .i64 ((lw 0 : Nat) : Int), .int .i64 ((up 0 : Nat) : Int), .int .i64 ((lw 1 : Nat) : Int), .int .i64 ((up 1 : Nat) : Int), .int .i64 ((lw 2 : Nat) : Int), .int .i64 ((up 2 : Nat) : Int), .int .i64 ((lw 3 : Nat) : Int), .int .i64 ((up 3 : Nat) : Int)] 84 (0, 0)) ∧ Below w.heap.size w wr) (fun p _ => 4 - (intOf p).toNat)
 case atStart => exact ⟨0, Nat.zero_le _, rfl, (fun c h => absurd h (by omega)), O1, O2⟩
 case round =>
  clear O1 O2
  obtain ⟨wo, rfl⟩ : ∃ wo : World, wo = wr := ⟨_, rfl⟩
  obtain ⟨i, hi, rfl, hHALL, hr0, hb0⟩ := hrel
  have hbr := hb0
  clear B0
  have B0 := zh hbr
  clear hbr
  clear Fv0_1
  have Fv0_1 : Hid (wo.heap[w.heap.size]? = some (.cells #[.int .i64 ((lw 0 : Nat) : Int), .int .i64 ((up 0 : Nat) : Int), .int .i64 ((lw 1 : Nat) : Int), .int .i64 ((up 1 : Nat) : Int), .int .i64 ((lw 2 : Nat) : Int), .int .i64 ((up 2 : Nat) : Int), .int .i64 ((lw 3 : Nat) : Int), .int .i64 ((up 3 : Nat) : Int)] 84 (0, 0))) := zh (hr0)
  have HALL := zh hHALL
  clear hb0 hr0 hHALL
  by_cases hi4 : i < 4
  ·have hci4 : ((i : Int) < 4) := by omega
   go_upto_region 2 with fail
   refine wp_region_lit ?_
   refine zr (.bool true) wo (xo_lssT .i64 (i : Int) 4 (by omega) rfl rfl rfl) ?_
   simp only [Act.put, zA]
   refine wpList_nil ?_
   obtain ⟨a, ha⟩ : ∃ a, lw i = a := ⟨_, rfl⟩
   have HA := zh ha
   obtain ⟨d, hd⟩ : ∃ d, up i = d := ⟨_, rfl⟩
   have HD := zh hd
   clear ha hd
   go_upto_region 3 with fail
   refine wp_region_lit ?_
   refine zr (.agg #[.int .i64 (a : Int), .int .i64 (d : Int)]) wo (xsp_index lw up i a d hi4 HA.out HD.out rfl rfl rfl) ?_
   simp only [Act.put, zA]
   refine wpList_new #[.int .i64 0, .int .i64 0] 82 (by kernel_rfl) (xo_alloc #[.int .i64 0, .int .i64 0] (by kernel_rfl) rfl) ?_
   intro b4 V2 hge h0 hb
   have N5_0 : Hid (w.heap.size ≠ b4) := zh (xp_lt0 Fv0_1.out hge)
   have Ge6 : Hid (wo.heap.size ≤ b4) := zh hge
   have B1 := zh hb
   have Fv7_4 : Hid (V2.heap[b4]? = some (.cells #[.int .i64 0, .int .i64 0] 82 (0, 0))) := zh (h0)
   have Lt8 : Hid (b4 < V2.heap.size) := zh (xp_lt Fv7_4.out)
   clear hge h0 hb
   simp only [ptr, Act.put, zA]
   refine wpList_storeW b4 #[.int .i64 0, .int .i64 0] #[.int .i64 (a : Int), .int .i64 (d : Int)] 82 (by kernel_rfl) Fv7_4.out (xo_storeW b4 #[.int .i64 0, .int .i64 0] #[.int .i64 (a : Int), .int .i64 (d : Int)] Fv7_4.out (by kernel_rfl) rfl (by simp [Value.oneCell']) rfl rfl rfl) ?_
   intro X2_9 h1 hfar hbel hsz
   have hbr := hbel _ _ Ge6.out B1.out
   clear B1
   have B1 := zh hbr
   clear hbr
   clear Fv7_4
   have Fv7_4 : Hid (X2_9.heap[b4]? = some (.cells #[.int .i64 (a : Int), .int .i64 (d : Int)] 82 (0, 0))) := zh (h1)
   have HszX2_9 := zh hsz
   clear h1 hfar hbel hsz
   simp only [ptr, Act.put, zA]
   refine wpList_nil ?_
   by_cases hda : d < a
   ·have hci10 : ((d : Int) < (a : Int)) := by omega
    go_upto_region 4 with fail
    refine wp_region_lit ?_
    refine zr (.pointer (some ⟨b4, 1, none⟩)) X2_9 (xo_fld0 1 b4 1 (by kernel_rfl) rfl rfl) ?_
    simp only [Act.put, zA]
    refine zr (.int .i64 (d : Int)) X2_9 (xo_load1 ⟨b4, 1, none⟩ _ (cells_at Fv7_4.out 1 rfl) Tryd.underlying3 rfl rfl rfl) ?_
    simp only [Act.put, zA]
    refine zr (.pointer (some ⟨b4, 0, none⟩)) X2_9 (xo_fld0 0 b4 0 (by kernel_rfl) rfl rfl) ?_
    simp only [Act.put, zA]
    refine zr (.int .i64 (a : Int)) X2_9 (xo_load1 ⟨b4, 0, none⟩ _ (cells_at Fv7_4.out 0 rfl) Tryd.underlying3 rfl rfl rfl) ?_
    simp only [Act.put, zA]
    refine zr (.bool true) X2_9 (xo_lssT .i64 (d : Int) (a : Int) (by omega) rfl rfl rfl) ?_
    simp only [Act.put, zA]
    refine wpList_nil ?_
    go_upto_region 5 with fail
    refine wp_region_lit ?_
    refine zr (.bool false) X2_9 rfl ?_
    simp only [Act.put, zA]
    refine wpList_nil ?_
    obtain rfl : b = false := by rw [← HBB.out]; exact all_false (i := i) (x := i) (by rw [List.getElem?_range hi4]) (decide_eq_false (by rw [HA.out, HD.out]; omega))
    have C0_2 := zb B0 B1
    have hbf := C0_2.out
    go_wp2_with fail
    go_ret
    exact ⟨rfl, hbf⟩
   ·have hci10 : ¬ ((d : Int) < (a : Int)) := by omega
    go_upto_region 4 with fail
    refine wp_region_lit ?_
    refine zr (.pointer (some ⟨b4, 1, none⟩)) X2_9 (xo_fld0 1 b4 1 (by kernel_rfl) rfl rfl) ?_
    simp only [Act.put, zA]
    refine zr (.int .i64 (d : Int)) X2_9 (xo_load1 ⟨b4, 1, none⟩ _ (cells_at Fv7_4.out 1 rfl) Tryd.underlying3 rfl rfl rfl) ?_
    simp only [Act.put, zA]
    refine zr (.pointer (some ⟨b4, 0, none⟩)) X2_9 (xo_fld0 0 b4 0 (by kernel_rfl) rfl rfl) ?_
    simp only [Act.put, zA]
    refine zr (.int .i64 (a : Int)) X2_9 (xo_load1 ⟨b4, 0, none⟩ _ (cells_at Fv7_4.out 0 rfl) Tryd.underlying3 rfl rfl rfl) ?_
    simp only [Act.put, zA]
    refine zr (.bool false) X2_9 (xo_lssF .i64 (d : Int) (a : Int) (by omega) rfl rfl rfl) ?_
    simp only [Act.put, zA]
    refine wpList_nil ?_
    go_upto_region 6 with fail
    refine wp_region_lit ?_
    refine zr (.int .i64 ((i + 1 : Nat) : Int)) X2_9 (xo_addI (i : Int) 1 ((i + 1 : Nat) : Int) (by omega) (by omega) (by omega) rfl rfl rfl) ?_
    simp only [Act.put, zA]
    refine zr (.int .i64 ((i + 1 : Nat) : Int)) X2_9 rfl ?_
    simp only [Act.put, zA]
    refine wpList_nil ?_
    have hal : ∀ c, c < i + 1 → lw c ≤ up c := fun c hc => by
         by_cases hci : c = i
         ·rw [hci, HA.out, HD.out]; omega
         ·exact HALL.out c (by omega)
    have hq11 := (heap_keep Fv0_1.out B1.out)
    have C0_2 := zb B0 B1
    have hq12 := C0_2.out
    go_wp2_with fail
    go_roundw
    case rel => exact ⟨i + 1, by omega, by go_num, hal, hq11, hq12⟩
    case measure => simp [intOf]; omega
  ·have hci4 : ¬ ((i : Int) < 4) := by omega
   go_upto_region 2 with fail
   refine wp_region_lit ?_
   refine zr (.bool false) wo (xo_lssF .i64 (i : Int) 4 (by omega) rfl rfl rfl) ?_
   simp only [Act.put, zA]
   refine wpList_nil ?_
   go_upto_region 7 with fail
   refine wp_region_lit ?_
   refine zr (.bool true) wo rfl ?_
   simp only [Act.put, zA]
   refine wpList_nil ?_
   obtain rfl : b = true := by rw [← HBB.out, List.all_eq_true]; intro c hc; exact decide_eq_true (HALL.out c (by have := List.mem_range.1 hc; omega))
   have hbf := B0.out
   go_wp2_with fail
   go_ret
   exact ⟨rfl, hbf⟩
end Go.Proofs.YtbecajihgbbgjaaDoor

