/- Several texts in one: Ycc, Ycd, Yce, Ycf. -/
import Derived.Test.YtbecajihgbbgjaaDoorM06
set_option linter.unusedVariables false
set_option linter.unusedSimpArgs false
set_option linter.unusedSectionVars false
namespace Go.Proofs.YtbecajihgbbgjaaDoor
set_option maxRecDepth 8000
open Go.RowKit Go.Proofs.YtbecajihgbbgjaaDoor.K
attribute [local irreducible] wpList wpQuiet
set_option maxRecDepth 100000 in
set_option maxHeartbeats 32000000 in
theorem largest_as (A : Option Addr) (n c : Nat) (l : List Qu.Cd) (col : Nat) (hc : col < 4) (g : Int) (hg : Ty.lgN l col = g) (w : World) (hL : Sg ciC 3 w A n c (l.map Qu.Cd.ci)) :
  Calls Tryd.prog 24 #[.slice A n c, .int .i64 (col : Int)] w fun e w' => e = .returned (.int .i64 g) ∧ Below w.heap.size w w' := by
 have HL := zh hL
 have HGG := zh hg
 clear hL hg
 obtain ⟨m, hm⟩ : ∃ m, Qu.maxN col = m := ⟨_, rfl⟩
 have HM := zh hm
 have lm : m ≤ 255 := by rw [← hm]; exact Ty.maxN_le _
 clear hm
 go_enter Tryd.func24, Tryd.ntmps24
 go_upto_region 1 with fail
 refine wp_region_lit ?_
 refine zr (.int .i64 (col : Int)) w rfl ?_
 simp only [Act.put, zA]
 refine wpList_call (by kernel_rfl) 26 Tryd.func26 (by kernel_rfl) (by kernel_rfl) _ _ #[.int .i64 (col : Int)] rfl (by kernel_rfl) ?_
 refine (max_as col m hc HM.out w).mono ?_
 rintro e W1 ⟨rfl, hw1⟩
 rw [hw1]
 clear hw1 W1
 refine ⟨_, rfl, ?_⟩
 simp only [Act.put, zA]
 refine zr (.int .i64 (m : Int)) w rfl ?_
 simp only [Act.put, zA]
 refine wpList_nil ?_
 have O1 : Below w.heap.size w w := Below.refl _ _
 have B0 := zh O1
 go_wp2_with fail
 go_loopw [5] (fun p wr => ∃ i : Nat, i ≤ m + 1 ∧ p = .int .i64 ((m : Int) - (i : Int)) ∧ (∀ u, m < u + i → u ≤ m → Ty.posN l col u = false) ∧ Below w.heap.size w wr) (fun p _ => (intOf p + 1).toNat)
 case atStart => exact ⟨0, Nat.zero_le _, by simp, fun u h1 h2 => absurd h1 (by omega), O1⟩
 case round =>
  clear O1
  obtain ⟨wo, rfl⟩ : ∃ wo : World, wo = wr := ⟨_, rfl⟩
  obtain ⟨i, hi, rfl, hAL, hb0⟩ := hrel
  have HAL := zh hAL
  have hbr := hb0
  clear B0
  have B0 := zh hbr
  clear hbr
  clear hb0 hAL
  obtain ⟨z, hz⟩ : ∃ z : Int, (m : Int) - (i : Int) = z := ⟨_, rfl⟩
  rw [hz]
  have HZ := zh hz
  by_cases hz0 : z ≥ 0
  ·obtain ⟨j, rfl⟩ : ∃ j : Nat, z = (j : Int) := ⟨z.toNat, by omega⟩
   have hji : j + i = m := by omega
   clear hz hz0
   have hci1 : ((j : Int) ≥ 0) := by omega
   go_upto_region 2 with fail
   refine wp_region_lit ?_
   refine zr (.int .i64 (j : Int)) wo rfl ?_
   simp only [Act.put, zA]
   refine zr (.bool true) wo (xo_geqT .i64 (j : Int) 0 (by omega) rfl rfl rfl) ?_
   simp only [Act.put, zA]
   refine wpList_nil ?_
   obtain ⟨pb, hpb⟩ : ∃ b, Ty.posN l col j = b := ⟨_, rfl⟩
   have HPB := zh hpb
   clear hpb
   cases pb with
   | true =>
    go_upto_region 4 with fail
    refine wp_region_lit ?_
    refine zr (.slice A n c) wo rfl ?_
    simp only [Act.put, zA]
    refine zr (.int .i64 (col : Int)) wo rfl ?_
    simp only [Act.put, zA]
    refine zr (.int .i64 (j : Int)) wo rfl ?_
    simp only [Act.put, zA]
    refine wpList_call (by kernel_rfl) 39 Tryd.func39 (by kernel_rfl) (by kernel_rfl) _ _ #[.slice A n c, .int .i64 (col : Int), .int .i64 (j : Int)] rfl (by kernel_rfl) ?_
    refine (possible_as A n c l col j hc true HPB.out wo (HL.out.keep B0.out)).mono ?_
    rintro e V2 ⟨rfl, hb⟩
    have B1 := zh hb
    clear hb 
    refine ⟨_, rfl, ?_⟩
    simp only [Act.put, zA]
    refine wpList_nil ?_
    go_upto_region 5 with fail
    refine wp_region_lit ?_
    refine zr (.int .i64 (j : Int)) V2 rfl ?_
    simp only [Act.put, zA]
    refine zr (.int .i64 (j : Int)) V2 rfl ?_
    simp only [Act.put, zA]
    refine wpList_nil ?_
    obtain rfl : g = (j : Int) := by rw [← HGG.out]; exact Ty.lg_some HPB.out (fun u h1 h2 => HAL.out u (by omega) (by rw [HM.out] at h2; exact h2))
    have C0_2 := zb B0 B1
    have hbf := C0_2.out
    go_wp2_with fail
    go_ret
    exact ⟨rfl, hbf⟩
   | false =>
    go_upto_region 4 with fail
    refine wp_region_lit ?_
    refine zr (.slice A n c) wo rfl ?_
    simp only [Act.put, zA]
    refine zr (.int .i64 (col : Int)) wo rfl ?_
    simp only [Act.put, zA]
    refine zr (.int .i64 (j : Int)) wo rfl ?_
    simp only [Act.put, zA]
    refine wpList_call (by kernel_rfl) 39 Tryd.func39 (by kernel_rfl) (by kernel_rfl) _ _ #[.slice A n c, .int .i64 (col : Int), .int .i64 (j : Int)] rfl (by kernel_rfl) ?_
    refine (possible_as A n c l col j hc false HPB.out wo (HL.out.keep B0.out)).mono ?_
    rintro e V2 ⟨rfl, hb⟩
    have B1 := zh hb
    clear hb 
    refine ⟨_, rfl, ?_⟩
    simp only [Act.put, zA]
    refine wpList_nil ?_
    go_upto_region 3 with fail
    refine wp_region_lit ?_
    refine zr (.int .i64 (j : Int)) V2 rfl ?_
    simp only [Act.put, zA]
    refine zr (.int .i64 ((j : Int) - 1)) V2 (xo_subI (j : Int) 1 ((j : Int) - 1) (by omega) (by omega) (by omega) rfl rfl rfl) ?_
    simp only [Act.put, zA]
    refine zr (.int .i64 ((j : Int) - 1)) V2 rfl ?_
    simp only [Act.put, zA]
    refine wpList_nil ?_
    have C0_2 := zb B0 B1
    have hq := C0_2.out
    have hn : ∀ u, m < u + (i + 1) → u ≤ m → Ty.posN l col u = false := fun u h1 h2 => by
         by_cases hu : u = j
         ·rw [hu]; exact HPB.out
         ·exact HAL.out u (by omega) h2
    go_wp2_with fail
    go_roundw
    case rel => exact ⟨i + 1, by omega, by rw [show (m : Int) - ((i + 1 : Nat) : Int) = (j : Int) - 1 by omega], hn, hq⟩
    case measure => simp [intOf] <;> omega
  ·go_upto_region 2 with fail
   refine wp_region_lit ?_
   refine zr (.int .i64 z) wo rfl ?_
   simp only [Act.put, zA]
   refine zr (.bool false) wo (xo_geqF .i64 z 0 (by omega) rfl rfl rfl) ?_
   simp only [Act.put, zA]
   refine wpList_nil ?_
   go_upto_region 6 with fail
   refine wp_region_lit ?_
   refine zr (.int .i64 (-1)) wo rfl ?_
   simp only [Act.put, zA]
   refine wpList_nil ?_
   obtain rfl : g = -1 := by rw [← HGG.out]; exact Ty.lg_none (fun v hv => HAL.out v (by omega) (by rw [HM.out] at hv; exact hv))
   have hbf := B0.out
   go_wp2_with fail
   go_ret
   exact ⟨rfl, hbf⟩
set_option maxRecDepth 100000 in
set_option maxHeartbeats 32000000 in
theorem satisfiable_as (A : Option Addr) (n c : Nat) (l : List Qu.Cd) (b : Bool) (hb : Ty.satN l = b) (w : World) (hL : Sg ciC 3 w A n c (l.map Qu.Cd.ci)) :
  Calls Tryd.prog 25 #[.slice A n c] w fun e w' => e = .returned (.bool b) ∧ Below w.heap.size w w' := by
 have HL := zh hL
 have HBB := zh hb
 clear hL hb
 go_enter Tryd.func25, Tryd.ntmps25
 go_upto_region 1 with fail
 refine wp_region_lit ?_
 refine zr (.int .i64 0) w rfl ?_
 simp only [Act.put, zA]
 refine wpList_nil ?_
 have O0 := (Below.refl w.heap.size w)
 have B0 := zh (Below.refl w.heap.size w)
 go_wp2_with fail
 go_loopw [3] (fun p wr => ∃ i : Nat, i ≤ 4 ∧ p = .int .i64 i ∧ (∀ q, q < i → 0 ≤ Ty.lgN l q) ∧ Below w.heap.size w wr) (fun p _ => 4 - (intOf p).toNat)
 case atStart => exact ⟨0, Nat.zero_le _, rfl, (fun q h => absurd h (by omega)), O0⟩
 case round =>
  clear O0
  obtain ⟨wo, rfl⟩ : ∃ wo : World, wo = wr := ⟨_, rfl⟩
  obtain ⟨i, hi, rfl, hHALL, hb0⟩ := hrel
  have hbr := hb0
  clear B0
  have B0 := zh hbr
  clear hbr
  have HALL := zh hHALL
  clear hb0 hHALL
  by_cases hi4 : i < 4
  ·have hci2 : ((i : Int) < 4) := by omega
   go_upto_region 2 with fail
   refine wp_region_lit ?_
   refine zr (.int .i64 (i : Int)) wo rfl ?_
   simp only [Act.put, zA]
   refine zr (.bool true) wo (xo_lssT .i64 (i : Int) 4 (by omega) rfl rfl rfl) ?_
   simp only [Act.put, zA]
   refine wpList_nil ?_
   obtain ⟨g, hg⟩ : ∃ g, Ty.lgN l i = g := ⟨_, rfl⟩
   have HGG := zh hg
   clear hg
   by_cases hg0 : g < 0
   ·go_upto_region 4 with fail
    refine wp_region_lit ?_
    refine zr (.slice A n c) wo rfl ?_
    simp only [Act.put, zA]
    refine zr (.int .i64 (i : Int)) wo rfl ?_
    simp only [Act.put, zA]
    refine wpList_call (by kernel_rfl) 24 Tryd.func24 (by kernel_rfl) (by kernel_rfl) _ _ #[.slice A n c, .int .i64 (i : Int)] rfl (by kernel_rfl) ?_
    refine (largest_as A n c l i hi4 g HGG.out wo (HL.out.keep B0.out)).mono ?_
    rintro e V2 ⟨rfl, hb⟩
    have B1 := zh hb
    clear hb 
    refine ⟨_, rfl, ?_⟩
    simp only [Act.put, zA]
    refine zr (.bool true) V2 (xo_lssT .i64 g 0 (by omega) rfl rfl rfl) ?_
    simp only [Act.put, zA]
    refine wpList_nil ?_
    go_upto_region 5 with fail
    refine wp_region_lit ?_
    refine zr (.bool false) V2 rfl ?_
    simp only [Act.put, zA]
    refine wpList_nil ?_
    obtain rfl : b = false := by rw [← HBB.out]; cases hq : Ty.satN l with
         | false => rfl
         | true => have h1 := (Ty.sat_lg l).1 hq i hi4; rw [HGG.out] at h1; omega
    have C0_2 := zb B0 B1
    have hbf := C0_2.out
    go_wp2_with fail
    go_ret
    exact ⟨rfl, hbf⟩
   ·go_upto_region 4 with fail
    refine wp_region_lit ?_
    refine zr (.slice A n c) wo rfl ?_
    simp only [Act.put, zA]
    refine zr (.int .i64 (i : Int)) wo rfl ?_
    simp only [Act.put, zA]
    refine wpList_call (by kernel_rfl) 24 Tryd.func24 (by kernel_rfl) (by kernel_rfl) _ _ #[.slice A n c, .int .i64 (i : Int)] rfl (by kernel_rfl) ?_
    refine (largest_as A n c l i hi4 g HGG.out wo (HL.out.keep B0.out)).mono ?_
    rintro e V2 ⟨rfl, hb⟩
    have B1 := zh hb
    clear hb 
    refine ⟨_, rfl, ?_⟩
    simp only [Act.put, zA]
    refine zr (.bool false) V2 (xo_lssF .i64 g 0 (by omega) rfl rfl rfl) ?_
    simp only [Act.put, zA]
    refine wpList_nil ?_
    go_upto_region 3 with fail
    refine wp_region_lit ?_
    refine zr (.int .i64 (i : Int)) V2 rfl ?_
    simp only [Act.put, zA]
    refine zr (.int .i64 ((i + 1 : Nat) : Int)) V2 (xo_addI (i : Int) 1 ((i + 1 : Nat) : Int) (by omega) (by omega) (by omega) rfl rfl rfl) ?_
    simp only [Act.put, zA]
    refine zr (.int .i64 ((i + 1 : Nat) : Int)) V2 rfl ?_
    simp only [Act.put, zA]
    refine wpList_nil ?_
    have hal : ∀ q, q < i + 1 → 0 ≤ Ty.lgN l q := fun q hq => by
         by_cases hqi : q = i
         ·rw [hqi, HGG.out]; omega
         ·exact HALL.out q (by omega)
    have C0_2 := zb B0 B1
    have hq3 := C0_2.out
    go_wp2_with fail
    go_roundw
    case rel => exact ⟨i + 1, by omega, by go_num, hal, hq3⟩
    case measure => simp [intOf]; omega
  ·have hci2 : ¬ ((i : Int) < 4) := by omega
   go_upto_region 2 with fail
   refine wp_region_lit ?_
   refine zr (.int .i64 (i : Int)) wo rfl ?_
   simp only [Act.put, zA]
   refine zr (.bool false) wo (xo_lssF .i64 (i : Int) 4 (by omega) rfl rfl rfl) ?_
   simp only [Act.put, zA]
   refine wpList_nil ?_
   go_upto_region 6 with fail
   refine wp_region_lit ?_
   refine zr (.bool true) wo rfl ?_
   simp only [Act.put, zA]
   refine wpList_nil ?_
   obtain rfl : b = true := by rw [← HBB.out]; exact (Ty.sat_lg l).2 (fun q hq => HALL.out q (by omega))
   have hbf := B0.out
   go_wp2_with fail
   go_ret
   exact ⟨rfl, hbf⟩
set_option maxRecDepth 100000 in
set_option maxHeartbeats 16000000 in
theorem intersect_as (a b c d x y : Nat) (hx : max a c = x) (hy : min b d = y) (w : World) : Calls Tryd.prog 58 #[.agg #[.int .i64 (a : Int), .int .i64 (b : Int)], .agg #[.int .i64 (c : Int), .int .i64 (d : Int)]] w fun e w' => e = .returned (.agg #[.int .i64 (x : Int), .int .i64 (y : Int)]) ∧ Below w.heap.size w w' := by
 have HX := zh hx
 have HY := zh hy
 clear hx hy
 go_enter Tryd.func58, Tryd.ntmps58
 go_upto_region 1 with fail
 refine wp_named3 (fun V1 hb g0 g1 g2 hlt => ?_)
 have B0 := zh hb
 have Fv0_2 : Hid (V1.heap[w.heap.size]? = some (.cells #[.int .i64 (a : Int), .int .i64 (b : Int)] 82 (0, 0))) := zh (g0)
 have Fv1_3 : Hid (V1.heap[(w.heap.size + 1)]? = some (.cells #[.int .i64 (c : Int), .int .i64 (d : Int)] 82 (0, 0))) := zh (g1)
 have Fv2_4 : Hid (V1.heap[(w.heap.size + 1 + 1)]? = some (.cells #[.int .i64 0, .int .i64 0] 82 (0, 0))) := zh (g2)
 have Nb0_1 : Hid (w.heap.size ≠ (w.heap.size + 1)) := zh (by omega)
 have Nb0_2 : Hid (w.heap.size ≠ (w.heap.size + 1 + 1)) := zh (by omega)
 have Nb1_2 : Hid ((w.heap.size + 1) ≠ (w.heap.size + 1 + 1)) := zh (by omega)
 have Gb0 : Hid (w.heap.size ≤ w.heap.size) := zh (by omega)
 have Gb1 : Hid (w.heap.size ≤ (w.heap.size + 1)) := zh (by omega)
 have Gb2 : Hid (w.heap.size ≤ (w.heap.size + 1 + 1)) := zh (by omega)
 clear hb g0 g1 g2 hlt
 have Lt0 : Hid (w.heap.size < V1.heap.size) := zh (xp_lt Fv0_2.out)
 have Lt1 : Hid ((w.heap.size + 1) < V1.heap.size) := zh (xp_lt Fv1_3.out)
 have Lt2 : Hid ((w.heap.size + 1 + 1) < V1.heap.size) := zh (xp_lt Fv2_4.out)
 refine wp_region_lit ?_
 refine zr (.pointer (some ⟨w.heap.size, 0, none⟩)) V1 (xo_fld0 0 w.heap.size 0 (by kernel_rfl) rfl rfl) ?_
 simp only [Act.put, zA]
 refine zr (.int .i64 (a : Int)) V1 (xo_load1 ⟨w.heap.size, 0, none⟩ _ (cells_at Fv0_2.out 0 rfl) Tryd.underlying3 rfl rfl rfl) ?_
 simp only [Act.put, zA]
 refine zr (.pointer (some ⟨(w.heap.size + 1), 0, none⟩)) V1 (xo_fld0 0 (w.heap.size + 1) 0 (by kernel_rfl) rfl rfl) ?_
 simp only [Act.put, zA]
 refine zr (.int .i64 (c : Int)) V1 (xo_load1 ⟨(w.heap.size + 1), 0, none⟩ _ (cells_at Fv1_3.out 0 rfl) Tryd.underlying3 rfl rfl rfl) ?_
 simp only [Act.put, zA]
 refine zr (.int .i64 (x : Int)) V1 (xo_max .i64 (a : Int) (c : Int) (x : Int) (by have := HX.out; split <;> omega) rfl rfl rfl) ?_
 simp only [Act.put, zA]
 refine zr (.pointer (some ⟨w.heap.size, 1, none⟩)) V1 (xo_fld0 1 w.heap.size 1 (by kernel_rfl) rfl rfl) ?_
 simp only [Act.put, zA]
 refine zr (.int .i64 (b : Int)) V1 (xo_load1 ⟨w.heap.size, 1, none⟩ _ (cells_at Fv0_2.out 1 rfl) Tryd.underlying3 rfl rfl rfl) ?_
 simp only [Act.put, zA]
 refine zr (.pointer (some ⟨(w.heap.size + 1), 1, none⟩)) V1 (xo_fld0 1 (w.heap.size + 1) 1 (by kernel_rfl) rfl rfl) ?_
 simp only [Act.put, zA]
 refine zr (.int .i64 (d : Int)) V1 (xo_load1 ⟨(w.heap.size + 1), 1, none⟩ _ (cells_at Fv1_3.out 1 rfl) Tryd.underlying3 rfl rfl rfl) ?_
 simp only [Act.put, zA]
 refine zr (.int .i64 (y : Int)) V1 (xo_min .i64 (b : Int) (d : Int) (y : Int) (by have := HY.out; split <;> omega) rfl rfl rfl) ?_
 simp only [Act.put, zA]
 refine zr (.agg #[.int .i64 (x : Int), .int .i64 (y : Int)]) V1 (by unfold execOp; go_simp <;> rfl) ?_
 simp only [Act.put, zA]
 refine wpList_storeW (w.heap.size + 1 + 1) #[.int .i64 0, .int .i64 0] #[.int .i64 (x : Int), .int .i64 (y : Int)] 82 (by kernel_rfl) Fv2_4.out (xo_storeW (w.heap.size + 1 + 1) #[.int .i64 0, .int .i64 0] #[.int .i64 (x : Int), .int .i64 (y : Int)] Fv2_4.out (by kernel_rfl) rfl (by simp [Value.oneCell']) rfl rfl rfl) ?_
 intro X1_3 h1 hfar hbel hsz
 have YFv0_2 : X1_3.heap[w.heap.size]? = some (.cells #[.int .i64 (a : Int), .int .i64 (b : Int)] 82 (0, 0)) := hfar _ _ Nb0_2.out Fv0_2.out
 have YFv1_3 : X1_3.heap[(w.heap.size + 1)]? = some (.cells #[.int .i64 (c : Int), .int .i64 (d : Int)] 82 (0, 0)) := hfar _ _ Nb1_2.out Fv1_3.out
 have hbr := hbel _ _ Gb2.out B0.out
 clear B0
 have B0 := zh hbr
 clear hbr
 clear Fv0_2
 have Fv0_2 : Hid (X1_3.heap[w.heap.size]? = some (.cells #[.int .i64 (a : Int), .int .i64 (b : Int)] 82 (0, 0))) := zh YFv0_2
 clear YFv0_2
 clear Fv1_3
 have Fv1_3 : Hid (X1_3.heap[(w.heap.size + 1)]? = some (.cells #[.int .i64 (c : Int), .int .i64 (d : Int)] 82 (0, 0))) := zh YFv1_3
 clear YFv1_3
 clear Fv2_4
 have Fv2_4 : Hid (X1_3.heap[(w.heap.size + 1 + 1)]? = some (.cells #[.int .i64 (x : Int), .int .i64 (y : Int)] 82 (0, 0))) := zh (h1)
 have HszX1_3 := zh hsz
 clear h1 hfar hbel hsz
 simp only [ptr, Act.put, zA]
 refine wpList_nil ?_
 have hbf := B0.out
 go_wp2_with fail
 refine bodyPost_ret (v := .agg #[.int .i64 (x : Int), .int .i64 (y : Int)]) ?_ rfl ⟨rfl, hbf⟩
 exact results_cell_row rfl _ _ (w.heap.size + 1 + 1) 82 _ (0, 0) _ rfl Fv2_4.out Tryd.underlying82 rfl (by kernel_rfl)
end Go.Proofs.YtbecajihgbbgjaaDoor

namespace Go.Proofs.YtbecajihgbbgjaaDoor
set_option maxRecDepth 8000
open Go.RowKit Go.Proofs.YtbecajihgbbgjaaDoor.K
attribute [local irreducible] wpList wpQuiet
namespace Ty
/-- the number of bits of a column -/
def btN (c : Int) : Nat := if c = 0 then 4 else if c = 1 then 8 else if c = 2 then 4 else if c = 3 then 8 else if c = 4 then 1 else 0
theorem bt_out {c : Int} (h : c < 0 ∨ 5 ≤ c) : btN c = 0 := by
 unfold btN
 repeat' split
 all_goals omega
def widN : Nat → Nat
 | 0 => 4
 | 1 => 8
 | 2 => 4
 | 3 => 8
 | _ => 1
theorem bt_wid {k : Nat} (h : k < 5) : btN (k : Int) = widN k := by
 rcases k with _ | _ | _ | _ | _ | k <;> first | rfl | omega
/-- the product of two numbers under the limit -/
def tmN (a b : Nat) : Nat × Bool := if a * b < 2 ^ 62 then (a * b, true) else (0, false)
theorem tm_yes {a b : Nat} (h : a * b < 2 ^ 62) : tmN a b = (a * b, true) := by unfold tmN; rw [if_pos h]
theorem tm_no {a b : Nat} (h : ¬ a * b < 2 ^ 62) : tmN a b = (0, false) := by unfold tmN; rw [if_neg h]
theorem div_lim {a b : Nat} (ha : 0 < a) : 4611686018427387903 / a < b ↔ ¬ a * b < 2 ^ 62 := by
 rw [Nat.div_lt_iff_lt_mul ha, Nat.mul_comm b a]
 omega
def pwN (rows m k : Nat) : Nat × Bool := if rows * m ^ k < 2 ^ 62 then (rows * m ^ k, true) else (0, false)
end Ty
theorem xw_iad {ev : Operand → Value} {o : Oper} {w : World} {x y : Operand} (i : Nat) (hi : i < 5) (ho : o.op = .indexAddr 72 x y) (hx : ev x = .pointer (some ⟨0, 0, none⟩)) (hy : ev y = .int .i64 (i : Int)) :
  (execOp ev o).run Tryd.prog w = .ok (.value (.pointer (some ⟨0, i, none⟩))) w := by
 unfold execOp
 simp only [ho, hx, hy]
 rcases i with _ | _ | _ | _ | _ | i
 ·rfl
 ·rfl
 ·rfl
 ·rfl
 ·rfl
 ·omega
/-- the table of the widths -/
def Gw5 (w : World) : Prop := w.rangeAt 0 0 [.int .i64 4, .int .i64 8, .int .i64 4, .int .i64 8, .int .i64 1]
theorem Gw5.keep {w w' : World} (h : Gw5 w) (hb : Below w.heap.size w w') : Gw5 w' := fun j v hv => cell_keep (h j v hv) hb
theorem Gw5.at {w : World} (h : Gw5 w) (i : Nat) (hi : i < 5) : w.cell? ⟨0, i, none⟩ = some (.int .i64 (Ty.widN i : Int)) := by
 rcases i with _ | _ | _ | _ | _ | i
 ·exact h 0 _ rfl
 ·exact h 1 _ rfl
 ·exact h 2 _ rfl
 ·exact h 3 _ rfl
 ·exact h 4 _ rfl
 ·omega
set_option maxRecDepth 100000 in
set_option maxHeartbeats 16000000 in
theorem rbits_as (c : Int) (b : Nat) (hb : Ty.btN c = b) (w : World) : Calls Tryd.prog 18 #[.int .i64 c] w fun e w' => e = .returned (.int .i64 (b : Int)) ∧ w' = w := by
 have HBB := zh hb
 clear hb
 go_enter Tryd.func18, Tryd.ntmps18
 go_upto_region 1 with fail
 refine wp_region_lit ?_
 refine zr (.int .i64 c) w rfl ?_
 simp only [Act.put, zA]
 refine wpList_nil ?_
 by_cases hc0 : c = 0
 ·go_upto_region 2 with fail
  refine wp_region_lit ?_
  refine zr (.bool true) w (xo_eqlT .i64 c 0 (by omega) rfl rfl rfl) ?_
  simp only [Act.put, zA]
  refine zr (.bool true) w rfl ?_
  simp only [Act.put, zA]
  refine wpList_nil ?_
  go_upto_region 3 with fail
  refine wp_region_lit ?_
  refine zr (.int .i64 4) w rfl ?_
  simp only [Act.put, zA]
  refine wpList_nil ?_
  obtain rfl : b = 4 := by rw [← HBB.out, hc0]; rfl
  go_wp2_with fail
  go_ret
  exact ⟨rfl, rfl⟩
 ·go_upto_region 2 with fail
  refine wp_region_lit ?_
  refine zr (.bool false) w (xo_eqlF .i64 c 0 (by omega) rfl rfl rfl) ?_
  simp only [Act.put, zA]
  refine zr (.bool false) w rfl ?_
  simp only [Act.put, zA]
  refine wpList_nil ?_
  by_cases hc1 : c = 1
  ·go_upto_region 4 with fail
   refine wp_region_lit ?_
   refine zr (.bool true) w (xo_eqlT .i64 c 1 (by omega) rfl rfl rfl) ?_
   simp only [Act.put, zA]
   refine zr (.bool true) w rfl ?_
   simp only [Act.put, zA]
   refine wpList_nil ?_
   go_upto_region 5 with fail
   refine wp_region_lit ?_
   refine zr (.int .i64 8) w rfl ?_
   simp only [Act.put, zA]
   refine wpList_nil ?_
   obtain rfl : b = 8 := by rw [← HBB.out, hc1]; rfl
   go_wp2_with fail
   go_ret
   exact ⟨rfl, rfl⟩
  ·go_upto_region 4 with fail
   refine wp_region_lit ?_
   refine zr (.bool false) w (xo_eqlF .i64 c 1 (by omega) rfl rfl rfl) ?_
   simp only [Act.put, zA]
   refine zr (.bool false) w rfl ?_
   simp only [Act.put, zA]
   refine wpList_nil ?_
   by_cases hc2 : c = 2
   ·go_upto_region 6 with fail
    refine wp_region_lit ?_
    refine zr (.bool true) w (xo_eqlT .i64 c 2 (by omega) rfl rfl rfl) ?_
    simp only [Act.put, zA]
    refine zr (.bool true) w rfl ?_
    simp only [Act.put, zA]
    refine wpList_nil ?_
    go_upto_region 7 with fail
    refine wp_region_lit ?_
    refine zr (.int .i64 4) w rfl ?_
    simp only [Act.put, zA]
    refine wpList_nil ?_
    obtain rfl : b = 4 := by rw [← HBB.out, hc2]; rfl
    go_wp2_with fail
    go_ret
    exact ⟨rfl, rfl⟩
   ·go_upto_region 6 with fail
    refine wp_region_lit ?_
    refine zr (.bool false) w (xo_eqlF .i64 c 2 (by omega) rfl rfl rfl) ?_
    simp only [Act.put, zA]
    refine zr (.bool false) w rfl ?_
    simp only [Act.put, zA]
    refine wpList_nil ?_
    by_cases hc3 : c = 3
    ·go_upto_region 8 with fail
     refine wp_region_lit ?_
     refine zr (.bool true) w (xo_eqlT .i64 c 3 (by omega) rfl rfl rfl) ?_
     simp only [Act.put, zA]
     refine zr (.bool true) w rfl ?_
     simp only [Act.put, zA]
     refine wpList_nil ?_
     go_upto_region 9 with fail
     refine wp_region_lit ?_
     refine zr (.int .i64 8) w rfl ?_
     simp only [Act.put, zA]
     refine wpList_nil ?_
     obtain rfl : b = 8 := by rw [← HBB.out, hc3]; rfl
     go_wp2_with fail
     go_ret
     exact ⟨rfl, rfl⟩
    ·go_upto_region 8 with fail
     refine wp_region_lit ?_
     refine zr (.bool false) w (xo_eqlF .i64 c 3 (by omega) rfl rfl rfl) ?_
     simp only [Act.put, zA]
     refine zr (.bool false) w rfl ?_
     simp only [Act.put, zA]
     refine wpList_nil ?_
     by_cases hc4 : c = 4
     ·go_upto_region 10 with fail
      refine wp_region_lit ?_
      refine zr (.bool true) w (xo_eqlT .i64 c 4 (by omega) rfl rfl rfl) ?_
      simp only [Act.put, zA]
      refine zr (.bool true) w rfl ?_
      simp only [Act.put, zA]
      refine wpList_nil ?_
      go_upto_region 11 with fail
      refine wp_region_lit ?_
      refine zr (.int .i64 1) w rfl ?_
      simp only [Act.put, zA]
      refine wpList_nil ?_
      obtain rfl : b = 1 := by rw [← HBB.out, hc4]; rfl
      go_wp2_with fail
      go_ret
      exact ⟨rfl, rfl⟩
     ·go_upto_region 10 with fail
      refine wp_region_lit ?_
      refine zr (.bool false) w (xo_eqlF .i64 c 4 (by omega) rfl rfl rfl) ?_
      simp only [Act.put, zA]
      refine zr (.bool false) w rfl ?_
      simp only [Act.put, zA]
      refine wpList_nil ?_
      go_upto_region 12 with fail
      refine wp_region_lit ?_
      refine zr (.int .i64 0) w rfl ?_
      simp only [Act.put, zA]
      refine wpList_nil ?_
      obtain rfl : b = 0 := by rw [← HBB.out]; unfold Ty.btN; rw [if_neg hc0, if_neg hc1, if_neg hc2, if_neg hc3, if_neg hc4]
      go_wp2_with fail
      go_ret
      exact ⟨rfl, rfl⟩
set_option maxRecDepth 100000 in
set_option maxHeartbeats 16000000 in
theorem bits_as (c : Int) (b : Nat) (hb : Ty.btN c = b) (w : World) (hG : Gw5 w) : Calls Tryd.prog 17 #[.int .i64 c] w fun e w' => e = .returned (.int .i64 (b : Int)) ∧ w' = w := by
 have HG := zh hG
 have HBB := zh hb
 clear hb hG
 go_enter Tryd.func17, Tryd.ntmps17
 go_upto_region 1 with fail
 by_cases h0 : c < 0
 ·refine wp_region_lit ?_
  refine zr (.int .i64 c) w rfl ?_
  simp only [Act.put, zA]
  refine zr (.bool true) w (xo_lssT .i64 c 0 (by omega) rfl rfl rfl) ?_
  simp only [Act.put, zA]
  refine zr (.bool true) w rfl ?_
  simp only [Act.put, zA]
  refine zl ?_
  try simp only [Act.put, zA]
  refine zl ?_
  try simp only [Act.put, zA]
  refine zr (.bool true) w rfl ?_
  simp only [Act.put, zA]
  refine wpList_nil ?_
  go_upto_region 2 with fail
  refine wp_region_lit ?_
  refine zr (.int .i64 0) w rfl ?_
  simp only [Act.put, zA]
  refine wpList_nil ?_
  obtain rfl : b = 0 := by rw [← HBB.out]; exact Ty.bt_out (.inl h0)
  go_wp2_with fail
  go_ret
  exact ⟨rfl, rfl⟩
 ·by_cases h5 : c ≥ 5
  ·refine wp_region_lit ?_
   refine zr (.int .i64 c) w rfl ?_
   simp only [Act.put, zA]
   refine zr (.bool false) w (xo_lssF .i64 c 0 (by omega) rfl rfl rfl) ?_
   simp only [Act.put, zA]
   refine zr (.bool false) w rfl ?_
   simp only [Act.put, zA]
   refine zr (.int .i64 c) w rfl ?_
   simp only [Act.put, zA]
   refine zr (.bool true) w (xo_geqT .i64 c 5 (by omega) rfl rfl rfl) ?_
   simp only [Act.put, zA]
   refine zr (.bool true) w rfl ?_
   simp only [Act.put, zA]
   refine wpList_nil ?_
   go_upto_region 2 with fail
   refine wp_region_lit ?_
   refine zr (.int .i64 0) w rfl ?_
   simp only [Act.put, zA]
   refine wpList_nil ?_
   obtain rfl : b = 0 := by rw [← HBB.out]; exact Ty.bt_out (.inr h5)
   go_wp2_with fail
   go_ret
   exact ⟨rfl, rfl⟩
  ·obtain ⟨k, rfl⟩ : ∃ k : Nat, c = (k : Int) := ⟨c.toNat, by omega⟩
   have hk5 : k < 5 := by omega
   clear h0 h5
   have hci0 : ¬ ((k : Int) < 0) := by omega
   have hci1 : ¬ ((k : Int) ≥ 5) := by omega
   refine wp_region_lit ?_
   refine zr (.int .i64 (k : Int)) w rfl ?_
   simp only [Act.put, zA]
   refine zr (.bool false) w (xo_lssF .i64 (k : Int) 0 (by omega) rfl rfl rfl) ?_
   simp only [Act.put, zA]
   refine zr (.bool false) w rfl ?_
   simp only [Act.put, zA]
   refine zr (.int .i64 (k : Int)) w rfl ?_
   simp only [Act.put, zA]
   refine zr (.bool false) w (xo_geqF .i64 (k : Int) 5 (by omega) rfl rfl rfl) ?_
   simp only [Act.put, zA]
   refine zr (.bool false) w rfl ?_
   simp only [Act.put, zA]
   refine wpList_nil ?_
   go_upto_region 3 with fail
   refine wp_region_lit ?_
   refine zr (.int .i64 (k : Int)) w rfl ?_
   simp only [Act.put, zA]
   refine zr (.pointer (some ⟨0, k, none⟩)) w (xw_iad k (by omega) rfl rfl rfl) ?_
   simp only [Act.put, zA]
   refine zr (.int .i64 (Ty.widN k : Int)) w (xo_load1 ⟨0, k, none⟩ _ (Gw5.at HG.out k (by omega)) Tryd.underlying3 rfl rfl rfl) ?_
   simp only [Act.put, zA]
   refine zr (.int .i64 (Ty.widN k : Int)) w rfl ?_
   simp only [Act.put, zA]
   refine wpList_nil ?_
   obtain rfl : b = Ty.widN k := by rw [← HBB.out]; exact Ty.bt_wid hk5
   go_wp2_with fail
   go_ret
   exact ⟨rfl, rfl⟩
set_option maxRecDepth 100000 in
set_option maxHeartbeats 16000000 in
theorem times_as (a b : Nat) (ha : a < 2 ^ 62) (hb : b < 2 ^ 62) (r : Nat × Bool) (hr : Ty.tmN a b = r) (w : World) : Calls Tryd.prog 54 #[.int .i64 (a : Int), .int .i64 (b : Int)] w fun e w' => e = .returned (.tuple #[.int .i64 (r.1 : Int), .bool r.2]) ∧ w' = w := by
 go_enter Tryd.func54, Tryd.ntmps54
 go_upto_region 1 with fail
 obtain ⟨q, hq⟩ : ∃ q, 4611686018427387903 / a = q := ⟨_, rfl⟩
 have HQ := zh hq
 clear hq
 obtain ⟨p, hp⟩ : ∃ p, a * b = p := ⟨_, rfl⟩
 have HP := zh hp
 clear hp
 have HR := zh hr
 clear hr
 by_cases ha0 : a = 0
 ·have hci0 : ¬ ((a : Int) ≠ 0) := by omega
  have hpl : p < 2 ^ 62 := by rw [← HP.out, ha0, Nat.zero_mul]; decide
  refine wp_region_lit ?_
  refine zr (.int .i64 (a : Int)) w rfl ?_
  simp only [Act.put, zA]
  refine zr (.bool false) w (xo_neqF .i64 (a : Int) 0 (by omega) rfl rfl rfl) ?_
  simp only [Act.put, zA]
  refine zr (.bool false) w rfl ?_
  simp only [Act.put, zA]
  refine zl ?_
  try simp only [Act.put, zA]
  refine zl ?_
  try simp only [Act.put, zA]
  refine zl ?_
  try simp only [Act.put, zA]
  refine zl ?_
  try simp only [Act.put, zA]
  refine zr (.bool false) w rfl ?_
  simp only [Act.put, zA]
  refine wpList_nil ?_
  go_upto_region 3 with fail
  refine wp_region_lit ?_
  refine zr (.int .i64 (a : Int)) w rfl ?_
  simp only [Act.put, zA]
  refine zr (.int .i64 (b : Int)) w rfl ?_
  simp only [Act.put, zA]
  refine zr (.int .i64 (p : Int)) w (xo_mulI (a : Int) (b : Int) (p : Int) (by rw [← HP.out]; exact Int.natCast_mul a b) (by omega) (by omega) rfl rfl rfl) ?_
  simp only [Act.put, zA]
  refine zr (.int .i64 (p : Int)) w rfl ?_
  simp only [Act.put, zA]
  refine zr (.bool true) w rfl ?_
  simp only [Act.put, zA]
  refine wpList_nil ?_
  have hx : ((p, true) : Nat × Bool) = r := by rw [← HR.out, Ty.tm_yes (by rw [HP.out]; exact hpl), HP.out]
  subst hx
  go_wp2_with fail
  go_ret2
  exact ⟨rfl, rfl⟩
 ·have hci0 : ((a : Int) ≠ 0) := by omega
  have hdl : q < b ↔ ¬ p < 2 ^ 62 := by rw [← HQ.out, ← HP.out]; exact Ty.div_lim (by omega)
  by_cases hqb : q < b
  ·have hci1 : ((b : Int) > (q : Int)) := by omega
   have hpl := hdl.1 hqb
   refine wp_region_lit ?_
   refine zr (.int .i64 (a : Int)) w rfl ?_
   simp only [Act.put, zA]
   refine zr (.bool true) w (xo_neqT .i64 (a : Int) 0 (by omega) rfl rfl rfl) ?_
   simp only [Act.put, zA]
   refine zr (.bool true) w rfl ?_
   simp only [Act.put, zA]
   refine zr (.int .i64 (b : Int)) w rfl ?_
   simp only [Act.put, zA]
   refine zr (.int .i64 (a : Int)) w rfl ?_
   simp only [Act.put, zA]
   refine zr (.int .i64 (q : Int)) w (xo_quoI 4611686018427387903 a q (by omega) HQ.out (by omega) rfl rfl rfl) ?_
   simp only [Act.put, zA]
   refine zr (.bool true) w (xo_gtrT .i64 (b : Int) (q : Int) (by omega) rfl rfl rfl) ?_
   simp only [Act.put, zA]
   refine zr (.bool true) w rfl ?_
   simp only [Act.put, zA]
   refine wpList_nil ?_
   go_upto_region 2 with fail
   refine wp_region_lit ?_
   refine zr (.int .i64 0) w rfl ?_
   simp only [Act.put, zA]
   refine zr (.bool false) w rfl ?_
   simp only [Act.put, zA]
   refine wpList_nil ?_
   have hx : ((0, false) : Nat × Bool) = r := by rw [← HR.out, Ty.tm_no (by rw [HP.out]; exact hpl)]
   subst hx
   go_wp2_with fail
   go_ret2
   exact ⟨rfl, rfl⟩
  ·have hci1 : ¬ ((b : Int) > (q : Int)) := by omega
   have hpl : p < 2 ^ 62 := by by_cases hh : p < 2 ^ 62 <;> simp [hh] at hdl ⊢ <;> omega
   refine wp_region_lit ?_
   refine zr (.int .i64 (a : Int)) w rfl ?_
   simp only [Act.put, zA]
   refine zr (.bool true) w (xo_neqT .i64 (a : Int) 0 (by omega) rfl rfl rfl) ?_
   simp only [Act.put, zA]
   refine zr (.bool true) w rfl ?_
   simp only [Act.put, zA]
   refine zr (.int .i64 (b : Int)) w rfl ?_
   simp only [Act.put, zA]
   refine zr (.int .i64 (a : Int)) w rfl ?_
   simp only [Act.put, zA]
   refine zr (.int .i64 (q : Int)) w (xo_quoI 4611686018427387903 a q (by omega) HQ.out (by omega) rfl rfl rfl) ?_
   simp only [Act.put, zA]
   refine zr (.bool false) w (xo_gtrF .i64 (b : Int) (q : Int) (by omega) rfl rfl rfl) ?_
   simp only [Act.put, zA]
   refine zr (.bool false) w rfl ?_
   simp only [Act.put, zA]
   refine wpList_nil ?_
   go_upto_region 3 with fail
   refine wp_region_lit ?_
   refine zr (.int .i64 (a : Int)) w rfl ?_
   simp only [Act.put, zA]
   refine zr (.int .i64 (b : Int)) w rfl ?_
   simp only [Act.put, zA]
   refine zr (.int .i64 (p : Int)) w (xo_mulI (a : Int) (b : Int) (p : Int) (by rw [← HP.out]; exact Int.natCast_mul a b) (by omega) (by omega) rfl rfl rfl) ?_
   simp only [Act.put, zA]
   refine zr (.int .i64 (p : Int)) w rfl ?_
   simp only [Act.put, zA]
   refine zr (.bool true) w rfl ?_
   simp only [Act.put, zA]
   refine wpList_nil ?_
   have hx : ((p, true) : Nat × Bool) = r := by rw [← HR.out, Ty.tm_yes (by rw [HP.out]; exact hpl), HP.out]
   subst hx
   go_wp2_with fail
   go_ret2
   exact ⟨rfl, rfl⟩
end Go.Proofs.YtbecajihgbbgjaaDoor

namespace Go.Proofs.YtbecajihgbbgjaaDoor
set_option maxRecDepth 8000
open Go.RowKit Go.Proofs.YtbecajihgbbgjaaDoor.K
attribute [local irreducible] wpList wpQuiet
namespace Ty
/-- the powers up to i: the product, or that it passed the limit -/
def pwI (rows m i o : Nat) (f : Bool) : Prop := (f = true ∧ o = rows * m ^ i ∧ o < 2 ^ 62) ∨ (f = false ∧ o = 0 ∧ 2 ^ 62 ≤ rows * m ^ i)
theorem pw_start {rows m : Nat} (h : rows < 2 ^ 62) : pwI rows m 0 rows true := .inl ⟨rfl, by simp, h⟩
theorem pw_lt {rows m i o : Nat} {f : Bool} (h : pwI rows m i o f) : o < 2 ^ 62 := by
 rcases h with ⟨_, _, h⟩ | ⟨_, h, _⟩
 ·exact h
 ·omega
theorem pw_step {rows m i o o2 : Nat} {f f2 : Bool} (hr : rows < 2 ^ 62) (h : pwI rows m i o f) (ht : tmN o m = (o2, f2)) : pwI rows m (i + 1) o2 (f && f2) := by
 rcases h with ⟨h1, h2, _⟩ | ⟨h1, h2, h3⟩
 ·have he : rows * m ^ (i + 1) = o * m := by rw [h2, Nat.pow_succ, Nat.mul_assoc]
  by_cases hl : o * m < 2 ^ 62
  ·rw [tm_yes hl] at ht
   injection ht with h4 h5
   subst h4 h5 h1
   exact .inl ⟨rfl, he.symm, hl⟩
  ·rw [tm_no hl] at ht
   injection ht with h4 h5
   subst h4 h5 h1
   exact .inr ⟨rfl, rfl, by rw [he]; omega⟩
 ·subst h1 h2
  rw [tm_yes (by rw [Nat.zero_mul]; decide), Nat.zero_mul] at ht
  injection ht with h4 h5
  subst h4 h5
  exact .inr ⟨rfl, rfl, pow_big hr (Nat.le_succ i) h3⟩
theorem pw_end {rows m k o : Nat} {f : Bool} (h : pwI rows m k o f) : pwN rows m k = (o, f) := by
 unfold pwN
 rcases h with ⟨h1, h2, h3⟩ | ⟨h1, h2, h3⟩
 ·rw [if_pos (by rw [← h2]; exact h3), ← h2, h1]
 ·rw [if_neg (by omega), h1, h2]
end Ty
set_option maxRecDepth 100000 in
set_option maxHeartbeats 16000000 in
theorem power_as (rows m k : Nat) (hk : k ≤ 65536) (hrows : rows < 2 ^ 62) (hm : m < 2 ^ 62) (r : Nat × Bool) (hr : Ty.pwN rows m k = r) (w : World) : Calls Tryd.prog 35 #[.int .i64 (rows : Int), .int .i64 (m : Int), .int .i64 (k : Int)] w fun e w' => e = .returned (.tuple #[.int .i64 (r.1 : Int), .bool r.2]) ∧ Below w.heap.size w w' := by
 have HRR := zh hr
 clear hr
 go_enter Tryd.func35, Tryd.ntmps35
 go_upto_region 1 with fail
 refine wp_region_lit ?_
 refine zr (.int .i64 (rows : Int)) w rfl ?_
 simp only [Act.put, zA]
 refine zr (.int .i64 (rows : Int)) w rfl ?_
 simp only [Act.put, zA]
 refine zr (.bool true) w rfl ?_
 simp only [Act.put, zA]
 refine wpList_nil ?_
 go_upto_region 2 with fail
 refine wp_region_lit ?_
 refine zr (.int .i64 0) w rfl ?_
 simp only [Act.put, zA]
 refine wpList_nil ?_
 have O0 := (Below.refl w.heap.size w)
 have B0 := zh (Below.refl w.heap.size w)
 go_wp2_with fail
 go_loopw [10, 8, 9] (fun p a b wr => ∃ i : Nat, ∃ (o : Nat) (f : Bool), i ≤ k ∧ p = .int .i64 i ∧ a = .int .i64 (o : Int) ∧ b = .bool f ∧ Ty.pwI rows m i o f ∧ Below w.heap.size w wr) (fun p _ _ _ => k - (intOf p).toNat)
 case atStart => exact ⟨0, rows, true, Nat.zero_le _, rfl, rfl, rfl, Ty.pw_start hrows, O0⟩
 case round =>
  clear O0
  obtain ⟨wo, rfl⟩ : ∃ wo : World, wo = wr := ⟨_, rfl⟩
  obtain ⟨i, o, f, hi, rfl, hHA, hHBb, hHPW, hb0⟩ := hrel
  have hbr := hb0
  clear B0
  have B0 := zh hbr
  clear hbr
  have HA := zh hHA
  have HBb := zh hHBb
  have HPW := zh hHPW
  clear hb0 hHA hHBb hHPW
  have ea := HA.out
  have eb := HBb.out
  subst ea eb
  clear HA HBb
  by_cases hik : i < k
  ·have hci2 : ((i : Int) < (k : Int)) := by omega
   go_upto_region 3 with fail
   refine wp_region_lit ?_
   refine zr (.int .i64 (i : Int)) wo rfl ?_
   simp only [Act.put, zA]
   refine zr (.int .i64 (k : Int)) wo rfl ?_
   simp only [Act.put, zA]
   refine zr (.bool true) wo (xo_lssT .i64 (i : Int) (k : Int) (by omega) rfl rfl rfl) ?_
   simp only [Act.put, zA]
   refine wpList_nil ?_
   obtain ⟨⟨o2, f2⟩, ht⟩ : ∃ r, Ty.tmN o m = r := ⟨_, rfl⟩
   have HT := zh ht
   clear ht
   have hol := Ty.pw_lt HPW.out
   go_upto_region 5 with fail
   refine wp_region_lit ?_
   refine zr (.int .i64 (o : Int)) wo rfl ?_
   simp only [Act.put, zA]
   refine zr (.int .i64 (m : Int)) wo rfl ?_
   simp only [Act.put, zA]
   refine wpList_call (by kernel_rfl) 54 Tryd.func54 (by kernel_rfl) (by kernel_rfl) _ _ #[.int .i64 (o : Int), .int .i64 (m : Int)] rfl (by kernel_rfl) ?_
   refine (times_as o m hol hm (o2, f2) HT.out wo).mono ?_
   rintro e W1 ⟨rfl, hw1⟩
   rw [hw1]
   clear hw1 W1
   refine ⟨_, rfl, ?_⟩
   simp only [Act.put, zA]
   refine zr (.tuple #[.int .i64 (o2 : Int), .bool f2]) wo rfl ?_
   simp only [Act.put, zA]
   refine zr (.int .i64 (o2 : Int)) wo rfl ?_
   simp only [Act.put, zA]
   refine zr (.bool f2) wo rfl ?_
   simp only [Act.put, zA]
   refine zr (.int .i64 (o2 : Int)) wo rfl ?_
   simp only [Act.put, zA]
   refine zr (.bool f2) wo rfl ?_
   simp only [Act.put, zA]
   refine wpList_nil ?_
   go_upto_region 6 with fail
   refine wp_region_lit ?_
   refine zr (.int .i64 (o2 : Int)) wo rfl ?_
   simp only [Act.put, zA]
   refine zr (.int .i64 (o2 : Int)) wo rfl ?_
   simp only [Act.put, zA]
   refine wpList_nil ?_
   cases f with
   | true =>
    go_upto_region 7 with fail
    refine wp_region_lit ?_
    refine zr (.bool true) wo rfl ?_
    simp only [Act.put, zA]
    refine zr (.bool true) wo rfl ?_
    simp only [Act.put, zA]
    refine zr (.bool f2) wo rfl ?_
    simp only [Act.put, zA]
    refine zr (.bool f2) wo rfl ?_
    simp only [Act.put, zA]
    refine zr (.bool f2) wo rfl ?_
    simp only [Act.put, zA]
    refine wpList_nil ?_
    go_upto_region 4 with fail
    refine wp_region_lit ?_
    refine zr (.int .i64 (i : Int)) wo rfl ?_
    simp only [Act.put, zA]
    refine zr (.int .i64 ((i + 1 : Nat) : Int)) wo (xo_addI (i : Int) 1 ((i + 1 : Nat) : Int) (by omega) (by omega) (by omega) rfl rfl rfl) ?_
    simp only [Act.put, zA]
    refine zr (.int .i64 ((i + 1 : Nat) : Int)) wo rfl ?_
    simp only [Act.put, zA]
    refine wpList_nil ?_
    have hst := Ty.pw_step hrows HPW.out HT.out
    rw [Bool.true_and] at hst
    have hq3 := B0.out
    go_wp2_with fail
    go_roundw
    case rel => exact ⟨i + 1, o2, f2, by omega, by go_num, rfl, rfl, hst, hq3⟩
    case measure => simp [intOf]; omega
   | false =>
    go_upto_region 7 with fail
    refine wp_region_lit ?_
    refine zr (.bool false) wo rfl ?_
    simp only [Act.put, zA]
    refine zr (.bool false) wo rfl ?_
    simp only [Act.put, zA]
    refine zl ?_
    try simp only [Act.put, zA]
    refine zr (.bool false) wo rfl ?_
    simp only [Act.put, zA]
    refine zr (.bool false) wo rfl ?_
    simp only [Act.put, zA]
    refine wpList_nil ?_
    go_upto_region 4 with fail
    refine wp_region_lit ?_
    refine zr (.int .i64 (i : Int)) wo rfl ?_
    simp only [Act.put, zA]
    refine zr (.int .i64 ((i + 1 : Nat) : Int)) wo (xo_addI (i : Int) 1 ((i + 1 : Nat) : Int) (by omega) (by omega) (by omega) rfl rfl rfl) ?_
    simp only [Act.put, zA]
    refine zr (.int .i64 ((i + 1 : Nat) : Int)) wo rfl ?_
    simp only [Act.put, zA]
    refine wpList_nil ?_
    have hst := Ty.pw_step hrows HPW.out HT.out
    rw [Bool.false_and] at hst
    have hq3 := B0.out
    go_wp2_with fail
    go_roundw
    case rel => exact ⟨i + 1, o2, false, by omega, by go_num, rfl, rfl, hst, hq3⟩
    case measure => simp [intOf]; omega
  ·have hci2 : ¬ ((i : Int) < (k : Int)) := by omega
   go_upto_region 3 with fail
   refine wp_region_lit ?_
   refine zr (.int .i64 (i : Int)) wo rfl ?_
   simp only [Act.put, zA]
   refine zr (.int .i64 (k : Int)) wo rfl ?_
   simp only [Act.put, zA]
   refine zr (.bool false) wo (xo_lssF .i64 (i : Int) (k : Int) (by omega) rfl rfl rfl) ?_
   simp only [Act.put, zA]
   refine wpList_nil ?_
   go_upto_region 8 with fail
   refine wp_region_lit ?_
   refine zr (.int .i64 (o : Int)) wo rfl ?_
   simp only [Act.put, zA]
   refine zr (.bool f) wo rfl ?_
   simp only [Act.put, zA]
   refine zr (.int .i64 (o : Int)) wo rfl ?_
   simp only [Act.put, zA]
   refine zr (.bool f) wo rfl ?_
   simp only [Act.put, zA]
   refine wpList_nil ?_
   obtain rfl : i = k := by omega
   have hx : r = (o, f) := by rw [← HRR.out]; exact Ty.pw_end HPW.out
   subst hx
   have hbf := B0.out
   go_wp2_with fail
   go_ret2
   exact ⟨rfl, hbf⟩
end Go.Proofs.YtbecajihgbbgjaaDoor

namespace Go.Proofs.YtbecajihgbbgjaaDoor
set_option maxRecDepth 8000
open Go.RowKit Go.Proofs.YtbecajihgbbgjaaDoor.K
attribute [local irreducible] wpList wpQuiet
namespace Ty
/-- the number of sums of any query -/
def suZ (kd : Int) : Nat := if 1 ≤ kd ∧ kd ≤ 7 then suN kd.toNat else 0
theorem su_list {k s : Nat} (h1 : 1 ≤ k) (h7 : k ≤ 7) (h : suN k = s) : ([1, 1, 1, 16, 16, 16, 32] : List Int)[k - 1]? = some (s : Int) := by
 subst h
 have h4 : k = 1 ∨ k = 2 ∨ k = 3 ∨ k = 4 ∨ k = 5 ∨ k = 6 ∨ k = 7 := by omega
 rcases h4 with rfl | rfl | rfl | rfl | rfl | rfl | rfl <;> rfl
end Ty
set_option maxRecDepth 100000 in
set_option maxHeartbeats 16000000 in
theorem rsums_as (kd col k : Int) (A : Option Addr) (n c : Nat) (s : Nat) (hs : Ty.suZ kd = s) (w : World) : Calls Tryd.prog 16 #[.agg #[.int .i64 kd, .int .i64 col, .int .i64 k, .slice A n c]] w fun e w' => e = .returned (.int .i64 (s : Int)) ∧ Below w.heap.size w w' := by
 have HSS := zh hs
 clear hs
 go_enter Tryd.func16, Tryd.ntmps16
 go_upto_region 1 with fail
 refine wp_named1 (fun V1 hb g0 hlt => ?_)
 have B0 := zh hb
 have Fv0_1 : Hid (V1.heap[w.heap.size]? = some (.cells #[.int .i64 kd, .int .i64 col, .int .i64 k, .slice A n c] 24 (0, 0))) := zh (g0)
 have Gb0 : Hid (w.heap.size ≤ w.heap.size) := zh (by omega)
 clear hb g0 hlt
 have Lt0 : Hid (w.heap.size < V1.heap.size) := zh (xp_lt Fv0_1.out)
 by_cases h1 : kd < 1
 ·refine wp_region_lit ?_
  refine zr (.pointer (some ⟨w.heap.size, 0, none⟩)) V1 (xo_fld0 0 w.heap.size 0 (by kernel_rfl) rfl rfl) ?_
  simp only [Act.put, zA]
  refine zr (.int .i64 kd) V1 (xo_load1 ⟨w.heap.size, 0, none⟩ _ (cells_at Fv0_1.out 0 rfl) Tryd.underlying3 rfl rfl rfl) ?_
  simp only [Act.put, zA]
  refine zr (.bool true) V1 (xo_lssT .i64 kd 1 (by omega) rfl rfl rfl) ?_
  simp only [Act.put, zA]
  refine zr (.bool true) V1 rfl ?_
  simp only [Act.put, zA]
  refine zl ?_
  try simp only [Act.put, zA]
  refine zl ?_
  try simp only [Act.put, zA]
  refine zl ?_
  try simp only [Act.put, zA]
  refine zr (.bool true) V1 rfl ?_
  simp only [Act.put, zA]
  refine wpList_nil ?_
  go_upto_region 2 with fail
  refine wp_region_lit ?_
  refine zr (.int .i64 0) V1 rfl ?_
  simp only [Act.put, zA]
  refine wpList_nil ?_
  obtain rfl : s = 0 := by rw [← HSS.out]; unfold Ty.suZ; rw [if_neg (by omega)]
  have hbf := B0.out
  go_wp2_with fail
  go_ret
  exact ⟨rfl, hbf⟩
 ·by_cases h7 : kd > 7
  ·refine wp_region_lit ?_
   refine zr (.pointer (some ⟨w.heap.size, 0, none⟩)) V1 (xo_fld0 0 w.heap.size 0 (by kernel_rfl) rfl rfl) ?_
   simp only [Act.put, zA]
   refine zr (.int .i64 kd) V1 (xo_load1 ⟨w.heap.size, 0, none⟩ _ (cells_at Fv0_1.out 0 rfl) Tryd.underlying3 rfl rfl rfl) ?_
   simp only [Act.put, zA]
   refine zr (.bool false) V1 (xo_lssF .i64 kd 1 (by omega) rfl rfl rfl) ?_
   simp only [Act.put, zA]
   refine zr (.bool false) V1 rfl ?_
   simp only [Act.put, zA]
   refine zr (.pointer (some ⟨w.heap.size, 0, none⟩)) V1 (xo_fld0 0 w.heap.size 0 (by kernel_rfl) rfl rfl) ?_
   simp only [Act.put, zA]
   refine zr (.int .i64 kd) V1 (xo_load1 ⟨w.heap.size, 0, none⟩ _ (cells_at Fv0_1.out 0 rfl) Tryd.underlying3 rfl rfl rfl) ?_
   simp only [Act.put, zA]
   refine zr (.bool true) V1 (xo_gtrT .i64 kd 7 (by omega) rfl rfl rfl) ?_
   simp only [Act.put, zA]
   refine zr (.bool true) V1 rfl ?_
   simp only [Act.put, zA]
   refine wpList_nil ?_
   go_upto_region 2 with fail
   refine wp_region_lit ?_
   refine zr (.int .i64 0) V1 rfl ?_
   simp only [Act.put, zA]
   refine wpList_nil ?_
   obtain rfl : s = 0 := by rw [← HSS.out]; unfold Ty.suZ; rw [if_neg (by omega)]
   have hbf := B0.out
   go_wp2_with fail
   go_ret
   exact ⟨rfl, hbf⟩
  ·refine wp_region_lit ?_
   refine zr (.pointer (some ⟨w.heap.size, 0, none⟩)) V1 (xo_fld0 0 w.heap.size 0 (by kernel_rfl) rfl rfl) ?_
   simp only [Act.put, zA]
   refine zr (.int .i64 kd) V1 (xo_load1 ⟨w.heap.size, 0, none⟩ _ (cells_at Fv0_1.out 0 rfl) Tryd.underlying3 rfl rfl rfl) ?_
   simp only [Act.put, zA]
   refine zr (.bool false) V1 (xo_lssF .i64 kd 1 (by omega) rfl rfl rfl) ?_
   simp only [Act.put, zA]
   refine zr (.bool false) V1 rfl ?_
   simp only [Act.put, zA]
   refine zr (.pointer (some ⟨w.heap.size, 0, none⟩)) V1 (xo_fld0 0 w.heap.size 0 (by kernel_rfl) rfl rfl) ?_
   simp only [Act.put, zA]
   refine zr (.int .i64 kd) V1 (xo_load1 ⟨w.heap.size, 0, none⟩ _ (cells_at Fv0_1.out 0 rfl) Tryd.underlying3 rfl rfl rfl) ?_
   simp only [Act.put, zA]
   refine zr (.bool false) V1 (xo_gtrF .i64 kd 7 (by omega) rfl rfl rfl) ?_
   simp only [Act.put, zA]
   refine zr (.bool false) V1 rfl ?_
   simp only [Act.put, zA]
   refine wpList_nil ?_
   obtain ⟨j, rfl⟩ : ∃ j : Nat, kd = (j : Int) := ⟨kd.toNat, by omega⟩
   have hj1 : 1 ≤ j := by omega
   have hj7 : j ≤ 7 := by omega
   clear h1 h7
   have hsn : Ty.suN j = s := by rw [← HSS.out]; unfold Ty.suZ; rw [if_pos (by omega), Int.toNat_natCast]
   have HE := zh (Ty.su_list hj1 hj7 hsn)
   clear hsn
   go_upto_region 3 with fail
   refine wp_region_lit ?_
   refine wpList_mk (by kernel_rfl) ([1, 1, 1, 16, 16, 16, 32].flatMap zzC).toArray 3 7 7 (xg_lit (E := zzC) (bytes := 8) (.int .i64 0) [.const (.int .i64 1), .const (.int .i64 1), .const (.int .i64 1), .const (.int .i64 16), .const (.int .i64 16), .const (.int .i64 16), .const (.int .i64 32)] [1, 1, 1, 16, 16, 16, 32] 7 Tryd.underlying71 (by kernel_rfl) rfl (by decide) (by decide) rfl rfl) ?_
   intro g11 V2 hge h0 hb
   have N1_0 : Hid (w.heap.size ≠ g11) := zh (xp_lt0 Fv0_1.out hge)
   have Ge2 : Hid (V1.heap.size ≤ g11) := zh hge
   have B1 := zh hb
   have Fv3_11 : Hid (RowG zzC V2 g11 3 ([1, 1, 1, 16, 16, 16, 32])) := zh (h0)
   have Lt4 : Hid (g11 < V2.heap.size) := zh (xp_lt Fv3_11.out)
   clear hge h0 hb
   simp only [ptr, Act.put, zA]
   refine zr (.pointer (some ⟨w.heap.size, 0, none⟩)) V2 (xo_fld0 0 w.heap.size 0 (by kernel_rfl) rfl rfl) ?_
   simp only [Act.put, zA]
   refine zr (.int .i64 (j : Int)) V2 (xo_load1 ⟨w.heap.size, 0, none⟩ _ (cells_at (heap_keep Fv0_1.out B1.out) 0 rfl) Tryd.underlying3 rfl rfl rfl) ?_
   simp only [Act.put, zA]
   refine zr (.int .i64 ((j - 1 : Nat) : Int)) V2 (xo_subI (j : Int) 1 ((j - 1 : Nat) : Int) (by omega) (by omega) (by omega) rfl rfl rfl) ?_
   simp only [Act.put, zA]
   refine zr (.pointer (some (gad (some ⟨g11, 0, none⟩) ((j - 1) * 1)))) V2 (xg_idx .i64 (RowG.sg (n := 7) (c := 7) Fv3_11.out (show ([1, 1, 1, 16, 16, 16, 32]).length = 7 from rfl) (Nat.le_refl _) (by omega)) HE.out Tryd.underlying71 (by kernel_rfl) rfl rfl rfl) ?_
   simp only [Act.put, zA]
   refine zr (.int .i64 (s : Int)) V2 (xg_load1 (E := zzC) (i := (j - 1)) (j := 0) (RowG.sg (n := 7) (c := 7) Fv3_11.out (show ([1, 1, 1, 16, 16, 16, 32]).length = 7 from rfl) (Nat.le_refl _) (by omega)) HE.out rfl rfl Tryd.underlying3 rfl rfl rfl) ?_
   simp only [Act.put, zA]
   refine zr (.int .i64 (s : Int)) V2 rfl ?_
   simp only [Act.put, zA]
   refine wpList_nil ?_
   have C0_2 := zb B0 B1
   have hbf := C0_2.out
   go_wp2_with fail
   go_ret
   exact ⟨rfl, hbf⟩
set_option maxRecDepth 100000 in
set_option maxHeartbeats 16000000 in
theorem same14_yes (A A2 : Option Addr) (n c c2 : Nat) (xs : List Int) (w : World) (h1 : Sg zzC 1 w A n c xs) (h2 : Sg zzC 1 w A2 n c2 xs) : Calls Tryd.prog 14 #[.slice A n c, .slice A2 n c2] w fun e w' => e = .returned (.bool true) ∧ Below w.heap.size w w' := by
 have HL := zh h1
 have HM := zh h2
 have hln := h1.len
 have hlc := h1.cap
 have hlt := h1.top
 have hlc2 := h2.cap
 clear h1 h2
 go_enter Tryd.func14, Tryd.ntmps14
 go_upto_region 1 with fail
 refine wp_region_lit ?_
 refine zr (.slice A n c) w rfl ?_
 simp only [Act.put, zA]
 refine zr (.int .i64 (n : Int)) w (xo_len A n c Tryd.underlying27 rfl rfl) ?_
 simp only [Act.put, zA]
 refine zr (.slice A2 n c2) w rfl ?_
 simp only [Act.put, zA]
 refine zr (.int .i64 (n : Int)) w (xo_len A2 n c2 Tryd.underlying27 rfl rfl) ?_
 simp only [Act.put, zA]
 refine zr (.bool false) w (xo_neqF .i64 (n : Int) (n : Int) (by omega) rfl rfl rfl) ?_
 simp only [Act.put, zA]
 refine wpList_nil ?_
 go_upto_region 3 with fail
 refine wp_region_lit ?_
 refine zr (.int .i64 0) w rfl ?_
 simp only [Act.put, zA]
 refine wpList_nil ?_
 have O0 := (Below.refl w.heap.size w)
 have B0 := zh (Below.refl w.heap.size w)
 go_wp2_with fail
 go_loopw [5] (fun p wr => ∃ i : Nat, i ≤ n ∧ p = .int .i64 i ∧ Below w.heap.size w wr) (fun p _ => n - (intOf p).toNat)
 case atStart => exact ⟨0, Nat.zero_le _, rfl, O0⟩
 case round =>
  clear O0
  obtain ⟨wo, rfl⟩ : ∃ wo : World, wo = wr := ⟨_, rfl⟩
  obtain ⟨i, hi, rfl, hb0⟩ := hrel
  have hbr := hb0
  clear B0
  have B0 := zh hbr
  clear hbr
  clear hb0 
  by_cases hlt2 : i < n
  ·have hci2 : ((i : Int) < (n : Int)) := by omega
   obtain ⟨x, hx⟩ : ∃ x, xs[i]? = some x := ⟨_, List.getElem?_eq_getElem (by omega)⟩
   have HX := zh hx
   clear hx
   have hxx : ¬ x ≠ x := fun h => h rfl
   go_upto_region 4 with fail
   refine wp_region_lit ?_
   refine zr (.int .i64 (i : Int)) wo rfl ?_
   simp only [Act.put, zA]
   refine zr (.slice A n c) wo rfl ?_
   simp only [Act.put, zA]
   refine zr (.int .i64 (n : Int)) wo (xo_len A n c Tryd.underlying27 rfl rfl) ?_
   simp only [Act.put, zA]
   refine zr (.bool true) wo (xo_lssT .i64 (i : Int) (n : Int) (by omega) rfl rfl rfl) ?_
   simp only [Act.put, zA]
   refine wpList_nil ?_
   go_upto_region 6 with fail
   refine wp_later_lex (by kernel_rfl) (lexOK_of (by kernel_rfl) (by kernel_rfl)) ?_
   refine zv (.slice A n c) (fun v hv => rfl) ?_
   simp only [Act.put, zA]
   refine zv (.int .i64 (i : Int)) (fun v hv => rfl) ?_
   simp only [Act.put, zA]
   refine zv (.pointer (some (gad A (i * 1)))) (fun v hv => (xg_idx .i64 ((HL.out.keep B0.out).keep (later_bel hv)) HX.out Tryd.underlying27 (by kernel_rfl) rfl rfl rfl)) ?_
   simp only [Act.put, zA]
   refine zv (.int .i64 x) (fun v hv => (xg_load1 (E := zzC) (i := i) (j := 0) ((HL.out.keep B0.out).keep (later_bel hv)) HX.out rfl rfl Tryd.underlying2 rfl rfl rfl)) ?_
   simp only [Act.put, zA]
   refine zv (.slice A2 n c2) (fun v hv => rfl) ?_
   simp only [Act.put, zA]
   refine zv (.int .i64 (i : Int)) (fun v hv => rfl) ?_
   simp only [Act.put, zA]
   refine zv (.pointer (some (gad A2 (i * 1)))) (fun v hv => (xg_idx .i64 ((HM.out.keep B0.out).keep (later_bel hv)) HX.out Tryd.underlying27 (by kernel_rfl) rfl rfl rfl)) ?_
   simp only [Act.put, zA]
   refine zv (.int .i64 x) (fun v hv => (xg_load1 (E := zzC) (i := i) (j := 0) ((HM.out.keep B0.out).keep (later_bel hv)) HX.out rfl rfl Tryd.underlying2 rfl rfl rfl)) ?_
   simp only [Act.put, zA]
   refine zv (.bool false) (fun v hv => (xo_neqF .i64 x x (by omega) rfl rfl rfl)) ?_
   simp only [Act.put, zA]
   refine wpQuiet_nil ?_
   intro X1_3
   have hb := X1_3.below
   generalize X1_3.at = V2 at *
   have B1 := zh hb
   clear hb
   go_upto_region 5 with fail
   refine wp_region_lit ?_
   refine zr (.int .i64 (i : Int)) V2 rfl ?_
   simp only [Act.put, zA]
   refine zr (.int .i64 ((i + 1 : Nat) : Int)) V2 (xo_addI (i : Int) 1 ((i + 1 : Nat) : Int) (by omega) (by omega) (by omega) rfl rfl rfl) ?_
   simp only [Act.put, zA]
   refine zr (.int .i64 ((i + 1 : Nat) : Int)) V2 rfl ?_
   simp only [Act.put, zA]
   refine wpList_nil ?_
   have C0_2 := zb B0 B1
   have hq4 := C0_2.out
   go_wp2_with fail
   go_roundw
   case rel => exact ⟨i + 1, by omega, by go_num, hq4⟩
   case measure => simp [intOf]; omega
  ·have hci2 : ¬ ((i : Int) < (n : Int)) := by omega
   go_upto_region 4 with fail
   refine wp_region_lit ?_
   refine zr (.int .i64 (i : Int)) wo rfl ?_
   simp only [Act.put, zA]
   refine zr (.slice A n c) wo rfl ?_
   simp only [Act.put, zA]
   refine zr (.int .i64 (n : Int)) wo (xo_len A n c Tryd.underlying27 rfl rfl) ?_
   simp only [Act.put, zA]
   refine zr (.bool false) wo (xo_lssF .i64 (i : Int) (n : Int) (by omega) rfl rfl rfl) ?_
   simp only [Act.put, zA]
   refine wpList_nil ?_
   go_upto_region 8 with fail
   refine wp_region_lit ?_
   refine zr (.bool true) wo rfl ?_
   simp only [Act.put, zA]
   refine wpList_nil ?_
   have hbf := B0.out
   go_wp2_with fail
   go_ret
   exact ⟨rfl, hbf⟩
end Go.Proofs.YtbecajihgbbgjaaDoor

