/- Several texts in one: Ycs, Yx0. -/
import Derived.Test.YtbecajihgbbgjaaDoorM12
import Derived.Test.YtbecajihgbbgjaaDoorM11
import Derived.Test.YtbecajihgbbgjaaDoorM06
set_option linter.unusedVariables false
set_option linter.unusedSimpArgs false
set_option linter.unusedSectionVars false
namespace Go.Proofs.YtbecajihgbbgjaaDoor
set_option maxRecDepth 8000
open Go.RowKit Go.Proofs.YtbecajihgbbgjaaDoor.K
attribute [local irreducible] wpList wpQuiet
set_option maxRecDepth 100000 in
set_option maxHeartbeats 16000000 in
theorem buckets_as (A : Option Addr) (n c : Nat) (l : List Qu.Cd) (col rows : Nat) (hc : col < 4) (hrows : rows ≤ 65536) (g : Nat → Int) (hg : ∀ v, v < 16 → (if Ty.satN l = true ∧ Ty.posN l col v = true then (rows : Int) else 0) = g v) (w : World) (hL : Sg ciC 3 w A n c (l.map Qu.Cd.ci)) :
  Calls Tryd.prog 34 #[.slice A n c, .int .i64 (col : Int), .int .i64 (rows : Int)] w fun e w' => ∃ v, e = .returned v ∧ w'.ownsRow w.heap.size 2 1 v 16 (fl zzC ((List.range 16).map g)) ∧ Below w.heap.size w w' := by
 have HL := zh hL
 have hlc := hL.cap
 have hlt := hL.top
 have HGV := zh hg
 clear hL hg
 go_enter Tryd.func34, Tryd.ntmps34
 go_upto_region 1 with fail
 refine wp_region_lit ?_
 refine wpList_mk (by kernel_rfl) #[] 2 0 0 (xo_empty (size := 1) Tryd.underlying27 (by kernel_rfl) rfl w) ?_
 intro g10 V1 hge h0 hb
 have hge2 := Nat.le_trans (Below.refl w.heap.size w).size hge
 have B0 := zh hb
 have Ow10 : Hid (V1.ownsRow w.heap.size 2 1 (.slice (some ⟨g10, 0, none⟩) 0 0) 0 (fl zzC [])) := zh (own_new h0 hge2)
 clear hge hge2 h0 hb
 simp only [ptr, Act.put, zA]
 refine zr (.slice (some ⟨g10, 0, none⟩) 0 0) V1 rfl ?_
 simp only [Act.put, zA]
 refine wpList_nil ?_
 go_upto_region 2 with fail
 refine wp_region_lit ?_
 refine zr (.int .i64 0) V1 rfl ?_
 simp only [Act.put, zA]
 refine wpList_nil ?_
 have O0 := Ow10.out
 have O1 := B0.out
 go_wp2_with fail
 go_loopw [7, 8] (fun v p wr => ∃ i : Nat, i ≤ 16 ∧ p = .int .i64 i ∧ wr.ownsRow w.heap.size 2 1 v i (fl zzC ((List.range i).map g)) ∧ Below w.heap.size w wr) (fun _ p _ => 16 - (intOf p).toNat)
 case atStart => exact ⟨0, Nat.zero_le _, rfl, O0, O1⟩
 case round =>
  clear O1 O0
  obtain ⟨wo, rfl⟩ : ∃ wo : World, wo = wr := ⟨_, rfl⟩
  obtain ⟨i, hi, rfl, hOW, hb0⟩ := hrel
  have hbr := hb0
  clear B0
  have B0 := zh hbr
  clear hbr
  have OW := zh hOW
  clear hb0 hOW
  by_cases hi16 : i < 16
  ·have hci3 : ((i : Int) < 16) := by omega
   go_upto_region 3 with fail
   refine wp_region_lit ?_
   refine zr (.int .i64 (i : Int)) wo rfl ?_
   simp only [Act.put, zA]
   refine zr (.bool true) wo (xo_lssT .i64 (i : Int) 16 (by omega) rfl rfl rfl) ?_
   simp only [Act.put, zA]
   refine wpList_nil ?_
   go_upto_region 5 with fail
   refine wp_region_lit ?_
   refine zr (.int .i64 0) wo rfl ?_
   simp only [Act.put, zA]
   refine wpList_nil ?_
   cases HST : Ty.satN l with
   | false =>
    go_upto_region 6 with fail
    refine wp_region_lit ?_
    refine zr (.slice A n c) wo rfl ?_
    simp only [Act.put, zA]
    refine wpList_call (by kernel_rfl) 25 Tryd.func25 (by kernel_rfl) (by kernel_rfl) _ _ #[.slice A n c] rfl (by kernel_rfl) ?_
    refine (satisfiable_as A n c l false HST wo (HL.out.keep B0.out)).mono ?_
    rintro e V2 ⟨rfl, hb⟩
    have B1 := zh hb
    clear hb 
    refine ⟨_, rfl, ?_⟩
    simp only [Act.put, zA]
    refine zr (.bool false) V2 rfl ?_
    simp only [Act.put, zA]
    refine zl ?_
    try simp only [Act.put, zA]
    refine zl ?_
    try simp only [Act.put, zA]
    refine zl ?_
    try simp only [Act.put, zA]
    refine zl ?_
    try simp only [Act.put, zA]
    refine zr (.bool false) V2 rfl ?_
    simp only [Act.put, zA]
    refine wpList_nil ?_
    have hgi : g i = 0 := by rw [← HGV.out i hi16]; exact if_neg (fun e => by rw [HST] at e; cases e.1)
    go_upto_region 8 with fail
    refine wp_region_lit ?_
    refine zr (u7) V2 rfl ?_
    simp only [Act.put, zA]
    refine zr (.int .i64 0) V2 rfl ?_
    simp only [Act.put, zA]
    refine wpList_mk (by kernel_rfl) ([0].flatMap zzC).toArray 2 1 1 (xg_lit (E := zzC) (bytes := 8) (.int .i64 0) [.tmp 25] [0] 1 Tryd.underlying27 (by kernel_rfl) rfl (by decide) (by decide) rfl rfl) ?_
    intro g26 V3 hge h0 hb
    have Ge4 : Hid (V2.heap.size ≤ g26) := zh hge
    have B2 := zh hb
    have Fv5_26 : Hid (RowG zzC V3 g26 2 ([0])) := zh (h0)
    have Lt6 : Hid (g26 < V3.heap.size) := zh (xp_lt Fv5_26.out)
    clear hge h0 hb
    simp only [ptr, Act.put, zA]
    have C1_3 := zb B1 B2
    have C0_2 := zb B0 B1
    have C0_3 := zb C0_2 B2
    refine wpList_app2 (size := 1) (by kernel_rfl) (.tmp 24) (.tmp 26) 27 rfl (.int .i64 0) 8 Tryd.underlying27 (by kernel_rfl) rfl (by decide) rfl (own_keep OW.out C1_3.out) (some ⟨g26, 0, none⟩) 1 1 (fl zzC ([0])) rfl (RowG.sg (n := 1) (c := 1) Fv5_26.out (show ([0]).length = 1 from rfl) (Nat.le_refl _) (by omega)).src (by unfold maxLen; omega) (by omega) C0_3.out.size ?_
    intro v27 X3_7 ho hb1 hg hloc
    have hox : X3_7.ownsRow w.heap.size 2 1 v27 (i + 1) (fl zzC (((List.range i).map g) ++ ([0]))) := by rw [fl_append]; exact ho
    have hbr := C0_3.out.trans hb1
    clear B0
    have B0 := zh hbr
    clear hbr
    have Ow27_8 := zh hox
    clear ho hox hb1 hg hloc
    simp only [ptr, Act.put, zA]
    refine zr (v27) X3_7 rfl ?_
    simp only [Act.put, zA]
    refine wpList_nil ?_
    have hown : X3_7.ownsRow w.heap.size 2 1 v27 (i + 1) (fl zzC ((List.range (i + 1)).map g)) := by
     rw [map_range1, hgi]
     exact Ow27_8.out
    go_upto_region 4 with fail
    refine wp_region_lit ?_
    refine zr (.int .i64 (i : Int)) X3_7 rfl ?_
    simp only [Act.put, zA]
    refine zr (.int .i64 ((i + 1 : Nat) : Int)) X3_7 (xo_addI (i : Int) 1 ((i + 1 : Nat) : Int) (by omega) (by omega) (by omega) rfl rfl rfl) ?_
    simp only [Act.put, zA]
    refine zr (.int .i64 ((i + 1 : Nat) : Int)) X3_7 rfl ?_
    simp only [Act.put, zA]
    refine wpList_nil ?_
    have hq9 := B0.out
    go_wp2_with fail
    go_roundw
    case rel => exact ⟨i + 1, by omega, by go_num, hown, hq9⟩
    case measure => simp [intOf]; omega
   | true =>
    cases HPO : Ty.posN l col i with
    | false =>
     go_upto_region 6 with fail
     refine wp_region_lit ?_
     refine zr (.slice A n c) wo rfl ?_
     simp only [Act.put, zA]
     refine wpList_call (by kernel_rfl) 25 Tryd.func25 (by kernel_rfl) (by kernel_rfl) _ _ #[.slice A n c] rfl (by kernel_rfl) ?_
     refine (satisfiable_as A n c l true HST wo (HL.out.keep B0.out)).mono ?_
     rintro e V2 ⟨rfl, hb⟩
     have B1 := zh hb
     clear hb 
     refine ⟨_, rfl, ?_⟩
     simp only [Act.put, zA]
     refine zr (.bool true) V2 rfl ?_
     simp only [Act.put, zA]
     refine zr (.slice A n c) V2 rfl ?_
     simp only [Act.put, zA]
     refine zr (.int .i64 (col : Int)) V2 rfl ?_
     simp only [Act.put, zA]
     refine zr (.int .i64 (i : Int)) V2 rfl ?_
     simp only [Act.put, zA]
     have C0_2 := zb B0 B1
     refine wpList_call (by kernel_rfl) 39 Tryd.func39 (by kernel_rfl) (by kernel_rfl) _ _ #[.slice A n c, .int .i64 (col : Int), .int .i64 (i : Int)] rfl (by kernel_rfl) ?_
     refine (possible_as A n c l col i hc false HPO V2 (HL.out.keep C0_2.out)).mono ?_
     rintro e V3 ⟨rfl, hb⟩
     have B2 := zh hb
     clear hb 
     refine ⟨_, rfl, ?_⟩
     simp only [Act.put, zA]
     refine zr (.bool false) V3 rfl ?_
     simp only [Act.put, zA]
     refine wpList_nil ?_
     have hgi : g i = 0 := by rw [← HGV.out i hi16]; exact if_neg (fun e => by rw [HPO] at e; cases e.2)
     go_upto_region 8 with fail
     refine wp_region_lit ?_
     refine zr (u7) V3 rfl ?_
     simp only [Act.put, zA]
     refine zr (.int .i64 0) V3 rfl ?_
     simp only [Act.put, zA]
     refine wpList_mk (by kernel_rfl) ([0].flatMap zzC).toArray 2 1 1 (xg_lit (E := zzC) (bytes := 8) (.int .i64 0) [.tmp 25] [0] 1 Tryd.underlying27 (by kernel_rfl) rfl (by decide) (by decide) rfl rfl) ?_
     intro g26 V4 hge h0 hb
     have Ge4 : Hid (V3.heap.size ≤ g26) := zh hge
     have B3 := zh hb
     have Fv5_26 : Hid (RowG zzC V4 g26 2 ([0])) := zh (h0)
     have Lt6 : Hid (g26 < V4.heap.size) := zh (xp_lt Fv5_26.out)
     clear hge h0 hb
     simp only [ptr, Act.put, zA]
     have C1_3 := zb B1 B2
     have C1_4 := zb C1_3 B3
     have C0_3 := zb C0_2 B2
     have C0_4 := zb C0_3 B3
     refine wpList_app2 (size := 1) (by kernel_rfl) (.tmp 24) (.tmp 26) 27 rfl (.int .i64 0) 8 Tryd.underlying27 (by kernel_rfl) rfl (by decide) rfl (own_keep OW.out C1_4.out) (some ⟨g26, 0, none⟩) 1 1 (fl zzC ([0])) rfl (RowG.sg (n := 1) (c := 1) Fv5_26.out (show ([0]).length = 1 from rfl) (Nat.le_refl _) (by omega)).src (by unfold maxLen; omega) (by omega) C0_4.out.size ?_
     intro v27 X4_7 ho hb1 hg hloc
     have hox : X4_7.ownsRow w.heap.size 2 1 v27 (i + 1) (fl zzC (((List.range i).map g) ++ ([0]))) := by rw [fl_append]; exact ho
     have hbr := C0_4.out.trans hb1
     clear B0
     have B0 := zh hbr
     clear hbr
     have Ow27_8 := zh hox
     clear ho hox hb1 hg hloc
     simp only [ptr, Act.put, zA]
     refine zr (v27) X4_7 rfl ?_
     simp only [Act.put, zA]
     refine wpList_nil ?_
     have hown : X4_7.ownsRow w.heap.size 2 1 v27 (i + 1) (fl zzC ((List.range (i + 1)).map g)) := by
      rw [map_range1, hgi]
      exact Ow27_8.out
     go_upto_region 4 with fail
     refine wp_region_lit ?_
     refine zr (.int .i64 (i : Int)) X4_7 rfl ?_
     simp only [Act.put, zA]
     refine zr (.int .i64 ((i + 1 : Nat) : Int)) X4_7 (xo_addI (i : Int) 1 ((i + 1 : Nat) : Int) (by omega) (by omega) (by omega) rfl rfl rfl) ?_
     simp only [Act.put, zA]
     refine zr (.int .i64 ((i + 1 : Nat) : Int)) X4_7 rfl ?_
     simp only [Act.put, zA]
     refine wpList_nil ?_
     have hq9 := B0.out
     go_wp2_with fail
     go_roundw
     case rel => exact ⟨i + 1, by omega, by go_num, hown, hq9⟩
     case measure => simp [intOf]; omega
    | true =>
     go_upto_region 6 with fail
     refine wp_region_lit ?_
     refine zr (.slice A n c) wo rfl ?_
     simp only [Act.put, zA]
     refine wpList_call (by kernel_rfl) 25 Tryd.func25 (by kernel_rfl) (by kernel_rfl) _ _ #[.slice A n c] rfl (by kernel_rfl) ?_
     refine (satisfiable_as A n c l true HST wo (HL.out.keep B0.out)).mono ?_
     rintro e V2 ⟨rfl, hb⟩
     have B1 := zh hb
     clear hb 
     refine ⟨_, rfl, ?_⟩
     simp only [Act.put, zA]
     refine zr (.bool true) V2 rfl ?_
     simp only [Act.put, zA]
     refine zr (.slice A n c) V2 rfl ?_
     simp only [Act.put, zA]
     refine zr (.int .i64 (col : Int)) V2 rfl ?_
     simp only [Act.put, zA]
     refine zr (.int .i64 (i : Int)) V2 rfl ?_
     simp only [Act.put, zA]
     have C0_2 := zb B0 B1
     refine wpList_call (by kernel_rfl) 39 Tryd.func39 (by kernel_rfl) (by kernel_rfl) _ _ #[.slice A n c, .int .i64 (col : Int), .int .i64 (i : Int)] rfl (by kernel_rfl) ?_
     refine (possible_as A n c l col i hc true HPO V2 (HL.out.keep C0_2.out)).mono ?_
     rintro e V3 ⟨rfl, hb⟩
     have B2 := zh hb
     clear hb 
     refine ⟨_, rfl, ?_⟩
     simp only [Act.put, zA]
     refine zr (.bool true) V3 rfl ?_
     simp only [Act.put, zA]
     refine wpList_nil ?_
     go_upto_region 7 with fail
     refine wp_region_lit ?_
     refine zr (.int .i64 (rows : Int)) V3 rfl ?_
     simp only [Act.put, zA]
     refine zr (.int .i64 (rows : Int)) V3 rfl ?_
     simp only [Act.put, zA]
     refine wpList_nil ?_
     have hgi : g i = (rows : Int) := by rw [← HGV.out i hi16]; exact if_pos ⟨HST, HPO⟩
     go_upto_region 8 with fail
     refine wp_region_lit ?_
     refine zr (u7) V3 rfl ?_
     simp only [Act.put, zA]
     refine zr (.int .i64 (rows : Int)) V3 rfl ?_
     simp only [Act.put, zA]
     refine wpList_mk (by kernel_rfl) ([(rows : Int)].flatMap zzC).toArray 2 1 1 (xg_lit (E := zzC) (bytes := 8) (.int .i64 0) [.tmp 25] [(rows : Int)] 1 Tryd.underlying27 (by kernel_rfl) rfl (by decide) (by decide) rfl rfl) ?_
     intro g26 V4 hge h0 hb
     have Ge4 : Hid (V3.heap.size ≤ g26) := zh hge
     have B3 := zh hb
     have Fv5_26 : Hid (RowG zzC V4 g26 2 ([(rows : Int)])) := zh (h0)
     have Lt6 : Hid (g26 < V4.heap.size) := zh (xp_lt Fv5_26.out)
     clear hge h0 hb
     simp only [ptr, Act.put, zA]
     have C1_3 := zb B1 B2
     have C1_4 := zb C1_3 B3
     have C0_3 := zb C0_2 B2
     have C0_4 := zb C0_3 B3
     refine wpList_app2 (size := 1) (by kernel_rfl) (.tmp 24) (.tmp 26) 27 rfl (.int .i64 0) 8 Tryd.underlying27 (by kernel_rfl) rfl (by decide) rfl (own_keep OW.out C1_4.out) (some ⟨g26, 0, none⟩) 1 1 (fl zzC ([(rows : Int)])) rfl (RowG.sg (n := 1) (c := 1) Fv5_26.out (show ([(rows : Int)]).length = 1 from rfl) (Nat.le_refl _) (by omega)).src (by unfold maxLen; omega) (by omega) C0_4.out.size ?_
     intro v27 X4_7 ho hb1 hg hloc
     have hox : X4_7.ownsRow w.heap.size 2 1 v27 (i + 1) (fl zzC (((List.range i).map g) ++ ([(rows : Int)]))) := by rw [fl_append]; exact ho
     have hbr := C0_4.out.trans hb1
     clear B0
     have B0 := zh hbr
     clear hbr
     have Ow27_8 := zh hox
     clear ho hox hb1 hg hloc
     simp only [ptr, Act.put, zA]
     refine zr (v27) X4_7 rfl ?_
     simp only [Act.put, zA]
     refine wpList_nil ?_
     have hown : X4_7.ownsRow w.heap.size 2 1 v27 (i + 1) (fl zzC ((List.range (i + 1)).map g)) := by
      rw [map_range1, hgi]
      exact Ow27_8.out
     go_upto_region 4 with fail
     refine wp_region_lit ?_
     refine zr (.int .i64 (i : Int)) X4_7 rfl ?_
     simp only [Act.put, zA]
     refine zr (.int .i64 ((i + 1 : Nat) : Int)) X4_7 (xo_addI (i : Int) 1 ((i + 1 : Nat) : Int) (by omega) (by omega) (by omega) rfl rfl rfl) ?_
     simp only [Act.put, zA]
     refine zr (.int .i64 ((i + 1 : Nat) : Int)) X4_7 rfl ?_
     simp only [Act.put, zA]
     refine wpList_nil ?_
     have hq9 := B0.out
     go_wp2_with fail
     go_roundw
     case rel => exact ⟨i + 1, by omega, by go_num, hown, hq9⟩
     case measure => simp [intOf]; omega
  ·have hci3 : ¬ ((i : Int) < 16) := by omega
   go_upto_region 3 with fail
   refine wp_region_lit ?_
   refine zr (.int .i64 (i : Int)) wo rfl ?_
   simp only [Act.put, zA]
   refine zr (.bool false) wo (xo_lssF .i64 (i : Int) 16 (by omega) rfl rfl rfl) ?_
   simp only [Act.put, zA]
   refine wpList_nil ?_
   go_upto_region 9 with fail
   refine wp_region_lit ?_
   refine zr (u7) wo rfl ?_
   simp only [Act.put, zA]
   refine zr (u7) wo rfl ?_
   simp only [Act.put, zA]
   refine wpList_nil ?_
   obtain rfl : i = 16 := by omega
   have ho := OW.out
   have hbf := B0.out
   go_wp2_with fail
   go_ret
   exact ⟨_, rfl, ho, hbf⟩
end Go.Proofs.YtbecajihgbbgjaaDoor

namespace Go.Proofs.YtbecajihgbbgjaaDoor
set_option maxRecDepth 8000
open Go.RowKit Go.Proofs.YtbecajihgbbgjaaDoor.K
attribute [local irreducible] wpList wpQuiet
def stC (l : List UInt8) : List Value := [.string (sB l)]
instance : Enc stC 1 := ⟨fun _ => rfl, fun x u hu => by
 simp only [stC, List.mem_cons, List.not_mem_nil, or_false] at hu
 subst hu
 rfl, by decide⟩
end Go.Proofs.YtbecajihgbbgjaaDoor

