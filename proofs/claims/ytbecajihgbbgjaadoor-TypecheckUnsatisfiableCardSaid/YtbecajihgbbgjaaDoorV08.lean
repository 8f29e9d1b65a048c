/- Several texts in one: Yck, Ycl, Ycp. -/
import Derived.Test.YtbecajihgbbgjaaDoorV07
import Derived.Lib.Mul64
set_option linter.unusedVariables false
set_option linter.unusedSimpArgs false
set_option linter.unusedSectionVars false
namespace Go.Proofs.YtbecajihgbbgjaaDoor
set_option maxRecDepth 8000
open Go.RowKit Go.Proofs.YtbecajihgbbgjaaDoor.K
attribute [local irreducible] wpList wpQuiet
set_option maxRecDepth 100000 in
set_option maxHeartbeats 16000000 in
theorem kd2_as (kd col k : Nat) (A : Option Addr) (n c : Nat) (lw up : Nat → Nat) (v : Nat) (hc : col < 4) (w : World) : Calls Tryd.prog 46 #[.agg #[.int .i64 (kd : Int), .int .i64 (col : Int), .int .i64 (k : Int), .slice A n c], .agg #[.int .i64 (lw 0 : Int), .int .i64 (up 0 : Int), .int .i64 (lw 1 : Int), .int .i64 (up 1 : Int), .int .i64 (lw 2 : Int), .int .i64 (up 2 : Int), .int .i64 (lw 3 : Int), .int .i64 (up 3 : Int)], .int .i64 (v : Int)] w fun e w' => e = .returned (.tuple #[.int .i64 (1 : Int), .int .i64 (1 : Int)]) ∧ Below w.heap.size w w' := by
 obtain ⟨a, ha⟩ : ∃ a, lw col = a := ⟨_, rfl⟩
 have HA := zh ha
 obtain ⟨d, hd⟩ : ∃ d, up col = d := ⟨_, rfl⟩
 have HD := zh hd
 clear ha hd
 go_enter Tryd.func46, Tryd.ntmps46
 go_upto_region 1 with fail
 refine wp_named2 (fun V1 hb g0 g1 hlt => ?_)
 have B0 := zh hb
 have Fv0_3 : Hid (V1.heap[w.heap.size]? = some (.cells #[.int .i64 (kd : Int), .int .i64 (col : Int), .int .i64 (k : Int), .slice A n c] 24 (0, 0))) := zh (g0)
 have Fv1_4 : Hid (V1.heap[(w.heap.size + 1)]? = some (.cells #[.int .i64 ((lw 0 : Nat) : Int), .int .i64 ((up 0 : Nat) : Int), .int .i64 ((lw 1 : Nat) : Int), .int .i64 ((up 1 : Nat) : Int), .int .i64 ((lw 2 : Nat) : Int), .int .i64 ((up 2 : Nat) : Int), .int .i64 ((lw 3 : Nat) : Int), .int .i64 ((up 3 : Nat) : Int)] 84 (0, 0))) := zh (g1)
 have Nb0_1 : Hid (w.heap.size ≠ (w.heap.size + 1)) := zh (by omega)
 have Gb0 : Hid (w.heap.size ≤ w.heap.size) := zh (by omega)
 have Gb1 : Hid (w.heap.size ≤ (w.heap.size + 1)) := zh (by omega)
 clear hb g0 g1 hlt
 have Lt0 : Hid (w.heap.size < V1.heap.size) := zh (xp_lt Fv0_3.out)
 have Lt1 : Hid ((w.heap.size + 1) < V1.heap.size) := zh (xp_lt Fv1_4.out)
 refine wp_region_lit ?_
 refine zr (.int .i64 1) V1 rfl ?_
 simp only [Act.put, zA]
 refine zr (.int .i64 1) V1 rfl ?_
 simp only [Act.put, zA]
 refine wpList_nil ?_
 have hbf := B0.out
 go_wp2_with fail
 go_ret2
 exact ⟨rfl, hbf⟩
set_option maxRecDepth 100000 in
set_option maxHeartbeats 16000000 in
theorem kd3_as (kd col k : Nat) (A : Option Addr) (n c : Nat) (lw up : Nat → Nat) (v : Nat) (hc : col < 4) (w : World) : Calls Tryd.prog 47 #[.agg #[.int .i64 (kd : Int), .int .i64 (col : Int), .int .i64 (k : Int), .slice A n c], .agg #[.int .i64 (lw 0 : Int), .int .i64 (up 0 : Int), .int .i64 (lw 1 : Int), .int .i64 (up 1 : Int), .int .i64 (lw 2 : Int), .int .i64 (up 2 : Int), .int .i64 (lw 3 : Int), .int .i64 (up 3 : Int)], .int .i64 (v : Int)] w fun e w' => e = .returned (.tuple #[.int .i64 ((up col : Nat) : Int), .int .i64 (1 : Int)]) ∧ Below w.heap.size w w' := by
 obtain ⟨a, ha⟩ : ∃ a, lw col = a := ⟨_, rfl⟩
 have HA := zh ha
 obtain ⟨d, hd⟩ : ∃ d, up col = d := ⟨_, rfl⟩
 have HD := zh hd
 clear ha hd
 go_enter Tryd.func47, Tryd.ntmps47
 go_upto_region 1 with fail
 refine wp_named2 (fun V1 hb g0 g1 hlt => ?_)
 have B0 := zh hb
 have Fv0_3 : Hid (V1.heap[w.heap.size]? = some (.cells #[.int .i64 (kd : Int), .int .i64 (col : Int), .int .i64 (k : Int), .slice A n c] 24 (0, 0))) := zh (g0)
 have Fv1_4 : Hid (V1.heap[(w.heap.size + 1)]? = some (.cells #[.int .i64 ((lw 0 : Nat) : Int), .int .i64 ((up 0 : Nat) : Int), .int .i64 ((lw 1 : Nat) : Int), .int .i64 ((up 1 : Nat) : Int), .int .i64 ((lw 2 : Nat) : Int), .int .i64 ((up 2 : Nat) : Int), .int .i64 ((lw 3 : Nat) : Int), .int .i64 ((up 3 : Nat) : Int)] 84 (0, 0))) := zh (g1)
 have Nb0_1 : Hid (w.heap.size ≠ (w.heap.size + 1)) := zh (by omega)
 have Gb0 : Hid (w.heap.size ≤ w.heap.size) := zh (by omega)
 have Gb1 : Hid (w.heap.size ≤ (w.heap.size + 1)) := zh (by omega)
 clear hb g0 g1 hlt
 have Lt0 : Hid (w.heap.size < V1.heap.size) := zh (xp_lt Fv0_3.out)
 have Lt1 : Hid ((w.heap.size + 1) < V1.heap.size) := zh (xp_lt Fv1_4.out)
 refine wp_region_lit ?_
 refine zr (.pointer (some ⟨w.heap.size, 1, none⟩)) V1 (xo_fld0 1 w.heap.size 1 (by kernel_rfl) rfl rfl) ?_
 simp only [Act.put, zA]
 refine zr (.int .i64 (col : Int)) V1 (xo_load1 ⟨w.heap.size, 1, none⟩ _ (cells_at Fv0_3.out 1 rfl) Tryd.underlying3 rfl rfl rfl) ?_
 simp only [Act.put, zA]
 refine zr (.pointer (some ⟨(w.heap.size + 1), col * 2, none⟩)) V1 (xsp_iad (w.heap.size + 1) col hc rfl rfl rfl) ?_
 simp only [Act.put, zA]
 refine zr (.pointer (some ⟨(w.heap.size + 1), col * 2 + 1, none⟩)) V1 (xo_fld 1 (w.heap.size + 1) (col * 2) 1 (by kernel_rfl) rfl rfl) ?_
 simp only [Act.put, zA]
 refine zr (.int .i64 (d : Int)) V1 (xo_load1 ⟨(w.heap.size + 1), col * 2 + 1, none⟩ _ (sp_range Fv1_4.out col a d hc HA.out HD.out 1 _ rfl) Tryd.underlying3 rfl rfl rfl) ?_
 simp only [Act.put, zA]
 refine zr (.int .i64 (d : Int)) V1 rfl ?_
 simp only [Act.put, zA]
 refine zr (.int .i64 1) V1 rfl ?_
 simp only [Act.put, zA]
 refine wpList_nil ?_
 have hdd := HD.out
 subst hdd
 have hbf := B0.out
 go_wp2_with fail
 go_ret2
 exact ⟨rfl, hbf⟩
set_option maxRecDepth 100000 in
set_option maxHeartbeats 16000000 in
theorem kd4_as (kd col k : Nat) (A : Option Addr) (n c : Nat) (lw up : Nat → Nat) (v : Nat) (hc : col < 4) (w : World) : Calls Tryd.prog 48 #[.agg #[.int .i64 (kd : Int), .int .i64 (col : Int), .int .i64 (k : Int), .slice A n c], .agg #[.int .i64 (lw 0 : Int), .int .i64 (up 0 : Int), .int .i64 (lw 1 : Int), .int .i64 (up 1 : Int), .int .i64 (lw 2 : Int), .int .i64 (up 2 : Int), .int .i64 (lw 3 : Int), .int .i64 (up 3 : Int)], .int .i64 (v : Int)] w fun e w' => e = .returned (.tuple #[.int .i64 ((up col : Nat) : Int), .int .i64 ((k : Nat) : Int)]) ∧ Below w.heap.size w w' := by
 obtain ⟨a, ha⟩ : ∃ a, lw col = a := ⟨_, rfl⟩
 have HA := zh ha
 obtain ⟨d, hd⟩ : ∃ d, up col = d := ⟨_, rfl⟩
 have HD := zh hd
 clear ha hd
 go_enter Tryd.func48, Tryd.ntmps48
 go_upto_region 1 with fail
 refine wp_named2 (fun V1 hb g0 g1 hlt => ?_)
 have B0 := zh hb
 have Fv0_3 : Hid (V1.heap[w.heap.size]? = some (.cells #[.int .i64 (kd : Int), .int .i64 (col : Int), .int .i64 (k : Int), .slice A n c] 24 (0, 0))) := zh (g0)
 have Fv1_4 : Hid (V1.heap[(w.heap.size + 1)]? = some (.cells #[.int .i64 ((lw 0 : Nat) : Int), .int .i64 ((up 0 : Nat) : Int), .int .i64 ((lw 1 : Nat) : Int), .int .i64 ((up 1 : Nat) : Int), .int .i64 ((lw 2 : Nat) : Int), .int .i64 ((up 2 : Nat) : Int), .int .i64 ((lw 3 : Nat) : Int), .int .i64 ((up 3 : Nat) : Int)] 84 (0, 0))) := zh (g1)
 have Nb0_1 : Hid (w.heap.size ≠ (w.heap.size + 1)) := zh (by omega)
 have Gb0 : Hid (w.heap.size ≤ w.heap.size) := zh (by omega)
 have Gb1 : Hid (w.heap.size ≤ (w.heap.size + 1)) := zh (by omega)
 clear hb g0 g1 hlt
 have Lt0 : Hid (w.heap.size < V1.heap.size) := zh (xp_lt Fv0_3.out)
 have Lt1 : Hid ((w.heap.size + 1) < V1.heap.size) := zh (xp_lt Fv1_4.out)
 refine wp_later_lex (by kernel_rfl) (lexOK_of (by kernel_rfl) (by kernel_rfl)) ?_
 refine zv (.pointer (some ⟨w.heap.size, 1, none⟩)) (fun v hv => (xo_fld0 1 w.heap.size 1 (by kernel_rfl) rfl rfl)) ?_
 simp only [Act.put, zA]
 refine zv (.int .i64 (col : Int)) (fun v hv => (xo_load1 ⟨w.heap.size, 1, none⟩ _ (cells_at (heap_keep Fv0_3.out (later_bel hv)) 1 rfl) Tryd.underlying3 rfl rfl rfl)) ?_
 simp only [Act.put, zA]
 refine zv (.pointer (some ⟨(w.heap.size + 1), col * 2, none⟩)) (fun v hv => (xsp_iad (w.heap.size + 1) col hc rfl rfl rfl)) ?_
 simp only [Act.put, zA]
 refine zv (.pointer (some ⟨(w.heap.size + 1), col * 2 + 1, none⟩)) (fun v hv => (xo_fld 1 (w.heap.size + 1) (col * 2) 1 (by kernel_rfl) rfl rfl)) ?_
 simp only [Act.put, zA]
 refine zv (.int .i64 (d : Int)) (fun v hv => (xo_load1 ⟨(w.heap.size + 1), col * 2 + 1, none⟩ _ (sp_range (heap_keep Fv1_4.out (later_bel hv)) col a d hc HA.out HD.out 1 _ rfl) Tryd.underlying3 rfl rfl rfl)) ?_
 simp only [Act.put, zA]
 refine zv (.pointer (some ⟨w.heap.size, 2, none⟩)) (fun v hv => (xo_fld0 2 w.heap.size 2 (by kernel_rfl) rfl rfl)) ?_
 simp only [Act.put, zA]
 refine zv (.int .i64 (k : Int)) (fun v hv => (xo_load1 ⟨w.heap.size, 2, none⟩ _ (cells_at (heap_keep Fv0_3.out (later_bel hv)) 2 rfl) Tryd.underlying3 rfl rfl rfl)) ?_
 simp only [Act.put, zA]
 refine zv (.int .i64 (d : Int)) (fun v hv => rfl) ?_
 simp only [Act.put, zA]
 refine zv (.int .i64 (k : Int)) (fun v hv => rfl) ?_
 simp only [Act.put, zA]
 refine wpQuiet_nil ?_
 intro X1_2
 have hb := X1_2.below
 generalize X1_2.at = V2 at *
 have B1 := zh hb
 clear hb
 have hdd := HD.out
 subst hdd
 have C0_2 := zb B0 B1
 have hbf := C0_2.out
 go_wp2_with fail
 go_ret2
 exact ⟨rfl, hbf⟩
set_option maxRecDepth 100000 in
set_option maxHeartbeats 16000000 in
theorem kd1_as (kd col k : Nat) (A : Option Addr) (n c : Nat) (lw up : Nat → Nat) (v : Nat) (hc : col < 4) (r : Nat) (hr : (if lw col ≤ v ∧ v ≤ up col then 1 else 0) = r) (w : World) : Calls Tryd.prog 44 #[.agg #[.int .i64 (kd : Int), .int .i64 (col : Int), .int .i64 (k : Int), .slice A n c], .agg #[.int .i64 (lw 0 : Int), .int .i64 (up 0 : Int), .int .i64 (lw 1 : Int), .int .i64 (up 1 : Int), .int .i64 (lw 2 : Int), .int .i64 (up 2 : Int), .int .i64 (lw 3 : Int), .int .i64 (up 3 : Int)], .int .i64 (v : Int)] w fun e w' => e = .returned (.tuple #[.int .i64 ((r : Nat) : Int), .int .i64 (1 : Int)]) ∧ Below w.heap.size w w' := by
 have HRR := zh hr
 clear hr
 obtain ⟨a, ha⟩ : ∃ a, lw col = a := ⟨_, rfl⟩
 have HA := zh ha
 obtain ⟨d, hd⟩ : ∃ d, up col = d := ⟨_, rfl⟩
 have HD := zh hd
 clear ha hd
 go_enter Tryd.func44, Tryd.ntmps44
 go_upto_region 1 with fail
 refine wp_named2 (fun V1 hb g0 g1 hlt => ?_)
 have B0 := zh hb
 have Fv0_3 : Hid (V1.heap[w.heap.size]? = some (.cells #[.int .i64 (kd : Int), .int .i64 (col : Int), .int .i64 (k : Int), .slice A n c] 24 (0, 0))) := zh (g0)
 have Fv1_4 : Hid (V1.heap[(w.heap.size + 1)]? = some (.cells #[.int .i64 ((lw 0 : Nat) : Int), .int .i64 ((up 0 : Nat) : Int), .int .i64 ((lw 1 : Nat) : Int), .int .i64 ((up 1 : Nat) : Int), .int .i64 ((lw 2 : Nat) : Int), .int .i64 ((up 2 : Nat) : Int), .int .i64 ((lw 3 : Nat) : Int), .int .i64 ((up 3 : Nat) : Int)] 84 (0, 0))) := zh (g1)
 have Nb0_1 : Hid (w.heap.size ≠ (w.heap.size + 1)) := zh (by omega)
 have Gb0 : Hid (w.heap.size ≤ w.heap.size) := zh (by omega)
 have Gb1 : Hid (w.heap.size ≤ (w.heap.size + 1)) := zh (by omega)
 clear hb g0 g1 hlt
 have Lt0 : Hid (w.heap.size < V1.heap.size) := zh (xp_lt Fv0_3.out)
 have Lt1 : Hid ((w.heap.size + 1) < V1.heap.size) := zh (xp_lt Fv1_4.out)
 refine wp_region_lit ?_
 refine zr (.agg #[.int .i64 ((lw 0 : Nat) : Int), .int .i64 ((up 0 : Nat) : Int), .int .i64 ((lw 1 : Nat) : Int), .int .i64 ((up 1 : Nat) : Int), .int .i64 ((lw 2 : Nat) : Int), .int .i64 ((up 2 : Nat) : Int), .int .i64 ((lw 3 : Nat) : Int), .int .i64 ((up 3 : Nat) : Int)]) V1 (xo_loadW (w.heap.size + 1) _ Fv1_4.out Tryd.underlying84 rfl (by kernel_rfl) rfl rfl) ?_
 simp only [Act.put, zA]
 refine zr (.pointer (some ⟨w.heap.size, 1, none⟩)) V1 (xo_fld0 1 w.heap.size 1 (by kernel_rfl) rfl rfl) ?_
 simp only [Act.put, zA]
 refine zr (.int .i64 (col : Int)) V1 (xo_load1 ⟨w.heap.size, 1, none⟩ _ (cells_at Fv0_3.out 1 rfl) Tryd.underlying3 rfl rfl rfl) ?_
 simp only [Act.put, zA]
 refine zr (.int .i64 (v : Int)) V1 rfl ?_
 simp only [Act.put, zA]
 refine wpList_call (by kernel_rfl) 45 Tryd.func45 (by kernel_rfl) (by kernel_rfl) _ _ #[.agg #[.int .i64 ((lw 0 : Nat) : Int), .int .i64 ((up 0 : Nat) : Int), .int .i64 ((lw 1 : Nat) : Int), .int .i64 ((up 1 : Nat) : Int), .int .i64 ((lw 2 : Nat) : Int), .int .i64 ((up 2 : Nat) : Int), .int .i64 ((lw 3 : Nat) : Int), .int .i64 ((up 3 : Nat) : Int)], .int .i64 (col : Int), .int .i64 (v : Int)] rfl (by kernel_rfl) ?_
 refine (count_sp lw up col v hc r HRR.out V1).mono ?_
 rintro e V2 ⟨rfl, hb⟩
 have B1 := zh hb
 clear hb 
 refine ⟨_, rfl, ?_⟩
 simp only [Act.put, zA]
 refine zr (.int .i64 (r : Int)) V2 rfl ?_
 simp only [Act.put, zA]
 refine zr (.int .i64 1) V2 rfl ?_
 simp only [Act.put, zA]
 refine wpList_nil ?_
 have C0_2 := zb B0 B1
 have hbf := C0_2.out
 go_wp2_with fail
 go_ret2
 exact ⟨rfl, hbf⟩
set_option maxRecDepth 100000 in
set_option maxHeartbeats 16000000 in
theorem kd5_as (kd col k : Nat) (A : Option Addr) (n c : Nat) (lw up : Nat → Nat) (v : Nat) (hc : col < 4) (u : Nat) (hu : v % 16 = u) (r : Nat) (hr : (if lw 0 ≤ u ∧ u ≤ up 0 then 1 else 0) = r) (w : World) : Calls Tryd.prog 49 #[.agg #[.int .i64 (kd : Int), .int .i64 (col : Int), .int .i64 (k : Int), .slice A n c], .agg #[.int .i64 (lw 0 : Int), .int .i64 (up 0 : Int), .int .i64 (lw 1 : Int), .int .i64 (up 1 : Int), .int .i64 (lw 2 : Int), .int .i64 (up 2 : Int), .int .i64 (lw 3 : Int), .int .i64 (up 3 : Int)], .int .i64 (v : Int)] w fun e w' => e = .returned (.tuple #[.int .i64 ((r : Nat) : Int), .int .i64 (1 : Int)]) ∧ Below w.heap.size w w' := by
 have HRR := zh hr
 have HU := zh hu
 clear hr hu
 obtain ⟨a, ha⟩ : ∃ a, lw col = a := ⟨_, rfl⟩
 have HA := zh ha
 obtain ⟨d, hd⟩ : ∃ d, up col = d := ⟨_, rfl⟩
 have HD := zh hd
 clear ha hd
 go_enter Tryd.func49, Tryd.ntmps49
 go_upto_region 1 with fail
 refine wp_named2 (fun V1 hb g0 g1 hlt => ?_)
 have B0 := zh hb
 have Fv0_3 : Hid (V1.heap[w.heap.size]? = some (.cells #[.int .i64 (kd : Int), .int .i64 (col : Int), .int .i64 (k : Int), .slice A n c] 24 (0, 0))) := zh (g0)
 have Fv1_4 : Hid (V1.heap[(w.heap.size + 1)]? = some (.cells #[.int .i64 ((lw 0 : Nat) : Int), .int .i64 ((up 0 : Nat) : Int), .int .i64 ((lw 1 : Nat) : Int), .int .i64 ((up 1 : Nat) : Int), .int .i64 ((lw 2 : Nat) : Int), .int .i64 ((up 2 : Nat) : Int), .int .i64 ((lw 3 : Nat) : Int), .int .i64 ((up 3 : Nat) : Int)] 84 (0, 0))) := zh (g1)
 have Nb0_1 : Hid (w.heap.size ≠ (w.heap.size + 1)) := zh (by omega)
 have Gb0 : Hid (w.heap.size ≤ w.heap.size) := zh (by omega)
 have Gb1 : Hid (w.heap.size ≤ (w.heap.size + 1)) := zh (by omega)
 clear hb g0 g1 hlt
 have Lt0 : Hid (w.heap.size < V1.heap.size) := zh (xp_lt Fv0_3.out)
 have Lt1 : Hid ((w.heap.size + 1) < V1.heap.size) := zh (xp_lt Fv1_4.out)
 refine wp_region_lit ?_
 refine zr (.agg #[.int .i64 ((lw 0 : Nat) : Int), .int .i64 ((up 0 : Nat) : Int), .int .i64 ((lw 1 : Nat) : Int), .int .i64 ((up 1 : Nat) : Int), .int .i64 ((lw 2 : Nat) : Int), .int .i64 ((up 2 : Nat) : Int), .int .i64 ((lw 3 : Nat) : Int), .int .i64 ((up 3 : Nat) : Int)]) V1 (xo_loadW (w.heap.size + 1) _ Fv1_4.out Tryd.underlying84 rfl (by kernel_rfl) rfl rfl) ?_
 simp only [Act.put, zA]
 refine zr (.int .i64 (v : Int)) V1 rfl ?_
 simp only [Act.put, zA]
 refine zr (.int .i64 (u : Int)) V1 (xo_remN .i64 v 16 u (by omega) HU.out rfl rfl rfl) ?_
 simp only [Act.put, zA]
 refine wpList_call (by kernel_rfl) 45 Tryd.func45 (by kernel_rfl) (by kernel_rfl) _ _ #[.agg #[.int .i64 ((lw 0 : Nat) : Int), .int .i64 ((up 0 : Nat) : Int), .int .i64 ((lw 1 : Nat) : Int), .int .i64 ((up 1 : Nat) : Int), .int .i64 ((lw 2 : Nat) : Int), .int .i64 ((up 2 : Nat) : Int), .int .i64 ((lw 3 : Nat) : Int), .int .i64 ((up 3 : Nat) : Int)], .int .i64 0, .int .i64 (u : Int)] rfl (by kernel_rfl) ?_
 refine (count_sp lw up 0 u (by decide) r HRR.out V1).mono ?_
 rintro e V2 ⟨rfl, hb⟩
 have B1 := zh hb
 clear hb 
 refine ⟨_, rfl, ?_⟩
 simp only [Act.put, zA]
 refine zr (.int .i64 (r : Int)) V2 rfl ?_
 simp only [Act.put, zA]
 refine zr (.int .i64 1) V2 rfl ?_
 simp only [Act.put, zA]
 refine wpList_nil ?_
 have C0_2 := zb B0 B1
 have hbf := C0_2.out
 go_wp2_with fail
 go_ret2
 exact ⟨rfl, hbf⟩
end Go.Proofs.YtbecajihgbbgjaaDoor

namespace Go.Proofs.YtbecajihgbbgjaaDoor
set_option maxRecDepth 8000
open Go.RowKit Go.Proofs.YtbecajihgbbgjaaDoor.K
attribute [local irreducible] wpList wpQuiet
set_option maxRecDepth 100000 in
set_option maxHeartbeats 16000000 in
theorem mul64_as (x y : Nat) (hx : x < 18446744073709551616) (hy : y < 18446744073709551616) (w : World) : Calls Tryd.prog 60 #[.int .u64 (x : Int), .int .u64 (y : Int)] w fun e w' => e = .returned (.tuple #[.int .u64 ((x * y / 18446744073709551616 : Nat) : Int), .int .u64 ((x * y % 18446744073709551616 : Nat) : Int)]) ∧ w' = w := by
 obtain ⟨x0, hx0⟩ : ∃ z, x % 4294967296 = z := ⟨_, rfl⟩
 have HX0 := zh hx0
 clear hx0
 obtain ⟨x1, hx1⟩ : ∃ z, x / 4294967296 = z := ⟨_, rfl⟩
 have HX1 := zh hx1
 clear hx1
 obtain ⟨y0, hy0⟩ : ∃ z, y % 4294967296 = z := ⟨_, rfl⟩
 have HY0 := zh hy0
 clear hy0
 obtain ⟨y1, hy1⟩ : ∃ z, y / 4294967296 = z := ⟨_, rfl⟩
 have HY1 := zh hy1
 clear hy1
 obtain ⟨w0, hw0⟩ : ∃ z, x0 * y0 = z := ⟨_, rfl⟩
 have HW0 := zh hw0
 clear hw0
 obtain ⟨t1, ht1⟩ : ∃ z, x1 * y0 = z := ⟨_, rfl⟩
 have HT1 := zh ht1
 clear ht1
 obtain ⟨s0, hs0⟩ : ∃ z, w0 / 4294967296 = z := ⟨_, rfl⟩
 have HS0 := zh hs0
 clear hs0
 obtain ⟨tt, htt⟩ : ∃ z, t1 + s0 = z := ⟨_, rfl⟩
 have HTT := zh htt
 clear htt
 obtain ⟨u1, hu1⟩ : ∃ z, tt % 4294967296 = z := ⟨_, rfl⟩
 have HU1 := zh hu1
 clear hu1
 obtain ⟨u2, hu2⟩ : ∃ z, tt / 4294967296 = z := ⟨_, rfl⟩
 have HU2 := zh hu2
 clear hu2
 obtain ⟨vv, hvv⟩ : ∃ z, x0 * y1 = z := ⟨_, rfl⟩
 have HVV := zh hvv
 clear hvv
 obtain ⟨w1, hw1⟩ : ∃ z, u1 + vv = z := ⟨_, rfl⟩
 have HW1 := zh hw1
 clear hw1
 obtain ⟨zz, hzz⟩ : ∃ z, x1 * y1 = z := ⟨_, rfl⟩
 have HZZ := zh hzz
 clear hzz
 obtain ⟨s1, hs1⟩ : ∃ z, w1 / 4294967296 = z := ⟨_, rfl⟩
 have HS1 := zh hs1
 clear hs1
 obtain ⟨z2, hz2⟩ : ∃ z, zz + u2 = z := ⟨_, rfl⟩
 have HZ2 := zh hz2
 clear hz2
 obtain ⟨hh, hhh⟩ : ∃ z, z2 + s1 = z := ⟨_, rfl⟩
 have HHH := zh hhh
 clear hhh
 obtain ⟨ll, hll⟩ : ∃ z, x * y % 18446744073709551616 = z := ⟨_, rfl⟩
 have HLL := zh hll
 clear hll
 have bnd := Lib.mul64_hi x y hx hy
 rw [HX0.out, HX1.out, HY0.out, HY1.out, HW0.out, HT1.out, HS0.out, HTT.out, HU1.out, HU2.out, HVV.out, HW1.out, HZZ.out, HS1.out, HZ2.out, HHH.out] at bnd
 obtain ⟨bd, bt, bw, hhi⟩ := bnd
 have lx0 : x0 ≤ 4294967295 := by have := HX0.out; omega
 have lx1 : x1 ≤ 4294967295 := by have := HX1.out; omega
 have ly0 : y0 ≤ 4294967295 := by have := HY0.out; omega
 have ly1 : y1 ≤ 4294967295 := by have := HY1.out; omega
 have lt1 := Lib.half_mul_le lx1 ly0
 rw [HT1.out] at lt1
 have lvv := Lib.half_mul_le lx0 ly1
 rw [HVV.out] at lvv
 have lzz := Lib.half_mul_le lx1 ly1
 rw [HZZ.out] at lzz
 have hhq := zh hhi
 clear hhi
 have lhh : hh < 18446744073709551616 := by rw [hhq.out]; have := Nat.mul_lt_mul'' hx hy; omega
 have lz2 : z2 ≤ hh := by have := HHH.out; omega
 go_enter Tryd.func60, Tryd.ntmps60
 go_upto_region 1 with fail
 refine wp_region_lit ?_
 refine zr (.int .u64 (x : Int)) w rfl ?_
 simp only [Act.put, zA]
 refine zr (.int .u64 (x0 : Int)) w (xo_and .u64 x 4294967295 x0 (by show x < 2 ^ 64; omega) (by decide) (by rw [show 4294967295 = 2 ^ 32 - 1 from rfl, Nat.and_two_pow_sub_one_eq_mod]; exact HX0.out) (by rw [IntKind.wrap_u64]; have := HX0.out; omega) rfl rfl rfl) ?_
 simp only [Act.put, zA]
 refine zr (.int .u64 (x0 : Int)) w rfl ?_
 simp only [Act.put, zA]
 refine wpList_nil ?_
 go_upto_region 2 with fail
 refine wp_region_lit ?_
 refine zr (.int .u64 (x : Int)) w rfl ?_
 simp only [Act.put, zA]
 refine zr (.int .u64 (x1 : Int)) w (xo_shrN .u64 .u64 x 32 x1 (by decide) HX1.out rfl rfl rfl) ?_
 simp only [Act.put, zA]
 refine zr (.int .u64 (x1 : Int)) w rfl ?_
 simp only [Act.put, zA]
 refine wpList_nil ?_
 go_upto_region 3 with fail
 refine wp_region_lit ?_
 refine zr (.int .u64 (y : Int)) w rfl ?_
 simp only [Act.put, zA]
 refine zr (.int .u64 (y0 : Int)) w (xo_and .u64 y 4294967295 y0 (by show y < 2 ^ 64; omega) (by decide) (by rw [show 4294967295 = 2 ^ 32 - 1 from rfl, Nat.and_two_pow_sub_one_eq_mod]; exact HY0.out) (by rw [IntKind.wrap_u64]; have := HY0.out; omega) rfl rfl rfl) ?_
 simp only [Act.put, zA]
 refine zr (.int .u64 (y0 : Int)) w rfl ?_
 simp only [Act.put, zA]
 refine wpList_nil ?_
 go_upto_region 4 with fail
 refine wp_region_lit ?_
 refine zr (.int .u64 (y : Int)) w rfl ?_
 simp only [Act.put, zA]
 refine zr (.int .u64 (y1 : Int)) w (xo_shrN .u64 .u64 y 32 y1 (by decide) HY1.out rfl rfl rfl) ?_
 simp only [Act.put, zA]
 refine zr (.int .u64 (y1 : Int)) w rfl ?_
 simp only [Act.put, zA]
 refine wpList_nil ?_
 go_upto_region 5 with fail
 refine wp_region_lit ?_
 refine zr (.int .u64 (x0 : Int)) w rfl ?_
 simp only [Act.put, zA]
 refine zr (.int .u64 (y0 : Int)) w rfl ?_
 simp only [Act.put, zA]
 refine zr (.int .u64 (w0 : Int)) w (xo_mulU x0 y0 w0 (by rw [HW0.out]; exact Nat.mod_eq_of_lt (by omega)) rfl rfl rfl) ?_
 simp only [Act.put, zA]
 refine zr (.int .u64 (w0 : Int)) w rfl ?_
 simp only [Act.put, zA]
 refine wpList_nil ?_
 go_upto_region 6 with fail
 refine wp_region_lit ?_
 refine zr (.int .u64 (x1 : Int)) w rfl ?_
 simp only [Act.put, zA]
 refine zr (.int .u64 (y0 : Int)) w rfl ?_
 simp only [Act.put, zA]
 refine zr (.int .u64 (t1 : Int)) w (xo_mulU x1 y0 t1 (by rw [HT1.out]; exact Nat.mod_eq_of_lt (by omega)) rfl rfl rfl) ?_
 simp only [Act.put, zA]
 refine zr (.int .u64 (w0 : Int)) w rfl ?_
 simp only [Act.put, zA]
 refine zr (.int .u64 (s0 : Int)) w (xo_shrN .u64 .u64 w0 32 s0 (by decide) HS0.out rfl rfl rfl) ?_
 simp only [Act.put, zA]
 refine zr (.int .u64 (tt : Int)) w (xo_addU t1 s0 tt (by rw [HTT.out]; exact Nat.mod_eq_of_lt (by omega)) rfl rfl rfl) ?_
 simp only [Act.put, zA]
 refine zr (.int .u64 (tt : Int)) w rfl ?_
 simp only [Act.put, zA]
 refine wpList_nil ?_
 go_upto_region 7 with fail
 refine wp_region_lit ?_
 refine zr (.int .u64 (tt : Int)) w rfl ?_
 simp only [Act.put, zA]
 refine zr (.int .u64 (u1 : Int)) w (xo_and .u64 tt 4294967295 u1 (by show tt < 2 ^ 64; omega) (by decide) (by rw [show 4294967295 = 2 ^ 32 - 1 from rfl, Nat.and_two_pow_sub_one_eq_mod]; exact HU1.out) (by rw [IntKind.wrap_u64]; have := HU1.out; omega) rfl rfl rfl) ?_
 simp only [Act.put, zA]
 refine zr (.int .u64 (u1 : Int)) w rfl ?_
 simp only [Act.put, zA]
 refine wpList_nil ?_
 go_upto_region 8 with fail
 refine wp_region_lit ?_
 refine zr (.int .u64 (tt : Int)) w rfl ?_
 simp only [Act.put, zA]
 refine zr (.int .u64 (u2 : Int)) w (xo_shrN .u64 .u64 tt 32 u2 (by decide) HU2.out rfl rfl rfl) ?_
 simp only [Act.put, zA]
 refine zr (.int .u64 (u2 : Int)) w rfl ?_
 simp only [Act.put, zA]
 refine wpList_nil ?_
 go_upto_region 9 with fail
 refine wp_region_lit ?_
 refine zr (.int .u64 (u1 : Int)) w rfl ?_
 simp only [Act.put, zA]
 refine zr (.int .u64 (x0 : Int)) w rfl ?_
 simp only [Act.put, zA]
 refine zr (.int .u64 (y1 : Int)) w rfl ?_
 simp only [Act.put, zA]
 refine zr (.int .u64 (vv : Int)) w (xo_mulU x0 y1 vv (by rw [HVV.out]; exact Nat.mod_eq_of_lt (by omega)) rfl rfl rfl) ?_
 simp only [Act.put, zA]
 refine zr (.int .u64 (w1 : Int)) w (xo_addU u1 vv w1 (by rw [HW1.out]; exact Nat.mod_eq_of_lt (by omega)) rfl rfl rfl) ?_
 simp only [Act.put, zA]
 refine zr (.int .u64 (w1 : Int)) w rfl ?_
 simp only [Act.put, zA]
 refine wpList_nil ?_
 go_upto_region 10 with fail
 refine wp_region_lit ?_
 refine zr (.int .u64 (x1 : Int)) w rfl ?_
 simp only [Act.put, zA]
 refine zr (.int .u64 (y1 : Int)) w rfl ?_
 simp only [Act.put, zA]
 refine zr (.int .u64 (zz : Int)) w (xo_mulU x1 y1 zz (by rw [HZZ.out]; exact Nat.mod_eq_of_lt (by omega)) rfl rfl rfl) ?_
 simp only [Act.put, zA]
 refine zr (.int .u64 (u2 : Int)) w rfl ?_
 simp only [Act.put, zA]
 refine zr (.int .u64 (z2 : Int)) w (xo_addU zz u2 z2 (by rw [HZ2.out]; exact Nat.mod_eq_of_lt (by omega)) rfl rfl rfl) ?_
 simp only [Act.put, zA]
 refine zr (.int .u64 (w1 : Int)) w rfl ?_
 simp only [Act.put, zA]
 refine zr (.int .u64 (s1 : Int)) w (xo_shrN .u64 .u64 w1 32 s1 (by decide) HS1.out rfl rfl rfl) ?_
 simp only [Act.put, zA]
 refine zr (.int .u64 (hh : Int)) w (xo_addU z2 s1 hh (by rw [HHH.out]; exact Nat.mod_eq_of_lt (by omega)) rfl rfl rfl) ?_
 simp only [Act.put, zA]
 refine zr (.int .u64 (hh : Int)) w rfl ?_
 simp only [Act.put, zA]
 refine wpList_nil ?_
 go_upto_region 11 with fail
 refine wp_region_lit ?_
 refine zr (.int .u64 (x : Int)) w rfl ?_
 simp only [Act.put, zA]
 refine zr (.int .u64 (y : Int)) w rfl ?_
 simp only [Act.put, zA]
 refine zr (.int .u64 (ll : Int)) w (xo_mulU x y ll HLL.out rfl rfl rfl) ?_
 simp only [Act.put, zA]
 refine zr (.int .u64 (ll : Int)) w rfl ?_
 simp only [Act.put, zA]
 refine wpList_nil ?_
 have e1 := hhq.out
 have e2 := HLL.out
 go_wp2_with fail
 go_ret2
 exact ⟨by rw [← HLL.out, ← hhq.out]; rfl, rfl⟩
end Go.Proofs.YtbecajihgbbgjaaDoor

namespace Go.Proofs.YtbecajihgbbgjaaDoor
set_option maxRecDepth 8000
open Go.RowKit Go.Proofs.YtbecajihgbbgjaaDoor.K
attribute [local irreducible] wpList wpQuiet
namespace Ty
/-- the product so far (modulo the word), and whether it always kept the limit -/
def pwJ (rows m i p : Nat) (f : Bool) : Prop := p < 18446744073709551616 ∧ ((f = true ∧ p = rows * m ^ i ∧ p < 4611686018427387904) ∨ (f = false ∧ 2 ^ 62 ≤ rows * m ^ i))
theorem pj_start {rows m : Nat} (h : rows ≤ 65536) : pwJ rows m 0 rows true := ⟨by omega, .inl ⟨rfl, by simp, by omega⟩⟩
theorem pj_step {rows m i p hi lo : Nat} {f f2 : Bool} (hr : rows ≤ 65536) (h : pwJ rows m i p f) (h1 : p * m / 18446744073709551616 = hi) (h2 : p * m % 18446744073709551616 = lo) (h3 : (f && (decide (hi = 0) && decide (lo < 4611686018427387904))) = f2) : pwJ rows m (i + 1) lo f2 := by
 have e62 : (2 : Nat) ^ 62 = 4611686018427387904 := by decide
 refine ⟨by omega, ?_⟩
 obtain ⟨hp, ⟨hf, he, hl⟩ | ⟨hf, hb⟩⟩ := h
 ·have e1 : rows * m ^ (i + 1) = p * m := by rw [he, Nat.pow_succ, Nat.mul_assoc]
  rw [e1]
  obtain ⟨pm, hpm⟩ : ∃ z, p * m = z := ⟨_, rfl⟩
  rw [hpm] at h1 h2 ⊢
  subst hf
  rw [Bool.true_and] at h3
  by_cases hh : hi = 0 ∧ lo < 4611686018427387904
  ·rw [decide_eq_true hh.1, decide_eq_true hh.2] at h3
   exact .inl ⟨h3.symm, by omega, hh.2⟩
  ·refine .inr ⟨?_, by omega⟩
   rw [← h3, ← Bool.decide_and]
   exact decide_eq_false hh
 ·subst hf
  exact .inr ⟨h3.symm, pow_big (by omega) (Nat.le_succ i) hb⟩
theorem pj_end {rows m k p : Nat} {f b : Bool} (h : pwJ rows m k p f) (hb : decide (rows * m ^ k < 2 ^ 62) = b) : f = b ∧ (b = true → p = rows * m ^ k ∧ p < 4611686018427387904) := by
 obtain ⟨_, ⟨h1, h2, h3⟩ | ⟨h1, h2⟩⟩ := h
 ·rw [decide_eq_true (by rw [← h2]; exact h3)] at hb
  exact ⟨by rw [h1, hb], fun _ => ⟨h2, h3⟩⟩
 ·rw [decide_eq_false (by omega)] at hb
  exact ⟨by rw [h1, hb], fun e => by rw [← hb] at e; cases e⟩
end Ty
set_option maxRecDepth 100000 in
set_option maxHeartbeats 16000000 in
theorem scale1_as (V : World) (pp pf x m : Nat) (b r : Bool) (hx : x < 18446744073709551616) (hm : m < 18446744073709551616) (lo : Nat) (hLO : x * m % 18446744073709551616 = lo) (hr : (b && (decide (x * m / 18446744073709551616 = 0) && decide (lo < 4611686018427387904))) = r) (w : World) (hV : Below V.heap.size V w) (hp1 : V.heap.size ≤ pp) (hp2 : V.heap.size ≤ pf) (hne : pp ≠ pf)
  (h1 : w.heap[pp]? = some (.cells #[.int .u64 (x : Int)] 91 (0, 0))) (h2 : w.heap[pf]? = some (.cells #[.bool b] 4 (0, 0))) :
  Calls Tryd.prog 59 #[.int .u64 (m : Int), .pointer (some ⟨pp, 0, none⟩), .pointer (some ⟨pf, 0, none⟩)] w fun e w' => e = .returned (.tuple #[]) ∧ w'.heap[pp]? = some (.cells #[.int .u64 (lo : Int)] 91 (0, 0)) ∧ w'.heap[pf]? = some (.cells #[.bool r] 4 (0, 0)) ∧ Below V.heap.size V w' := by
 have B0 := zh hV
 have HRR := zh hr
 obtain ⟨ww, hww⟩ : ∃ z, x * m / 18446744073709551616 = z := ⟨_, rfl⟩
 have HWW := zh hww
 clear hww
 have HLO := zh hLO
 clear hLO
 rw [HWW.out] at HRR
 have hlo : lo < 18446744073709551616 := by rw [← HLO.out]; exact Nat.mod_lt _ (by decide)
 have hmu : x * m < 18446744073709551616 * 18446744073709551616 := Nat.mul_lt_mul'' hx hm
 have hww : ww < 18446744073709551616 := by rw [← HWW.out]; exact Nat.div_lt_of_lt_mul hmu
 have Hppp : Hid (w.heap[pp]? = some (.cells #[.int .u64 (x : Int)] 91 (0, 0))) := zh (h1)
 have Gppp : Hid (V.heap.size ≤ pp) := zh hp1
 have Hppf : Hid (w.heap[pf]? = some (.cells #[.bool b] 4 (0, 0))) := zh (h2)
 have Gppf : Hid (V.heap.size ≤ pf) := zh hp2
 have Np : Hid (pp ≠ pf) := zh hne
 have hm64 := fun w0 => mul64_as x m hx hm w0
 simp only [HWW.out, HLO.out] at hm64
 have HM64 := zh hm64
 clear hm64
 clear hV hr h1 h2 hp1 hp2 hne hmu
 go_enter Tryd.func59, Tryd.ntmps59
 go_upto_region 0 with fail
 refine wp_region_lit ?_
 refine zr (.int .u64 (x : Int)) w (xo_load1 ⟨pp, 0, none⟩ _ (cells_at Hppp.out 0 rfl) Tryd.underlying91 rfl rfl rfl) ?_
 simp only [Act.put, zA]
 refine zr (.int .u64 (m : Int)) w rfl ?_
 simp only [Act.put, zA]
 refine wpList_call (by kernel_rfl) 60 Tryd.func60 (by kernel_rfl) (by kernel_rfl) _ _ #[.int .u64 (x : Int), .int .u64 (m : Int)] rfl (by kernel_rfl) ?_
 refine (HM64.out w).mono ?_
 rintro e W1 ⟨rfl, hw1⟩
 rw [hw1]
 clear hw1 W1
 refine ⟨_, rfl, ?_⟩
 simp only [Act.put, zA]
 refine zr (.tuple #[.int .u64 (ww : Int), .int .u64 (lo : Int)]) w rfl ?_
 simp only [Act.put, zA]
 refine zr (.int .u64 (ww : Int)) w rfl ?_
 simp only [Act.put, zA]
 refine zr (.int .u64 (lo : Int)) w rfl ?_
 simp only [Act.put, zA]
 refine zr (.int .u64 (ww : Int)) w rfl ?_
 simp only [Act.put, zA]
 refine zr (.int .u64 (lo : Int)) w rfl ?_
 simp only [Act.put, zA]
 refine wpList_nil ?_
 cases b with
 | false =>
  go_upto_region 1 with fail
  refine wp_region_lit ?_
  refine zr (.int .u64 (lo : Int)) w rfl ?_
  simp only [Act.put, zA]
  refine zr (.bool false) w (xo_load1 ⟨pf, 0, none⟩ _ (cells_at Hppf.out 0 rfl) Tryd.underlying4 rfl rfl rfl) ?_
  simp only [Act.put, zA]
  refine zr (.bool false) w rfl ?_
  simp only [Act.put, zA]
  refine zl ?_
  try simp only [Act.put, zA]
  refine zl ?_
  try simp only [Act.put, zA]
  refine zr (.bool false) w rfl ?_
  simp only [Act.put, zA]
  refine zr (.bool false) w rfl ?_
  simp only [Act.put, zA]
  refine zl ?_
  try simp only [Act.put, zA]
  refine zl ?_
  try simp only [Act.put, zA]
  refine zr (.bool false) w rfl ?_
  simp only [Act.put, zA]
  refine wpList_store1 pp 0 #[.int .u64 (x : Int)] (.int .u64 (lo : Int)) 91 (by kernel_rfl) Hppp.out (xo_store1 pp 0 #[.int .u64 (x : Int)] _ (.int .u64 (lo : Int)) Hppp.out rfl (by kernel_rfl) rfl rfl rfl rfl) ?_
  intro X1_0 h1 hfar hbel hsz
  have YHppf : X1_0.heap[pf]? = some (.cells #[.bool false] 4 (0, 0)) := hfar _ _ (Ne.symm Np.out) Hppf.out
  have hbr := hbel _ _ Gppp.out B0.out
  clear B0
  have B0 := zh hbr
  clear hbr
  clear Hppf
  have Hppf : Hid (X1_0.heap[pf]? = some (.cells #[.bool false] 4 (0, 0))) := zh YHppf
  clear YHppf
  clear Hppp
  have Hppp : Hid (X1_0.heap[pp]? = some (.cells #[.int .u64 (lo : Int)] 91 (0, 0))) := zh (h1)
  have HszX1_0 := zh hsz
  clear h1 hfar hbel hsz
  simp only [ptr, Act.put, zA]
  refine wpList_store1 pf 0 #[.bool false] (.bool false) 4 (by kernel_rfl) Hppf.out (xo_store1 pf 0 #[.bool false] _ (.bool false) Hppf.out rfl (by kernel_rfl) rfl rfl rfl rfl) ?_
  intro X1_1 h1 hfar hbel hsz
  have YHppp : X1_1.heap[pp]? = some (.cells #[.int .u64 (lo : Int)] 91 (0, 0)) := hfar _ _ Np.out Hppp.out
  have hbr := hbel _ _ Gppf.out B0.out
  clear B0
  have B0 := zh hbr
  clear hbr
  clear Hppp
  have Hppp : Hid (X1_1.heap[pp]? = some (.cells #[.int .u64 (lo : Int)] 91 (0, 0))) := zh YHppp
  clear YHppp
  clear Hppf
  have Hppf : Hid (X1_1.heap[pf]? = some (.cells #[.bool false] 4 (0, 0))) := zh (h1)
  have HszX1_1 := zh hsz
  clear h1 hfar hbel hsz
  simp only [ptr, Act.put, zA]
  refine wpList_nil ?_
  obtain rfl : r = false := by rw [← HRR.out]; simp
  have e1 := Hppp.out
  have e2 := Hppf.out
  have hbf := B0.out
  go_wp2_with fail
  go_end0
  exact ⟨rfl, e1, e2, hbf⟩
 | true =>
  by_cases hz0 : ww = 0
  ·by_cases hl0 : lo < 4611686018427387904
   ·have hci0 : ((ww : Int) = 0) := by omega
    have hci1 : ((lo : Int) < 4611686018427387904) := by omega
    go_upto_region 1 with fail
    refine wp_region_lit ?_
    refine zr (.int .u64 (lo : Int)) w rfl ?_
    simp only [Act.put, zA]
    refine zr (.bool true) w (xo_load1 ⟨pf, 0, none⟩ _ (cells_at Hppf.out 0 rfl) Tryd.underlying4 rfl rfl rfl) ?_
    simp only [Act.put, zA]
    refine zr (.bool true) w rfl ?_
    simp only [Act.put, zA]
    refine zr (.int .u64 (ww : Int)) w rfl ?_
    simp only [Act.put, zA]
    refine zr (.bool true) w (xo_eqlT .u64 (ww : Int) 0 (by omega) rfl rfl rfl) ?_
    simp only [Act.put, zA]
    refine zr (.bool true) w rfl ?_
    simp only [Act.put, zA]
    refine zr (.bool true) w rfl ?_
    simp only [Act.put, zA]
    refine zr (.int .u64 (lo : Int)) w rfl ?_
    simp only [Act.put, zA]
    refine zr (.bool true) w (xo_lssT .u64 (lo : Int) 4611686018427387904 (by omega) rfl rfl rfl) ?_
    simp only [Act.put, zA]
    refine zr (.bool true) w rfl ?_
    simp only [Act.put, zA]
    refine wpList_store1 pp 0 #[.int .u64 (x : Int)] (.int .u64 (lo : Int)) 91 (by kernel_rfl) Hppp.out (xo_store1 pp 0 #[.int .u64 (x : Int)] _ (.int .u64 (lo : Int)) Hppp.out rfl (by kernel_rfl) rfl rfl rfl rfl) ?_
    intro X1_2 h1 hfar hbel hsz
    have YHppf : X1_2.heap[pf]? = some (.cells #[.bool true] 4 (0, 0)) := hfar _ _ (Ne.symm Np.out) Hppf.out
    have hbr := hbel _ _ Gppp.out B0.out
    clear B0
    have B0 := zh hbr
    clear hbr
    clear Hppf
    have Hppf : Hid (X1_2.heap[pf]? = some (.cells #[.bool true] 4 (0, 0))) := zh YHppf
    clear YHppf
    clear Hppp
    have Hppp : Hid (X1_2.heap[pp]? = some (.cells #[.int .u64 (lo : Int)] 91 (0, 0))) := zh (h1)
    have HszX1_2 := zh hsz
    clear h1 hfar hbel hsz
    simp only [ptr, Act.put, zA]
    refine wpList_store1 pf 0 #[.bool true] (.bool true) 4 (by kernel_rfl) Hppf.out (xo_store1 pf 0 #[.bool true] _ (.bool true) Hppf.out rfl (by kernel_rfl) rfl rfl rfl rfl) ?_
    intro X1_3 h1 hfar hbel hsz
    have YHppp : X1_3.heap[pp]? = some (.cells #[.int .u64 (lo : Int)] 91 (0, 0)) := hfar _ _ Np.out Hppp.out
    have hbr := hbel _ _ Gppf.out B0.out
    clear B0
    have B0 := zh hbr
    clear hbr
    clear Hppp
    have Hppp : Hid (X1_3.heap[pp]? = some (.cells #[.int .u64 (lo : Int)] 91 (0, 0))) := zh YHppp
    clear YHppp
    clear Hppf
    have Hppf : Hid (X1_3.heap[pf]? = some (.cells #[.bool true] 4 (0, 0))) := zh (h1)
    have HszX1_3 := zh hsz
    clear h1 hfar hbel hsz
    simp only [ptr, Act.put, zA]
    refine wpList_nil ?_
    obtain rfl : r = true := by rw [← HRR.out]; simp <;> omega
    have e1 := Hppp.out
    have e2 := Hppf.out
    have hbf := B0.out
    go_wp2_with fail
    go_end0
    exact ⟨rfl, e1, e2, hbf⟩
   ·have hci0 : ((ww : Int) = 0) := by omega
    have hci1 : ¬ ((lo : Int) < 4611686018427387904) := by omega
    go_upto_region 1 with fail
    refine wp_region_lit ?_
    refine zr (.int .u64 (lo : Int)) w rfl ?_
    simp only [Act.put, zA]
    refine zr (.bool true) w (xo_load1 ⟨pf, 0, none⟩ _ (cells_at Hppf.out 0 rfl) Tryd.underlying4 rfl rfl rfl) ?_
    simp only [Act.put, zA]
    refine zr (.bool true) w rfl ?_
    simp only [Act.put, zA]
    refine zr (.int .u64 (ww : Int)) w rfl ?_
    simp only [Act.put, zA]
    refine zr (.bool true) w (xo_eqlT .u64 (ww : Int) 0 (by omega) rfl rfl rfl) ?_
    simp only [Act.put, zA]
    refine zr (.bool true) w rfl ?_
    simp only [Act.put, zA]
    refine zr (.bool true) w rfl ?_
    simp only [Act.put, zA]
    refine zr (.int .u64 (lo : Int)) w rfl ?_
    simp only [Act.put, zA]
    refine zr (.bool false) w (xo_lssF .u64 (lo : Int) 4611686018427387904 (by omega) rfl rfl rfl) ?_
    simp only [Act.put, zA]
    refine zr (.bool false) w rfl ?_
    simp only [Act.put, zA]
    refine wpList_store1 pp 0 #[.int .u64 (x : Int)] (.int .u64 (lo : Int)) 91 (by kernel_rfl) Hppp.out (xo_store1 pp 0 #[.int .u64 (x : Int)] _ (.int .u64 (lo : Int)) Hppp.out rfl (by kernel_rfl) rfl rfl rfl rfl) ?_
    intro X1_2 h1 hfar hbel hsz
    have YHppf : X1_2.heap[pf]? = some (.cells #[.bool true] 4 (0, 0)) := hfar _ _ (Ne.symm Np.out) Hppf.out
    have hbr := hbel _ _ Gppp.out B0.out
    clear B0
    have B0 := zh hbr
    clear hbr
    clear Hppf
    have Hppf : Hid (X1_2.heap[pf]? = some (.cells #[.bool true] 4 (0, 0))) := zh YHppf
    clear YHppf
    clear Hppp
    have Hppp : Hid (X1_2.heap[pp]? = some (.cells #[.int .u64 (lo : Int)] 91 (0, 0))) := zh (h1)
    have HszX1_2 := zh hsz
    clear h1 hfar hbel hsz
    simp only [ptr, Act.put, zA]
    refine wpList_store1 pf 0 #[.bool true] (.bool false) 4 (by kernel_rfl) Hppf.out (xo_store1 pf 0 #[.bool true] _ (.bool false) Hppf.out rfl (by kernel_rfl) rfl rfl rfl rfl) ?_
    intro X1_3 h1 hfar hbel hsz
    have YHppp : X1_3.heap[pp]? = some (.cells #[.int .u64 (lo : Int)] 91 (0, 0)) := hfar _ _ Np.out Hppp.out
    have hbr := hbel _ _ Gppf.out B0.out
    clear B0
    have B0 := zh hbr
    clear hbr
    clear Hppp
    have Hppp : Hid (X1_3.heap[pp]? = some (.cells #[.int .u64 (lo : Int)] 91 (0, 0))) := zh YHppp
    clear YHppp
    clear Hppf
    have Hppf : Hid (X1_3.heap[pf]? = some (.cells #[.bool false] 4 (0, 0))) := zh (h1)
    have HszX1_3 := zh hsz
    clear h1 hfar hbel hsz
    simp only [ptr, Act.put, zA]
    refine wpList_nil ?_
    obtain rfl : r = false := by rw [← HRR.out]; simp <;> omega
    have e1 := Hppp.out
    have e2 := Hppf.out
    have hbf := B0.out
    go_wp2_with fail
    go_end0
    exact ⟨rfl, e1, e2, hbf⟩
  ·have hci0 : ¬ ((ww : Int) = 0) := by omega
   go_upto_region 1 with fail
   refine wp_region_lit ?_
   refine zr (.int .u64 (lo : Int)) w rfl ?_
   simp only [Act.put, zA]
   refine zr (.bool true) w (xo_load1 ⟨pf, 0, none⟩ _ (cells_at Hppf.out 0 rfl) Tryd.underlying4 rfl rfl rfl) ?_
   simp only [Act.put, zA]
   refine zr (.bool true) w rfl ?_
   simp only [Act.put, zA]
   refine zr (.int .u64 (ww : Int)) w rfl ?_
   simp only [Act.put, zA]
   refine zr (.bool false) w (xo_eqlF .u64 (ww : Int) 0 (by omega) rfl rfl rfl) ?_
   simp only [Act.put, zA]
   refine zr (.bool false) w rfl ?_
   simp only [Act.put, zA]
   refine zr (.bool false) w rfl ?_
   simp only [Act.put, zA]
   refine zl ?_
   try simp only [Act.put, zA]
   refine zl ?_
   try simp only [Act.put, zA]
   refine zr (.bool false) w rfl ?_
   simp only [Act.put, zA]
   refine wpList_store1 pp 0 #[.int .u64 (x : Int)] (.int .u64 (lo : Int)) 91 (by kernel_rfl) Hppp.out (xo_store1 pp 0 #[.int .u64 (x : Int)] _ (.int .u64 (lo : Int)) Hppp.out rfl (by kernel_rfl) rfl rfl rfl rfl) ?_
   intro X1_1 h1 hfar hbel hsz
   have YHppf : X1_1.heap[pf]? = some (.cells #[.bool true] 4 (0, 0)) := hfar _ _ (Ne.symm Np.out) Hppf.out
   have hbr := hbel _ _ Gppp.out B0.out
   clear B0
   have B0 := zh hbr
   clear hbr
   clear Hppf
   have Hppf : Hid (X1_1.heap[pf]? = some (.cells #[.bool true] 4 (0, 0))) := zh YHppf
   clear YHppf
   clear Hppp
   have Hppp : Hid (X1_1.heap[pp]? = some (.cells #[.int .u64 (lo : Int)] 91 (0, 0))) := zh (h1)
   have HszX1_1 := zh hsz
   clear h1 hfar hbel hsz
   simp only [ptr, Act.put, zA]
   refine wpList_store1 pf 0 #[.bool true] (.bool false) 4 (by kernel_rfl) Hppf.out (xo_store1 pf 0 #[.bool true] _ (.bool false) Hppf.out rfl (by kernel_rfl) rfl rfl rfl rfl) ?_
   intro X1_2 h1 hfar hbel hsz
   have YHppp : X1_2.heap[pp]? = some (.cells #[.int .u64 (lo : Int)] 91 (0, 0)) := hfar _ _ Np.out Hppp.out
   have hbr := hbel _ _ Gppf.out B0.out
   clear B0
   have B0 := zh hbr
   clear hbr
   clear Hppp
   have Hppp : Hid (X1_2.heap[pp]? = some (.cells #[.int .u64 (lo : Int)] 91 (0, 0))) := zh YHppp
   clear YHppp
   clear Hppf
   have Hppf : Hid (X1_2.heap[pf]? = some (.cells #[.bool false] 4 (0, 0))) := zh (h1)
   have HszX1_2 := zh hsz
   clear h1 hfar hbel hsz
   simp only [ptr, Act.put, zA]
   refine wpList_nil ?_
   obtain rfl : r = false := by rw [← HRR.out]; simp <;> omega
   have e1 := Hppp.out
   have e2 := Hppf.out
   have hbf := B0.out
   go_wp2_with fail
   go_end0
   exact ⟨rfl, e1, e2, hbf⟩
set_option maxRecDepth 100000 in
set_option maxHeartbeats 16000000 in
theorem scale_as (rows m e0 r0 : Nat) (hr0 : rows * m ^ e0 = r0) (hrows : rows ≤ 65536) (hm : m ≤ 255) (he0 : e0 ≤ 65536) (b : Bool) (hb : decide (r0 < 2 ^ 62) = b) (w : World) : Calls Tryd.prog 52 #[.int .i64 (rows : Int), .int .i64 (m : Int), .int .i64 (e0 : Int)] w fun e w' => ∃ z : Int, e = .returned (.tuple #[.int .i64 z, .bool b]) ∧ (b = true → z = (r0 : Int)) ∧ Below w.heap.size w w' := by
 have HR0 := zh hr0
 rw [← HR0.out] at hb
 have HBB := zh hb
 clear hb hr0
 go_enter Tryd.func52, Tryd.ntmps52
 go_upto_region 1 with fail
 refine wp_region_lit ?_
 refine zr (.int .i64 (rows : Int)) w rfl ?_
 simp only [Act.put, zA]
 refine zr (.int .u64 (rows : Int)) w (xo_cvt .i64 .u64 (rows : Int) (rows : Int) (by rw [IntKind.wrap_u64]; omega) Tryd.underlying91 Tryd.underlying3 rfl rfl) ?_
 simp only [Act.put, zA]
 refine wpList_new #[.int .u64 0] 91 (by kernel_rfl) (xo_alloc1 (.int .u64 0) rfl (by kernel_rfl) rfl) ?_
 intro b8 V1 hge h0 hb
 have Ge0 : Hid (w.heap.size ≤ b8) := zh hge
 have B0 := zh hb
 have Fv1_8 : Hid (V1.heap[b8]? = some (.cells #[.int .u64 0] 91 (0, 0))) := zh (h0)
 have Lt2 : Hid (b8 < V1.heap.size) := zh (xp_lt Fv1_8.out)
 clear hge h0 hb
 simp only [ptr, Act.put, zA]
 refine wpList_new #[.bool false] 4 (by kernel_rfl) (xo_alloc1 (.bool false) rfl (by kernel_rfl) rfl) ?_
 intro b9 V2 hge h0 hb
 have N3_0 : Hid (b8 ≠ b9) := zh (xp_lt0 Fv1_8.out hge)
 have Ge4 : Hid (V1.heap.size ≤ b9) := zh hge
 have B1 := zh hb
 have Fv5_9 : Hid (V2.heap[b9]? = some (.cells #[.bool false] 4 (0, 0))) := zh (h0)
 have Lt6 : Hid (b9 < V2.heap.size) := zh (xp_lt Fv5_9.out)
 clear hge h0 hb
 simp only [ptr, Act.put, zA]
 refine wpList_store1 b8 0 #[.int .u64 0] (.int .u64 (rows : Int)) 91 (by kernel_rfl) (heap_keep Fv1_8.out B1.out) (xo_store1 b8 0 #[.int .u64 0] _ (.int .u64 (rows : Int)) (heap_keep Fv1_8.out B1.out) rfl (by kernel_rfl) rfl rfl rfl rfl) ?_
 intro X2_7 h1 hfar hbel hsz
 have YFv5_9 : X2_7.heap[b9]? = some (.cells #[.bool false] 4 (0, 0)) := hfar _ _ (Ne.symm N3_0.out) Fv5_9.out
 have Gs8 : Hid (w.heap.size ≤ b9) := zh (Nat.le_trans B0.out.size Ge4.out)
 have C0_2 := zb B0 B1
 have hbr := hbel _ _ Ge0.out C0_2.out
 clear B0
 have B0 := zh hbr
 clear hbr
 clear Fv5_9
 have Fv5_9 : Hid (X2_7.heap[b9]? = some (.cells #[.bool false] 4 (0, 0))) := zh YFv5_9
 clear YFv5_9
 clear Fv1_8
 have Fv1_8 : Hid (X2_7.heap[b8]? = some (.cells #[.int .u64 (rows : Int)] 91 (0, 0))) := zh (h1)
 have HszX2_7 := zh hsz
 clear h1 hfar hbel hsz
 simp only [ptr, Act.put, zA]
 refine wpList_store1 b9 0 #[.bool false] (.bool true) 4 (by kernel_rfl) Fv5_9.out (xo_store1 b9 0 #[.bool false] _ (.bool true) Fv5_9.out rfl (by kernel_rfl) rfl rfl rfl rfl) ?_
 intro X1_9 h1 hfar hbel hsz
 have YFv1_8 : X1_9.heap[b8]? = some (.cells #[.int .u64 (rows : Int)] 91 (0, 0)) := hfar _ _ N3_0.out Fv1_8.out
 have hbr := hbel _ _ Gs8.out B0.out
 clear B0
 have B0 := zh hbr
 clear hbr
 clear Fv1_8
 have Fv1_8 : Hid (X1_9.heap[b8]? = some (.cells #[.int .u64 (rows : Int)] 91 (0, 0))) := zh YFv1_8
 clear YFv1_8
 clear Fv5_9
 have Fv5_9 : Hid (X1_9.heap[b9]? = some (.cells #[.bool true] 4 (0, 0))) := zh (h1)
 have HszX1_9 := zh hsz
 clear h1 hfar hbel hsz
 simp only [ptr, Act.put, zA]
 refine wpList_nil ?_
 go_upto_region 2 with fail
 refine wp_region_lit ?_
 refine zr (.func (.func 59) #[] #[.pointer (some ⟨b8, 0, none⟩), .pointer (some ⟨b9, 0, none⟩)]) X1_9 (by unfold execOp; go_simp) ?_
 simp only [Act.put, zA]
 refine zr (.func (.func 59) #[] #[.pointer (some ⟨b8, 0, none⟩), .pointer (some ⟨b9, 0, none⟩)]) X1_9 rfl ?_
 simp only [Act.put, zA]
 refine wpList_nil ?_
 go_upto_region 3 with fail
 refine wp_region_lit ?_
 refine zr (.int .i64 (e0 : Int)) X1_9 rfl ?_
 simp only [Act.put, zA]
 refine zr (.int .i64 0) X1_9 rfl ?_
 simp only [Act.put, zA]
 refine wpList_nil ?_
 have O10 := Fv1_8.out
 have O11 := Fv5_9.out
 have O12 := B0.out
 go_wp2_with fail
 go_loopw [15] (fun q wr => ∃ i : Nat, ∃ (p : Nat) (f : Bool), i ≤ e0 ∧ q = .int .i64 i ∧ Ty.pwJ rows m i p f ∧ wr.heap[b8]? = some (.cells #[.int .u64 (p : Int)] 91 (0, 0)) ∧ wr.heap[b9]? = some (.cells #[.bool f] 4 (0, 0)) ∧ Below w.heap.size w wr) (fun q _ => e0 - (intOf q).toNat)
 case atStart => exact ⟨0, rows, true, Nat.zero_le _, rfl, Ty.pj_start hrows, O10, O11, O12⟩
 case round =>
  clear O10 O11 O12
  obtain ⟨wo, rfl⟩ : ∃ wo : World, wo = wr := ⟨_, rfl⟩
  obtain ⟨i, p, f, hi, rfl, hHPJ, hr0, hr1, hb0⟩ := hrel
  have hbr := hb0
  clear B0
  have B0 := zh hbr
  clear hbr
  clear Fv1_8
  have Fv1_8 : Hid (wo.heap[b8]? = some (.cells #[.int .u64 (p : Int)] 91 (0, 0))) := zh (hr0)
  clear Fv5_9
  have Fv5_9 : Hid (wo.heap[b9]? = some (.cells #[.bool f] 4 (0, 0))) := zh (hr1)
  have HPJ := zh hHPJ
  clear hb0 hr0 hr1 hHPJ
  by_cases hie : i < e0
  ·have hci14 : ((i : Int) < (e0 : Int)) := by omega
   go_upto_region 4 with fail
   refine wp_region_lit ?_
   refine zr (.bool true) wo (xo_lssT .i64 (i : Int) (e0 : Int) (by omega) rfl rfl rfl) ?_
   simp only [Act.put, zA]
   refine wpList_nil ?_
   have hp64 := HPJ.out.1
   obtain ⟨hh, hhh⟩ : ∃ z, p * m / 18446744073709551616 = z := ⟨_, rfl⟩
   have HHH := zh hhh
   clear hhh
   obtain ⟨lo, hlo⟩ : ∃ z, p * m % 18446744073709551616 = z := ⟨_, rfl⟩
   have HLO := zh hlo
   clear hlo
   obtain ⟨f2, hf2⟩ : ∃ z, (f && (decide (p * m / 18446744073709551616 = 0) && decide (lo < 4611686018427387904))) = z := ⟨_, rfl⟩
   have HF2 := zh hf2
   clear hf2
   go_upto_region 5 with fail
   refine wp_region_lit ?_
   refine zr (.func (.func 59) #[] #[.pointer (some ⟨b8, 0, none⟩), .pointer (some ⟨b9, 0, none⟩)]) wo rfl ?_
   simp only [Act.put, zA]
   refine zr (.int .i64 (m : Int)) wo rfl ?_
   simp only [Act.put, zA]
   refine zr (.int .u64 (m : Int)) wo (xo_cvt .i64 .u64 (m : Int) (m : Int) (by rw [IntKind.wrap_u64]; omega) Tryd.underlying91 Tryd.underlying3 rfl rfl) ?_
   simp only [Act.put, zA]
   refine wpList_op (by kernel_rfl) ?_
   refine hOp_callA 59 Tryd.func59 (by kernel_rfl) (by kernel_rfl) 17 _ #[.pointer (some ⟨b8, 0, none⟩), .pointer (some ⟨b9, 0, none⟩)] _ rfl rfl #[.int .u64 (m : Int)] (by kernel_rfl) ?_
   try simp only [List.append_toArray, List.append_nil, List.nil_append, List.cons_append]
   refine (scale1_as w b8 b9 p m f f2 hp64 (by omega) lo HLO.out HF2.out wo B0.out Ge0.out Gs8.out N3_0.out Fv1_8.out Fv5_9.out).mono ?_
   rintro e W1_15 ⟨rfl, h1, h2, hb⟩
   have hbr := hb
   clear B0
   have B0 := zh hbr
   clear hbr
   clear hb
   clear Fv1_8
   have Fv1_8 : Hid (W1_15.heap[b8]? = some (.cells #[.int .u64 (lo : Int)] 91 (0, 0))) := zh h1
   clear Fv5_9
   have Fv5_9 : Hid (W1_15.heap[b9]? = some (.cells #[.bool f2] 4 (0, 0))) := zh h2
   clear h1 h2
   refine ⟨_, rfl, ?_⟩
   simp only [ptr, Act.put, zA]
   refine wpList_nil ?_
   go_upto_region 6 with fail
   refine wp_region_lit ?_
   refine zr (.int .i64 ((i + 1 : Nat) : Int)) W1_15 (xo_addI (i : Int) 1 ((i + 1 : Nat) : Int) (by omega) (by omega) (by omega) rfl rfl rfl) ?_
   simp only [Act.put, zA]
   refine zr (.int .i64 ((i + 1 : Nat) : Int)) W1_15 rfl ?_
   simp only [Act.put, zA]
   refine wpList_nil ?_
   have hst := Ty.pj_step (i := i) (f2 := f2) hrows HPJ.out HHH.out HLO.out (by rw [← HHH.out]; exact HF2.out)
   have hq16 := Fv1_8.out
   have hq17 := Fv5_9.out
   have hq18 := B0.out
   go_wp2_with fail
   go_roundw
   case rel => exact ⟨i + 1, lo, f2, by omega, by go_num, hst, hq16, hq17, hq18⟩
   case measure => simp [intOf]; omega
  ·have hci14 : ¬ ((i : Int) < (e0 : Int)) := by omega
   go_upto_region 4 with fail
   refine wp_region_lit ?_
   refine zr (.bool false) wo (xo_lssF .i64 (i : Int) (e0 : Int) (by omega) rfl rfl rfl) ?_
   simp only [Act.put, zA]
   refine wpList_nil ?_
   obtain rfl : i = e0 := by omega
   obtain ⟨hfb, hpe⟩ := Ty.pj_end HPJ.out HBB.out
   subst hfb
   have HPE := zh hpe
   clear hpe
   obtain ⟨z, hz⟩ : ∃ z, IntKind.i64.wrap (p : Int) = z := ⟨_, rfl⟩
   have HZ := zh hz
   clear hz
   go_upto_region 7 with fail
   refine wp_later_lex (by kernel_rfl) (lexOK_of (by kernel_rfl) (by kernel_rfl)) ?_
   refine zv (.int .u64 (p : Int)) (fun v hv => (xo_load1 ⟨b8, 0, none⟩ _ (cells_at (heap_keep Fv1_8.out (later_bel hv)) 0 rfl) Tryd.underlying91 rfl rfl rfl)) ?_
   simp only [Act.put, zA]
   refine zv (.int .i64 z) (fun v hv => (xo_cvt .u64 .i64 (p : Int) z HZ.out Tryd.underlying2 Tryd.underlying91 rfl rfl)) ?_
   simp only [Act.put, zA]
   refine zv (.bool f) (fun v hv => (xo_load1 ⟨b9, 0, none⟩ _ (cells_at (heap_keep Fv5_9.out (later_bel hv)) 0 rfl) Tryd.underlying4 rfl rfl rfl)) ?_
   simp only [Act.put, zA]
   refine zv (.int .i64 z) (fun v hv => rfl) ?_
   simp only [Act.put, zA]
   refine zv (.bool f) (fun v hv => rfl) ?_
   simp only [Act.put, zA]
   refine wpQuiet_nil ?_
   intro X1_15
   have hb := X1_15.below
   generalize X1_15.at = V2 at *
   have B1 := zh hb
   clear hb
   have C0_2 := zb B0 B1
   have hbf := C0_2.out
   go_wp2_with fail
   go_ret2
   exact ⟨z, rfl, fun e => by obtain ⟨e1, e2⟩ := HPE.out e; rw [← HZ.out, ← HR0.out, ← e1]; exact wrapI (by omega) (by omega), hbf⟩
end Go.Proofs.YtbecajihgbbgjaaDoor

