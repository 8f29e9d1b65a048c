/- Several texts in one: Yci, Ycj, Yco, Yck, Ycl. -/
import Derived.Test.YtbecajihgbbgjaaDoorG05
import Derived.Lib.Mul64
set_option linter.unusedVariables false
set_option linter.unusedSimpArgs false
set_option linter.unusedSectionVars false
namespace Go.Proofs.YtbecajihgbbgjaaDoor
set_option maxRecDepth 8000
open Go.RowKit Go.Proofs.YtbecajihgbbgjaaDoor.K
attribute [local irreducible] wpList wpQuiet
theorem xsp_index {ev : Operand → Value} {o : Oper} {w : World} {x y : Operand} (lw up : Nat → Nat) (i a d : Nat) (hi4 : i < 4) (ha : lw i = a) (hd : up i = d) (ho : o.op = .index 84 x y) (hx : ev x = .agg #[.int .i64 (lw 0 : Int), .int .i64 (up 0 : Int), .int .i64 (lw 1 : Int), .int .i64 (up 1 : Int), .int .i64 (lw 2 : Int), .int .i64 (up 2 : Int), .int .i64 (lw 3 : Int), .int .i64 (up 3 : Int)]) (hy : ev y = .int .i64 (i : Int)) :
  (execOp ev o).run Tryd.prog w = .ok (.value (.agg #[.int .i64 (a : Int), .int .i64 (d : Int)])) w := by
 unfold execOp
 simp only [ho, hx, hy]
 subst ha hd
 rcases i with _ | _ | _ | _ | i
 ·rfl
 ·rfl
 ·rfl
 ·rfl
 ·omega
set_option maxRecDepth 100000 in
set_option maxHeartbeats 16000000 in
theorem satisfiable_sp (lw up : Nat → Nat) (b : Bool) (hb : (List.range 4).all (fun c => decide (lw c ≤ up c)) = b) (w : World) : Calls Tryd.prog 51 #[.agg #[.int .i64 (lw 0 : Int), .int .i64 (up 0 : Int), .int .i64 (lw 1 : Int), .int .i64 (up 1 : Int), .int .i64 (lw 2 : Int), .int .i64 (up 2 : Int), .int .i64 (lw 3 : Int), .int .i64 (up 3 : Int)]] w fun e w' => e = .returned (.bool b) ∧ Below w.heap.size w w' := by
 have HBB := zh hb
 clear hb
 go_enter Tryd.func51, Tryd.ntmps51
 go_upto_region 1 with fail
 refine wp_named1 (fun V1 hb g0 hlt => ?_)
 have B0 := zh hb
 have Fv0_1 : Hid (V1.heap[w.heap.size]? = some (.cells #[.int .i64 ((lw 0 : Nat) : Int), .int .i64 ((up 0 : Nat) : Int), .int .i64 ((lw 1 : Nat) : Int), .int .i64 ((up 1 : Nat) : Int), .int .i64 ((lw 2 : Nat) : Int), .int .i64 ((up 2 : Nat) : Int), .int .i64 ((lw 3 : Nat) : Int), .int .i64 ((up 3 : Nat) : Int)] 84 (0, 0))) := zh (g0)
 have Gb0 : Hid (w.heap.size ≤ w.heap.size) := zh (by omega)
 clear hb g0 hlt
 have Lt0 : Hid (w.heap.size < V1.heap.size) := zh (xp_lt Fv0_1.out)
 refine wp_region_lit ?_
 refine zr (.agg #[.int .i64 ((lw 0 : Nat) : Int), .int .i64 ((up 0 : Nat) : Int), .int .i64 ((lw 1 : Nat) : Int), .int .i64 ((up 1 : Nat) : Int), .int .i64 ((lw 2 : Nat) : Int), .int .i64 ((up 2 : Nat) : Int), .int .i64 ((lw 3 : Nat) : Int), .int .i64 ((up 3 : Nat) : Int)]) V1 (xo_loadW w.heap.size _ Fv0_1.out Tryd.underlying84 rfl (by kernel_rfl) rfl rfl) ?_
 simp only [Act.put, zA]
 refine zr (.int .i64 0) V1 rfl ?_
 simp only [Act.put, zA]
 refine wpList_nil ?_
 have O1 := Fv0_1.out
 have O2 := B0.out
 go_wp2_with fail
 go_loopw [6] (fun p wr => ∃ i : Nat, i ≤ 4 ∧ p = .int .i64 i ∧ (∀ c, c < i → lw c ≤ up c) ∧ wr.heap[w.heap.size]? = some (.cells #[.int .i64 ((lw 0 : Nat) : Int), .int .i64 ((up 0 : Nat) : Int), .int .i64 ((lw 1 : Nat) : Int), .int .i64 ((up 1 : Nat) : Int), .int .i64 ((lw 2 : Nat) : Int), .int .i64 ((up 2 : Nat) : Int), .int .i64 ((lw 3 : Nat) : Int), .int .i64 ((up 3 : Nat) : Int)] 84 (0, 0)) ∧ Below w.heap.size w wr) (fun p _ => 4 - (intOf p).toNat)
 case atStart => exact ⟨0, Nat.zero_le _, rfl, (fun c h => absurd h (by omega)), O1, O2⟩
 case round =>
  clear O1 O2
  obtain ⟨wo, rfl⟩ : ∃ wo : World, wo = wr := ⟨_, rfl⟩
  obtain ⟨i, hi, rfl, hHALL, hr0, hb0⟩ := hrel
  have hbr := hb0
  clear B0
  have B0 := zh hbr
  clear hbr
  clear Fv0_1
  have Fv0_1 : Hid (wo.heap[w.heap.size]? = some (.cells #[.int .i64 ((lw 0 : Nat) : Int), .int .i64 ((up 0 : Nat) : Int), .int .i64 ((lw 1 : Nat) : Int), .int .i64 ((up 1 : Nat) : Int), .int .i64 ((lw 2 : Nat) : Int), .int .i64 ((up 2 : Nat) : Int), .int .i64 ((lw 3 : Nat) : Int), .int .i64 ((up 3 : Nat) : Int)] 84 (0, 0))) := zh (hr0)
  have HALL := zh hHALL
  clear hb0 hr0 hHALL
  by_cases hi4 : i < 4
  ·have hci4 : ((i : Int) < 4) := by omega
   go_upto_region 2 with fail
   refine wp_region_lit ?_
   refine zr (.bool true) wo (xo_lssT .i64 (i : Int) 4 (by omega) rfl rfl rfl) ?_
   simp only [Act.put, zA]
   refine wpList_nil ?_
   obtain ⟨a, ha⟩ : ∃ a, lw i = a := ⟨_, rfl⟩
   have HA := zh ha
   obtain ⟨d, hd⟩ : ∃ d, up i = d := ⟨_, rfl⟩
   have HD := zh hd
   clear ha hd
   go_upto_region 3 with fail
   refine wp_region_lit ?_
   refine zr (.agg #[.int .i64 (a : Int), .int .i64 (d : Int)]) wo (xsp_index lw up i a d hi4 HA.out HD.out rfl rfl rfl) ?_
   simp only [Act.put, zA]
   refine wpList_new #[.int .i64 0, .int .i64 0] 82 (by kernel_rfl) (xo_alloc #[.int .i64 0, .int .i64 0] (by kernel_rfl) rfl) ?_
   intro b4 V2 hge h0 hb
   have N5_0 : Hid (w.heap.size ≠ b4) := zh (xp_lt0 Fv0_1.out hge)
   have Ge6 : Hid (wo.heap.size ≤ b4) := zh hge
   have B1 := zh hb
   have Fv7_4 : Hid (V2.heap[b4]? = some (.cells #[.int .i64 0, .int .i64 0] 82 (0, 0))) := zh (h0)
   have Lt8 : Hid (b4 < V2.heap.size) := zh (xp_lt Fv7_4.out)
   clear hge h0 hb
   simp only [ptr, Act.put, zA]
   refine wpList_storeW b4 #[.int .i64 0, .int .i64 0] #[.int .i64 (a : Int), .int .i64 (d : Int)] 82 (by kernel_rfl) Fv7_4.out (xo_storeW b4 #[.int .i64 0, .int .i64 0] #[.int .i64 (a : Int), .int .i64 (d : Int)] Fv7_4.out (by kernel_rfl) rfl (by simp [Value.oneCell']) rfl rfl rfl) ?_
   intro X2_9 h1 hfar hbel hsz
   have hbr := hbel _ _ Ge6.out B1.out
   clear B1
   have B1 := zh hbr
   clear hbr
   clear Fv7_4
   have Fv7_4 : Hid (X2_9.heap[b4]? = some (.cells #[.int .i64 (a : Int), .int .i64 (d : Int)] 82 (0, 0))) := zh (h1)
   have HszX2_9 := zh hsz
   clear h1 hfar hbel hsz
   simp only [ptr, Act.put, zA]
   refine wpList_nil ?_
   by_cases hda : d < a
   ·have hci10 : ((d : Int) < (a : Int)) := by omega
    go_upto_region 4 with fail
    refine wp_region_lit ?_
    refine zr (.pointer (some ⟨b4, 1, none⟩)) X2_9 (xo_fld0 1 b4 1 (by kernel_rfl) rfl rfl) ?_
    simp only [Act.put, zA]
    refine zr (.int .i64 (d : Int)) X2_9 (xo_load1 ⟨b4, 1, none⟩ _ (cells_at Fv7_4.out 1 rfl) Tryd.underlying3 rfl rfl rfl) ?_
    simp only [Act.put, zA]
    refine zr (.pointer (some ⟨b4, 0, none⟩)) X2_9 (xo_fld0 0 b4 0 (by kernel_rfl) rfl rfl) ?_
    simp only [Act.put, zA]
    refine zr (.int .i64 (a : Int)) X2_9 (xo_load1 ⟨b4, 0, none⟩ _ (cells_at Fv7_4.out 0 rfl) Tryd.underlying3 rfl rfl rfl) ?_
    simp only [Act.put, zA]
    refine zr (.bool true) X2_9 (xo_lssT .i64 (d : Int) (a : Int) (by omega) rfl rfl rfl) ?_
    simp only [Act.put, zA]
    refine wpList_nil ?_
    go_upto_region 5 with fail
    refine wp_region_lit ?_
    refine zr (.bool false) X2_9 rfl ?_
    simp only [Act.put, zA]
    refine wpList_nil ?_
    obtain rfl : b = false := by rw [← HBB.out]; exact all_false (i := i) (x := i) (by rw [List.getElem?_range hi4]) (decide_eq_false (by rw [HA.out, HD.out]; omega))
    have C0_2 := zb B0 B1
    have hbf := C0_2.out
    go_wp2_with fail
    go_ret
    exact ⟨rfl, hbf⟩
   ·have hci10 : ¬ ((d : Int) < (a : Int)) := by omega
    go_upto_region 4 with fail
    refine wp_region_lit ?_
    refine zr (.pointer (some ⟨b4, 1, none⟩)) X2_9 (xo_fld0 1 b4 1 (by kernel_rfl) rfl rfl) ?_
    simp only [Act.put, zA]
    refine zr (.int .i64 (d : Int)) X2_9 (xo_load1 ⟨b4, 1, none⟩ _ (cells_at Fv7_4.out 1 rfl) Tryd.underlying3 rfl rfl rfl) ?_
    simp only [Act.put, zA]
    refine zr (.pointer (some ⟨b4, 0, none⟩)) X2_9 (xo_fld0 0 b4 0 (by kernel_rfl) rfl rfl) ?_
    simp only [Act.put, zA]
    refine zr (.int .i64 (a : Int)) X2_9 (xo_load1 ⟨b4, 0, none⟩ _ (cells_at Fv7_4.out 0 rfl) Tryd.underlying3 rfl rfl rfl) ?_
    simp only [Act.put, zA]
    refine zr (.bool false) X2_9 (xo_lssF .i64 (d : Int) (a : Int) (by omega) rfl rfl rfl) ?_
    simp only [Act.put, zA]
    refine wpList_nil ?_
    go_upto_region 6 with fail
    refine wp_region_lit ?_
    refine zr (.int .i64 ((i + 1 : Nat) : Int)) X2_9 (xo_addI (i : Int) 1 ((i + 1 : Nat) : Int) (by omega) (by omega) (by omega) rfl rfl rfl) ?_
    simp only [Act.put, zA]
    refine zr (.int .i64 ((i + 1 : Nat) : Int)) X2_9 rfl ?_
    simp only [Act.put, zA]
    refine wpList_nil ?_
    have hal : ∀ c, c < i + 1 → lw c ≤ up c := fun c hc => by
         by_cases hci : c = i
         ·rw [hci, HA.out, HD.out]; omega
         ·exact HALL.out c (by omega)
    have hq11 := (heap_keep Fv0_1.out B1.out)
    have C0_2 := zb B0 B1
    have hq12 := C0_2.out
    go_wp2_with fail
    go_roundw
    case rel => exact ⟨i + 1, by omega, by go_num, hal, hq11, hq12⟩
    case measure => simp [intOf]; omega
  ·have hci4 : ¬ ((i : Int) < 4) := by omega
   go_upto_region 2 with fail
   refine wp_region_lit ?_
   refine zr (.bool false) wo (xo_lssF .i64 (i : Int) 4 (by omega) rfl rfl rfl) ?_
   simp only [Act.put, zA]
   refine wpList_nil ?_
   go_upto_region 7 with fail
   refine wp_region_lit ?_
   refine zr (.bool true) wo rfl ?_
   simp only [Act.put, zA]
   refine wpList_nil ?_
   obtain rfl : b = true := by rw [← HBB.out, List.all_eq_true]; intro c hc; exact decide_eq_true (HALL.out c (by have := List.mem_range.1 hc; omega))
   have hbf := B0.out
   go_wp2_with fail
   go_ret
   exact ⟨rfl, hbf⟩
end Go.Proofs.YtbecajihgbbgjaaDoor

namespace Go.Proofs.YtbecajihgbbgjaaDoor
set_option maxRecDepth 8000
open Go.RowKit Go.Proofs.YtbecajihgbbgjaaDoor.K
attribute [local irreducible] wpList wpQuiet
theorem xsp_iad {ev : Operand → Value} {o : Oper} {w : World} {x y : Operand} (b i : Nat) (hi4 : i < 4) (ho : o.op = .indexAddr 84 x y) (hx : ev x = .pointer (some ⟨b, 0, none⟩)) (hy : ev y = .int .i64 (i : Int)) :
  (execOp ev o).run Tryd.prog w = .ok (.value (.pointer (some ⟨b, i * 2, none⟩))) w := by
 unfold execOp
 simp only [ho, hx, hy]
 rcases i with _ | _ | _ | _ | i
 ·rfl
 ·rfl
 ·rfl
 ·rfl
 ·omega
theorem sp_range {w : World} {b : Nat} {t : TypeId} {lw up : Nat → Nat} (h : w.heap[b]? = some (.cells #[.int .i64 (lw 0 : Int), .int .i64 (up 0 : Int), .int .i64 (lw 1 : Int), .int .i64 (up 1 : Int), .int .i64 (lw 2 : Int), .int .i64 (up 2 : Int), .int .i64 (lw 3 : Int), .int .i64 (up 3 : Int)] t (0, 0))) (i a d : Nat) (hi4 : i < 4) (ha : lw i = a) (hd : up i = d) : w.rangeAt b (i * 2) [.int .i64 (a : Int), .int .i64 (d : Int)] := by
 intro j v hj
 subst ha hd
 rcases j with _ | _ | j
 ·injection hj with hj
  subst hj
  rcases i with _ | _ | _ | _ | i
  ·exact cells_at h 0 rfl
  ·exact cells_at h 2 rfl
  ·exact cells_at h 4 rfl
  ·exact cells_at h 6 rfl
  ·omega
 ·injection hj with hj
  subst hj
  rcases i with _ | _ | _ | _ | i
  ·exact cells_at h 1 rfl
  ·exact cells_at h 3 rfl
  ·exact cells_at h 5 rfl
  ·exact cells_at h 7 rfl
  ·omega
 ·simp at hj
set_option maxRecDepth 100000 in
set_option maxHeartbeats 16000000 in
theorem count_sp (lw up : Nat → Nat) (col v : Nat) (hc : col < 4) (r : Nat) (hr : (if lw col ≤ v ∧ v ≤ up col then 1 else 0) = r) (w : World) : Calls Tryd.prog 45 #[.agg #[.int .i64 (lw 0 : Int), .int .i64 (up 0 : Int), .int .i64 (lw 1 : Int), .int .i64 (up 1 : Int), .int .i64 (lw 2 : Int), .int .i64 (up 2 : Int), .int .i64 (lw 3 : Int), .int .i64 (up 3 : Int)], .int .i64 (col : Int), .int .i64 (v : Int)] w fun e w' => e = .returned (.int .i64 (r : Int)) ∧ Below w.heap.size w w' := by
 have HRR := zh hr
 clear hr
 obtain ⟨a, ha⟩ : ∃ a, lw col = a := ⟨_, rfl⟩
 have HA := zh ha
 obtain ⟨d, hd⟩ : ∃ d, up col = d := ⟨_, rfl⟩
 have HD := zh hd
 clear ha hd
 go_enter Tryd.func45, Tryd.ntmps45
 go_upto_region 1 with fail
 refine wp_named1 (fun V1 hb g0 hlt => ?_)
 have B0 := zh hb
 have Fv0_3 : Hid (V1.heap[w.heap.size]? = some (.cells #[.int .i64 ((lw 0 : Nat) : Int), .int .i64 ((up 0 : Nat) : Int), .int .i64 ((lw 1 : Nat) : Int), .int .i64 ((up 1 : Nat) : Int), .int .i64 ((lw 2 : Nat) : Int), .int .i64 ((up 2 : Nat) : Int), .int .i64 ((lw 3 : Nat) : Int), .int .i64 ((up 3 : Nat) : Int)] 84 (0, 0))) := zh (g0)
 have Gb0 : Hid (w.heap.size ≤ w.heap.size) := zh (by omega)
 clear hb g0 hlt
 have Lt0 : Hid (w.heap.size < V1.heap.size) := zh (xp_lt Fv0_3.out)
 by_cases hin : a ≤ v ∧ v ≤ d
 ·refine wp_region_lit ?_
  refine zr (.int .i64 (col : Int)) V1 rfl ?_
  simp only [Act.put, zA]
  refine zr (.pointer (some ⟨w.heap.size, col * 2, none⟩)) V1 (xsp_iad w.heap.size col hc rfl rfl rfl) ?_
  simp only [Act.put, zA]
  refine zr (.agg #[.int .i64 (a : Int), .int .i64 (d : Int)]) V1 (xo_loadR w.heap.size (col * 2) [.int .i64 (a : Int), .int .i64 (d : Int)] (sp_range Fv0_3.out col a d hc HA.out HD.out) Tryd.underlying82 rfl (by kernel_rfl) rfl rfl) ?_
  simp only [Act.put, zA]
  refine zr (.int .i64 (v : Int)) V1 rfl ?_
  simp only [Act.put, zA]
  refine wpList_call (by kernel_rfl) 57 Tryd.func57 (by kernel_rfl) (by kernel_rfl) _ _ #[.agg #[.int .i64 (a : Int), .int .i64 (d : Int)], .int .i64 (v : Int)] rfl (by kernel_rfl) ?_
  refine (has_as a d v true (by simp; omega) V1).mono ?_
  rintro e V2 ⟨rfl, hb⟩
  have B1 := zh hb
  clear hb 
  refine ⟨_, rfl, ?_⟩
  simp only [Act.put, zA]
  refine wpList_nil ?_
  go_upto_region 2 with fail
  refine wp_region_lit ?_
  refine zr (.int .i64 1) V2 rfl ?_
  simp only [Act.put, zA]
  refine wpList_nil ?_
  obtain rfl : r = 1 := by rw [← HRR.out, HA.out, HD.out, if_pos hin]
  have C0_2 := zb B0 B1
  have hbf := C0_2.out
  go_wp2_with fail
  go_ret
  exact ⟨rfl, hbf⟩
 ·refine wp_region_lit ?_
  refine zr (.int .i64 (col : Int)) V1 rfl ?_
  simp only [Act.put, zA]
  refine zr (.pointer (some ⟨w.heap.size, col * 2, none⟩)) V1 (xsp_iad w.heap.size col hc rfl rfl rfl) ?_
  simp only [Act.put, zA]
  refine zr (.agg #[.int .i64 (a : Int), .int .i64 (d : Int)]) V1 (xo_loadR w.heap.size (col * 2) [.int .i64 (a : Int), .int .i64 (d : Int)] (sp_range Fv0_3.out col a d hc HA.out HD.out) Tryd.underlying82 rfl (by kernel_rfl) rfl rfl) ?_
  simp only [Act.put, zA]
  refine zr (.int .i64 (v : Int)) V1 rfl ?_
  simp only [Act.put, zA]
  refine wpList_call (by kernel_rfl) 57 Tryd.func57 (by kernel_rfl) (by kernel_rfl) _ _ #[.agg #[.int .i64 (a : Int), .int .i64 (d : Int)], .int .i64 (v : Int)] rfl (by kernel_rfl) ?_
  refine (has_as a d v false (by simp; omega) V1).mono ?_
  rintro e V2 ⟨rfl, hb⟩
  have B1 := zh hb
  clear hb 
  refine ⟨_, rfl, ?_⟩
  simp only [Act.put, zA]
  refine wpList_nil ?_
  go_upto_region 3 with fail
  refine wp_region_lit ?_
  refine zr (.int .i64 0) V2 rfl ?_
  simp only [Act.put, zA]
  refine wpList_nil ?_
  obtain rfl : r = 0 := by rw [← HRR.out, HA.out, HD.out, if_neg hin]
  have C0_2 := zb B0 B1
  have hbf := C0_2.out
  go_wp2_with fail
  go_ret
  exact ⟨rfl, hbf⟩
end Go.Proofs.YtbecajihgbbgjaaDoor

namespace Go.Proofs.YtbecajihgbbgjaaDoor
set_option maxRecDepth 8000
open Go.RowKit Go.Proofs.YtbecajihgbbgjaaDoor.K
attribute [local irreducible] wpList wpQuiet
namespace Ty
def upN (f : Nat → Nat) (i a : Nat) (c : Nat) : Nat := if c = i then a else f c
theorem up_at (f : Nat → Nat) (i a : Nat) : upN f i a i = a := by unfold upN; rw [if_pos rfl]
theorem up_ne {f : Nat → Nat} {i a c : Nat} (h : c ≠ i) : upN f i a c = f c := by unfold upN; rw [if_neg h]
theorem wid_max {i : Nat} (h : i < 4) : 2 ^ widN i = Qu.maxN i + 1 := by
 rcases i with _ | _ | _ | _ | i <;> first | rfl | omega
theorem wid_le (i : Nat) : widN i ≤ 8 := by unfold widN; split <;> decide
end Ty
theorem xsp_store {ev : Operand → Value} {o : Oper} {w : World} {x y : Operand} {tt : TypeId} (b : Nat) (lw up : Nat → Nat) (i a d : Nat) (hi4 : i < 4) (hw : w.heap[b]? = some (.cells #[.int .i64 ((lw 0 : Nat) : Int), .int .i64 ((up 0 : Nat) : Int), .int .i64 ((lw 1 : Nat) : Int), .int .i64 ((up 1 : Nat) : Int), .int .i64 ((lw 2 : Nat) : Int), .int .i64 ((up 2 : Nat) : Int), .int .i64 ((lw 3 : Nat) : Int), .int .i64 ((up 3 : Nat) : Int)] tt (0, 0))) (ho : o.op = .store 82 x y) (hx : ev x = .pointer (some ⟨b, i * 2, none⟩)) (hy : ev y = .agg #[.int .i64 (a : Int), .int .i64 (d : Int)]) :
  (execOp ev o).run Tryd.prog w = .ok .skip (w.setRow b #[.int .i64 ((Ty.upN lw i a 0 : Nat) : Int), .int .i64 ((Ty.upN up i d 0 : Nat) : Int), .int .i64 ((Ty.upN lw i a 1 : Nat) : Int), .int .i64 ((Ty.upN up i d 1 : Nat) : Int), .int .i64 ((Ty.upN lw i a 2 : Nat) : Int), .int .i64 ((Ty.upN up i d 2 : Nat) : Int), .int .i64 ((Ty.upN lw i a 3 : Nat) : Int), .int .i64 ((Ty.upN up i d 3 : Nat) : Int)]) := by
 rcases i with _ | _ | _ | _ | i
 ·exact xo_storeM b 0 _ _ [.int .i64 (a : Int), .int .i64 (d : Int)] hw rfl (by simp) (by kernel_rfl) (by simp [Value.oneCell']) ho hx (by rw [hy]; rfl)
 ·exact xo_storeM b 2 _ _ [.int .i64 (a : Int), .int .i64 (d : Int)] hw rfl (by simp) (by kernel_rfl) (by simp [Value.oneCell']) ho hx (by rw [hy]; rfl)
 ·exact xo_storeM b 4 _ _ [.int .i64 (a : Int), .int .i64 (d : Int)] hw rfl (by simp) (by kernel_rfl) (by simp [Value.oneCell']) ho hx (by rw [hy]; rfl)
 ·exact xo_storeM b 6 _ _ [.int .i64 (a : Int), .int .i64 (d : Int)] hw rfl (by simp) (by kernel_rfl) (by simp [Value.oneCell']) ho hx (by rw [hy]; rfl)
 ·omega
set_option maxRecDepth 100000 in
set_option maxHeartbeats 32000000 in
theorem spansOf_as (A : Option Addr) (n c : Nat) (l : List Qu.Cd) (hc4 : ∀ e ∈ l, e.col < 4) (w : World) (hL : Sg ciC 3 w A n c (l.map Qu.Cd.ci)) (hG : Gw5 w) :
  Calls Tryd.prog 50 #[.slice A n c] w fun e w' => ∃ lw up : Nat → Nat, e = .returned (.agg #[.int .i64 (lw 0 : Int), .int .i64 (up 0 : Int), .int .i64 (lw 1 : Int), .int .i64 (up 1 : Int), .int .i64 (lw 2 : Int), .int .i64 (up 2 : Int), .int .i64 (lw 3 : Int), .int .i64 (up 3 : Int)]) ∧ (∀ c, c < 4 → lw c = (Ty.spC l c).1 ∧ up c = (Ty.spC l c).2) ∧ Below w.heap.size w w' := by
 have HL := zh hL
 have HG := zh hG
 have hln : l.length = n := by have := hL.len; rwa [List.length_map] at this
 have hlc := hL.cap
 have hlt := hL.top
 have HC4 := zh hc4
 clear hL hG hc4
 go_enter Tryd.func50, Tryd.ntmps50
 go_upto_region 1 with fail
 refine wp_named1 (fun V1 hb g0 hlt => ?_)
 have B0 := zh hb
 have Fv0_2 : Hid (V1.heap[w.heap.size]? = some (.cells #[.int .i64 0, .int .i64 0, .int .i64 0, .int .i64 0, .int .i64 0, .int .i64 0, .int .i64 0, .int .i64 0] 84 (0, 0))) := zh (g0)
 have Gb0 : Hid (w.heap.size ≤ w.heap.size) := zh (by omega)
 clear hb g0 hlt
 have Lt0 : Hid (w.heap.size < V1.heap.size) := zh (xp_lt Fv0_2.out)
 refine wp_region_lit ?_
 refine wpList_new #[.int .i64 0, .int .i64 0, .int .i64 0, .int .i64 0, .int .i64 0, .int .i64 0, .int .i64 0, .int .i64 0] 84 (by kernel_rfl) (xo_alloc #[.int .i64 0, .int .i64 0, .int .i64 0, .int .i64 0, .int .i64 0, .int .i64 0, .int .i64 0, .int .i64 0] (by kernel_rfl) rfl) ?_
 intro b3 V2 hge h0 hb
 have N1_0 : Hid (w.heap.size ≠ b3) := zh (xp_lt0 Fv0_2.out hge)
 have Ge2 : Hid (V1.heap.size ≤ b3) := zh hge
 have B1 := zh hb
 have Fv3_3 : Hid (V2.heap[b3]? = some (.cells #[.int .i64 0, .int .i64 0, .int .i64 0, .int .i64 0, .int .i64 0, .int .i64 0, .int .i64 0, .int .i64 0] 84 (0, 0))) := zh (h0)
 have Lt4 : Hid (b3 < V2.heap.size) := zh (xp_lt Fv3_3.out)
 clear hge h0 hb
 simp only [ptr, Act.put, zA]
 refine wpList_nil ?_
 go_upto_region 2 with fail
 refine wp_region_lit ?_
 refine zr (.int .i64 0) V2 rfl ?_
 simp only [Act.put, zA]
 refine wpList_nil ?_
 have O5 := (heap_keep Fv0_2.out B1.out)
 have O6 := Fv3_3.out
 have C0_2 := zb B0 B1
 have O7 := C0_2.out
 have Gr8 : Hid (w.heap.size ≤ b3) := zh (Nat.le_trans B0.out.size Ge2.out)
 go_wp2_with fail
 go_loopw [7] (fun p wr => ∃ i : Nat, ∃ (lw : Nat → Nat) (up : Nat → Nat), i ≤ 4 ∧ p = .int .i64 i ∧ (∀ c, lw c = 0) ∧ (∀ c, c < i → up c = Qu.maxN c) ∧ wr.heap[w.heap.size]? = some (.cells #[.int .i64 0, .int .i64 0, .int .i64 0, .int .i64 0, .int .i64 0, .int .i64 0, .int .i64 0, .int .i64 0] 84 (0, 0)) ∧ wr.heap[b3]? = some (.cells #[.int .i64 ((lw 0 : Nat) : Int), .int .i64 ((up 0 : Nat) : Int), .int .i64 ((lw 1 : Nat) : Int), .int .i64 ((up 1 : Nat) : Int), .int .i64 ((lw 2 : Nat) : Int), .int .i64 ((up 2 : Nat) : Int), .int .i64 ((lw 3 : Nat) : Int), .int .i64 ((up 3 : Nat) : Int)] 84 (0, 0)) ∧ Below w.heap.size w wr) (fun p _ => 4 - (intOf p).toNat)
 case atStart => exact ⟨0, (fun _ => 0), (fun _ => 0), Nat.zero_le _, rfl, (fun _ => rfl), (fun c h => absurd h (by omega)), O5, O6, O7⟩
 case round =>
  clear O5 O6 O7
  obtain ⟨wo, rfl⟩ : ∃ wo : World, wo = wr := ⟨_, rfl⟩
  obtain ⟨i, lw, up, hi, rfl, hHL0, hHU0, hr0, hr1, hb0⟩ := hrel
  have hbr := hb0
  clear B0
  have B0 := zh hbr
  clear hbr
  clear Fv0_2
  have Fv0_2 : Hid (wo.heap[w.heap.size]? = some (.cells #[.int .i64 0, .int .i64 0, .int .i64 0, .int .i64 0, .int .i64 0, .int .i64 0, .int .i64 0, .int .i64 0] 84 (0, 0))) := zh (hr0)
  clear Fv3_3
  have Fv3_3 : Hid (wo.heap[b3]? = some (.cells #[.int .i64 ((lw 0 : Nat) : Int), .int .i64 ((up 0 : Nat) : Int), .int .i64 ((lw 1 : Nat) : Int), .int .i64 ((up 1 : Nat) : Int), .int .i64 ((lw 2 : Nat) : Int), .int .i64 ((up 2 : Nat) : Int), .int .i64 ((lw 3 : Nat) : Int), .int .i64 ((up 3 : Nat) : Int)] 84 (0, 0))) := zh (hr1)
  have HL0 := zh hHL0
  have HU0 := zh hHU0
  clear hb0 hr0 hr1 hHL0 hHU0
  by_cases hi4 : i < 4
  ·have hci10 : ((i : Int) < 4) := by omega
   go_upto_region 3 with fail
   refine wp_region_lit ?_
   refine zr (.bool true) wo (xo_lssT .i64 (i : Int) 4 (by omega) rfl rfl rfl) ?_
   simp only [Act.put, zA]
   refine wpList_nil ?_
   have h4i : i < 4 := by omega
   obtain ⟨wd, hwd⟩ : ∃ z, Ty.widN i = z := ⟨_, rfl⟩
   have HWD := zh hwd
   clear hwd
   obtain ⟨p2, hp2⟩ : ∃ z, 2 ^ wd = z := ⟨_, rfl⟩
   have HP2 := zh hp2
   clear hp2
   obtain ⟨m0, hm0⟩ : ∃ z, Qu.maxN i = z := ⟨_, rfl⟩
   have HM0 := zh hm0
   clear hm0
   have hp2 : p2 = m0 + 1 := by rw [← HP2.out, ← HWD.out, ← HM0.out]; exact Ty.wid_max h4i
   have hm5 : m0 ≤ 255 := by rw [← HM0.out]; exact Ty.maxN_le i
   have hwd : wd ≤ 8 := by rw [← HWD.out]; exact Ty.wid_le i
   go_upto_region 4 with fail
   refine wp_region_lit ?_
   refine zr (.int .i64 (i : Int)) wo rfl ?_
   simp only [Act.put, zA]
   refine zr (.int .i64 (i : Int)) wo rfl ?_
   simp only [Act.put, zA]
   refine wpList_nil ?_
   go_upto_region 5 with fail
   refine wp_region_lit ?_
   refine zr (.int .i64 (i : Int)) wo rfl ?_
   simp only [Act.put, zA]
   refine zr (.int .i64 (i : Int)) wo rfl ?_
   simp only [Act.put, zA]
   refine zr (.pointer (some ⟨0, i, none⟩)) wo (xw_iad i (by omega) rfl rfl rfl) ?_
   simp only [Act.put, zA]
   refine zr (.int .i64 (wd : Int)) wo (xo_load1 ⟨0, i, none⟩ _ (by rw [← HWD.out]; exact Gw5.at (HG.out.keep B0.out) i (by omega)) Tryd.underlying3 rfl rfl rfl) ?_
   simp only [Act.put, zA]
   refine zr (.int .i64 (p2 : Int)) wo (xo_shlI .i64 1 wd p2 (by rw [Nat.one_mul]; exact HP2.out) (by omega) rfl rfl rfl) ?_
   simp only [Act.put, zA]
   refine zr (.int .i64 (m0 : Int)) wo (xo_subI (p2 : Int) 1 (m0 : Int) (by omega) (by omega) (by omega) rfl rfl rfl) ?_
   simp only [Act.put, zA]
   refine zr (.agg #[.int .i64 0, .int .i64 (m0 : Int)]) wo (by unfold execOp; go_simp <;> rfl) ?_
   simp only [Act.put, zA]
   refine zr (.pointer (some ⟨b3, i * 2, none⟩)) wo (xsp_iad b3 i h4i rfl rfl rfl) ?_
   simp only [Act.put, zA]
   refine wpList_storeW b3 #[.int .i64 ((lw 0 : Nat) : Int), .int .i64 ((up 0 : Nat) : Int), .int .i64 ((lw 1 : Nat) : Int), .int .i64 ((up 1 : Nat) : Int), .int .i64 ((lw 2 : Nat) : Int), .int .i64 ((up 2 : Nat) : Int), .int .i64 ((lw 3 : Nat) : Int), .int .i64 ((up 3 : Nat) : Int)] #[.int .i64 ((Ty.upN lw i 0 0 : Nat) : Int), .int .i64 ((Ty.upN up i m0 0 : Nat) : Int), .int .i64 ((Ty.upN lw i 0 1 : Nat) : Int), .int .i64 ((Ty.upN up i m0 1 : Nat) : Int), .int .i64 ((Ty.upN lw i 0 2 : Nat) : Int), .int .i64 ((Ty.upN up i m0 2 : Nat) : Int), .int .i64 ((Ty.upN lw i 0 3 : Nat) : Int), .int .i64 ((Ty.upN up i m0 3 : Nat) : Int)] 84 (by kernel_rfl) Fv3_3.out (xsp_store b3 lw up i 0 m0 h4i Fv3_3.out rfl rfl rfl) ?_
   intro X1_11 h1 hfar hbel hsz
   have YFv0_2 : X1_11.heap[w.heap.size]? = some (.cells #[.int .i64 0, .int .i64 0, .int .i64 0, .int .i64 0, .int .i64 0, .int .i64 0, .int .i64 0, .int .i64 0] 84 (0, 0)) := hfar _ _ N1_0.out Fv0_2.out
   have hbr := hbel _ _ Gr8.out B0.out
   clear B0
   have B0 := zh hbr
   clear hbr
   clear Fv0_2
   have Fv0_2 : Hid (X1_11.heap[w.heap.size]? = some (.cells #[.int .i64 0, .int .i64 0, .int .i64 0, .int .i64 0, .int .i64 0, .int .i64 0, .int .i64 0, .int .i64 0] 84 (0, 0))) := zh YFv0_2
   clear YFv0_2
   clear Fv3_3
   have Fv3_3 : Hid (X1_11.heap[b3]? = some (.cells #[.int .i64 ((Ty.upN lw i 0 0 : Nat) : Int), .int .i64 ((Ty.upN up i m0 0 : Nat) : Int), .int .i64 ((Ty.upN lw i 0 1 : Nat) : Int), .int .i64 ((Ty.upN up i m0 1 : Nat) : Int), .int .i64 ((Ty.upN lw i 0 2 : Nat) : Int), .int .i64 ((Ty.upN up i m0 2 : Nat) : Int), .int .i64 ((Ty.upN lw i 0 3 : Nat) : Int), .int .i64 ((Ty.upN up i m0 3 : Nat) : Int)] 84 (0, 0))) := zh (h1)
   have HszX1_11 := zh hsz
   clear h1 hfar hbel hsz
   simp only [ptr, Act.put, zA]
   refine wpList_nil ?_
   go_upto_region 6 with fail
   refine wp_region_lit ?_
   refine zr (.int .i64 ((i + 1 : Nat) : Int)) X1_11 (xo_addI (i : Int) 1 ((i + 1 : Nat) : Int) (by omega) (by omega) (by omega) rfl rfl rfl) ?_
   simp only [Act.put, zA]
   refine zr (.int .i64 ((i + 1 : Nat) : Int)) X1_11 rfl ?_
   simp only [Act.put, zA]
   refine wpList_nil ?_
   have g1 : ∀ c, Ty.upN lw i 0 c = 0 := fun c => by
       by_cases h : c = i
       ·rw [h, Ty.up_at]
       ·rw [Ty.up_ne h]; exact HL0.out c
   have g2 : ∀ c, c < i + 1 → Ty.upN up i m0 c = Qu.maxN c := fun c hc => by
       by_cases h : c = i
       ·rw [h, Ty.up_at]; exact HM0.out.symm
       ·rw [Ty.up_ne h]; exact HU0.out c (by omega)
   have hq12 := Fv0_2.out
   have hq13 := Fv3_3.out
   have hq14 := B0.out
   go_wp2_with fail
   go_roundw
   case rel => exact ⟨i + 1, Ty.upN lw i 0, Ty.upN up i m0, by omega, by go_num, g1, g2, hq12, hq13, hq14⟩
   case measure => simp [intOf]; omega
  ·have hci10 : ¬ ((i : Int) < 4) := by omega
   go_upto_region 3 with fail
   refine wp_region_lit ?_
   refine zr (.bool false) wo (xo_lssF .i64 (i : Int) 4 (by omega) rfl rfl rfl) ?_
   simp only [Act.put, zA]
   refine wpList_nil ?_
   obtain rfl : i = 4 := by omega
   go_upto_region 7 with fail
   refine wp_region_lit ?_
   refine zr (.slice A n c) wo rfl ?_
   simp only [Act.put, zA]
   refine zr (.int .i64 (n : Int)) wo (xo_len A n c Tryd.underlying44 rfl rfl) ?_
   simp only [Act.put, zA]
   refine zr (.int .i64 0) wo rfl ?_
   simp only [Act.put, zA]
   refine wpList_nil ?_
   have hs0 : ∀ c, c < 4 → lw c = (Ty.spC (l.take 0) c).1 ∧ up c = (Ty.spC (l.take 0) c).2 := fun c hc => ⟨HL0.out c, HU0.out c hc⟩
   have HS0 := zh hs0
   clear hs0 HL0 HU0 hi
   have O11 := Fv0_2.out
   have O12 := Fv3_3.out
   have O13 := B0.out
   go_wp2_with fail
   go_loopw [21] (fun p wr => ∃ j : Nat, ∃ (lx : Nat → Nat) (ux : Nat → Nat), j ≤ n ∧ p = .int .i64 j ∧ (∀ c, c < 4 → lx c = (Ty.spC (l.take j) c).1 ∧ ux c = (Ty.spC (l.take j) c).2) ∧ wr.heap[w.heap.size]? = some (.cells #[.int .i64 0, .int .i64 0, .int .i64 0, .int .i64 0, .int .i64 0, .int .i64 0, .int .i64 0, .int .i64 0] 84 (0, 0)) ∧ wr.heap[b3]? = some (.cells #[.int .i64 ((lx 0 : Nat) : Int), .int .i64 ((ux 0 : Nat) : Int), .int .i64 ((lx 1 : Nat) : Int), .int .i64 ((ux 1 : Nat) : Int), .int .i64 ((lx 2 : Nat) : Int), .int .i64 ((ux 2 : Nat) : Int), .int .i64 ((lx 3 : Nat) : Int), .int .i64 ((ux 3 : Nat) : Int)] 84 (0, 0)) ∧ Below w.heap.size w wr) (fun p _ => n - (intOf p).toNat)
   case atStart => exact ⟨0, lw, up, Nat.zero_le _, rfl, HS0.out, O11, O12, O13⟩
   case round =>
    clear O11 O12 O13
    obtain ⟨wo, rfl⟩ : ∃ wo : World, wo = wr := ⟨_, rfl⟩
    obtain ⟨j, lx, ux, hi, rfl, hHSP, hr0, hr1, hb0⟩ := hrel
    have hbr := hb0
    clear B0
    have B0 := zh hbr
    clear hbr
    clear Fv0_2
    have Fv0_2 : Hid (wo.heap[w.heap.size]? = some (.cells #[.int .i64 0, .int .i64 0, .int .i64 0, .int .i64 0, .int .i64 0, .int .i64 0, .int .i64 0, .int .i64 0] 84 (0, 0))) := zh (hr0)
    clear Fv3_3
    have Fv3_3 : Hid (wo.heap[b3]? = some (.cells #[.int .i64 ((lx 0 : Nat) : Int), .int .i64 ((ux 0 : Nat) : Int), .int .i64 ((lx 1 : Nat) : Int), .int .i64 ((ux 1 : Nat) : Int), .int .i64 ((lx 2 : Nat) : Int), .int .i64 ((ux 2 : Nat) : Int), .int .i64 ((lx 3 : Nat) : Int), .int .i64 ((ux 3 : Nat) : Int)] 84 (0, 0))) := zh (hr1)
    have HSP := zh hHSP
    clear hb0 hr0 hr1 hHSP
    by_cases hjn : j < n
    ·have hci15 : ((j : Int) < (n : Int)) := by omega
     obtain ⟨e0, hx⟩ : ∃ e, l[j]? = some e := ⟨_, List.getElem?_eq_getElem (by omega)⟩
     have h4e := HC4.out e0 (List.mem_of_getElem? hx)
     obtain ⟨kc, lo, hi2⟩ := e0
     have h4i : kc < 4 := h4e
     clear h4e
     have HX := zh hx
     have HE : Hid ((l.map Qu.Cd.ci)[j]? = some (Qu.Ci.mk (kc : Int) (lo : Int) (hi2 : Int))) := zh (by rw [List.getElem?_map, hx]; rfl)
     clear hx
     obtain ⟨a, ha⟩ : ∃ z, lx kc = z := ⟨_, rfl⟩
     have HA := zh ha
     clear ha
     obtain ⟨d, hd⟩ : ∃ z, ux kc = z := ⟨_, rfl⟩
     have HD := zh hd
     clear hd
     obtain ⟨x, hx⟩ : ∃ z, max a lo = z := ⟨_, rfl⟩
     have HMX := zh hx
     clear hx
     obtain ⟨y, hy⟩ : ∃ z, min d hi2 = z := ⟨_, rfl⟩
     have HMY := zh hy
     clear hy
     go_upto_region 8 with fail
     refine wp_region_lit ?_
     refine zr (.bool true) wo (xo_lssT .i64 (j : Int) (n : Int) (by omega) rfl rfl rfl) ?_
     simp only [Act.put, zA]
     refine wpList_nil ?_
     go_upto_region 9 with fail
     refine wp_region_lit ?_
     refine zr (.pointer (some (gad A (j * 3)))) wo (xg_idx .i64 (HL.out.keep B0.out) HE.out Tryd.underlying44 (by kernel_rfl) rfl rfl rfl) ?_
     simp only [Act.put, zA]
     refine zr (.agg #[.int .i64 (kc : Int), .int .i64 (lo : Int), .int .i64 (hi2 : Int)]) wo (xg_loadE (E := ciC) (HL.out.keep B0.out) HE.out Tryd.underlying49 rfl (by kernel_rfl) rfl rfl) ?_
     simp only [Act.put, zA]
     refine wpList_new #[.int .i64 0, .int .i64 0, .int .i64 0] 49 (by kernel_rfl) (xo_alloc #[.int .i64 0, .int .i64 0, .int .i64 0] (by kernel_rfl) rfl) ?_
     intro b6 V2 hge h0 hb
     have N16_0 : Hid (w.heap.size ≠ b6) := zh (xp_lt0 Fv0_2.out hge)
     have N17_1 : Hid (b3 ≠ b6) := zh (xp_lt0 Fv3_3.out hge)
     have Ge18 : Hid (wo.heap.size ≤ b6) := zh hge
     have B1 := zh hb
     have Fv19_6 : Hid (V2.heap[b6]? = some (.cells #[.int .i64 0, .int .i64 0, .int .i64 0] 49 (0, 0))) := zh (h0)
     have Lt20 : Hid (b6 < V2.heap.size) := zh (xp_lt Fv19_6.out)
     clear hge h0 hb
     simp only [ptr, Act.put, zA]
     refine wpList_storeW b6 #[.int .i64 0, .int .i64 0, .int .i64 0] #[.int .i64 (kc : Int), .int .i64 (lo : Int), .int .i64 (hi2 : Int)] 49 (by kernel_rfl) Fv19_6.out (xo_storeW b6 #[.int .i64 0, .int .i64 0, .int .i64 0] #[.int .i64 (kc : Int), .int .i64 (lo : Int), .int .i64 (hi2 : Int)] Fv19_6.out (by kernel_rfl) rfl (by simp [Value.oneCell']) rfl rfl rfl) ?_
     intro X2_21 h1 hfar hbel hsz
     have hbr := hbel _ _ Ge18.out B1.out
     clear B1
     have B1 := zh hbr
     clear hbr
     clear Fv19_6
     have Fv19_6 : Hid (X2_21.heap[b6]? = some (.cells #[.int .i64 (kc : Int), .int .i64 (lo : Int), .int .i64 (hi2 : Int)] 49 (0, 0))) := zh (h1)
     have HszX2_21 := zh hsz
     clear h1 hfar hbel hsz
     simp only [ptr, Act.put, zA]
     refine wpList_nil ?_
     go_upto_region 10 with fail
     try simp only [List.append_eq, List.cons_append, List.nil_append]
     refine wp_ordM 13 (.q 0 (.q 1 (.q 2 (.q 3 (.q 4 (.q 5 (.q 6 (.q 7 (.q 8 (.q 9 (.q 10 (.one 11 (.q 12 .nil))))))))))))) (by kernel_rfl) (by kernel_rfl) (by kernel_rfl) (by kernel_rfl) (by kernel_rfl) (by kernel_rfl) (by kernel_rfl) (fun V3 hb => ?_)
     have B2 := zh hb
     clear hb
     refine wpOT_q (.pointer (some ⟨b6, 0, none⟩)) rfl (by kernel_rfl) (fun v hW => (xo_fld0 0 b6 0 (by kernel_rfl) rfl rfl)) ?_
     simp only [ptr, Act.put, zA]
     refine wpOT_q (.int .i64 (kc : Int)) rfl (by kernel_rfl) (fun v hW => (xo_load1 ⟨b6, 0, none⟩ _ (cells_at (heap_keep (heap_keep Fv19_6.out B2.out) hW) 0 rfl) Tryd.underlying3 rfl rfl rfl)) ?_
     simp only [ptr, Act.put, zA]
     refine wpOT_q (.pointer (some ⟨b6, 0, none⟩)) rfl (by kernel_rfl) (fun v hW => (xo_fld0 0 b6 0 (by kernel_rfl) rfl rfl)) ?_
     simp only [ptr, Act.put, zA]
     refine wpOT_q (.int .i64 (kc : Int)) rfl (by kernel_rfl) (fun v hW => (xo_load1 ⟨b6, 0, none⟩ _ (cells_at (heap_keep (heap_keep Fv19_6.out B2.out) hW) 0 rfl) Tryd.underlying3 rfl rfl rfl)) ?_
     simp only [ptr, Act.put, zA]
     refine wpOT_q (.pointer (some ⟨b3, kc * 2, none⟩)) rfl (by kernel_rfl) (fun v hW => (xsp_iad b3 kc h4i rfl rfl rfl)) ?_
     simp only [ptr, Act.put, zA]
     have C1_3 := zb B1 B2
     refine wpOT_q (.agg #[.int .i64 (a : Int), .int .i64 (d : Int)]) rfl (by kernel_rfl) (fun v hW => (xo_loadR b3 (kc * 2) [.int .i64 (a : Int), .int .i64 (d : Int)] (sp_range (heap_keep (heap_keep Fv3_3.out C1_3.out) hW) kc a d h4i HA.out HD.out) Tryd.underlying82 rfl (by kernel_rfl) rfl rfl)) ?_
     simp only [ptr, Act.put, zA]
     refine wpOT_q (.pointer (some ⟨b6, 1, none⟩)) rfl (by kernel_rfl) (fun v hW => (xo_fld0 1 b6 1 (by kernel_rfl) rfl rfl)) ?_
     simp only [ptr, Act.put, zA]
     refine wpOT_q (.int .i64 (lo : Int)) rfl (by kernel_rfl) (fun v hW => (xo_load1 ⟨b6, 1, none⟩ _ (cells_at (heap_keep (heap_keep Fv19_6.out B2.out) hW) 1 rfl) Tryd.underlying3 rfl rfl rfl)) ?_
     simp only [ptr, Act.put, zA]
     refine wpOT_q (.pointer (some ⟨b6, 2, none⟩)) rfl (by kernel_rfl) (fun v hW => (xo_fld0 2 b6 2 (by kernel_rfl) rfl rfl)) ?_
     simp only [ptr, Act.put, zA]
     refine wpOT_q (.int .i64 (hi2 : Int)) rfl (by kernel_rfl) (fun v hW => (xo_load1 ⟨b6, 2, none⟩ _ (cells_at (heap_keep (heap_keep Fv19_6.out B2.out) hW) 2 rfl) Tryd.underlying3 rfl rfl rfl)) ?_
     simp only [ptr, Act.put, zA]
     refine wpOT_q (.agg #[.int .i64 (lo : Int), .int .i64 (hi2 : Int)]) rfl (by kernel_rfl) (fun v hW => (by unfold execOp; go_simp <;> rfl)) ?_
     simp only [ptr, Act.put, zA]
     refine wpOT_one rfl (by kernel_rfl) ?_
     refine hOp_call 58 Tryd.func58 (by kernel_rfl) (by kernel_rfl) _ _ #[.agg #[.int .i64 (a : Int), .int .i64 (d : Int)], .agg #[.int .i64 (lo : Int), .int .i64 (hi2 : Int)]] rfl (by kernel_rfl) ?_
     refine (intersect_as a d lo hi2 x y HMX.out HMY.out V3).mono ?_
     rintro e V4 ⟨rfl, hb⟩
     have B3 := zh hb
     clear hb 
     refine ⟨_, rfl, B3.out, ?_⟩
     simp only [ptr, Act.put, zA]
     refine wpOT_q (.pointer (some ⟨b3, kc * 2, none⟩)) rfl (by kernel_rfl) (fun v hW => (xsp_iad b3 kc h4i rfl rfl rfl)) ?_
     simp only [ptr, Act.put, zA]
     refine wpOT_nil ?_
     have C1_4 := zb C1_3 B3
     have hfs := (heap_keep Fv3_3.out C1_4.out)
     have hgb := Gr8.out
     have C0_2 := zb B0 B1
     have C0_3 := zb C0_2 B2
     have C0_4 := zb C0_3 B3
     have hbs := C0_4.out
     have hfar : ∀ k o, k ≠ b3 → V4.heap[k]? = some o → (V4.setRow b3 #[.int .i64 ((Ty.upN lx kc x 0 : Nat) : Int), .int .i64 ((Ty.upN ux kc y 0 : Nat) : Int), .int .i64 ((Ty.upN lx kc x 1 : Nat) : Int), .int .i64 ((Ty.upN ux kc y 1 : Nat) : Int), .int .i64 ((Ty.upN lx kc x 2 : Nat) : Int), .int .i64 ((Ty.upN ux kc y 2 : Nat) : Int), .int .i64 ((Ty.upN lx kc x 3 : Nat) : Int), .int .i64 ((Ty.upN ux kc y 3 : Nat) : Int)]).heap[k]? = some o := fun k o hk h0 => heap_farRow h0 hk _
     have YFv0_2 : (V4.setRow b3 #[.int .i64 ((Ty.upN lx kc x 0 : Nat) : Int), .int .i64 ((Ty.upN ux kc y 0 : Nat) : Int), .int .i64 ((Ty.upN lx kc x 1 : Nat) : Int), .int .i64 ((Ty.upN ux kc y 1 : Nat) : Int), .int .i64 ((Ty.upN lx kc x 2 : Nat) : Int), .int .i64 ((Ty.upN ux kc y 2 : Nat) : Int), .int .i64 ((Ty.upN lx kc x 3 : Nat) : Int), .int .i64 ((Ty.upN ux kc y 3 : Nat) : Int)]).heap[w.heap.size]? = some (.cells #[.int .i64 0, .int .i64 0, .int .i64 0, .int .i64 0, .int .i64 0, .int .i64 0, .int .i64 0, .int .i64 0] 84 (0, 0)) := hfar _ _ N1_0.out (heap_keep Fv0_2.out C1_4.out)
     have C2_4 := zb B2 B3
     have YFv19_6 : (V4.setRow b3 #[.int .i64 ((Ty.upN lx kc x 0 : Nat) : Int), .int .i64 ((Ty.upN ux kc y 0 : Nat) : Int), .int .i64 ((Ty.upN lx kc x 1 : Nat) : Int), .int .i64 ((Ty.upN ux kc y 1 : Nat) : Int), .int .i64 ((Ty.upN lx kc x 2 : Nat) : Int), .int .i64 ((Ty.upN ux kc y 2 : Nat) : Int), .int .i64 ((Ty.upN lx kc x 3 : Nat) : Int), .int .i64 ((Ty.upN ux kc y 3 : Nat) : Int)]).heap[b6]? = some (.cells #[.int .i64 (kc : Int), .int .i64 (lo : Int), .int .i64 (hi2 : Int)] 49 (0, 0)) := hfar _ _ (Ne.symm N17_1.out) (heap_keep Fv19_6.out C2_4.out)
     refine mOp_run0 _ rfl rfl (xsp_store b3 lx ux kc x y h4i hfs rfl rfl rfl) ?_
     try simp only [List.getElem_toArray, List.getElem_cons_succ, List.getElem_cons_zero, ptr, Act.put, zA]
     have hfn := setRow_heap V4 b3 _ #[.int .i64 ((Ty.upN lx kc x 0 : Nat) : Int), .int .i64 ((Ty.upN ux kc y 0 : Nat) : Int), .int .i64 ((Ty.upN lx kc x 1 : Nat) : Int), .int .i64 ((Ty.upN ux kc y 1 : Nat) : Int), .int .i64 ((Ty.upN lx kc x 2 : Nat) : Int), .int .i64 ((Ty.upN ux kc y 2 : Nat) : Int), .int .i64 ((Ty.upN lx kc x 3 : Nat) : Int), .int .i64 ((Ty.upN ux kc y 3 : Nat) : Int)] _ _ hfs
     have hbn := bel_setRow hbs hgb #[.int .i64 ((Ty.upN lx kc x 0 : Nat) : Int), .int .i64 ((Ty.upN ux kc y 0 : Nat) : Int), .int .i64 ((Ty.upN lx kc x 1 : Nat) : Int), .int .i64 ((Ty.upN ux kc y 1 : Nat) : Int), .int .i64 ((Ty.upN lx kc x 2 : Nat) : Int), .int .i64 ((Ty.upN ux kc y 2 : Nat) : Int), .int .i64 ((Ty.upN lx kc x 3 : Nat) : Int), .int .i64 ((Ty.upN ux kc y 3 : Nat) : Int)]
     clear hfar
     generalize V4.setRow b3 #[.int .i64 ((Ty.upN lx kc x 0 : Nat) : Int), .int .i64 ((Ty.upN ux kc y 0 : Nat) : Int), .int .i64 ((Ty.upN lx kc x 1 : Nat) : Int), .int .i64 ((Ty.upN ux kc y 1 : Nat) : Int), .int .i64 ((Ty.upN lx kc x 2 : Nat) : Int), .int .i64 ((Ty.upN ux kc y 2 : Nat) : Int), .int .i64 ((Ty.upN lx kc x 3 : Nat) : Int), .int .i64 ((Ty.upN ux kc y 3 : Nat) : Int)] = X22 at *
     have Gt23 : Hid (w.heap.size ≤ b6) := zh (Nat.le_trans B0.out.size Ge18.out)
     have hbr := hbn
     clear B0
     have B0 := zh hbr
     clear hbr
     clear Fv0_2
     have Fv0_2 := zh YFv0_2
     clear YFv0_2
     clear Fv19_6
     have Fv19_6 := zh YFv19_6
     clear YFv19_6
     clear Fv3_3
     have Fv3_3 : Hid (X22.heap[b3]? = some (.cells #[.int .i64 ((Ty.upN lx kc x 0 : Nat) : Int), .int .i64 ((Ty.upN ux kc y 0 : Nat) : Int), .int .i64 ((Ty.upN lx kc x 1 : Nat) : Int), .int .i64 ((Ty.upN ux kc y 1 : Nat) : Int), .int .i64 ((Ty.upN lx kc x 2 : Nat) : Int), .int .i64 ((Ty.upN ux kc y 2 : Nat) : Int), .int .i64 ((Ty.upN lx kc x 3 : Nat) : Int), .int .i64 ((Ty.upN ux kc y 3 : Nat) : Int)] 84 (0, 0))) := zh hfn
     clear hfs hgb hbs hfn hbn
     go_upto_region 11 with fail
     refine wp_region_lit ?_
     refine zr (.int .i64 ((j + 1 : Nat) : Int)) X22 (xo_addI (j : Int) 1 ((j + 1 : Nat) : Int) (by omega) (by omega) (by omega) rfl rfl rfl) ?_
     simp only [Act.put, zA]
     refine zr (.int .i64 ((j + 1 : Nat) : Int)) X22 rfl ?_
     simp only [Act.put, zA]
     refine wpList_nil ?_
     have g1 : ∀ c, c < 4 → Ty.upN lx kc x c = (Ty.spC (l.take (j + 1)) c).1 ∧ Ty.upN ux kc y c = (Ty.spC (l.take (j + 1)) c).2 := fun c hc => by
           rw [Ty.spC_take HX.out]
           have h2 := HSP.out c hc
           unfold Ty.stC
           by_cases h : c = kc
           ·subst h
            rw [if_pos rfl, Ty.up_at, Ty.up_at, ← HMX.out, ← HMY.out, ← HA.out, ← HD.out, h2.1, h2.2]
            exact ⟨rfl, rfl⟩
           ·rw [if_neg (show ¬ kc = c from fun e => h e.symm), Ty.up_ne h, Ty.up_ne h]
            exact h2
     have hq24 := Fv0_2.out
     have hq25 := Fv3_3.out
     have hq26 := B0.out
     go_wp2_with fail
     go_roundw
     case rel => exact ⟨j + 1, Ty.upN lx kc x, Ty.upN ux kc y, by omega, by go_num, g1, hq24, hq25, hq26⟩
     case measure => simp [intOf]; omega
    ·have hci15 : ¬ ((j : Int) < (n : Int)) := by omega
     go_upto_region 8 with fail
     refine wp_region_lit ?_
     refine zr (.bool false) wo (xo_lssF .i64 (j : Int) (n : Int) (by omega) rfl rfl rfl) ?_
     simp only [Act.put, zA]
     refine wpList_nil ?_
     obtain rfl : j = n := by omega
     go_upto_region 12 with fail
     refine wp_region_lit ?_
     refine zr (.agg #[.int .i64 ((lx 0 : Nat) : Int), .int .i64 ((ux 0 : Nat) : Int), .int .i64 ((lx 1 : Nat) : Int), .int .i64 ((ux 1 : Nat) : Int), .int .i64 ((lx 2 : Nat) : Int), .int .i64 ((ux 2 : Nat) : Int), .int .i64 ((lx 3 : Nat) : Int), .int .i64 ((ux 3 : Nat) : Int)]) wo (xo_loadW b3 _ Fv3_3.out Tryd.underlying84 rfl (by kernel_rfl) rfl rfl) ?_
     simp only [Act.put, zA]
     refine wpList_storeW w.heap.size #[.int .i64 0, .int .i64 0, .int .i64 0, .int .i64 0, .int .i64 0, .int .i64 0, .int .i64 0, .int .i64 0] #[.int .i64 ((lx 0 : Nat) : Int), .int .i64 ((ux 0 : Nat) : Int), .int .i64 ((lx 1 : Nat) : Int), .int .i64 ((ux 1 : Nat) : Int), .int .i64 ((lx 2 : Nat) : Int), .int .i64 ((ux 2 : Nat) : Int), .int .i64 ((lx 3 : Nat) : Int), .int .i64 ((ux 3 : Nat) : Int)] 84 (by kernel_rfl) Fv0_2.out (xo_storeW w.heap.size #[.int .i64 0, .int .i64 0, .int .i64 0, .int .i64 0, .int .i64 0, .int .i64 0, .int .i64 0, .int .i64 0] #[.int .i64 ((lx 0 : Nat) : Int), .int .i64 ((ux 0 : Nat) : Int), .int .i64 ((lx 1 : Nat) : Int), .int .i64 ((ux 1 : Nat) : Int), .int .i64 ((lx 2 : Nat) : Int), .int .i64 ((ux 2 : Nat) : Int), .int .i64 ((lx 3 : Nat) : Int), .int .i64 ((ux 3 : Nat) : Int)] Fv0_2.out (by kernel_rfl) rfl (by simp [Value.oneCell']) rfl rfl rfl) ?_
     intro X1_16 h1 hfar hbel hsz
     have YFv3_3 : X1_16.heap[b3]? = some (.cells #[.int .i64 ((lx 0 : Nat) : Int), .int .i64 ((ux 0 : Nat) : Int), .int .i64 ((lx 1 : Nat) : Int), .int .i64 ((ux 1 : Nat) : Int), .int .i64 ((lx 2 : Nat) : Int), .int .i64 ((ux 2 : Nat) : Int), .int .i64 ((lx 3 : Nat) : Int), .int .i64 ((ux 3 : Nat) : Int)] 84 (0, 0)) := hfar _ _ (Ne.symm N1_0.out) Fv3_3.out
     have hbr := hbel _ _ Gb0.out B0.out
     clear B0
     have B0 := zh hbr
     clear hbr
     clear Fv3_3
     have Fv3_3 : Hid (X1_16.heap[b3]? = some (.cells #[.int .i64 ((lx 0 : Nat) : Int), .int .i64 ((ux 0 : Nat) : Int), .int .i64 ((lx 1 : Nat) : Int), .int .i64 ((ux 1 : Nat) : Int), .int .i64 ((lx 2 : Nat) : Int), .int .i64 ((ux 2 : Nat) : Int), .int .i64 ((lx 3 : Nat) : Int), .int .i64 ((ux 3 : Nat) : Int)] 84 (0, 0))) := zh YFv3_3
     clear YFv3_3
     clear Fv0_2
     have Fv0_2 : Hid (X1_16.heap[w.heap.size]? = some (.cells #[.int .i64 ((lx 0 : Nat) : Int), .int .i64 ((ux 0 : Nat) : Int), .int .i64 ((lx 1 : Nat) : Int), .int .i64 ((ux 1 : Nat) : Int), .int .i64 ((lx 2 : Nat) : Int), .int .i64 ((ux 2 : Nat) : Int), .int .i64 ((lx 3 : Nat) : Int), .int .i64 ((ux 3 : Nat) : Int)] 84 (0, 0))) := zh (h1)
     have HszX1_16 := zh hsz
     clear h1 hfar hbel hsz
     simp only [ptr, Act.put, zA]
     refine wpList_nil ?_
     have hbf := B0.out
     have hse := HSP.out
     rw [show l.take j = l by rw [← hln]; exact List.take_length] at hse
     go_wp2_with fail
     refine bodyPost_ret (v := .agg #[.int .i64 ((lx 0 : Nat) : Int), .int .i64 ((ux 0 : Nat) : Int), .int .i64 ((lx 1 : Nat) : Int), .int .i64 ((ux 1 : Nat) : Int), .int .i64 ((lx 2 : Nat) : Int), .int .i64 ((ux 2 : Nat) : Int), .int .i64 ((lx 3 : Nat) : Int), .int .i64 ((ux 3 : Nat) : Int)]) ?_ rfl ⟨lx, ux, rfl, hse, hbf⟩
     exact results_cell_row rfl _ _ w.heap.size 84 _ (0, 0) _ rfl Fv0_2.out Tryd.underlying84 rfl (by kernel_rfl)
end Go.Proofs.YtbecajihgbbgjaaDoor

namespace Go.Proofs.YtbecajihgbbgjaaDoor
set_option maxRecDepth 8000
open Go.RowKit Go.Proofs.YtbecajihgbbgjaaDoor.K
attribute [local irreducible] wpList wpQuiet
set_option maxRecDepth 100000 in
set_option maxHeartbeats 16000000 in
theorem kd2_as (kd col k : Nat) (A : Option Addr) (n c : Nat) (lw up : Nat → Nat) (v : Nat) (hc : col < 4) (w : World) : Calls Tryd.prog 46 #[.agg #[.int .i64 (kd : Int), .int .i64 (col : Int), .int .i64 (k : Int), .slice A n c], .agg #[.int .i64 (lw 0 : Int), .int .i64 (up 0 : Int), .int .i64 (lw 1 : Int), .int .i64 (up 1 : Int), .int .i64 (lw 2 : Int), .int .i64 (up 2 : Int), .int .i64 (lw 3 : Int), .int .i64 (up 3 : Int)], .int .i64 (v : Int)] w fun e w' => e = .returned (.tuple #[.int .i64 (1 : Int), .int .i64 (1 : Int)]) ∧ Below w.heap.size w w' := by
 obtain ⟨a, ha⟩ : ∃ a, lw col = a := ⟨_, rfl⟩
 have HA := zh ha
 obtain ⟨d, hd⟩ : ∃ d, up col = d := ⟨_, rfl⟩
 have HD := zh hd
 clear ha hd
 go_enter Tryd.func46, Tryd.ntmps46
 go_upto_region 1 with fail
 refine wp_named2 (fun V1 hb g0 g1 hlt => ?_)
 have B0 := zh hb
 have Fv0_3 : Hid (V1.heap[w.heap.size]? = some (.cells #[.int .i64 (kd : Int), .int .i64 (col : Int), .int .i64 (k : Int), .slice A n c] 24 (0, 0))) := zh (g0)
 have Fv1_4 : Hid (V1.heap[(w.heap.size + 1)]? = some (.cells #[.int .i64 ((lw 0 : Nat) : Int), .int .i64 ((up 0 : Nat) : Int), .int .i64 ((lw 1 : Nat) : Int), .int .i64 ((up 1 : Nat) : Int), .int .i64 ((lw 2 : Nat) : Int), .int .i64 ((up 2 : Nat) : Int), .int .i64 ((lw 3 : Nat) : Int), .int .i64 ((up 3 : Nat) : Int)] 84 (0, 0))) := zh (g1)
 have Nb0_1 : Hid (w.heap.size ≠ (w.heap.size + 1)) := zh (by omega)
 have Gb0 : Hid (w.heap.size ≤ w.heap.size) := zh (by omega)
 have Gb1 : Hid (w.heap.size ≤ (w.heap.size + 1)) := zh (by omega)
 clear hb g0 g1 hlt
 have Lt0 : Hid (w.heap.size < V1.heap.size) := zh (xp_lt Fv0_3.out)
 have Lt1 : Hid ((w.heap.size + 1) < V1.heap.size) := zh (xp_lt Fv1_4.out)
 refine wp_region_lit ?_
 refine zr (.int .i64 1) V1 rfl ?_
 simp only [Act.put, zA]
 refine zr (.int .i64 1) V1 rfl ?_
 simp only [Act.put, zA]
 refine wpList_nil ?_
 have hbf := B0.out
 go_wp2_with fail
 go_ret2
 exact ⟨rfl, hbf⟩
set_option maxRecDepth 100000 in
set_option maxHeartbeats 16000000 in
theorem kd3_as (kd col k : Nat) (A : Option Addr) (n c : Nat) (lw up : Nat → Nat) (v : Nat) (hc : col < 4) (w : World) : Calls Tryd.prog 47 #[.agg #[.int .i64 (kd : Int), .int .i64 (col : Int), .int .i64 (k : Int), .slice A n c], .agg #[.int .i64 (lw 0 : Int), .int .i64 (up 0 : Int), .int .i64 (lw 1 : Int), .int .i64 (up 1 : Int), .int .i64 (lw 2 : Int), .int .i64 (up 2 : Int), .int .i64 (lw 3 : Int), .int .i64 (up 3 : Int)], .int .i64 (v : Int)] w fun e w' => e = .returned (.tuple #[.int .i64 ((up col : Nat) : Int), .int .i64 (1 : Int)]) ∧ Below w.heap.size w w' := by
 obtain ⟨a, ha⟩ : ∃ a, lw col = a := ⟨_, rfl⟩
 have HA := zh ha
 obtain ⟨d, hd⟩ : ∃ d, up col = d := ⟨_, rfl⟩
 have HD := zh hd
 clear ha hd
 go_enter Tryd.func47, Tryd.ntmps47
 go_upto_region 1 with fail
 refine wp_named2 (fun V1 hb g0 g1 hlt => ?_)
 have B0 := zh hb
 have Fv0_3 : Hid (V1.heap[w.heap.size]? = some (.cells #[.int .i64 (kd : Int), .int .i64 (col : Int), .int .i64 (k : Int), .slice A n c] 24 (0, 0))) := zh (g0)
 have Fv1_4 : Hid (V1.heap[(w.heap.size + 1)]? = some (.cells #[.int .i64 ((lw 0 : Nat) : Int), .int .i64 ((up 0 : Nat) : Int), .int .i64 ((lw 1 : Nat) : Int), .int .i64 ((up 1 : Nat) : Int), .int .i64 ((lw 2 : Nat) : Int), .int .i64 ((up 2 : Nat) : Int), .int .i64 ((lw 3 : Nat) : Int), .int .i64 ((up 3 : Nat) : Int)] 84 (0, 0))) := zh (g1)
 have Nb0_1 : Hid (w.heap.size ≠ (w.heap.size + 1)) := zh (by omega)
 have Gb0 : Hid (w.heap.size ≤ w.heap.size) := zh (by omega)
 have Gb1 : Hid (w.heap.size ≤ (w.heap.size + 1)) := zh (by omega)
 clear hb g0 g1 hlt
 have Lt0 : Hid (w.heap.size < V1.heap.size) := zh (xp_lt Fv0_3.out)
 have Lt1 : Hid ((w.heap.size + 1) < V1.heap.size) := zh (xp_lt Fv1_4.out)
 refine wp_region_lit ?_
 refine zr (.pointer (some ⟨w.heap.size, 1, none⟩)) V1 (xo_fld0 1 w.heap.size 1 (by kernel_rfl) rfl rfl) ?_
 simp only [Act.put, zA]
 refine zr (.int .i64 (col : Int)) V1 (xo_load1 ⟨w.heap.size, 1, none⟩ _ (cells_at Fv0_3.out 1 rfl) Tryd.underlying3 rfl rfl rfl) ?_
 simp only [Act.put, zA]
 refine zr (.pointer (some ⟨(w.heap.size + 1), col * 2, none⟩)) V1 (xsp_iad (w.heap.size + 1) col hc rfl rfl rfl) ?_
 simp only [Act.put, zA]
 refine zr (.pointer (some ⟨(w.heap.size + 1), col * 2 + 1, none⟩)) V1 (xo_fld 1 (w.heap.size + 1) (col * 2) 1 (by kernel_rfl) rfl rfl) ?_
 simp only [Act.put, zA]
 refine zr (.int .i64 (d : Int)) V1 (xo_load1 ⟨(w.heap.size + 1), col * 2 + 1, none⟩ _ (sp_range Fv1_4.out col a d hc HA.out HD.out 1 _ rfl) Tryd.underlying3 rfl rfl rfl) ?_
 simp only [Act.put, zA]
 refine zr (.int .i64 (d : Int)) V1 rfl ?_
 simp only [Act.put, zA]
 refine zr (.int .i64 1) V1 rfl ?_
 simp only [Act.put, zA]
 refine wpList_nil ?_
 have hdd := HD.out
 subst hdd
 have hbf := B0.out
 go_wp2_with fail
 go_ret2
 exact ⟨rfl, hbf⟩
set_option maxRecDepth 100000 in
set_option maxHeartbeats 16000000 in
theorem kd4_as (kd col k : Nat) (A : Option Addr) (n c : Nat) (lw up : Nat → Nat) (v : Nat) (hc : col < 4) (w : World) : Calls Tryd.prog 48 #[.agg #[.int .i64 (kd : Int), .int .i64 (col : Int), .int .i64 (k : Int), .slice A n c], .agg #[.int .i64 (lw 0 : Int), .int .i64 (up 0 : Int), .int .i64 (lw 1 : Int), .int .i64 (up 1 : Int), .int .i64 (lw 2 : Int), .int .i64 (up 2 : Int), .int .i64 (lw 3 : Int), .int .i64 (up 3 : Int)], .int .i64 (v : Int)] w fun e w' => e = .returned (.tuple #[.int .i64 ((up col : Nat) : Int), .int .i64 ((k : Nat) : Int)]) ∧ Below w.heap.size w w' := by
 obtain ⟨a, ha⟩ : ∃ a, lw col = a := ⟨_, rfl⟩
 have HA := zh ha
 obtain ⟨d, hd⟩ : ∃ d, up col = d := ⟨_, rfl⟩
 have HD := zh hd
 clear ha hd
 go_enter Tryd.func48, Tryd.ntmps48
 go_upto_region 1 with fail
 refine wp_named2 (fun V1 hb g0 g1 hlt => ?_)
 have B0 := zh hb
 have Fv0_3 : Hid (V1.heap[w.heap.size]? = some (.cells #[.int .i64 (kd : Int), .int .i64 (col : Int), .int .i64 (k : Int), .slice A n c] 24 (0, 0))) := zh (g0)
 have Fv1_4 : Hid (V1.heap[(w.heap.size + 1)]? = some (.cells #[.int .i64 ((lw 0 : Nat) : Int), .int .i64 ((up 0 : Nat) : Int), .int .i64 ((lw 1 : Nat) : Int), .int .i64 ((up 1 : Nat) : Int), .int .i64 ((lw 2 : Nat) : Int), .int .i64 ((up 2 : Nat) : Int), .int .i64 ((lw 3 : Nat) : Int), .int .i64 ((up 3 : Nat) : Int)] 84 (0, 0))) := zh (g1)
 have Nb0_1 : Hid (w.heap.size ≠ (w.heap.size + 1)) := zh (by omega)
 have Gb0 : Hid (w.heap.size ≤ w.heap.size) := zh (by omega)
 have Gb1 : Hid (w.heap.size ≤ (w.heap.size + 1)) := zh (by omega)
 clear hb g0 g1 hlt
 have Lt0 : Hid (w.heap.size < V1.heap.size) := zh (xp_lt Fv0_3.out)
 have Lt1 : Hid ((w.heap.size + 1) < V1.heap.size) := zh (xp_lt Fv1_4.out)
 refine wp_later_lex (by kernel_rfl) (lexOK_of (by kernel_rfl) (by kernel_rfl)) ?_
 refine zv (.pointer (some ⟨w.heap.size, 1, none⟩)) (fun v hv => (xo_fld0 1 w.heap.size 1 (by kernel_rfl) rfl rfl)) ?_
 simp only [Act.put, zA]
 refine zv (.int .i64 (col : Int)) (fun v hv => (xo_load1 ⟨w.heap.size, 1, none⟩ _ (cells_at (heap_keep Fv0_3.out (later_bel hv)) 1 rfl) Tryd.underlying3 rfl rfl rfl)) ?_
 simp only [Act.put, zA]
 refine zv (.pointer (some ⟨(w.heap.size + 1), col * 2, none⟩)) (fun v hv => (xsp_iad (w.heap.size + 1) col hc rfl rfl rfl)) ?_
 simp only [Act.put, zA]
 refine zv (.pointer (some ⟨(w.heap.size + 1), col * 2 + 1, none⟩)) (fun v hv => (xo_fld 1 (w.heap.size + 1) (col * 2) 1 (by kernel_rfl) rfl rfl)) ?_
 simp only [Act.put, zA]
 refine zv (.int .i64 (d : Int)) (fun v hv => (xo_load1 ⟨(w.heap.size + 1), col * 2 + 1, none⟩ _ (sp_range (heap_keep Fv1_4.out (later_bel hv)) col a d hc HA.out HD.out 1 _ rfl) Tryd.underlying3 rfl rfl rfl)) ?_
 simp only [Act.put, zA]
 refine zv (.pointer (some ⟨w.heap.size, 2, none⟩)) (fun v hv => (xo_fld0 2 w.heap.size 2 (by kernel_rfl) rfl rfl)) ?_
 simp only [Act.put, zA]
 refine zv (.int .i64 (k : Int)) (fun v hv => (xo_load1 ⟨w.heap.size, 2, none⟩ _ (cells_at (heap_keep Fv0_3.out (later_bel hv)) 2 rfl) Tryd.underlying3 rfl rfl rfl)) ?_
 simp only [Act.put, zA]
 refine zv (.int .i64 (d : Int)) (fun v hv => rfl) ?_
 simp only [Act.put, zA]
 refine zv (.int .i64 (k : Int)) (fun v hv => rfl) ?_
 simp only [Act.put, zA]
 refine wpQuiet_nil ?_
 intro X1_2
 have hb := X1_2.below
 generalize X1_2.at = V2 at *
 have B1 := zh hb
 clear hb
 have hdd := HD.out
 subst hdd
 have C0_2 := zb B0 B1
 have hbf := C0_2.out
 go_wp2_with fail
 go_ret2
 exact ⟨rfl, hbf⟩
set_option maxRecDepth 100000 in
set_option maxHeartbeats 16000000 in
theorem kd1_as (kd col k : Nat) (A : Option Addr) (n c : Nat) (lw up : Nat → Nat) (v : Nat) (hc : col < 4) (r : Nat) (hr : (if lw col ≤ v ∧ v ≤ up col then 1 else 0) = r) (w : World) : Calls Tryd.prog 44 #[.agg #[.int .i64 (kd : Int), .int .i64 (col : Int), .int .i64 (k : Int), .slice A n c], .agg #[.int .i64 (lw 0 : Int), .int .i64 (up 0 : Int), .int .i64 (lw 1 : Int), .int .i64 (up 1 : Int), .int .i64 (lw 2 : Int), .int .i64 (up 2 : Int), .int .i64 (lw 3 : Int), .int .i64 (up 3 : Int)], .int .i64 (v : Int)] w fun e w' => e = .returned (.tuple #[.int .i64 ((r : Nat) : Int), .int .i64 (1 : Int)]) ∧ Below w.heap.size w w' := by
 have HRR := zh hr
 clear hr
 obtain ⟨a, ha⟩ : ∃ a, lw col = a := ⟨_, rfl⟩
 have HA := zh ha
 obtain ⟨d, hd⟩ : ∃ d, up col = d := ⟨_, rfl⟩
 have HD := zh hd
 clear ha hd
 go_enter Tryd.func44, Tryd.ntmps44
 go_upto_region 1 with fail
 refine wp_named2 (fun V1 hb g0 g1 hlt => ?_)
 have B0 := zh hb
 have Fv0_3 : Hid (V1.heap[w.heap.size]? = some (.cells #[.int .i64 (kd : Int), .int .i64 (col : Int), .int .i64 (k : Int), .slice A n c] 24 (0, 0))) := zh (g0)
 have Fv1_4 : Hid (V1.heap[(w.heap.size + 1)]? = some (.cells #[.int .i64 ((lw 0 : Nat) : Int), .int .i64 ((up 0 : Nat) : Int), .int .i64 ((lw 1 : Nat) : Int), .int .i64 ((up 1 : Nat) : Int), .int .i64 ((lw 2 : Nat) : Int), .int .i64 ((up 2 : Nat) : Int), .int .i64 ((lw 3 : Nat) : Int), .int .i64 ((up 3 : Nat) : Int)] 84 (0, 0))) := zh (g1)
 have Nb0_1 : Hid (w.heap.size ≠ (w.heap.size + 1)) := zh (by omega)
 have Gb0 : Hid (w.heap.size ≤ w.heap.size) := zh (by omega)
 have Gb1 : Hid (w.heap.size ≤ (w.heap.size + 1)) := zh (by omega)
 clear hb g0 g1 hlt
 have Lt0 : Hid (w.heap.size < V1.heap.size) := zh (xp_lt Fv0_3.out)
 have Lt1 : Hid ((w.heap.size + 1) < V1.heap.size) := zh (xp_lt Fv1_4.out)
 refine wp_region_lit ?_
 refine zr (.agg #[.int .i64 ((lw 0 : Nat) : Int), .int .i64 ((up 0 : Nat) : Int), .int .i64 ((lw 1 : Nat) : Int), .int .i64 ((up 1 : Nat) : Int), .int .i64 ((lw 2 : Nat) : Int), .int .i64 ((up 2 : Nat) : Int), .int .i64 ((lw 3 : Nat) : Int), .int .i64 ((up 3 : Nat) : Int)]) V1 (xo_loadW (w.heap.size + 1) _ Fv1_4.out Tryd.underlying84 rfl (by kernel_rfl) rfl rfl) ?_
 simp only [Act.put, zA]
 refine zr (.pointer (some ⟨w.heap.size, 1, none⟩)) V1 (xo_fld0 1 w.heap.size 1 (by kernel_rfl) rfl rfl) ?_
 simp only [Act.put, zA]
 refine zr (.int .i64 (col : Int)) V1 (xo_load1 ⟨w.heap.size, 1, none⟩ _ (cells_at Fv0_3.out 1 rfl) Tryd.underlying3 rfl rfl rfl) ?_
 simp only [Act.put, zA]
 refine zr (.int .i64 (v : Int)) V1 rfl ?_
 simp only [Act.put, zA]
 refine wpList_call (by kernel_rfl) 45 Tryd.func45 (by kernel_rfl) (by kernel_rfl) _ _ #[.agg #[.int .i64 ((lw 0 : Nat) : Int), .int .i64 ((up 0 : Nat) : Int), .int .i64 ((lw 1 : Nat) : Int), .int .i64 ((up 1 : Nat) : Int), .int .i64 ((lw 2 : Nat) : Int), .int .i64 ((up 2 : Nat) : Int), .int .i64 ((lw 3 : Nat) : Int), .int .i64 ((up 3 : Nat) : Int)], .int .i64 (col : Int), .int .i64 (v : Int)] rfl (by kernel_rfl) ?_
 refine (count_sp lw up col v hc r HRR.out V1).mono ?_
 rintro e V2 ⟨rfl, hb⟩
 have B1 := zh hb
 clear hb 
 refine ⟨_, rfl, ?_⟩
 simp only [Act.put, zA]
 refine zr (.int .i64 (r : Int)) V2 rfl ?_
 simp only [Act.put, zA]
 refine zr (.int .i64 1) V2 rfl ?_
 simp only [Act.put, zA]
 refine wpList_nil ?_
 have C0_2 := zb B0 B1
 have hbf := C0_2.out
 go_wp2_with fail
 go_ret2
 exact ⟨rfl, hbf⟩
set_option maxRecDepth 100000 in
set_option maxHeartbeats 16000000 in
theorem kd5_as (kd col k : Nat) (A : Option Addr) (n c : Nat) (lw up : Nat → Nat) (v : Nat) (hc : col < 4) (u : Nat) (hu : v % 16 = u) (r : Nat) (hr : (if lw 0 ≤ u ∧ u ≤ up 0 then 1 else 0) = r) (w : World) : Calls Tryd.prog 49 #[.agg #[.int .i64 (kd : Int), .int .i64 (col : Int), .int .i64 (k : Int), .slice A n c], .agg #[.int .i64 (lw 0 : Int), .int .i64 (up 0 : Int), .int .i64 (lw 1 : Int), .int .i64 (up 1 : Int), .int .i64 (lw 2 : Int), .int .i64 (up 2 : Int), .int .i64 (lw 3 : Int), .int .i64 (up 3 : Int)], .int .i64 (v : Int)] w fun e w' => e = .returned (.tuple #[.int .i64 ((r : Nat) : Int), .int .i64 (1 : Int)]) ∧ Below w.heap.size w w' := by
 have HRR := zh hr
 have HU := zh hu
 clear hr hu
 obtain ⟨a, ha⟩ : ∃ a, lw col = a := ⟨_, rfl⟩
 have HA := zh ha
 obtain ⟨d, hd⟩ : ∃ d, up col = d := ⟨_, rfl⟩
 have HD := zh hd
 clear ha hd
 go_enter Tryd.func49, Tryd.ntmps49
 go_upto_region 1 with fail
 refine wp_named2 (fun V1 hb g0 g1 hlt => ?_)
 have B0 := zh hb
 have Fv0_3 : Hid (V1.heap[w.heap.size]? = some (.cells #[.int .i64 (kd : Int), .int .i64 (col : Int), .int .i64 (k : Int), .slice A n c] 24 (0, 0))) := zh (g0)
 have Fv1_4 : Hid (V1.heap[(w.heap.size + 1)]? = some (.cells #[.int .i64 ((lw 0 : Nat) : Int), .int .i64 ((up 0 : Nat) : Int), .int .i64 ((lw 1 : Nat) : Int), .int .i64 ((up 1 : Nat) : Int), .int .i64 ((lw 2 : Nat) : Int), .int .i64 ((up 2 : Nat) : Int), .int .i64 ((lw 3 : Nat) : Int), .int .i64 ((up 3 : Nat) : Int)] 84 (0, 0))) := zh (g1)
 have Nb0_1 : Hid (w.heap.size ≠ (w.heap.size + 1)) := zh (by omega)
 have Gb0 : Hid (w.heap.size ≤ w.heap.size) := zh (by omega)
 have Gb1 : Hid (w.heap.size ≤ (w.heap.size + 1)) := zh (by omega)
 clear hb g0 g1 hlt
 have Lt0 : Hid (w.heap.size < V1.heap.size) := zh (xp_lt Fv0_3.out)
 have Lt1 : Hid ((w.heap.size + 1) < V1.heap.size) := zh (xp_lt Fv1_4.out)
 refine wp_region_lit ?_
 refine zr (.agg #[.int .i64 ((lw 0 : Nat) : Int), .int .i64 ((up 0 : Nat) : Int), .int .i64 ((lw 1 : Nat) : Int), .int .i64 ((up 1 : Nat) : Int), .int .i64 ((lw 2 : Nat) : Int), .int .i64 ((up 2 : Nat) : Int), .int .i64 ((lw 3 : Nat) : Int), .int .i64 ((up 3 : Nat) : Int)]) V1 (xo_loadW (w.heap.size + 1) _ Fv1_4.out Tryd.underlying84 rfl (by kernel_rfl) rfl rfl) ?_
 simp only [Act.put, zA]
 refine zr (.int .i64 (v : Int)) V1 rfl ?_
 simp only [Act.put, zA]
 refine zr (.int .i64 (u : Int)) V1 (xo_remN .i64 v 16 u (by omega) HU.out rfl rfl rfl) ?_
 simp only [Act.put, zA]
 refine wpList_call (by kernel_rfl) 45 Tryd.func45 (by kernel_rfl) (by kernel_rfl) _ _ #[.agg #[.int .i64 ((lw 0 : Nat) : Int), .int .i64 ((up 0 : Nat) : Int), .int .i64 ((lw 1 : Nat) : Int), .int .i64 ((up 1 : Nat) : Int), .int .i64 ((lw 2 : Nat) : Int), .int .i64 ((up 2 : Nat) : Int), .int .i64 ((lw 3 : Nat) : Int), .int .i64 ((up 3 : Nat) : Int)], .int .i64 0, .int .i64 (u : Int)] rfl (by kernel_rfl) ?_
 refine (count_sp lw up 0 u (by decide) r HRR.out V1).mono ?_
 rintro e V2 ⟨rfl, hb⟩
 have B1 := zh hb
 clear hb 
 refine ⟨_, rfl, ?_⟩
 simp only [Act.put, zA]
 refine zr (.int .i64 (r : Int)) V2 rfl ?_
 simp only [Act.put, zA]
 refine zr (.int .i64 1) V2 rfl ?_
 simp only [Act.put, zA]
 refine wpList_nil ?_
 have C0_2 := zb B0 B1
 have hbf := C0_2.out
 go_wp2_with fail
 go_ret2
 exact ⟨rfl, hbf⟩
end Go.Proofs.YtbecajihgbbgjaaDoor

namespace Go.Proofs.YtbecajihgbbgjaaDoor
set_option maxRecDepth 8000
open Go.RowKit Go.Proofs.YtbecajihgbbgjaaDoor.K
attribute [local irreducible] wpList wpQuiet
set_option maxRecDepth 100000 in
set_option maxHeartbeats 16000000 in
theorem mul64_as (x y : Nat) (hx : x < 18446744073709551616) (hy : y < 18446744073709551616) (w : World) : Calls Tryd.prog 60 #[.int .u64 (x : Int), .int .u64 (y : Int)] w fun e w' => e = .returned (.tuple #[.int .u64 ((x * y / 18446744073709551616 : Nat) : Int), .int .u64 ((x * y % 18446744073709551616 : Nat) : Int)]) ∧ w' = w := by
 obtain ⟨x0, hx0⟩ : ∃ z, x % 4294967296 = z := ⟨_, rfl⟩
 have HX0 := zh hx0
 clear hx0
 obtain ⟨x1, hx1⟩ : ∃ z, x / 4294967296 = z := ⟨_, rfl⟩
 have HX1 := zh hx1
 clear hx1
 obtain ⟨y0, hy0⟩ : ∃ z, y % 4294967296 = z := ⟨_, rfl⟩
 have HY0 := zh hy0
 clear hy0
 obtain ⟨y1, hy1⟩ : ∃ z, y / 4294967296 = z := ⟨_, rfl⟩
 have HY1 := zh hy1
 clear hy1
 obtain ⟨w0, hw0⟩ : ∃ z, x0 * y0 = z := ⟨_, rfl⟩
 have HW0 := zh hw0
 clear hw0
 obtain ⟨t1, ht1⟩ : ∃ z, x1 * y0 = z := ⟨_, rfl⟩
 have HT1 := zh ht1
 clear ht1
 obtain ⟨s0, hs0⟩ : ∃ z, w0 / 4294967296 = z := ⟨_, rfl⟩
 have HS0 := zh hs0
 clear hs0
 obtain ⟨tt, htt⟩ : ∃ z, t1 + s0 = z := ⟨_, rfl⟩
 have HTT := zh htt
 clear htt
 obtain ⟨u1, hu1⟩ : ∃ z, tt % 4294967296 = z := ⟨_, rfl⟩
 have HU1 := zh hu1
 clear hu1
 obtain ⟨u2, hu2⟩ : ∃ z, tt / 4294967296 = z := ⟨_, rfl⟩
 have HU2 := zh hu2
 clear hu2
 obtain ⟨vv, hvv⟩ : ∃ z, x0 * y1 = z := ⟨_, rfl⟩
 have HVV := zh hvv
 clear hvv
 obtain ⟨w1, hw1⟩ : ∃ z, u1 + vv = z := ⟨_, rfl⟩
 have HW1 := zh hw1
 clear hw1
 obtain ⟨zz, hzz⟩ : ∃ z, x1 * y1 = z := ⟨_, rfl⟩
 have HZZ := zh hzz
 clear hzz
 obtain ⟨s1, hs1⟩ : ∃ z, w1 / 4294967296 = z := ⟨_, rfl⟩
 have HS1 := zh hs1
 clear hs1
 obtain ⟨z2, hz2⟩ : ∃ z, zz + u2 = z := ⟨_, rfl⟩
 have HZ2 := zh hz2
 clear hz2
 obtain ⟨hh, hhh⟩ : ∃ z, z2 + s1 = z := ⟨_, rfl⟩
 have HHH := zh hhh
 clear hhh
 obtain ⟨ll, hll⟩ : ∃ z, x * y % 18446744073709551616 = z := ⟨_, rfl⟩
 have HLL := zh hll
 clear hll
 have bnd := Lib.mul64_hi x y hx hy
 rw [HX0.out, HX1.out, HY0.out, HY1.out, HW0.out, HT1.out, HS0.out, HTT.out, HU1.out, HU2.out, HVV.out, HW1.out, HZZ.out, HS1.out, HZ2.out, HHH.out] at bnd
 obtain ⟨bd, bt, bw, hhi⟩ := bnd
 have lx0 : x0 ≤ 4294967295 := by have := HX0.out; omega
 have lx1 : x1 ≤ 4294967295 := by have := HX1.out; omega
 have ly0 : y0 ≤ 4294967295 := by have := HY0.out; omega
 have ly1 : y1 ≤ 4294967295 := by have := HY1.out; omega
 have lt1 := Lib.half_mul_le lx1 ly0
 rw [HT1.out] at lt1
 have lvv := Lib.half_mul_le lx0 ly1
 rw [HVV.out] at lvv
 have lzz := Lib.half_mul_le lx1 ly1
 rw [HZZ.out] at lzz
 have hhq := zh hhi
 clear hhi
 have lhh : hh < 18446744073709551616 := by rw [hhq.out]; have := Nat.mul_lt_mul'' hx hy; omega
 have lz2 : z2 ≤ hh := by have := HHH.out; omega
 go_enter Tryd.func60, Tryd.ntmps60
 go_upto_region 1 with fail
 refine wp_region_lit ?_
 refine zr (.int .u64 (x : Int)) w rfl ?_
 simp only [Act.put, zA]
 refine zr (.int .u64 (x0 : Int)) w (xo_and .u64 x 4294967295 x0 (by show x < 2 ^ 64; omega) (by decide) (by rw [show 4294967295 = 2 ^ 32 - 1 from rfl, Nat.and_two_pow_sub_one_eq_mod]; exact HX0.out) (by rw [IntKind.wrap_u64]; have := HX0.out; omega) rfl rfl rfl) ?_
 simp only [Act.put, zA]
 refine zr (.int .u64 (x0 : Int)) w rfl ?_
 simp only [Act.put, zA]
 refine wpList_nil ?_
 go_upto_region 2 with fail
 refine wp_region_lit ?_
 refine zr (.int .u64 (x : Int)) w rfl ?_
 simp only [Act.put, zA]
 refine zr (.int .u64 (x1 : Int)) w (xo_shrN .u64 .u64 x 32 x1 (by decide) HX1.out rfl rfl rfl) ?_
 simp only [Act.put, zA]
 refine zr (.int .u64 (x1 : Int)) w rfl ?_
 simp only [Act.put, zA]
 refine wpList_nil ?_
 go_upto_region 3 with fail
 refine wp_region_lit ?_
 refine zr (.int .u64 (y : Int)) w rfl ?_
 simp only [Act.put, zA]
 refine zr (.int .u64 (y0 : Int)) w (xo_and .u64 y 4294967295 y0 (by show y < 2 ^ 64; omega) (by decide) (by rw [show 4294967295 = 2 ^ 32 - 1 from rfl, Nat.and_two_pow_sub_one_eq_mod]; exact HY0.out) (by rw [IntKind.wrap_u64]; have := HY0.out; omega) rfl rfl rfl) ?_
 simp only [Act.put, zA]
 refine zr (.int .u64 (y0 : Int)) w rfl ?_
 simp only [Act.put, zA]
 refine wpList_nil ?_
 go_upto_region 4 with fail
 refine wp_region_lit ?_
 refine zr (.int .u64 (y : Int)) w rfl ?_
 simp only [Act.put, zA]
 refine zr (.int .u64 (y1 : Int)) w (xo_shrN .u64 .u64 y 32 y1 (by decide) HY1.out rfl rfl rfl) ?_
 simp only [Act.put, zA]
 refine zr (.int .u64 (y1 : Int)) w rfl ?_
 simp only [Act.put, zA]
 refine wpList_nil ?_
 go_upto_region 5 with fail
 refine wp_region_lit ?_
 refine zr (.int .u64 (x0 : Int)) w rfl ?_
 simp only [Act.put, zA]
 refine zr (.int .u64 (y0 : Int)) w rfl ?_
 simp only [Act.put, zA]
 refine zr (.int .u64 (w0 : Int)) w (xo_mulU x0 y0 w0 (by rw [HW0.out]; exact Nat.mod_eq_of_lt (by omega)) rfl rfl rfl) ?_
 simp only [Act.put, zA]
 refine zr (.int .u64 (w0 : Int)) w rfl ?_
 simp only [Act.put, zA]
 refine wpList_nil ?_
 go_upto_region 6 with fail
 refine wp_region_lit ?_
 refine zr (.int .u64 (x1 : Int)) w rfl ?_
 simp only [Act.put, zA]
 refine zr (.int .u64 (y0 : Int)) w rfl ?_
 simp only [Act.put, zA]
 refine zr (.int .u64 (t1 : Int)) w (xo_mulU x1 y0 t1 (by rw [HT1.out]; exact Nat.mod_eq_of_lt (by omega)) rfl rfl rfl) ?_
 simp only [Act.put, zA]
 refine zr (.int .u64 (w0 : Int)) w rfl ?_
 simp only [Act.put, zA]
 refine zr (.int .u64 (s0 : Int)) w (xo_shrN .u64 .u64 w0 32 s0 (by decide) HS0.out rfl rfl rfl) ?_
 simp only [Act.put, zA]
 refine zr (.int .u64 (tt : Int)) w (xo_addU t1 s0 tt (by rw [HTT.out]; exact Nat.mod_eq_of_lt (by omega)) rfl rfl rfl) ?_
 simp only [Act.put, zA]
 refine zr (.int .u64 (tt : Int)) w rfl ?_
 simp only [Act.put, zA]
 refine wpList_nil ?_
 go_upto_region 7 with fail
 refine wp_region_lit ?_
 refine zr (.int .u64 (tt : Int)) w rfl ?_
 simp only [Act.put, zA]
 refine zr (.int .u64 (u1 : Int)) w (xo_and .u64 tt 4294967295 u1 (by show tt < 2 ^ 64; omega) (by decide) (by rw [show 4294967295 = 2 ^ 32 - 1 from rfl, Nat.and_two_pow_sub_one_eq_mod]; exact HU1.out) (by rw [IntKind.wrap_u64]; have := HU1.out; omega) rfl rfl rfl) ?_
 simp only [Act.put, zA]
 refine zr (.int .u64 (u1 : Int)) w rfl ?_
 simp only [Act.put, zA]
 refine wpList_nil ?_
 go_upto_region 8 with fail
 refine wp_region_lit ?_
 refine zr (.int .u64 (tt : Int)) w rfl ?_
 simp only [Act.put, zA]
 refine zr (.int .u64 (u2 : Int)) w (xo_shrN .u64 .u64 tt 32 u2 (by decide) HU2.out rfl rfl rfl) ?_
 simp only [Act.put, zA]
 refine zr (.int .u64 (u2 : Int)) w rfl ?_
 simp only [Act.put, zA]
 refine wpList_nil ?_
 go_upto_region 9 with fail
 refine wp_region_lit ?_
 refine zr (.int .u64 (u1 : Int)) w rfl ?_
 simp only [Act.put, zA]
 refine zr (.int .u64 (x0 : Int)) w rfl ?_
 simp only [Act.put, zA]
 refine zr (.int .u64 (y1 : Int)) w rfl ?_
 simp only [Act.put, zA]
 refine zr (.int .u64 (vv : Int)) w (xo_mulU x0 y1 vv (by rw [HVV.out]; exact Nat.mod_eq_of_lt (by omega)) rfl rfl rfl) ?_
 simp only [Act.put, zA]
 refine zr (.int .u64 (w1 : Int)) w (xo_addU u1 vv w1 (by rw [HW1.out]; exact Nat.mod_eq_of_lt (by omega)) rfl rfl rfl) ?_
 simp only [Act.put, zA]
 refine zr (.int .u64 (w1 : Int)) w rfl ?_
 simp only [Act.put, zA]
 refine wpList_nil ?_
 go_upto_region 10 with fail
 refine wp_region_lit ?_
 refine zr (.int .u64 (x1 : Int)) w rfl ?_
 simp only [Act.put, zA]
 refine zr (.int .u64 (y1 : Int)) w rfl ?_
 simp only [Act.put, zA]
 refine zr (.int .u64 (zz : Int)) w (xo_mulU x1 y1 zz (by rw [HZZ.out]; exact Nat.mod_eq_of_lt (by omega)) rfl rfl rfl) ?_
 simp only [Act.put, zA]
 refine zr (.int .u64 (u2 : Int)) w rfl ?_
 simp only [Act.put, zA]
 refine zr (.int .u64 (z2 : Int)) w (xo_addU zz u2 z2 (by rw [HZ2.out]; exact Nat.mod_eq_of_lt (by omega)) rfl rfl rfl) ?_
 simp only [Act.put, zA]
 refine zr (.int .u64 (w1 : Int)) w rfl ?_
 simp only [Act.put, zA]
 refine zr (.int .u64 (s1 : Int)) w (xo_shrN .u64 .u64 w1 32 s1 (by decide) HS1.out rfl rfl rfl) ?_
 simp only [Act.put, zA]
 refine zr (.int .u64 (hh : Int)) w (xo_addU z2 s1 hh (by rw [HHH.out]; exact Nat.mod_eq_of_lt (by omega)) rfl rfl rfl) ?_
 simp only [Act.put, zA]
 refine zr (.int .u64 (hh : Int)) w rfl ?_
 simp only [Act.put, zA]
 refine wpList_nil ?_
 go_upto_region 11 with fail
 refine wp_region_lit ?_
 refine zr (.int .u64 (x : Int)) w rfl ?_
 simp only [Act.put, zA]
 refine zr (.int .u64 (y : Int)) w rfl ?_
 simp only [Act.put, zA]
 refine zr (.int .u64 (ll : Int)) w (xo_mulU x y ll HLL.out rfl rfl rfl) ?_
 simp only [Act.put, zA]
 refine zr (.int .u64 (ll : Int)) w rfl ?_
 simp only [Act.put, zA]
 refine wpList_nil ?_
 have e1 := hhq.out
 have e2 := HLL.out
 go_wp2_with fail
 go_ret2
 exact ⟨by rw [← HLL.out, ← hhq.out]; rfl, rfl⟩
end Go.Proofs.YtbecajihgbbgjaaDoor

