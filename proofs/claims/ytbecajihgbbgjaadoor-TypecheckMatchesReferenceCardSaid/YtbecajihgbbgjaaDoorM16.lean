/- Several texts in one: Ycm. -/
import Derived.Test.YtbecajihgbbgjaaDoorM09
set_option linter.unusedVariables false
set_option linter.unusedSimpArgs false
set_option linter.unusedSectionVars false
namespace Go.Proofs.YtbecajihgbbgjaaDoor
set_option maxRecDepth 8000
open Go.RowKit Go.Proofs.YtbecajihgbbgjaaDoor.K
attribute [local irreducible] wpList wpQuiet
set_option maxRecDepth 100000 in
set_option maxHeartbeats 16000000 in
theorem first_as (A : Option Addr) (n c : Nat) (xs : List Int) (f : Int) (hf : xs.headD (-1) = f) (w : World) (hL : Sg zzC 1 w A n c xs) : Calls Tryd.prog 29 #[.agg #[.slice A n c]] w fun e w' => e = .returned (.int .i64 f) ∧ Below w.heap.size w w' := by
 have HL := zh hL
 have HFF := zh hf
 have hln := hL.len
 have hlc := hL.cap
 have hlt := hL.top
 clear hL hf
 go_enter Tryd.func29, Tryd.ntmps29
 go_upto_region 1 with fail
 refine wp_named1 (fun V1 hb g0 hlt => ?_)
 have B0 := zh hb
 have Fv0_1 : Hid (V1.heap[w.heap.size]? = some (.cells #[.slice A n c] 29 (0, 0))) := zh (g0)
 have Gb0 : Hid (w.heap.size ≤ w.heap.size) := zh (by omega)
 clear hb g0 hlt
 have Lt0 : Hid (w.heap.size < V1.heap.size) := zh (xp_lt Fv0_1.out)
 by_cases hn0 : n = 0
 ·have hci1 : ((n : Int) = 0) := by omega
  refine wp_region_lit ?_
  refine zr (.pointer (some ⟨w.heap.size, 0, none⟩)) V1 (xo_fld0 0 w.heap.size 0 (by kernel_rfl) rfl rfl) ?_
  simp only [Act.put, zA]
  refine zr (.slice A n c) V1 (xo_load1 ⟨w.heap.size, 0, none⟩ _ (cells_at Fv0_1.out 0 rfl) Tryd.underlying27 rfl rfl rfl) ?_
  simp only [Act.put, zA]
  refine zr (.int .i64 (n : Int)) V1 (xo_len A n c Tryd.underlying27 rfl rfl) ?_
  simp only [Act.put, zA]
  refine zr (.bool true) V1 (xo_eqlT .i64 (n : Int) 0 (by omega) rfl rfl rfl) ?_
  simp only [Act.put, zA]
  refine wpList_nil ?_
  go_upto_region 2 with fail
  refine wp_region_lit ?_
  refine zr (.int .i64 (-1)) V1 rfl ?_
  simp only [Act.put, zA]
  refine wpList_nil ?_
  obtain rfl : f = -1 := by rw [← HFF.out, List.eq_nil_of_length_eq_zero (hln.trans hn0)]; rfl
  have hbf := B0.out
  go_wp2_with fail
  go_ret
  exact ⟨rfl, hbf⟩
 ·have hci1 : ¬ ((n : Int) = 0) := by omega
  refine wp_region_lit ?_
  refine zr (.pointer (some ⟨w.heap.size, 0, none⟩)) V1 (xo_fld0 0 w.heap.size 0 (by kernel_rfl) rfl rfl) ?_
  simp only [Act.put, zA]
  refine zr (.slice A n c) V1 (xo_load1 ⟨w.heap.size, 0, none⟩ _ (cells_at Fv0_1.out 0 rfl) Tryd.underlying27 rfl rfl rfl) ?_
  simp only [Act.put, zA]
  refine zr (.int .i64 (n : Int)) V1 (xo_len A n c Tryd.underlying27 rfl rfl) ?_
  simp only [Act.put, zA]
  refine zr (.bool false) V1 (xo_eqlF .i64 (n : Int) 0 (by omega) rfl rfl rfl) ?_
  simp only [Act.put, zA]
  refine wpList_nil ?_
  obtain ⟨x, hx⟩ : ∃ x, xs[0]? = some x := ⟨_, List.getElem?_eq_getElem (by omega)⟩
  have HX := zh hx
  clear hx
  go_upto_region 3 with fail
  refine wp_region_lit ?_
  refine zr (.pointer (some ⟨w.heap.size, 0, none⟩)) V1 (xo_fld0 0 w.heap.size 0 (by kernel_rfl) rfl rfl) ?_
  simp only [Act.put, zA]
  refine zr (.slice A n c) V1 (xo_load1 ⟨w.heap.size, 0, none⟩ _ (cells_at Fv0_1.out 0 rfl) Tryd.underlying27 rfl rfl rfl) ?_
  simp only [Act.put, zA]
  refine zr (.pointer (some (gad A (0 * 1)))) V1 (xg_idx .i64 (HL.out.keep B0.out) HX.out Tryd.underlying27 (by kernel_rfl) rfl rfl rfl) ?_
  simp only [Act.put, zA]
  refine zr (.int .i64 x) V1 (xg_load1 (E := zzC) (i := 0) (j := 0) (HL.out.keep B0.out) HX.out rfl rfl Tryd.underlying2 rfl rfl rfl) ?_
  simp only [Act.put, zA]
  refine zr (.int .i64 x) V1 rfl ?_
  simp only [Act.put, zA]
  refine wpList_nil ?_
  obtain rfl : f = x := by
     rw [← HFF.out]
     have h1 := HX.out
     cases xs with
     | nil => cases h1
     | cons y l => injection h1
  have hbf := B0.out
  go_wp2_with fail
  go_ret
  exact ⟨rfl, hbf⟩
end Go.Proofs.YtbecajihgbbgjaaDoor

