/- Several texts in one: Qd, Qe. -/
import Derived.Test.YtopicjdmajlndaaDoorL03
namespace Go.Proofs.YtopicjdmajlndaaDoor
set_option linter.unusedVariables false
set_option linter.unusedSimpArgs false
set_option linter.unusedSectionVars false
set_option maxRecDepth 8000
open Go.RowKit Go.Proofs.YtopicjdmajlndaaDoor.K
attribute [local irreducible] wpList wpQuiet
set_option maxRecDepth 100000 in
set_option maxHeartbeats 8000000 in
theorem fld0_any (r : Rd) (w : World) : Calls Tryd.prog 58 #[.agg #[.int .i64 r.who, .int .i64 r.when_, .int .i64 r.kind, .int .i64 r.value]] w fun e w' => e = .returned (.int .i64 (fldI r 0)) ∧ Below w.heap.size w w' := by
  go_enter Tryd.func58, Tryd.ntmps58
  go_upto_region 1 with fail
  refine wp_named1 (fun V1 hb g0 hlt => ?_)
  have B0 := Lib.hid hb
  have Fv0_1 : Hid (V1.heap[w.heap.size]? = some (.cells #[.int .i64 r.who, .int .i64 r.when_, .int .i64 r.kind, .int .i64 r.value] 24 (0, 0))) := Lib.hid (g0)
  have Gb0 : Hid (w.heap.size ≤ w.heap.size) := Lib.hid (by omega)
  clear hb g0 hlt
  refine wp_region_lit ?_
  refine wpList_run (by kernel_rfl) (.pointer (some ⟨w.heap.size, 0, none⟩)) V1 (xo_fld0 0 w.heap.size 0 (by kernel_rfl) rfl rfl) ?_
  simp only [Act.put, List.setIfInBounds_toArray, List.set_cons_zero, List.set_cons_succ]
  refine wpList_run (by kernel_rfl) (.int .i64 r.who) V1 (xo_load1 ⟨w.heap.size, 0, none⟩ _ (cells_at Fv0_1.out 0 rfl) Tryd.underlying3 rfl rfl rfl) ?_
  simp only [Act.put, List.setIfInBounds_toArray, List.set_cons_zero, List.set_cons_succ]
  refine wpList_run (by kernel_rfl) (.int .i64 r.who) V1 rfl ?_
  simp only [Act.put, List.setIfInBounds_toArray, List.set_cons_zero, List.set_cons_succ]
  refine wpList_nil ?_
  go_wp2_with fail
  go_ret
  exact ⟨rfl, B0.out⟩
set_option maxRecDepth 100000 in
set_option maxHeartbeats 8000000 in
theorem fld1_any (r : Rd) (w : World) : Calls Tryd.prog 59 #[.agg #[.int .i64 r.who, .int .i64 r.when_, .int .i64 r.kind, .int .i64 r.value]] w fun e w' => e = .returned (.int .i64 (fldI r 1)) ∧ Below w.heap.size w w' := by
  go_enter Tryd.func59, Tryd.ntmps59
  go_upto_region 1 with fail
  refine wp_named1 (fun V1 hb g0 hlt => ?_)
  have B0 := Lib.hid hb
  have Fv0_1 : Hid (V1.heap[w.heap.size]? = some (.cells #[.int .i64 r.who, .int .i64 r.when_, .int .i64 r.kind, .int .i64 r.value] 24 (0, 0))) := Lib.hid (g0)
  have Gb0 : Hid (w.heap.size ≤ w.heap.size) := Lib.hid (by omega)
  clear hb g0 hlt
  refine wp_region_lit ?_
  refine wpList_run (by kernel_rfl) (.pointer (some ⟨w.heap.size, 1, none⟩)) V1 (xo_fld0 1 w.heap.size 1 (by kernel_rfl) rfl rfl) ?_
  simp only [Act.put, List.setIfInBounds_toArray, List.set_cons_zero, List.set_cons_succ]
  refine wpList_run (by kernel_rfl) (.int .i64 r.when_) V1 (xo_load1 ⟨w.heap.size, 1, none⟩ _ (cells_at Fv0_1.out 1 rfl) Tryd.underlying3 rfl rfl rfl) ?_
  simp only [Act.put, List.setIfInBounds_toArray, List.set_cons_zero, List.set_cons_succ]
  refine wpList_run (by kernel_rfl) (.int .i64 r.when_) V1 rfl ?_
  simp only [Act.put, List.setIfInBounds_toArray, List.set_cons_zero, List.set_cons_succ]
  refine wpList_nil ?_
  go_wp2_with fail
  go_ret
  exact ⟨rfl, B0.out⟩
set_option maxRecDepth 100000 in
set_option maxHeartbeats 8000000 in
theorem fld2_any (r : Rd) (w : World) : Calls Tryd.prog 60 #[.agg #[.int .i64 r.who, .int .i64 r.when_, .int .i64 r.kind, .int .i64 r.value]] w fun e w' => e = .returned (.int .i64 (fldI r 2)) ∧ Below w.heap.size w w' := by
  go_enter Tryd.func60, Tryd.ntmps60
  go_upto_region 1 with fail
  refine wp_named1 (fun V1 hb g0 hlt => ?_)
  have B0 := Lib.hid hb
  have Fv0_1 : Hid (V1.heap[w.heap.size]? = some (.cells #[.int .i64 r.who, .int .i64 r.when_, .int .i64 r.kind, .int .i64 r.value] 24 (0, 0))) := Lib.hid (g0)
  have Gb0 : Hid (w.heap.size ≤ w.heap.size) := Lib.hid (by omega)
  clear hb g0 hlt
  refine wp_region_lit ?_
  refine wpList_run (by kernel_rfl) (.pointer (some ⟨w.heap.size, 2, none⟩)) V1 (xo_fld0 2 w.heap.size 2 (by kernel_rfl) rfl rfl) ?_
  simp only [Act.put, List.setIfInBounds_toArray, List.set_cons_zero, List.set_cons_succ]
  refine wpList_run (by kernel_rfl) (.int .i64 r.kind) V1 (xo_load1 ⟨w.heap.size, 2, none⟩ _ (cells_at Fv0_1.out 2 rfl) Tryd.underlying3 rfl rfl rfl) ?_
  simp only [Act.put, List.setIfInBounds_toArray, List.set_cons_zero, List.set_cons_succ]
  refine wpList_run (by kernel_rfl) (.int .i64 r.kind) V1 rfl ?_
  simp only [Act.put, List.setIfInBounds_toArray, List.set_cons_zero, List.set_cons_succ]
  refine wpList_nil ?_
  go_wp2_with fail
  go_ret
  exact ⟨rfl, B0.out⟩
set_option maxRecDepth 100000 in
set_option maxHeartbeats 8000000 in
theorem fld3_any (r : Rd) (w : World) : Calls Tryd.prog 61 #[.agg #[.int .i64 r.who, .int .i64 r.when_, .int .i64 r.kind, .int .i64 r.value]] w fun e w' => e = .returned (.int .i64 (fldI r 3)) ∧ Below w.heap.size w w' := by
  go_enter Tryd.func61, Tryd.ntmps61
  go_upto_region 1 with fail
  refine wp_named1 (fun V1 hb g0 hlt => ?_)
  have B0 := Lib.hid hb
  have Fv0_1 : Hid (V1.heap[w.heap.size]? = some (.cells #[.int .i64 r.who, .int .i64 r.when_, .int .i64 r.kind, .int .i64 r.value] 24 (0, 0))) := Lib.hid (g0)
  have Gb0 : Hid (w.heap.size ≤ w.heap.size) := Lib.hid (by omega)
  clear hb g0 hlt
  refine wp_region_lit ?_
  refine wpList_run (by kernel_rfl) (.pointer (some ⟨w.heap.size, 3, none⟩)) V1 (xo_fld0 3 w.heap.size 3 (by kernel_rfl) rfl rfl) ?_
  simp only [Act.put, List.setIfInBounds_toArray, List.set_cons_zero, List.set_cons_succ]
  refine wpList_run (by kernel_rfl) (.int .i64 r.value) V1 (xo_load1 ⟨w.heap.size, 3, none⟩ _ (cells_at Fv0_1.out 3 rfl) Tryd.underlying3 rfl rfl rfl) ?_
  simp only [Act.put, List.setIfInBounds_toArray, List.set_cons_zero, List.set_cons_succ]
  refine wpList_run (by kernel_rfl) (.int .i64 r.value) V1 rfl ?_
  simp only [Act.put, List.setIfInBounds_toArray, List.set_cons_zero, List.set_cons_succ]
  refine wpList_nil ?_
  go_wp2_with fail
  go_ret
  exact ⟨rfl, B0.out⟩
set_option maxRecDepth 100000 in
set_option maxHeartbeats 8000000 in
theorem fields_any (w : World) : Calls Tryd.prog 44 #[] w fun e w' => e = .returned (.agg #[.func (.func 58) #[] #[], .func (.func 59) #[] #[], .func (.func 60) #[] #[], .func (.func 61) #[] #[]]) ∧ Below w.heap.size w w' := by
  go_enter Tryd.func44, Tryd.ntmps44
  go_upto_region 1 with fail
  refine wp_named1 (fun V1 hb g0 hlt => ?_)
  have B0 := Lib.hid hb
  have Fv0_0 : Hid (V1.heap[w.heap.size]? = some (.cells #[.nilFunc, .nilFunc, .nilFunc, .nilFunc] 76 (0, 0))) := Lib.hid (g0)
  have Gb0 : Hid (w.heap.size ≤ w.heap.size) := Lib.hid (by omega)
  clear hb g0 hlt
  refine wp_region_lit ?_
  refine wpList_run (by kernel_rfl) (.agg #[.func (.func 58) #[] #[], .func (.func 59) #[] #[], .func (.func 60) #[] #[], .func (.func 61) #[] #[]]) V1 (by unfold execOp; go_simp) ?_
  simp only [Act.put, List.setIfInBounds_toArray, List.set_cons_zero, List.set_cons_succ]
  refine wpList_storeW w.heap.size #[.nilFunc, .nilFunc, .nilFunc, .nilFunc] #[.func (.func 58) #[] #[], .func (.func 59) #[] #[], .func (.func 60) #[] #[], .func (.func 61) #[] #[]] 76 (by kernel_rfl) Fv0_0.out (xo_storeW w.heap.size #[.nilFunc, .nilFunc, .nilFunc, .nilFunc] #[.func (.func 58) #[] #[], .func (.func 59) #[] #[], .func (.func 60) #[] #[], .func (.func 61) #[] #[]] Fv0_0.out (by kernel_rfl) rfl (by simp [Value.oneCell']) rfl rfl rfl) ?_
  intro X1_0 h1 hfar hbel hsz
  have hbr := hbel _ _ Gb0.out B0.out
  clear B0
  have B0 := Lib.hid hbr
  clear hbr
  clear Fv0_0
  have Fv0_0 : Hid (X1_0.heap[w.heap.size]? = some (.cells #[.func (.func 58) #[] #[], .func (.func 59) #[] #[], .func (.func 60) #[] #[], .func (.func 61) #[] #[]] 76 (0, 0))) := Lib.hid (h1)
  have HszX1_0 := Lib.hid hsz
  clear h1 hfar hbel hsz
  simp only [ptr, Act.put, List.setIfInBounds_toArray, List.set_cons_zero, List.set_cons_succ]
  refine wpList_nil ?_
  go_wp2_with fail
  refine bodyPost_ret (v := .agg #[.func (.func 58) #[] #[], .func (.func 59) #[] #[], .func (.func 60) #[] #[], .func (.func 61) #[] #[]]) ?_ rfl ⟨rfl, B0.out⟩
  exact results_cell_row rfl _ _ w.heap.size 76 _ (0, 0) _ rfl Fv0_0.out Tryd.underlying76 rfl (by kernel_rfl)
set_option maxRecDepth 100000 in
set_option maxHeartbeats 8000000 in
theorem fromInt_any (n : Nat) (hn : n < 9223372036854775808) (w : World) : Calls Tryd.prog 47 #[.int .i64 (n : Int)] w fun e w' => e = .returned (.int .u64 (n : Int)) ∧ Below w.heap.size w w' := by
  go_enter Tryd.func47, Tryd.ntmps47
  go_upto_region 1 with fail
  refine wp_region_lit ?_
  refine wpList_run (by kernel_rfl) (.int .i64 (n : Int)) w rfl ?_
  simp only [Act.put, List.setIfInBounds_toArray, List.set_cons_zero, List.set_cons_succ]
  refine wpList_run (by kernel_rfl) (.bool false) w (xo_lssF .i64 (n : Int) 0 (by omega) rfl rfl rfl) ?_
  simp only [Act.put, List.setIfInBounds_toArray, List.set_cons_zero, List.set_cons_succ]
  refine wpList_nil ?_
  go_upto_region 3 with fail
  refine wp_region_lit ?_
  refine wpList_run (by kernel_rfl) (.int .i64 (n : Int)) w rfl ?_
  simp only [Act.put, List.setIfInBounds_toArray, List.set_cons_zero, List.set_cons_succ]
  refine wpList_run (by kernel_rfl) (.int .u64 (n : Int)) w (xo_cvt .i64 .u64 (n : Int) (n : Int) (by rw [IntKind.wrap_u64]; omega) Tryd.underlying50 Tryd.underlying2 rfl rfl) ?_
  simp only [Act.put, List.setIfInBounds_toArray, List.set_cons_zero, List.set_cons_succ]
  refine wpList_run (by kernel_rfl) (.int .u64 (n : Int)) w rfl ?_
  simp only [Act.put, List.setIfInBounds_toArray, List.set_cons_zero, List.set_cons_succ]
  refine wpList_nil ?_
  go_wp2_with fail
  go_ret
  exact ⟨rfl, (Below.refl w.heap.size w)⟩
set_option maxRecDepth 100000 in
set_option maxHeartbeats 8000000 in
theorem fvalid_as (n : Nat) (b : Bool) (hb : decide (n < 18446744069414584321) = b) (w : World) : Calls Tryd.prog 71 #[.int .u64 (n : Int)] w fun e w' => e = .returned (.bool b) ∧ Below w.heap.size w w' := by
  go_enter Tryd.func71, Tryd.ntmps71
  go_upto_region 1 with fail
  refine wp_region_lit ?_
  refine wpList_run (by kernel_rfl) (.int .u64 (n : Int)) w rfl ?_
  simp only [Act.put, List.setIfInBounds_toArray, List.set_cons_zero, List.set_cons_succ]
  refine wpList_run (by kernel_rfl) (.bool b) w (xo_cmp .lss .u64 (n : Int) 18446744069414584321 b (.inr (.inr (.inl ⟨rfl, (by rw [← hb]; congr 1; exact propext (by omega))⟩))) rfl rfl rfl) ?_
  simp only [Act.put, List.setIfInBounds_toArray, List.set_cons_zero, List.set_cons_succ]
  refine wpList_run (by kernel_rfl) (.bool b) w rfl ?_
  simp only [Act.put, List.setIfInBounds_toArray, List.set_cons_zero, List.set_cons_succ]
  refine wpList_nil ?_
  go_wp2_with fail
  go_ret
  exact ⟨rfl, (Below.refl w.heap.size w)⟩
end Go.Proofs.YtopicjdmajlndaaDoor

namespace Go.Proofs.YtopicjdmajlndaaDoor
set_option linter.unusedVariables false
set_option linter.unusedSimpArgs false
set_option linter.unusedSectionVars false
set_option maxRecDepth 8000
open Go.RowKit Go.Proofs.YtopicjdmajlndaaDoor.K
attribute [local irreducible] wpList wpQuiet
def clB (n : Nat) : Bool := decide (1 ≤ n) && (decide (n ≤ 65536) && ((n &&& (n - 1)) == 0))
set_option maxRecDepth 100000 in
set_option maxHeartbeats 8000000 in
theorem gone_any (A : Option Addr) (n c : Nat) (B : Option Addr) (m d : Nat) (gs : List Bool) (i : Nat) (g : Bool) (hg : gs[i]? = some g) (w : World) (hG : Sg boC 1 w B m d gs) : Calls Tryd.prog 43 #[.agg #[.slice A n c, .slice B m d], .int .i64 (i : Int)] w fun e w' => e = .returned (.bool g) ∧ Below w.heap.size w w' := by
  have HG := Lib.hid hG
  have hil := (List.getElem?_eq_some_iff.1 hg).1
  rw [hG.len] at hil
  have hil2 : (i : Int) < (m : Int) := by omega
  have HE := Lib.hid hg
  clear hG hg
  go_enter Tryd.func43, Tryd.ntmps43
  go_upto_region 1 with fail
  refine wp_named1 (fun V1 hb g0 hlt => ?_)
  have B0 := Lib.hid hb
  have Fv0_2 : Hid (V1.heap[w.heap.size]? = some (.cells #[.slice A n c, .slice B m d] 30 (0, 0))) := Lib.hid (g0)
  have Gb0 : Hid (w.heap.size ≤ w.heap.size) := Lib.hid (by omega)
  clear hb g0 hlt
  refine wp_region_lit ?_
  refine wpList_run (by kernel_rfl) (.int .i64 (i : Int)) V1 rfl ?_
  simp only [Act.put, List.setIfInBounds_toArray, List.set_cons_zero, List.set_cons_succ]
  refine wpList_run (by kernel_rfl) (.pointer (some ⟨w.heap.size, 1, none⟩)) V1 (xo_fld0 1 w.heap.size 1 (by kernel_rfl) rfl rfl) ?_
  simp only [Act.put, List.setIfInBounds_toArray, List.set_cons_zero, List.set_cons_succ]
  refine wpList_run (by kernel_rfl) (.slice B m d) V1 (xo_load1 ⟨w.heap.size, 1, none⟩ _ (cells_at Fv0_2.out 1 rfl) Tryd.underlying28 rfl rfl rfl) ?_
  simp only [Act.put, List.setIfInBounds_toArray, List.set_cons_zero, List.set_cons_succ]
  refine wpList_run (by kernel_rfl) (.int .i64 (m : Int)) V1 (xo_len B m d Tryd.underlying28 rfl rfl) ?_
  simp only [Act.put, List.setIfInBounds_toArray, List.set_cons_zero, List.set_cons_succ]
  refine wpList_run (by kernel_rfl) (.bool true) V1 (xo_lssT .i64 (i : Int) (m : Int) (by omega) rfl rfl rfl) ?_
  simp only [Act.put, List.setIfInBounds_toArray, List.set_cons_zero, List.set_cons_succ]
  refine wpList_run (by kernel_rfl) (.bool true) V1 rfl ?_
  simp only [Act.put, List.setIfInBounds_toArray, List.set_cons_zero, List.set_cons_succ]
  refine wpList_run (by kernel_rfl) (.pointer (some ⟨w.heap.size, 1, none⟩)) V1 (xo_fld0 1 w.heap.size 1 (by kernel_rfl) rfl rfl) ?_
  simp only [Act.put, List.setIfInBounds_toArray, List.set_cons_zero, List.set_cons_succ]
  refine wpList_run (by kernel_rfl) (.slice B m d) V1 (xo_load1 ⟨w.heap.size, 1, none⟩ _ (cells_at Fv0_2.out 1 rfl) Tryd.underlying28 rfl rfl rfl) ?_
  simp only [Act.put, List.setIfInBounds_toArray, List.set_cons_zero, List.set_cons_succ]
  refine wpList_run (by kernel_rfl) (.int .i64 (i : Int)) V1 rfl ?_
  simp only [Act.put, List.setIfInBounds_toArray, List.set_cons_zero, List.set_cons_succ]
  refine wpList_run (by kernel_rfl) (.pointer (some (gad B (i * 1)))) V1 (xg_idx .i64 (HG.out.keep B0.out) HE.out Tryd.underlying28 (by kernel_rfl) rfl rfl rfl) ?_
  simp only [Act.put, List.setIfInBounds_toArray, List.set_cons_zero, List.set_cons_succ]
  refine wpList_run (by kernel_rfl) (.bool g) V1 (xg_load1 (i := i) (j := 0) (HG.out.keep B0.out) HE.out rfl rfl Tryd.underlying4 rfl rfl rfl) ?_
  simp only [Act.put, List.setIfInBounds_toArray, List.set_cons_zero, List.set_cons_succ]
  refine wpList_run (by kernel_rfl) (.bool g) V1 rfl ?_
  simp only [Act.put, List.setIfInBounds_toArray, List.set_cons_zero, List.set_cons_succ]
  refine wpList_run (by kernel_rfl) (.bool g) V1 rfl ?_
  simp only [Act.put, List.setIfInBounds_toArray, List.set_cons_zero, List.set_cons_succ]
  refine wpList_nil ?_
  go_wp2_with fail
  go_ret
  exact ⟨rfl, B0.out⟩
set_option maxRecDepth 100000 in
set_option maxHeartbeats 8000000 in
theorem columnLength_as (n : Nat) (hn : n < 4611686018427387904) (b : Bool) (hb : clB n = b) (w : World) : Calls Tryd.prog 63 #[.int .i64 (n : Int)] w fun e w' => e = .returned (.bool b) ∧ Below w.heap.size w w' := by
  go_enter Tryd.func63, Tryd.ntmps63
  go_upto_region 1 with fail
  have hz : (0 : Int) ≤ n := by omega
  have hn2 : n &&& (n - 1) ≤ n := Nat.and_le_left
  by_cases h1 : 1 ≤ n
  · have h1i : (n : Int) ≥ 1 := by omega
    by_cases h2 : n ≤ 65536
    · refine wp_region_lit ?_
      refine wpList_run (by kernel_rfl) (.int .i64 (n : Int)) w rfl ?_
      simp only [Act.put, List.setIfInBounds_toArray, List.set_cons_zero, List.set_cons_succ]
      refine wpList_run (by kernel_rfl) (.bool true) w (xo_geqT .i64 (n : Int) 1 (by omega) rfl rfl rfl) ?_
      simp only [Act.put, List.setIfInBounds_toArray, List.set_cons_zero, List.set_cons_succ]
      refine wpList_run (by kernel_rfl) (.bool true) w rfl ?_
      simp only [Act.put, List.setIfInBounds_toArray, List.set_cons_zero, List.set_cons_succ]
      refine wpList_run (by kernel_rfl) (.int .i64 (n : Int)) w rfl ?_
      simp only [Act.put, List.setIfInBounds_toArray, List.set_cons_zero, List.set_cons_succ]
      refine wpList_run (by kernel_rfl) (.bool true) w (xo_leqT .i64 (n : Int) 65536 (by omega) rfl rfl rfl) ?_
      simp only [Act.put, List.setIfInBounds_toArray, List.set_cons_zero, List.set_cons_succ]
      refine wpList_run (by kernel_rfl) (.bool true) w rfl ?_
      simp only [Act.put, List.setIfInBounds_toArray, List.set_cons_zero, List.set_cons_succ]
      refine wpList_run (by kernel_rfl) (.bool true) w rfl ?_
      simp only [Act.put, List.setIfInBounds_toArray, List.set_cons_zero, List.set_cons_succ]
      refine wpList_run (by kernel_rfl) (.int .i64 (n : Int)) w rfl ?_
      simp only [Act.put, List.setIfInBounds_toArray, List.set_cons_zero, List.set_cons_succ]
      refine wpList_run (by kernel_rfl) (.int .i64 (n : Int)) w rfl ?_
      simp only [Act.put, List.setIfInBounds_toArray, List.set_cons_zero, List.set_cons_succ]
      refine wpList_run (by kernel_rfl) (.int .i64 ((n - 1 : Nat) : Int)) w (xo_subI (n : Int) 1 ((n - 1 : Nat) : Int) (by omega) (by omega) (by omega) rfl rfl rfl) ?_
      simp only [Act.put, List.setIfInBounds_toArray, List.set_cons_zero, List.set_cons_succ]
      refine wpList_run (by kernel_rfl) (.int .i64 ((n &&& (n - 1) : Nat) : Int)) w (xo_and .i64 n (n - 1) (n &&& (n - 1)) (by show _ < 2 ^ 64; omega) (by show _ < 2 ^ 64; omega) rfl (by rw [IntKind.wrap_i64]; omega) rfl rfl rfl) ?_
      simp only [Act.put, List.setIfInBounds_toArray, List.set_cons_zero, List.set_cons_succ]
      refine wpList_run (by kernel_rfl) (.bool b) w (xo_cmp .eql .i64 ((n &&& (n - 1) : Nat) : Int) 0 b (.inl ⟨rfl, (by rw [← hb]; simp only [clB, h1, h2, decide_true, Bool.true_and]; rw [Bool.eq_iff_iff]; simp only [beq_iff_eq]; omega)⟩) rfl rfl rfl) ?_
      simp only [Act.put, List.setIfInBounds_toArray, List.set_cons_zero, List.set_cons_succ]
      refine wpList_run (by kernel_rfl) (.bool b) w rfl ?_
      simp only [Act.put, List.setIfInBounds_toArray, List.set_cons_zero, List.set_cons_succ]
      refine wpList_run (by kernel_rfl) (.bool b) w rfl ?_
      simp only [Act.put, List.setIfInBounds_toArray, List.set_cons_zero, List.set_cons_succ]
      refine wpList_nil ?_
      go_wp2_with fail
      go_ret
      exact ⟨rfl, (Below.refl w.heap.size w)⟩
    · obtain rfl : b = false := by rw [← hb]; simp [clB, h2]
      refine wp_region_lit ?_
      refine wpList_run (by kernel_rfl) (.int .i64 (n : Int)) w rfl ?_
      simp only [Act.put, List.setIfInBounds_toArray, List.set_cons_zero, List.set_cons_succ]
      refine wpList_run (by kernel_rfl) (.bool true) w (xo_geqT .i64 (n : Int) 1 (by omega) rfl rfl rfl) ?_
      simp only [Act.put, List.setIfInBounds_toArray, List.set_cons_zero, List.set_cons_succ]
      refine wpList_run (by kernel_rfl) (.bool true) w rfl ?_
      simp only [Act.put, List.setIfInBounds_toArray, List.set_cons_zero, List.set_cons_succ]
      refine wpList_run (by kernel_rfl) (.int .i64 (n : Int)) w rfl ?_
      simp only [Act.put, List.setIfInBounds_toArray, List.set_cons_zero, List.set_cons_succ]
      refine wpList_run (by kernel_rfl) (.bool false) w (xo_leqF .i64 (n : Int) 65536 (by omega) rfl rfl rfl) ?_
      simp only [Act.put, List.setIfInBounds_toArray, List.set_cons_zero, List.set_cons_succ]
      refine wpList_run (by kernel_rfl) (.bool false) w rfl ?_
      simp only [Act.put, List.setIfInBounds_toArray, List.set_cons_zero, List.set_cons_succ]
      refine wpList_run (by kernel_rfl) (.bool false) w rfl ?_
      simp only [Act.put, List.setIfInBounds_toArray, List.set_cons_zero, List.set_cons_succ]
      refine wpList_skip (by kernel_rfl) ?_
      try simp only [Act.put, List.setIfInBounds_toArray, List.set_cons_zero, List.set_cons_succ]
      refine wpList_skip (by kernel_rfl) ?_
      try simp only [Act.put, List.setIfInBounds_toArray, List.set_cons_zero, List.set_cons_succ]
      refine wpList_skip (by kernel_rfl) ?_
      try simp only [Act.put, List.setIfInBounds_toArray, List.set_cons_zero, List.set_cons_succ]
      refine wpList_skip (by kernel_rfl) ?_
      try simp only [Act.put, List.setIfInBounds_toArray, List.set_cons_zero, List.set_cons_succ]
      refine wpList_skip (by kernel_rfl) ?_
      try simp only [Act.put, List.setIfInBounds_toArray, List.set_cons_zero, List.set_cons_succ]
      refine wpList_run (by kernel_rfl) (.bool false) w rfl ?_
      simp only [Act.put, List.setIfInBounds_toArray, List.set_cons_zero, List.set_cons_succ]
      refine wpList_run (by kernel_rfl) (.bool false) w rfl ?_
      simp only [Act.put, List.setIfInBounds_toArray, List.set_cons_zero, List.set_cons_succ]
      refine wpList_nil ?_
      go_wp2_with fail
      go_ret
      exact ⟨rfl, (Below.refl w.heap.size w)⟩
  · obtain rfl : b = false := by rw [← hb]; simp [clB, h1]
    refine wp_region_lit ?_
    refine wpList_run (by kernel_rfl) (.int .i64 (n : Int)) w rfl ?_
    simp only [Act.put, List.setIfInBounds_toArray, List.set_cons_zero, List.set_cons_succ]
    refine wpList_run (by kernel_rfl) (.bool false) w (xo_geqF .i64 (n : Int) 1 (by omega) rfl rfl rfl) ?_
    simp only [Act.put, List.setIfInBounds_toArray, List.set_cons_zero, List.set_cons_succ]
    refine wpList_run (by kernel_rfl) (.bool false) w rfl ?_
    simp only [Act.put, List.setIfInBounds_toArray, List.set_cons_zero, List.set_cons_succ]
    refine wpList_skip (by kernel_rfl) ?_
    try simp only [Act.put, List.setIfInBounds_toArray, List.set_cons_zero, List.set_cons_succ]
    refine wpList_skip (by kernel_rfl) ?_
    try simp only [Act.put, List.setIfInBounds_toArray, List.set_cons_zero, List.set_cons_succ]
    refine wpList_run (by kernel_rfl) (.bool false) w rfl ?_
    simp only [Act.put, List.setIfInBounds_toArray, List.set_cons_zero, List.set_cons_succ]
    refine wpList_run (by kernel_rfl) (.bool false) w rfl ?_
    simp only [Act.put, List.setIfInBounds_toArray, List.set_cons_zero, List.set_cons_succ]
    refine wpList_skip (by kernel_rfl) ?_
    try simp only [Act.put, List.setIfInBounds_toArray, List.set_cons_zero, List.set_cons_succ]
    refine wpList_skip (by kernel_rfl) ?_
    try simp only [Act.put, List.setIfInBounds_toArray, List.set_cons_zero, List.set_cons_succ]
    refine wpList_skip (by kernel_rfl) ?_
    try simp only [Act.put, List.setIfInBounds_toArray, List.set_cons_zero, List.set_cons_succ]
    refine wpList_skip (by kernel_rfl) ?_
    try simp only [Act.put, List.setIfInBounds_toArray, List.set_cons_zero, List.set_cons_succ]
    refine wpList_skip (by kernel_rfl) ?_
    try simp only [Act.put, List.setIfInBounds_toArray, List.set_cons_zero, List.set_cons_succ]
    refine wpList_run (by kernel_rfl) (.bool false) w rfl ?_
    simp only [Act.put, List.setIfInBounds_toArray, List.set_cons_zero, List.set_cons_succ]
    refine wpList_run (by kernel_rfl) (.bool false) w rfl ?_
    simp only [Act.put, List.setIfInBounds_toArray, List.set_cons_zero, List.set_cons_succ]
    refine wpList_nil ?_
    go_wp2_with fail
    go_ret
    exact ⟨rfl, (Below.refl w.heap.size w)⟩
set_option maxRecDepth 100000 in
set_option maxHeartbeats 8000000 in
theorem encode_any (p q s t : Nat) (hp : p < 16) (hq : q < 256) (hs : s < 16) (ht : t < 256) (w : World) : Calls Tryd.prog 27 #[.agg #[.int .i64 (p : Int), .int .i64 (q : Int), .int .i64 (s : Int), .int .i64 (t : Int)]] w fun e w' => ∃ A c, e = .returned (.slice A 3 c) ∧ Sg byC 1 w' A 3 c [p + s * 16, q, t] ∧ Below w.heap.size w w' := by
  go_enter Tryd.func27, Tryd.ntmps27
  go_upto_region 1 with fail
  refine wp_named1 (fun V1 hb g0 hlt => ?_)
  have B0 := Lib.hid hb
  have Fv0_1 : Hid (V1.heap[w.heap.size]? = some (.cells #[.int .i64 (p : Int), .int .i64 (q : Int), .int .i64 (s : Int), .int .i64 (t : Int)] 24 (0, 0))) := Lib.hid (g0)
  have Gb0 : Hid (w.heap.size ≤ w.heap.size) := Lib.hid (by omega)
  clear hb g0 hlt
  refine wp_region_lit ?_
  refine wpList_run (by kernel_rfl) (.pointer (some ⟨w.heap.size, 0, none⟩)) V1 (xo_fld0 0 w.heap.size 0 (by kernel_rfl) rfl rfl) ?_
  simp only [Act.put, List.setIfInBounds_toArray, List.set_cons_zero, List.set_cons_succ]
  refine wpList_run (by kernel_rfl) (.int .i64 (p : Int)) V1 (xo_load1 ⟨w.heap.size, 0, none⟩ _ (cells_at Fv0_1.out 0 rfl) Tryd.underlying3 rfl rfl rfl) ?_
  simp only [Act.put, List.setIfInBounds_toArray, List.set_cons_zero, List.set_cons_succ]
  refine wpList_run (by kernel_rfl) (.pointer (some ⟨w.heap.size, 2, none⟩)) V1 (xo_fld0 2 w.heap.size 2 (by kernel_rfl) rfl rfl) ?_
  simp only [Act.put, List.setIfInBounds_toArray, List.set_cons_zero, List.set_cons_succ]
  refine wpList_run (by kernel_rfl) (.int .i64 (s : Int)) V1 (xo_load1 ⟨w.heap.size, 2, none⟩ _ (cells_at Fv0_1.out 2 rfl) Tryd.underlying3 rfl rfl rfl) ?_
  simp only [Act.put, List.setIfInBounds_toArray, List.set_cons_zero, List.set_cons_succ]
  refine wpList_run (by kernel_rfl) (.int .i64 ((s * 16 : Nat) : Int)) V1 (xo_shlI .u64 s 4 (s * 16) (by omega) (by omega) rfl rfl rfl) ?_
  simp only [Act.put, List.setIfInBounds_toArray, List.set_cons_zero, List.set_cons_succ]
  refine wpList_run (by kernel_rfl) (.int .i64 ((p + s * 16 : Nat) : Int)) V1 (xo_addI (p : Int) ((s * 16 : Nat) : Int) ((p + s * 16 : Nat) : Int) (by omega) (by omega) (by omega) rfl rfl rfl) ?_
  simp only [Act.put, List.setIfInBounds_toArray, List.set_cons_zero, List.set_cons_succ]
  refine wpList_run (by kernel_rfl) (.int .u8 ((p + s * 16 : Nat) : Int)) V1 (xo_cvt .i64 .u8 ((p + s * 16 : Nat) : Int) ((p + s * 16 : Nat) : Int) (by rw [IntKind.wrap_u8]; omega) Tryd.underlying5 Tryd.underlying3 rfl rfl) ?_
  simp only [Act.put, List.setIfInBounds_toArray, List.set_cons_zero, List.set_cons_succ]
  refine wpList_run (by kernel_rfl) (.pointer (some ⟨w.heap.size, 1, none⟩)) V1 (xo_fld0 1 w.heap.size 1 (by kernel_rfl) rfl rfl) ?_
  simp only [Act.put, List.setIfInBounds_toArray, List.set_cons_zero, List.set_cons_succ]
  refine wpList_run (by kernel_rfl) (.int .i64 (q : Int)) V1 (xo_load1 ⟨w.heap.size, 1, none⟩ _ (cells_at Fv0_1.out 1 rfl) Tryd.underlying3 rfl rfl rfl) ?_
  simp only [Act.put, List.setIfInBounds_toArray, List.set_cons_zero, List.set_cons_succ]
  refine wpList_run (by kernel_rfl) (.int .u8 (q : Int)) V1 (xo_cvt .i64 .u8 (q : Int) (q : Int) (by rw [IntKind.wrap_u8]; omega) Tryd.underlying5 Tryd.underlying3 rfl rfl) ?_
  simp only [Act.put, List.setIfInBounds_toArray, List.set_cons_zero, List.set_cons_succ]
  refine wpList_run (by kernel_rfl) (.pointer (some ⟨w.heap.size, 3, none⟩)) V1 (xo_fld0 3 w.heap.size 3 (by kernel_rfl) rfl rfl) ?_
  simp only [Act.put, List.setIfInBounds_toArray, List.set_cons_zero, List.set_cons_succ]
  refine wpList_run (by kernel_rfl) (.int .i64 (t : Int)) V1 (xo_load1 ⟨w.heap.size, 3, none⟩ _ (cells_at Fv0_1.out 3 rfl) Tryd.underlying3 rfl rfl rfl) ?_
  simp only [Act.put, List.setIfInBounds_toArray, List.set_cons_zero, List.set_cons_succ]
  refine wpList_run (by kernel_rfl) (.int .u8 (t : Int)) V1 (xo_cvt .i64 .u8 (t : Int) (t : Int) (by rw [IntKind.wrap_u8]; omega) Tryd.underlying5 Tryd.underlying3 rfl rfl) ?_
  simp only [Act.put, List.setIfInBounds_toArray, List.set_cons_zero, List.set_cons_succ]
  refine wpList_mk (by kernel_rfl) ([p + s * 16, q, t].flatMap byC).toArray 5 3 3 (xg_lit (E := byC) (bytes := 1) (.int .u8 0) [.tmp 9, .tmp 12, .tmp 15] [p + s * 16, q, t] 3 Tryd.underlying25 (by kernel_rfl) rfl (by decide) (by decide) rfl rfl) ?_
  intro g16 V2 hge h0 hb
  have N0_0 : Hid (w.heap.size ≠ g16) := Lib.hid (xp_lt0 Fv0_1.out hge)
  have Ge1 : Hid (V1.heap.size ≤ g16) := Lib.hid hge
  have B1 := Lib.hid hb
  have Fv2_16 : Hid (RowG byC V2 g16 5 ([p + s * 16, q, t])) := Lib.hid (h0)
  clear hge h0 hb
  simp only [ptr, Act.put, List.setIfInBounds_toArray, List.set_cons_zero, List.set_cons_succ]
  refine wpList_run (by kernel_rfl) (.slice (some ⟨g16, 0, none⟩) 3 3) V2 rfl ?_
  simp only [Act.put, List.setIfInBounds_toArray, List.set_cons_zero, List.set_cons_succ]
  refine wpList_nil ?_
  have C0_2 := Lib.hid (bel_step B0.out B1.out)
  go_wp2_with fail
  go_ret
  exact ⟨(some ⟨g16, 0, none⟩), 3, rfl, (RowG.sg Fv2_16.out rfl (Nat.le_refl _) (by omega)), C0_2.out⟩
set_option maxRecDepth 100000 in
set_option maxHeartbeats 8000000 in
theorem decode_yes (A : Option Addr) (c x y z : Nat) (hx : x < 256) (hy : y < 256) (hz : z < 256) (w : World) (h : Sg byC 1 w A 3 c [x, y, z]) : Calls Tryd.prog 23 #[.slice A 3 c] w fun e w' => e = .returned (.tuple #[.agg (rdC (decR x y z)).toArray, .int .i64 0]) ∧ Below w.heap.size w w' := by
  have HX := Lib.hid h
  clear h
  go_enter Tryd.func23, Tryd.ntmps23
  go_upto_region 1 with fail
  refine wp_named1 (fun V1 hb g0 hlt => ?_)
  have B0 := Lib.hid hb
  have Fv0_2 : Hid (V1.heap[w.heap.size]? = some (.cells #[.int .i64 0, .int .i64 0, .int .i64 0, .int .i64 0] 24 (0, 0))) := Lib.hid (g0)
  have Gb0 : Hid (w.heap.size ≤ w.heap.size) := Lib.hid (by omega)
  clear hb g0 hlt
  refine wp_region_lit ?_
  refine wpList_run (by kernel_rfl) (.slice A 3 c) V1 rfl ?_
  simp only [Act.put, List.setIfInBounds_toArray, List.set_cons_zero, List.set_cons_succ]
  refine wpList_run (by kernel_rfl) (.int .i64 3) V1 (xo_len A 3 c Tryd.underlying25 rfl rfl) ?_
  simp only [Act.put, List.setIfInBounds_toArray, List.set_cons_zero, List.set_cons_succ]
  refine wpList_run (by kernel_rfl) (.bool false) V1 (xo_neqF .i64 3 3 (by omega) rfl rfl rfl) ?_
  simp only [Act.put, List.setIfInBounds_toArray, List.set_cons_zero, List.set_cons_succ]
  refine wpList_nil ?_
  go_upto_region 3 with fail
  try simp only [List.append_eq, List.cons_append, List.nil_append]
  refine wp_ordA (fun W => Below w.heap.size w W) [(0, true), (1, true), (2, true), (3, true), (4, true), (5, true), (6, true), (7, true), (8, true), (9, true), (10, true), (11, true), (12, true), (13, true), (14, true), (15, true), (16, true), (17, true), (18, true), (19, false), (20, true)] (by kernel_rfl) (by kernel_rfl) (fun _ _ dt _ _ h => by first | exact h.elim | (cases dt <;> exact h)) rfl (by kernel_rfl) B0.out.drew ?_
  have hb : Below V1.heap.size V1 V1.drew := (Below.refl _ _).drew
  generalize V1.drew = V2 at hb ⊢
  have B1 := Lib.hid hb
  clear hb
  refine wpO_w (.slice A 3 c) rfl (by kernel_rfl) (fun v hW => rfl) ?_
  simp only [ptr, Act.put, List.setIfInBounds_toArray, List.set_cons_zero, List.set_cons_succ]
  refine wpO_w (.pointer (some (gad A (0 * 1)))) rfl (by kernel_rfl) (fun v hW => (xg_idx .i64 (HX.out.keep hW) rfl Tryd.underlying25 (by kernel_rfl) rfl rfl rfl)) ?_
  simp only [ptr, Act.put, List.setIfInBounds_toArray, List.set_cons_zero, List.set_cons_succ]
  refine wpO_w (.int .u8 (x : Int)) rfl (by kernel_rfl) (fun v hW => (xg_load1 (i := 0) (j := 0) (HX.out.keep hW) rfl rfl rfl Tryd.underlying5 rfl rfl rfl)) ?_
  simp only [ptr, Act.put, List.setIfInBounds_toArray, List.set_cons_zero, List.set_cons_succ]
  refine wpO_w (.int .u8 ((x % 16 : Nat) : Int)) rfl (by kernel_rfl) (fun v hW => (xo_and .u8 x 15 (x % 16) (by show _ < 2 ^ 8; omega) (by show _ < 2 ^ 8; omega) (Nat.and_two_pow_sub_one_eq_mod x 4) (by rw [IntKind.wrap_u8]; omega) rfl rfl rfl)) ?_
  simp only [ptr, Act.put, List.setIfInBounds_toArray, List.set_cons_zero, List.set_cons_succ]
  refine wpO_w (.int .i64 ((x % 16 : Nat) : Int)) rfl (by kernel_rfl) (fun v hW => (xo_cvt .u8 .i64 ((x % 16 : Nat) : Int) ((x % 16 : Nat) : Int) (by rw [IntKind.wrap_i64]; omega) Tryd.underlying3 Tryd.underlying5 rfl rfl)) ?_
  simp only [ptr, Act.put, List.setIfInBounds_toArray, List.set_cons_zero, List.set_cons_succ]
  refine wpO_w (.slice A 3 c) rfl (by kernel_rfl) (fun v hW => rfl) ?_
  simp only [ptr, Act.put, List.setIfInBounds_toArray, List.set_cons_zero, List.set_cons_succ]
  refine wpO_w (.pointer (some (gad A (1 * 1)))) rfl (by kernel_rfl) (fun v hW => (xg_idx .i64 (HX.out.keep hW) rfl Tryd.underlying25 (by kernel_rfl) rfl rfl rfl)) ?_
  simp only [ptr, Act.put, List.setIfInBounds_toArray, List.set_cons_zero, List.set_cons_succ]
  refine wpO_w (.int .u8 (y : Int)) rfl (by kernel_rfl) (fun v hW => (xg_load1 (i := 1) (j := 0) (HX.out.keep hW) rfl rfl rfl Tryd.underlying5 rfl rfl rfl)) ?_
  simp only [ptr, Act.put, List.setIfInBounds_toArray, List.set_cons_zero, List.set_cons_succ]
  refine wpO_w (.int .i64 (y : Int)) rfl (by kernel_rfl) (fun v hW => (xo_cvt .u8 .i64 (y : Int) (y : Int) (by rw [IntKind.wrap_i64]; omega) Tryd.underlying3 Tryd.underlying5 rfl rfl)) ?_
  simp only [ptr, Act.put, List.setIfInBounds_toArray, List.set_cons_zero, List.set_cons_succ]
  refine wpO_w (.slice A 3 c) rfl (by kernel_rfl) (fun v hW => rfl) ?_
  simp only [ptr, Act.put, List.setIfInBounds_toArray, List.set_cons_zero, List.set_cons_succ]
  refine wpO_w (.pointer (some (gad A (0 * 1)))) rfl (by kernel_rfl) (fun v hW => (xg_idx .i64 (HX.out.keep hW) rfl Tryd.underlying25 (by kernel_rfl) rfl rfl rfl)) ?_
  simp only [ptr, Act.put, List.setIfInBounds_toArray, List.set_cons_zero, List.set_cons_succ]
  refine wpO_w (.int .u8 (x : Int)) rfl (by kernel_rfl) (fun v hW => (xg_load1 (i := 0) (j := 0) (HX.out.keep hW) rfl rfl rfl Tryd.underlying5 rfl rfl rfl)) ?_
  simp only [ptr, Act.put, List.setIfInBounds_toArray, List.set_cons_zero, List.set_cons_succ]
  refine wpO_w (.int .u8 ((x / 16 : Nat) : Int)) rfl (by kernel_rfl) (fun v hW => (xo_shrN .u8 .u64 x 4 (x / 16) (by decide) rfl rfl rfl rfl)) ?_
  simp only [ptr, Act.put, List.setIfInBounds_toArray, List.set_cons_zero, List.set_cons_succ]
  refine wpO_w (.int .i64 ((x / 16 : Nat) : Int)) rfl (by kernel_rfl) (fun v hW => (xo_cvt .u8 .i64 ((x / 16 : Nat) : Int) ((x / 16 : Nat) : Int) (by rw [IntKind.wrap_i64]; omega) Tryd.underlying3 Tryd.underlying5 rfl rfl)) ?_
  simp only [ptr, Act.put, List.setIfInBounds_toArray, List.set_cons_zero, List.set_cons_succ]
  refine wpO_w (.slice A 3 c) rfl (by kernel_rfl) (fun v hW => rfl) ?_
  simp only [ptr, Act.put, List.setIfInBounds_toArray, List.set_cons_zero, List.set_cons_succ]
  refine wpO_w (.pointer (some (gad A (2 * 1)))) rfl (by kernel_rfl) (fun v hW => (xg_idx .i64 (HX.out.keep hW) rfl Tryd.underlying25 (by kernel_rfl) rfl rfl rfl)) ?_
  simp only [ptr, Act.put, List.setIfInBounds_toArray, List.set_cons_zero, List.set_cons_succ]
  refine wpO_w (.int .u8 (z : Int)) rfl (by kernel_rfl) (fun v hW => (xg_load1 (i := 2) (j := 0) (HX.out.keep hW) rfl rfl rfl Tryd.underlying5 rfl rfl rfl)) ?_
  simp only [ptr, Act.put, List.setIfInBounds_toArray, List.set_cons_zero, List.set_cons_succ]
  refine wpO_w (.int .i64 (z : Int)) rfl (by kernel_rfl) (fun v hW => (xo_cvt .u8 .i64 (z : Int) (z : Int) (by rw [IntKind.wrap_i64]; omega) Tryd.underlying3 Tryd.underlying5 rfl rfl)) ?_
  simp only [ptr, Act.put, List.setIfInBounds_toArray, List.set_cons_zero, List.set_cons_succ]
  refine wpO_w (.agg #[.int .i64 ((x % 16 : Nat) : Int), .int .i64 (y : Int), .int .i64 ((x / 16 : Nat) : Int), .int .i64 (z : Int)]) rfl (by kernel_rfl) (fun v hW => (by unfold execOp; go_simp)) ?_
  simp only [ptr, Act.put, List.setIfInBounds_toArray, List.set_cons_zero, List.set_cons_succ]
  have hfs := (heap_keep Fv0_2.out B1.out)
  have hgb : w.heap.size ≤ w.heap.size := Gb0.out
  have C0_2 := Lib.hid (bel_step B0.out B1.out)
  have hbs := C0_2.out
  refine wpO_op rfl (by kernel_rfl) ?_
  unfold hOp
  rw [xo_storeW w.heap.size #[.int .i64 0, .int .i64 0, .int .i64 0, .int .i64 0] #[.int .i64 ((x % 16 : Nat) : Int), .int .i64 (y : Int), .int .i64 ((x / 16 : Nat) : Int), .int .i64 (z : Int)] hfs (by kernel_rfl) rfl (by simp [Value.oneCell']) rfl rfl rfl]
  refine ⟨bel_setRow hbs hgb _, ?_⟩
  have hfn := setRow_heap V2 w.heap.size _ #[.int .i64 ((x % 16 : Nat) : Int), .int .i64 (y : Int), .int .i64 ((x / 16 : Nat) : Int), .int .i64 (z : Int)] _ _ hfs
  have hbn := bel_setRow hbs hgb #[.int .i64 ((x % 16 : Nat) : Int), .int .i64 (y : Int), .int .i64 ((x / 16 : Nat) : Int), .int .i64 (z : Int)]
  generalize V2.setRow w.heap.size #[.int .i64 ((x % 16 : Nat) : Int), .int .i64 (y : Int), .int .i64 ((x / 16 : Nat) : Int), .int .i64 (z : Int)] = X0 at hfn hbn ⊢
  try simp only [ptr, Act.put, List.setIfInBounds_toArray, List.set_cons_zero, List.set_cons_succ]
  have hbr := hbn
  clear B0
  have B0 := Lib.hid hbr
  clear hbr
  clear Fv0_2
  have Fv0_2 : Hid (X0.heap[w.heap.size]? = some (.cells #[.int .i64 ((x % 16 : Nat) : Int), .int .i64 (y : Int), .int .i64 ((x / 16 : Nat) : Int), .int .i64 (z : Int)] 24 (0, 0))) := Lib.hid hfn
  clear hfs hgb hbs hfn hbn
  refine wpO_w (.int .i64 0) rfl (by kernel_rfl) (fun v hW => rfl) ?_
  simp only [ptr, Act.put, List.setIfInBounds_toArray, List.set_cons_zero, List.set_cons_succ]
  refine wpO_nil ?_
  go_wp2_with fail
  refine bodyPost_ret (v := .tuple #[.agg #[.int .i64 ((x % 16 : Nat) : Int), .int .i64 (y : Int), .int .i64 ((x / 16 : Nat) : Int), .int .i64 (z : Int)], .int .i64 0]) ?_ rfl ⟨rfl, B0.out⟩
  exact results_row_tmp rfl _ _ w.heap.size 24 _ (0, 0) _ _ rfl rfl Fv0_2.out Tryd.underlying24 rfl (by kernel_rfl)
set_option maxRecDepth 100000 in
set_option maxHeartbeats 8000000 in
theorem decode_no (A : Option Addr) (n c : Nat) (hn : n ≠ 3) (w : World) : Calls Tryd.prog 23 #[.slice A n c] w fun e w' => e = .returned (.tuple #[.agg #[.int .i64 0, .int .i64 0, .int .i64 0, .int .i64 0], .int .i64 5]) ∧ Below w.heap.size w w' := by
  have hni : (n : Int) ≠ 3 := by omega
  go_enter Tryd.func23, Tryd.ntmps23
  go_upto_region 1 with fail
  refine wp_named1 (fun V1 hb g0 hlt => ?_)
  have B0 := Lib.hid hb
  have Fv0_2 : Hid (V1.heap[w.heap.size]? = some (.cells #[.int .i64 0, .int .i64 0, .int .i64 0, .int .i64 0] 24 (0, 0))) := Lib.hid (g0)
  have Gb0 : Hid (w.heap.size ≤ w.heap.size) := Lib.hid (by omega)
  clear hb g0 hlt
  refine wp_region_lit ?_
  refine wpList_run (by kernel_rfl) (.slice A n c) V1 rfl ?_
  simp only [Act.put, List.setIfInBounds_toArray, List.set_cons_zero, List.set_cons_succ]
  refine wpList_run (by kernel_rfl) (.int .i64 (n : Int)) V1 (xo_len A n c Tryd.underlying25 rfl rfl) ?_
  simp only [Act.put, List.setIfInBounds_toArray, List.set_cons_zero, List.set_cons_succ]
  refine wpList_run (by kernel_rfl) (.bool true) V1 (xo_neqT .i64 (n : Int) 3 (by omega) rfl rfl rfl) ?_
  simp only [Act.put, List.setIfInBounds_toArray, List.set_cons_zero, List.set_cons_succ]
  refine wpList_nil ?_
  go_upto_region 2 with fail
  refine wp_region_lit ?_
  refine wpList_run (by kernel_rfl) (.agg #[.int .i64 0, .int .i64 0, .int .i64 0, .int .i64 0]) V1 (by unfold execOp; go_simp) ?_
  simp only [Act.put, List.setIfInBounds_toArray, List.set_cons_zero, List.set_cons_succ]
  refine wpList_storeW w.heap.size #[.int .i64 0, .int .i64 0, .int .i64 0, .int .i64 0] #[.int .i64 0, .int .i64 0, .int .i64 0, .int .i64 0] 24 (by kernel_rfl) Fv0_2.out (xo_storeW w.heap.size #[.int .i64 0, .int .i64 0, .int .i64 0, .int .i64 0] #[.int .i64 0, .int .i64 0, .int .i64 0, .int .i64 0] Fv0_2.out (by kernel_rfl) rfl (by simp [Value.oneCell']) rfl rfl rfl) ?_
  intro X1_0 h1 hfar hbel hsz
  have hbr := hbel _ _ Gb0.out B0.out
  clear B0
  have B0 := Lib.hid hbr
  clear hbr
  clear Fv0_2
  have Fv0_2 : Hid (X1_0.heap[w.heap.size]? = some (.cells #[.int .i64 0, .int .i64 0, .int .i64 0, .int .i64 0] 24 (0, 0))) := Lib.hid (h1)
  have HszX1_0 := Lib.hid hsz
  clear h1 hfar hbel hsz
  simp only [ptr, Act.put, List.setIfInBounds_toArray, List.set_cons_zero, List.set_cons_succ]
  refine wpList_run (by kernel_rfl) (.int .i64 5) X1_0 rfl ?_
  simp only [Act.put, List.setIfInBounds_toArray, List.set_cons_zero, List.set_cons_succ]
  refine wpList_nil ?_
  go_wp2_with fail
  refine bodyPost_ret (v := .tuple #[.agg #[.int .i64 0, .int .i64 0, .int .i64 0, .int .i64 0], .int .i64 5]) ?_ rfl ⟨rfl, B0.out⟩
  exact results_row_tmp rfl _ _ w.heap.size 24 _ (0, 0) _ _ rfl rfl Fv0_2.out Tryd.underlying24 rfl (by kernel_rfl)
set_option maxRecDepth 100000 in
set_option maxHeartbeats 8000000 in
theorem rdecode_yes (A : Option Addr) (c x y z : Nat) (hx : x < 256) (hy : y < 256) (hz : z < 256) (w : World) (h : Sg byC 1 w A 3 c [x, y, z]) : Calls Tryd.prog 24 #[.slice A 3 c] w fun e w' => e = .returned (.tuple #[.agg (rdC (decR x y z)).toArray, .int .i64 0]) ∧ Below w.heap.size w w' := by
  have HX := Lib.hid h
  clear h
  go_enter Tryd.func24, Tryd.ntmps24
  go_upto_region 1 with fail
  refine wp_named1 (fun V1 hb g0 hlt => ?_)
  have B0 := Lib.hid hb
  have Fv0_2 : Hid (V1.heap[w.heap.size]? = some (.cells #[.int .i64 0, .int .i64 0, .int .i64 0, .int .i64 0] 24 (0, 0))) := Lib.hid (g0)
  have Gb0 : Hid (w.heap.size ≤ w.heap.size) := Lib.hid (by omega)
  clear hb g0 hlt
  refine wp_region_lit ?_
  refine wpList_run (by kernel_rfl) (.slice A 3 c) V1 rfl ?_
  simp only [Act.put, List.setIfInBounds_toArray, List.set_cons_zero, List.set_cons_succ]
  refine wpList_run (by kernel_rfl) (.int .i64 3) V1 (xo_len A 3 c Tryd.underlying25 rfl rfl) ?_
  simp only [Act.put, List.setIfInBounds_toArray, List.set_cons_zero, List.set_cons_succ]
  refine wpList_run (by kernel_rfl) (.bool false) V1 (xo_neqF .i64 3 3 (by omega) rfl rfl rfl) ?_
  simp only [Act.put, List.setIfInBounds_toArray, List.set_cons_zero, List.set_cons_succ]
  refine wpList_nil ?_
  go_upto_region 3 with fail
  try simp only [List.append_eq, List.cons_append, List.nil_append]
  refine wp_ordA (fun W => Below w.heap.size w W) [(0, true), (1, true), (2, true), (3, true), (4, true), (5, true), (6, true), (7, true), (8, true), (9, true), (10, true), (11, true), (12, true), (13, true), (14, true), (15, true), (16, true), (17, true), (18, true), (19, false), (20, true)] (by kernel_rfl) (by kernel_rfl) (fun _ _ dt _ _ h => by first | exact h.elim | (cases dt <;> exact h)) rfl (by kernel_rfl) B0.out.drew ?_
  have hb : Below V1.heap.size V1 V1.drew := (Below.refl _ _).drew
  generalize V1.drew = V2 at hb ⊢
  have B1 := Lib.hid hb
  clear hb
  refine wpO_w (.slice A 3 c) rfl (by kernel_rfl) (fun v hW => rfl) ?_
  simp only [ptr, Act.put, List.setIfInBounds_toArray, List.set_cons_zero, List.set_cons_succ]
  refine wpO_w (.pointer (some (gad A (0 * 1)))) rfl (by kernel_rfl) (fun v hW => (xg_idx .i64 (HX.out.keep hW) rfl Tryd.underlying25 (by kernel_rfl) rfl rfl rfl)) ?_
  simp only [ptr, Act.put, List.setIfInBounds_toArray, List.set_cons_zero, List.set_cons_succ]
  refine wpO_w (.int .u8 (x : Int)) rfl (by kernel_rfl) (fun v hW => (xg_load1 (i := 0) (j := 0) (HX.out.keep hW) rfl rfl rfl Tryd.underlying5 rfl rfl rfl)) ?_
  simp only [ptr, Act.put, List.setIfInBounds_toArray, List.set_cons_zero, List.set_cons_succ]
  refine wpO_w (.int .u8 ((x % 16 : Nat) : Int)) rfl (by kernel_rfl) (fun v hW => (xo_remN .u8 x 16 (x % 16) (by omega) rfl rfl rfl rfl)) ?_
  simp only [ptr, Act.put, List.setIfInBounds_toArray, List.set_cons_zero, List.set_cons_succ]
  refine wpO_w (.int .i64 ((x % 16 : Nat) : Int)) rfl (by kernel_rfl) (fun v hW => (xo_cvt .u8 .i64 ((x % 16 : Nat) : Int) ((x % 16 : Nat) : Int) (by rw [IntKind.wrap_i64]; omega) Tryd.underlying3 Tryd.underlying5 rfl rfl)) ?_
  simp only [ptr, Act.put, List.setIfInBounds_toArray, List.set_cons_zero, List.set_cons_succ]
  refine wpO_w (.slice A 3 c) rfl (by kernel_rfl) (fun v hW => rfl) ?_
  simp only [ptr, Act.put, List.setIfInBounds_toArray, List.set_cons_zero, List.set_cons_succ]
  refine wpO_w (.pointer (some (gad A (1 * 1)))) rfl (by kernel_rfl) (fun v hW => (xg_idx .i64 (HX.out.keep hW) rfl Tryd.underlying25 (by kernel_rfl) rfl rfl rfl)) ?_
  simp only [ptr, Act.put, List.setIfInBounds_toArray, List.set_cons_zero, List.set_cons_succ]
  refine wpO_w (.int .u8 (y : Int)) rfl (by kernel_rfl) (fun v hW => (xg_load1 (i := 1) (j := 0) (HX.out.keep hW) rfl rfl rfl Tryd.underlying5 rfl rfl rfl)) ?_
  simp only [ptr, Act.put, List.setIfInBounds_toArray, List.set_cons_zero, List.set_cons_succ]
  refine wpO_w (.int .i64 (y : Int)) rfl (by kernel_rfl) (fun v hW => (xo_cvt .u8 .i64 (y : Int) (y : Int) (by rw [IntKind.wrap_i64]; omega) Tryd.underlying3 Tryd.underlying5 rfl rfl)) ?_
  simp only [ptr, Act.put, List.setIfInBounds_toArray, List.set_cons_zero, List.set_cons_succ]
  refine wpO_w (.slice A 3 c) rfl (by kernel_rfl) (fun v hW => rfl) ?_
  simp only [ptr, Act.put, List.setIfInBounds_toArray, List.set_cons_zero, List.set_cons_succ]
  refine wpO_w (.pointer (some (gad A (0 * 1)))) rfl (by kernel_rfl) (fun v hW => (xg_idx .i64 (HX.out.keep hW) rfl Tryd.underlying25 (by kernel_rfl) rfl rfl rfl)) ?_
  simp only [ptr, Act.put, List.setIfInBounds_toArray, List.set_cons_zero, List.set_cons_succ]
  refine wpO_w (.int .u8 (x : Int)) rfl (by kernel_rfl) (fun v hW => (xg_load1 (i := 0) (j := 0) (HX.out.keep hW) rfl rfl rfl Tryd.underlying5 rfl rfl rfl)) ?_
  simp only [ptr, Act.put, List.setIfInBounds_toArray, List.set_cons_zero, List.set_cons_succ]
  refine wpO_w (.int .u8 ((x / 16 : Nat) : Int)) rfl (by kernel_rfl) (fun v hW => (xo_quoN .u8 x 16 (x / 16) (by omega) rfl (by rw [IntKind.wrap_u8]; omega) rfl rfl rfl)) ?_
  simp only [ptr, Act.put, List.setIfInBounds_toArray, List.set_cons_zero, List.set_cons_succ]
  refine wpO_w (.int .i64 ((x / 16 : Nat) : Int)) rfl (by kernel_rfl) (fun v hW => (xo_cvt .u8 .i64 ((x / 16 : Nat) : Int) ((x / 16 : Nat) : Int) (by rw [IntKind.wrap_i64]; omega) Tryd.underlying3 Tryd.underlying5 rfl rfl)) ?_
  simp only [ptr, Act.put, List.setIfInBounds_toArray, List.set_cons_zero, List.set_cons_succ]
  refine wpO_w (.slice A 3 c) rfl (by kernel_rfl) (fun v hW => rfl) ?_
  simp only [ptr, Act.put, List.setIfInBounds_toArray, List.set_cons_zero, List.set_cons_succ]
  refine wpO_w (.pointer (some (gad A (2 * 1)))) rfl (by kernel_rfl) (fun v hW => (xg_idx .i64 (HX.out.keep hW) rfl Tryd.underlying25 (by kernel_rfl) rfl rfl rfl)) ?_
  simp only [ptr, Act.put, List.setIfInBounds_toArray, List.set_cons_zero, List.set_cons_succ]
  refine wpO_w (.int .u8 (z : Int)) rfl (by kernel_rfl) (fun v hW => (xg_load1 (i := 2) (j := 0) (HX.out.keep hW) rfl rfl rfl Tryd.underlying5 rfl rfl rfl)) ?_
  simp only [ptr, Act.put, List.setIfInBounds_toArray, List.set_cons_zero, List.set_cons_succ]
  refine wpO_w (.int .i64 (z : Int)) rfl (by kernel_rfl) (fun v hW => (xo_cvt .u8 .i64 (z : Int) (z : Int) (by rw [IntKind.wrap_i64]; omega) Tryd.underlying3 Tryd.underlying5 rfl rfl)) ?_
  simp only [ptr, Act.put, List.setIfInBounds_toArray, List.set_cons_zero, List.set_cons_succ]
  refine wpO_w (.agg #[.int .i64 ((x % 16 : Nat) : Int), .int .i64 (y : Int), .int .i64 ((x / 16 : Nat) : Int), .int .i64 (z : Int)]) rfl (by kernel_rfl) (fun v hW => (by unfold execOp; go_simp)) ?_
  simp only [ptr, Act.put, List.setIfInBounds_toArray, List.set_cons_zero, List.set_cons_succ]
  have hfs := (heap_keep Fv0_2.out B1.out)
  have hgb : w.heap.size ≤ w.heap.size := Gb0.out
  have C0_2 := Lib.hid (bel_step B0.out B1.out)
  have hbs := C0_2.out
  refine wpO_op rfl (by kernel_rfl) ?_
  unfold hOp
  rw [xo_storeW w.heap.size #[.int .i64 0, .int .i64 0, .int .i64 0, .int .i64 0] #[.int .i64 ((x % 16 : Nat) : Int), .int .i64 (y : Int), .int .i64 ((x / 16 : Nat) : Int), .int .i64 (z : Int)] hfs (by kernel_rfl) rfl (by simp [Value.oneCell']) rfl rfl rfl]
  refine ⟨bel_setRow hbs hgb _, ?_⟩
  have hfn := setRow_heap V2 w.heap.size _ #[.int .i64 ((x % 16 : Nat) : Int), .int .i64 (y : Int), .int .i64 ((x / 16 : Nat) : Int), .int .i64 (z : Int)] _ _ hfs
  have hbn := bel_setRow hbs hgb #[.int .i64 ((x % 16 : Nat) : Int), .int .i64 (y : Int), .int .i64 ((x / 16 : Nat) : Int), .int .i64 (z : Int)]
  generalize V2.setRow w.heap.size #[.int .i64 ((x % 16 : Nat) : Int), .int .i64 (y : Int), .int .i64 ((x / 16 : Nat) : Int), .int .i64 (z : Int)] = X0 at hfn hbn ⊢
  try simp only [ptr, Act.put, List.setIfInBounds_toArray, List.set_cons_zero, List.set_cons_succ]
  have hbr := hbn
  clear B0
  have B0 := Lib.hid hbr
  clear hbr
  clear Fv0_2
  have Fv0_2 : Hid (X0.heap[w.heap.size]? = some (.cells #[.int .i64 ((x % 16 : Nat) : Int), .int .i64 (y : Int), .int .i64 ((x / 16 : Nat) : Int), .int .i64 (z : Int)] 24 (0, 0))) := Lib.hid hfn
  clear hfs hgb hbs hfn hbn
  refine wpO_w (.int .i64 0) rfl (by kernel_rfl) (fun v hW => rfl) ?_
  simp only [ptr, Act.put, List.setIfInBounds_toArray, List.set_cons_zero, List.set_cons_succ]
  refine wpO_nil ?_
  go_wp2_with fail
  refine bodyPost_ret (v := .tuple #[.agg #[.int .i64 ((x % 16 : Nat) : Int), .int .i64 (y : Int), .int .i64 ((x / 16 : Nat) : Int), .int .i64 (z : Int)], .int .i64 0]) ?_ rfl ⟨rfl, B0.out⟩
  exact results_row_tmp rfl _ _ w.heap.size 24 _ (0, 0) _ _ rfl rfl Fv0_2.out Tryd.underlying24 rfl (by kernel_rfl)
end Go.Proofs.YtopicjdmajlndaaDoor

