/- Stage 13: law QueryRanges. -/
import Derived.Test.YtbcgfjlbjfkfmaaDoorH17
namespace Go.Proofs.YtbcgfjlbjfkfmaaDoor
set_option linter.unusedVariables false
set_option linter.unusedSimpArgs false
set_option linter.unusedSectionVars false
set_option maxRecDepth 8000
open Go.RowKit Go.Proofs.YtbcgfjlbjfkfmaaDoor.K
attribute [local irreducible] wpList wpQuiet
/-- bits in common with a number -/
def andN (u : Int) (v : Nat) : Nat := (BitVec.ofInt 64 u &&& BitVec.ofInt 64 (v : Int)).toNat
theorem andN_le (u : Int) (v : Nat) (hv : v < 2 ^ 64) : andN u v ≤ v := by
  unfold andN
  rw [BitVec.toNat_and]
  refine Nat.le_trans Nat.and_le_right ?_
  rw [BitVec.ofInt_natCast, BitVec.toNat_ofNat]
  exact Nat.mod_le _ _
theorem xo_andI {P : Program} {ev : Operand → Value} {o : Oper} {w : World} {x y : Operand} {ty t : TypeId} (u : Int) (v : Nat) (hv : v < 2 ^ 63) (ho : o.op = .binOp .and ty x y t) (hx : ev x = .int .i64 u) (hy : ev y = .int .i64 (v : Int)) : (execOp ev o).run P w = .ok (.value (.int .i64 (andN u v : Int))) w := by
  have hl := andN_le u v (by omega)
  have hr : IntKind.i64.wrap (andN u v : Int) = (andN u v : Int) := by rw [IntKind.wrap_i64]; omega
  have e : (Op.intBits .and .i64 u (v : Int)).run P w = .ok (.int .i64 (andN u v : Int)) w := by
    simp only [Op.intBits]
    show _ = Result.ok (Value.int .i64 ((andN u v : Nat) : Int)) w
    rw [← hr]
    rfl
  unfold execOp
  simp [ho, hx, hy, eqGuard, binOp, Sem.run_bind, e]
set_option maxRecDepth 100000 in
set_option maxHeartbeats 16000000 in
theorem madeReading_any (r : Rd) (w : World) : Calls Tryd.prog 15 #[.agg #[.int .i64 r.who, .int .i64 r.when_, .int .i64 r.kind, .int .i64 r.value]] w fun e w' => e = .returned (.agg #[.int .i64 (andN r.who 15 : Int), .int .i64 (andN r.when_ 255 : Int), .int .i64 (andN r.kind 15 : Int), .int .i64 (andN r.value 255 : Int)]) ∧ Below w.heap.size w w' := by
  go_enter Tryd.func15, Tryd.ntmps15
  go_upto_region 1 with fail
  refine wp_named2 (fun V1 hb g0 g1 hlt => ?_)
  have B0 := Lib.hid hb
  have Fv0_1 : Hid (V1.heap[w.heap.size]? = some (.cells #[.int .i64 r.who, .int .i64 r.when_, .int .i64 r.kind, .int .i64 r.value] 26 (0, 0))) := Lib.hid (g0)
  have Fv1_2 : Hid (V1.heap[(w.heap.size + 1)]? = some (.cells #[.int .i64 0, .int .i64 0, .int .i64 0, .int .i64 0] 26 (0, 0))) := Lib.hid (g1)
  have Nb0_1 : Hid (w.heap.size ≠ (w.heap.size + 1)) := Lib.hid (by omega)
  have Gb0 : Hid (w.heap.size ≤ w.heap.size) := Lib.hid (by omega)
  have Gb1 : Hid (w.heap.size ≤ (w.heap.size + 1)) := Lib.hid (by omega)
  clear hb g0 g1 hlt
  have Lt0 : Hid (w.heap.size < V1.heap.size) := Lib.hid (xp_lt Fv0_1.out)
  have Lt1 : Hid ((w.heap.size + 1) < V1.heap.size) := Lib.hid (xp_lt Fv1_2.out)
  refine wp_region_lit ?_
  refine wpList_run (by kernel_rfl) (.pointer (some ⟨w.heap.size, 0, none⟩)) V1 (xo_fld0 0 w.heap.size 0 (by kernel_rfl) rfl rfl) ?_
  simp only [Act.put, List.setIfInBounds_toArray, List.set_cons_zero, List.set_cons_succ]
  refine wpList_run (by kernel_rfl) (.int .i64 r.who) V1 (xo_load1 ⟨w.heap.size, 0, none⟩ _ (cells_at Fv0_1.out 0 rfl) Tryd.underlying3 rfl rfl rfl) ?_
  simp only [Act.put, List.setIfInBounds_toArray, List.set_cons_zero, List.set_cons_succ]
  refine wpList_run (by kernel_rfl) (.int .i64 (andN r.who 15 : Int)) V1 (xo_andI r.who 15 (by decide) rfl rfl rfl) ?_
  simp only [Act.put, List.setIfInBounds_toArray, List.set_cons_zero, List.set_cons_succ]
  refine wpList_run (by kernel_rfl) (.pointer (some ⟨w.heap.size, 1, none⟩)) V1 (xo_fld0 1 w.heap.size 1 (by kernel_rfl) rfl rfl) ?_
  simp only [Act.put, List.setIfInBounds_toArray, List.set_cons_zero, List.set_cons_succ]
  refine wpList_run (by kernel_rfl) (.int .i64 r.when_) V1 (xo_load1 ⟨w.heap.size, 1, none⟩ _ (cells_at Fv0_1.out 1 rfl) Tryd.underlying3 rfl rfl rfl) ?_
  simp only [Act.put, List.setIfInBounds_toArray, List.set_cons_zero, List.set_cons_succ]
  refine wpList_run (by kernel_rfl) (.int .i64 (andN r.when_ 255 : Int)) V1 (xo_andI r.when_ 255 (by decide) rfl rfl rfl) ?_
  simp only [Act.put, List.setIfInBounds_toArray, List.set_cons_zero, List.set_cons_succ]
  refine wpList_run (by kernel_rfl) (.pointer (some ⟨w.heap.size, 2, none⟩)) V1 (xo_fld0 2 w.heap.size 2 (by kernel_rfl) rfl rfl) ?_
  simp only [Act.put, List.setIfInBounds_toArray, List.set_cons_zero, List.set_cons_succ]
  refine wpList_run (by kernel_rfl) (.int .i64 r.kind) V1 (xo_load1 ⟨w.heap.size, 2, none⟩ _ (cells_at Fv0_1.out 2 rfl) Tryd.underlying3 rfl rfl rfl) ?_
  simp only [Act.put, List.setIfInBounds_toArray, List.set_cons_zero, List.set_cons_succ]
  refine wpList_run (by kernel_rfl) (.int .i64 (andN r.kind 15 : Int)) V1 (xo_andI r.kind 15 (by decide) rfl rfl rfl) ?_
  simp only [Act.put, List.setIfInBounds_toArray, List.set_cons_zero, List.set_cons_succ]
  refine wpList_run (by kernel_rfl) (.pointer (some ⟨w.heap.size, 3, none⟩)) V1 (xo_fld0 3 w.heap.size 3 (by kernel_rfl) rfl rfl) ?_
  simp only [Act.put, List.setIfInBounds_toArray, List.set_cons_zero, List.set_cons_succ]
  refine wpList_run (by kernel_rfl) (.int .i64 r.value) V1 (xo_load1 ⟨w.heap.size, 3, none⟩ _ (cells_at Fv0_1.out 3 rfl) Tryd.underlying3 rfl rfl rfl) ?_
  simp only [Act.put, List.setIfInBounds_toArray, List.set_cons_zero, List.set_cons_succ]
  refine wpList_run (by kernel_rfl) (.int .i64 (andN r.value 255 : Int)) V1 (xo_andI r.value 255 (by decide) rfl rfl rfl) ?_
  simp only [Act.put, List.setIfInBounds_toArray, List.set_cons_zero, List.set_cons_succ]
  refine wpList_run (by kernel_rfl) (.agg #[.int .i64 (andN r.who 15 : Int), .int .i64 (andN r.when_ 255 : Int), .int .i64 (andN r.kind 15 : Int), .int .i64 (andN r.value 255 : Int)]) V1 (by unfold execOp; go_simp <;> rfl) ?_
  simp only [Act.put, List.setIfInBounds_toArray, List.set_cons_zero, List.set_cons_succ]
  refine wpList_storeW (w.heap.size + 1) #[.int .i64 0, .int .i64 0, .int .i64 0, .int .i64 0] #[.int .i64 (andN r.who 15 : Int), .int .i64 (andN r.when_ 255 : Int), .int .i64 (andN r.kind 15 : Int), .int .i64 (andN r.value 255 : Int)] 26 (by kernel_rfl) Fv1_2.out (xo_storeW (w.heap.size + 1) #[.int .i64 0, .int .i64 0, .int .i64 0, .int .i64 0] #[.int .i64 (andN r.who 15 : Int), .int .i64 (andN r.when_ 255 : Int), .int .i64 (andN r.kind 15 : Int), .int .i64 (andN r.value 255 : Int)] Fv1_2.out (by kernel_rfl) rfl (by simp [Value.oneCell']) rfl rfl rfl) ?_
  intro X1_2 h1 hfar hbel hsz
  have YFv0_1 : X1_2.heap[w.heap.size]? = some (.cells #[.int .i64 r.who, .int .i64 r.when_, .int .i64 r.kind, .int .i64 r.value] 26 (0, 0)) := hfar _ _ Nb0_1.out Fv0_1.out
  have hbr := hbel _ _ Gb1.out B0.out
  clear B0
  have B0 := Lib.hid hbr
  clear hbr
  clear Fv0_1
  have Fv0_1 : Hid (X1_2.heap[w.heap.size]? = some (.cells #[.int .i64 r.who, .int .i64 r.when_, .int .i64 r.kind, .int .i64 r.value] 26 (0, 0))) := Lib.hid YFv0_1
  clear YFv0_1
  clear Fv1_2
  have Fv1_2 : Hid (X1_2.heap[(w.heap.size + 1)]? = some (.cells #[.int .i64 (andN r.who 15 : Int), .int .i64 (andN r.when_ 255 : Int), .int .i64 (andN r.kind 15 : Int), .int .i64 (andN r.value 255 : Int)] 26 (0, 0))) := Lib.hid (h1)
  have HszX1_2 := Lib.hid hsz
  clear h1 hfar hbel hsz
  simp only [ptr, Act.put, List.setIfInBounds_toArray, List.set_cons_zero, List.set_cons_succ]
  refine wpList_nil ?_
  have hbf := B0.out
  go_wp2_with fail
  refine bodyPost_ret (v := .agg #[.int .i64 (andN r.who 15 : Int), .int .i64 (andN r.when_ 255 : Int), .int .i64 (andN r.kind 15 : Int), .int .i64 (andN r.value 255 : Int)]) ?_ rfl ⟨rfl, hbf⟩
  exact results_cell_row rfl _ _ (w.heap.size + 1) 26 _ (0, 0) _ rfl Fv1_2.out Tryd.underlying26 rfl (by kernel_rfl)
set_option maxRecDepth 100000 in
set_option maxHeartbeats 8000000 in
theorem max_as (c m : Nat) (hc : c < 4) (hm : Qu.maxN c = m) (w : World) : Calls Tryd.prog 24 #[.int .i64 (c : Int)] w fun e w' => e = .returned (.int .i64 (m : Int)) ∧ w' = w := by
  go_enter Tryd.func24, Tryd.ntmps24
  go_upto_region 1 with fail
  have h4 : c = 0 ∨ c = 1 ∨ c = 2 ∨ c = 3 := by omega
  rcases h4 with rfl | rfl | rfl | rfl
  · refine wp_region_lit ?_
    refine wpList_run (by kernel_rfl) (.int .i64 0) w rfl ?_
    simp only [Act.put, List.setIfInBounds_toArray, List.set_cons_zero, List.set_cons_succ]
    refine wpList_run (by kernel_rfl) (.bool true) w (xo_eqlT .i64 0 0 (by omega) rfl rfl rfl) ?_
    simp only [Act.put, List.setIfInBounds_toArray, List.set_cons_zero, List.set_cons_succ]
    refine wpList_run (by kernel_rfl) (.bool true) w rfl ?_
    simp only [Act.put, List.setIfInBounds_toArray, List.set_cons_zero, List.set_cons_succ]
    refine wpList_skip (by kernel_rfl) ?_
    try simp only [Act.put, List.setIfInBounds_toArray, List.set_cons_zero, List.set_cons_succ]
    refine wpList_skip (by kernel_rfl) ?_
    try simp only [Act.put, List.setIfInBounds_toArray, List.set_cons_zero, List.set_cons_succ]
    refine wpList_run (by kernel_rfl) (.bool true) w rfl ?_
    simp only [Act.put, List.setIfInBounds_toArray, List.set_cons_zero, List.set_cons_succ]
    refine wpList_nil ?_
    go_upto_region 2 with fail
    refine wp_region_lit ?_
    refine wpList_run (by kernel_rfl) (.int .i64 15) w rfl ?_
    simp only [Act.put, List.setIfInBounds_toArray, List.set_cons_zero, List.set_cons_succ]
    refine wpList_nil ?_
    go_wp2_with fail
    go_ret
    exact ⟨by rw [← hm]; rfl, rfl⟩
  · refine wp_region_lit ?_
    refine wpList_run (by kernel_rfl) (.int .i64 1) w rfl ?_
    simp only [Act.put, List.setIfInBounds_toArray, List.set_cons_zero, List.set_cons_succ]
    refine wpList_run (by kernel_rfl) (.bool false) w (xo_eqlF .i64 1 0 (by omega) rfl rfl rfl) ?_
    simp only [Act.put, List.setIfInBounds_toArray, List.set_cons_zero, List.set_cons_succ]
    refine wpList_run (by kernel_rfl) (.bool false) w rfl ?_
    simp only [Act.put, List.setIfInBounds_toArray, List.set_cons_zero, List.set_cons_succ]
    refine wpList_run (by kernel_rfl) (.int .i64 1) w rfl ?_
    simp only [Act.put, List.setIfInBounds_toArray, List.set_cons_zero, List.set_cons_succ]
    refine wpList_run (by kernel_rfl) (.bool false) w (xo_eqlF .i64 1 2 (by omega) rfl rfl rfl) ?_
    simp only [Act.put, List.setIfInBounds_toArray, List.set_cons_zero, List.set_cons_succ]
    refine wpList_run (by kernel_rfl) (.bool false) w rfl ?_
    simp only [Act.put, List.setIfInBounds_toArray, List.set_cons_zero, List.set_cons_succ]
    refine wpList_nil ?_
    go_upto_region 3 with fail
    refine wp_region_lit ?_
    refine wpList_run (by kernel_rfl) (.int .i64 255) w rfl ?_
    simp only [Act.put, List.setIfInBounds_toArray, List.set_cons_zero, List.set_cons_succ]
    refine wpList_nil ?_
    go_wp2_with fail
    go_ret
    exact ⟨by rw [← hm]; rfl, rfl⟩
  · refine wp_region_lit ?_
    refine wpList_run (by kernel_rfl) (.int .i64 2) w rfl ?_
    simp only [Act.put, List.setIfInBounds_toArray, List.set_cons_zero, List.set_cons_succ]
    refine wpList_run (by kernel_rfl) (.bool false) w (xo_eqlF .i64 2 0 (by omega) rfl rfl rfl) ?_
    simp only [Act.put, List.setIfInBounds_toArray, List.set_cons_zero, List.set_cons_succ]
    refine wpList_run (by kernel_rfl) (.bool false) w rfl ?_
    simp only [Act.put, List.setIfInBounds_toArray, List.set_cons_zero, List.set_cons_succ]
    refine wpList_run (by kernel_rfl) (.int .i64 2) w rfl ?_
    simp only [Act.put, List.setIfInBounds_toArray, List.set_cons_zero, List.set_cons_succ]
    refine wpList_run (by kernel_rfl) (.bool true) w (xo_eqlT .i64 2 2 (by omega) rfl rfl rfl) ?_
    simp only [Act.put, List.setIfInBounds_toArray, List.set_cons_zero, List.set_cons_succ]
    refine wpList_run (by kernel_rfl) (.bool true) w rfl ?_
    simp only [Act.put, List.setIfInBounds_toArray, List.set_cons_zero, List.set_cons_succ]
    refine wpList_nil ?_
    go_upto_region 2 with fail
    refine wp_region_lit ?_
    refine wpList_run (by kernel_rfl) (.int .i64 15) w rfl ?_
    simp only [Act.put, List.setIfInBounds_toArray, List.set_cons_zero, List.set_cons_succ]
    refine wpList_nil ?_
    go_wp2_with fail
    go_ret
    exact ⟨by rw [← hm]; rfl, rfl⟩
  · refine wp_region_lit ?_
    refine wpList_run (by kernel_rfl) (.int .i64 3) w rfl ?_
    simp only [Act.put, List.setIfInBounds_toArray, List.set_cons_zero, List.set_cons_succ]
    refine wpList_run (by kernel_rfl) (.bool false) w (xo_eqlF .i64 3 0 (by omega) rfl rfl rfl) ?_
    simp only [Act.put, List.setIfInBounds_toArray, List.set_cons_zero, List.set_cons_succ]
    refine wpList_run (by kernel_rfl) (.bool false) w rfl ?_
    simp only [Act.put, List.setIfInBounds_toArray, List.set_cons_zero, List.set_cons_succ]
    refine wpList_run (by kernel_rfl) (.int .i64 3) w rfl ?_
    simp only [Act.put, List.setIfInBounds_toArray, List.set_cons_zero, List.set_cons_succ]
    refine wpList_run (by kernel_rfl) (.bool false) w (xo_eqlF .i64 3 2 (by omega) rfl rfl rfl) ?_
    simp only [Act.put, List.setIfInBounds_toArray, List.set_cons_zero, List.set_cons_succ]
    refine wpList_run (by kernel_rfl) (.bool false) w rfl ?_
    simp only [Act.put, List.setIfInBounds_toArray, List.set_cons_zero, List.set_cons_succ]
    refine wpList_nil ?_
    go_upto_region 3 with fail
    refine wp_region_lit ?_
    refine wpList_run (by kernel_rfl) (.int .i64 255) w rfl ?_
    simp only [Act.put, List.setIfInBounds_toArray, List.set_cons_zero, List.set_cons_succ]
    refine wpList_nil ?_
    go_wp2_with fail
    go_ret
    exact ⟨by rw [← hm]; rfl, rfl⟩
set_option maxRecDepth 100000 in
set_option maxHeartbeats 32000000 in
theorem qRanges_any (n : Nat) (hn : n < 256) (a1 b1 k1 q1 : Int) (w : World) (hG : Gc w) : Calls Tryd.prog 10 #[.int .u8 (n : Int), .agg #[.int .i64 a1, .int .i64 b1, .int .i64 k1, .int .i64 q1]] w fun e w' => e = .returned (.bool true) ∧ Below w.heap.size w w' := by
  have HG := Lib.hid hG
  clear hG
  go_enter Tryd.func10, Tryd.ntmps10
  go_upto_region 1 with fail
  refine wp_named1 (fun V1 hb g0 hlt => ?_)
  have B0 := Lib.hid hb
  have Fv0_3 : Hid (V1.heap[w.heap.size]? = some (.cells #[.int .i64 a1, .int .i64 b1, .int .i64 k1, .int .i64 q1] 26 (0, 0))) := Lib.hid (g0)
  have Gb0 : Hid (w.heap.size ≤ w.heap.size) := Lib.hid (by omega)
  clear hb g0 hlt
  have Lt0 : Hid (w.heap.size < V1.heap.size) := Lib.hid (xp_lt Fv0_3.out)
  refine wp_region_lit ?_
  refine wpList_call (by kernel_rfl) 11 Tryd.func11 (by kernel_rfl) (by kernel_rfl) _ _ #[] rfl (by kernel_rfl) ?_
  refine (sanity13_any V1 (HG.out.keep B0.out)).mono ?_
  rintro e V2 ⟨rfl, hb⟩
  have B1 := Lib.hid hb
  clear hb 
  refine ⟨_, rfl, ?_⟩
  simp only [Act.put, List.setIfInBounds_toArray, List.set_cons_zero, List.set_cons_succ]
  refine wpList_run (by kernel_rfl) (.bool true) V2 rfl ?_
  simp only [Act.put, List.setIfInBounds_toArray, List.set_cons_zero, List.set_cons_succ]
  refine wpList_nil ?_
  obtain ⟨k, hk⟩ : ∃ k, n % 15 = k := ⟨_, rfl⟩
  have hk15 : k < 15 := by rw [← hk]; exact Nat.mod_lt _ (by decide)
  obtain ⟨x0, hx0⟩ : ∃ x, andN a1 15 = x := ⟨_, rfl⟩
  have lx0 : x0 ≤ 15 := by rw [← hx0]; exact andN_le _ _ (by decide)
  obtain ⟨x1, hx1⟩ : ∃ x, andN b1 255 = x := ⟨_, rfl⟩
  have lx1 : x1 ≤ 255 := by rw [← hx1]; exact andN_le _ _ (by decide)
  obtain ⟨x2, hx2⟩ : ∃ x, andN k1 15 = x := ⟨_, rfl⟩
  have lx2 : x2 ≤ 15 := by rw [← hx2]; exact andN_le _ _ (by decide)
  obtain ⟨x3, hx3⟩ : ∃ x, andN q1 255 = x := ⟨_, rfl⟩
  have lx3 : x3 ≤ 255 := by rw [← hx3]; exact andN_le _ _ (by decide)
  go_upto_region 2 with fail
  refine wp_region_lit ?_
  refine wpList_run (by kernel_rfl) (.int .u8 (n : Int)) V2 rfl ?_
  simp only [Act.put, List.setIfInBounds_toArray, List.set_cons_zero, List.set_cons_succ]
  refine wpList_run (by kernel_rfl) (.int .i64 (n : Int)) V2 (xo_cvt .u8 .i64 (n : Int) (n : Int) (by rw [IntKind.wrap_i64]; omega) Tryd.underlying3 Tryd.underlying5 rfl rfl) ?_
  simp only [Act.put, List.setIfInBounds_toArray, List.set_cons_zero, List.set_cons_succ]
  refine wpList_run (by kernel_rfl) (.int .i64 (k : Int)) V2 (xo_remN .i64 n 15 k (by omega) hk rfl rfl rfl) ?_
  simp only [Act.put, List.setIfInBounds_toArray, List.set_cons_zero, List.set_cons_succ]
  refine wpList_run (by kernel_rfl) (.agg #[.int .i64 a1, .int .i64 b1, .int .i64 k1, .int .i64 q1]) V2 (xo_loadW w.heap.size _ (heap_keep Fv0_3.out B1.out) Tryd.underlying26 rfl (by kernel_rfl) rfl rfl) ?_
  simp only [Act.put, List.setIfInBounds_toArray, List.set_cons_zero, List.set_cons_succ]
  refine wpList_call (by kernel_rfl) 15 Tryd.func15 (by kernel_rfl) (by kernel_rfl) _ _ #[.agg #[.int .i64 a1, .int .i64 b1, .int .i64 k1, .int .i64 q1]] rfl (by kernel_rfl) ?_
  refine (madeReading_any ⟨a1, b1, k1, q1⟩ V2).mono ?_
  rintro e V3 ⟨rfl, hb⟩
  have B2 := Lib.hid hb
  simp only [hx0, hx1, hx2, hx3]
  clear hb 
  refine ⟨_, rfl, ?_⟩
  simp only [Act.put, List.setIfInBounds_toArray, List.set_cons_zero, List.set_cons_succ]
  refine wpList_new #[.int .i64 0, .int .i64 0, .int .i64 0, .int .i64 0] 26 (by kernel_rfl) (xo_alloc #[.int .i64 0, .int .i64 0, .int .i64 0, .int .i64 0] (by kernel_rfl) rfl) ?_
  intro b7 V4 hge h0 hb
  have C1_3 := Lib.hid (bel_step B1.out B2.out)
  have N1_0 : Hid (w.heap.size ≠ b7) := Lib.hid (xp_lt0 (heap_keep Fv0_3.out C1_3.out) hge)
  have Ge2 : Hid (V3.heap.size ≤ b7) := Lib.hid hge
  have B3 := Lib.hid hb
  have Fv3_7 : Hid (V4.heap[b7]? = some (.cells #[.int .i64 0, .int .i64 0, .int .i64 0, .int .i64 0] 26 (0, 0))) := Lib.hid (h0)
  have Lt4 : Hid (b7 < V4.heap.size) := Lib.hid (xp_lt Fv3_7.out)
  clear hge h0 hb
  simp only [ptr, Act.put, List.setIfInBounds_toArray, List.set_cons_zero, List.set_cons_succ]
  refine wpList_run (by kernel_rfl) (.int .i64 (k : Int)) V4 rfl ?_
  simp only [Act.put, List.setIfInBounds_toArray, List.set_cons_zero, List.set_cons_succ]
  refine wpList_storeW b7 #[.int .i64 0, .int .i64 0, .int .i64 0, .int .i64 0] #[.int .i64 (x0 : Int), .int .i64 (x1 : Int), .int .i64 (x2 : Int), .int .i64 (x3 : Int)] 26 (by kernel_rfl) Fv3_7.out (xo_storeW b7 #[.int .i64 0, .int .i64 0, .int .i64 0, .int .i64 0] #[.int .i64 (x0 : Int), .int .i64 (x1 : Int), .int .i64 (x2 : Int), .int .i64 (x3 : Int)] Fv3_7.out (by kernel_rfl) rfl (by simp [Value.oneCell']) rfl rfl rfl) ?_
  intro X4_5 h1 hfar hbel hsz
  have hbr := hbel _ _ Ge2.out B3.out
  clear B3
  have B3 := Lib.hid hbr
  clear hbr
  clear Fv3_7
  have Fv3_7 : Hid (X4_5.heap[b7]? = some (.cells #[.int .i64 (x0 : Int), .int .i64 (x1 : Int), .int .i64 (x2 : Int), .int .i64 (x3 : Int)] 26 (0, 0))) := Lib.hid (h1)
  have HszX4_5 := Lib.hid hsz
  clear h1 hfar hbel hsz
  simp only [ptr, Act.put, List.setIfInBounds_toArray, List.set_cons_zero, List.set_cons_succ]
  refine wpList_nil ?_
  go_upto_region 3 with fail
  refine wp_region_lit ?_
  refine wpList_run (by kernel_rfl) (.int .i64 0) X4_5 rfl ?_
  simp only [Act.put, List.setIfInBounds_toArray, List.set_cons_zero, List.set_cons_succ]
  refine wpList_run (by kernel_rfl) (.int .i64 0) X4_5 rfl ?_
  simp only [Act.put, List.setIfInBounds_toArray, List.set_cons_zero, List.set_cons_succ]
  refine wpList_nil ?_
  go_upto_region 4 with fail
  refine wp_region_lit ?_
  refine wpList_run (by kernel_rfl) (.int .i64 0) X4_5 rfl ?_
  simp only [Act.put, List.setIfInBounds_toArray, List.set_cons_zero, List.set_cons_succ]
  refine wpList_nil ?_
  have C1_4 := Lib.hid (bel_step C1_3.out B3.out)
  have O6 := (heap_keep Fv0_3.out C1_4.out)
  have O7 := Fv3_7.out
  have C0_2 := Lib.hid (bel_step B0.out B1.out)
  have C0_3 := Lib.hid (bel_step C0_2.out B2.out)
  have C0_4 := Lib.hid (bel_step C0_3.out B3.out)
  have O8 := C0_4.out
  have Gr9 : Hid (w.heap.size ≤ b7) := Lib.hid (Nat.le_trans C0_3.out.size Ge2.out)
  go_wp2_with fail
  go_loopw [10, 8, 9] (fun p a b wr => ∃ i : Nat, i ≤ 16 ∧ p = .int .i64 i ∧ a = .int .i64 ((min i (k + 1) : Nat) : Int) ∧ b = .int .i64 ((i - min i (k + 1) : Nat) : Int) ∧ wr.heap[w.heap.size]? = some (.cells #[.int .i64 a1, .int .i64 b1, .int .i64 k1, .int .i64 q1] 26 (0, 0)) ∧ wr.heap[b7]? = some (.cells #[.int .i64 (x0 : Int), .int .i64 (x1 : Int), .int .i64 (x2 : Int), .int .i64 (x3 : Int)] 26 (0, 0)) ∧ Below w.heap.size w wr) (fun p _ _ _ => 16 - (intOf p).toNat)
  case atStart => exact ⟨0, Nat.zero_le _, rfl, (by simp), (by simp), O6, O7, O8⟩
  case round =>
    clear O6 O7 O8
    obtain ⟨wo, rfl⟩ : ∃ wo : World, wo = wr := ⟨_, rfl⟩
    obtain ⟨i, hi, rfl, hHA, hHBb, hr0, hr1, hb0⟩ := hrel
    have hbr := hb0
    clear B0
    have B0 := Lib.hid hbr
    clear hbr
    clear Fv0_3
    have Fv0_3 : Hid (wo.heap[w.heap.size]? = some (.cells #[.int .i64 a1, .int .i64 b1, .int .i64 k1, .int .i64 q1] 26 (0, 0))) := Lib.hid (hr0)
    clear Fv3_7
    have Fv3_7 : Hid (wo.heap[b7]? = some (.cells #[.int .i64 (x0 : Int), .int .i64 (x1 : Int), .int .i64 (x2 : Int), .int .i64 (x3 : Int)] 26 (0, 0))) := Lib.hid (hr1)
    have HA := Lib.hid hHA
    have HBb := Lib.hid hHBb
    clear hb0 hr0 hr1 hHA hHBb
    have ea := HA.out
    have eb := HBb.out
    subst ea eb
    clear HA HBb
    obtain ⟨lo, hlo⟩ : ∃ x, min i (k + 1) = x := ⟨_, rfl⟩
    rw [hlo]
    obtain ⟨hh, hhh⟩ : ∃ x, i - lo = x := ⟨_, rfl⟩
    rw [hhh]
    by_cases hi16 : i < 16
    · have hci11 : ((i : Int) < 16) := by omega
      go_upto_region 5 with fail
      refine wp_region_lit ?_
      refine wpList_run (by kernel_rfl) (.int .i64 (i : Int)) wo rfl ?_
      simp only [Act.put, List.setIfInBounds_toArray, List.set_cons_zero, List.set_cons_succ]
      refine wpList_run (by kernel_rfl) (.bool true) wo (xo_lssT .i64 (i : Int) 16 (by omega) rfl rfl rfl) ?_
      simp only [Act.put, List.setIfInBounds_toArray, List.set_cons_zero, List.set_cons_succ]
      refine wpList_nil ?_
      go_upto_region 7 with fail
      refine wp_region_lit ?_
      refine wpList_run (by kernel_rfl) (.agg #[.int .i64 (x0 : Int), .int .i64 (x1 : Int), .int .i64 (x2 : Int), .int .i64 (x3 : Int)]) wo (xo_loadW b7 _ Fv3_7.out Tryd.underlying26 rfl (by kernel_rfl) rfl rfl) ?_
      simp only [Act.put, List.setIfInBounds_toArray, List.set_cons_zero, List.set_cons_succ]
      refine wpList_new #[.int .i64 0, .int .i64 0, .int .i64 0, .int .i64 0] 26 (by kernel_rfl) (xo_alloc #[.int .i64 0, .int .i64 0, .int .i64 0, .int .i64 0] (by kernel_rfl) rfl) ?_
      intro b11 V2 hge h0 hb
      have N12_0 : Hid (w.heap.size ≠ b11) := Lib.hid (xp_lt0 Fv0_3.out hge)
      have N13_1 : Hid (b7 ≠ b11) := Lib.hid (xp_lt0 Fv3_7.out hge)
      have Ge14 : Hid (wo.heap.size ≤ b11) := Lib.hid hge
      have B1 := Lib.hid hb
      have Fv15_11 : Hid (V2.heap[b11]? = some (.cells #[.int .i64 0, .int .i64 0, .int .i64 0, .int .i64 0] 26 (0, 0))) := Lib.hid (h0)
      have Lt16 : Hid (b11 < V2.heap.size) := Lib.hid (xp_lt Fv15_11.out)
      clear hge h0 hb
      simp only [ptr, Act.put, List.setIfInBounds_toArray, List.set_cons_zero, List.set_cons_succ]
      refine wpList_storeW b11 #[.int .i64 0, .int .i64 0, .int .i64 0, .int .i64 0] #[.int .i64 (x0 : Int), .int .i64 (x1 : Int), .int .i64 (x2 : Int), .int .i64 (x3 : Int)] 26 (by kernel_rfl) Fv15_11.out (xo_storeW b11 #[.int .i64 0, .int .i64 0, .int .i64 0, .int .i64 0] #[.int .i64 (x0 : Int), .int .i64 (x1 : Int), .int .i64 (x2 : Int), .int .i64 (x3 : Int)] Fv15_11.out (by kernel_rfl) rfl (by simp [Value.oneCell']) rfl rfl rfl) ?_
      intro X2_17 h1 hfar hbel hsz
      have hbr := hbel _ _ Ge14.out B1.out
      clear B1
      have B1 := Lib.hid hbr
      clear hbr
      clear Fv15_11
      have Fv15_11 : Hid (X2_17.heap[b11]? = some (.cells #[.int .i64 (x0 : Int), .int .i64 (x1 : Int), .int .i64 (x2 : Int), .int .i64 (x3 : Int)] 26 (0, 0))) := Lib.hid (h1)
      have HszX2_17 := Lib.hid hsz
      clear h1 hfar hbel hsz
      simp only [ptr, Act.put, List.setIfInBounds_toArray, List.set_cons_zero, List.set_cons_succ]
      refine wpList_nil ?_
      go_upto_region 8 with fail
      refine wp_region_lit ?_
      refine wpList_run (by kernel_rfl) (.int .i64 (i : Int)) X2_17 rfl ?_
      simp only [Act.put, List.setIfInBounds_toArray, List.set_cons_zero, List.set_cons_succ]
      refine wpList_run (by kernel_rfl) (.pointer (some ⟨b11, 0, none⟩)) X2_17 (xo_fld0 0 b11 0 (by kernel_rfl) rfl rfl) ?_
      simp only [Act.put, List.setIfInBounds_toArray, List.set_cons_zero, List.set_cons_succ]
      refine wpList_store1 b11 0 #[.int .i64 (x0 : Int), .int .i64 (x1 : Int), .int .i64 (x2 : Int), .int .i64 (x3 : Int)] (.int .i64 (i : Int)) 26 (by kernel_rfl) Fv15_11.out (xo_store1 b11 0 #[.int .i64 (x0 : Int), .int .i64 (x1 : Int), .int .i64 (x2 : Int), .int .i64 (x3 : Int)] _ (.int .i64 (i : Int)) Fv15_11.out rfl (by kernel_rfl) rfl rfl rfl rfl) ?_
      intro X2_18 h1 hfar hbel hsz
      have hbr := hbel _ _ Ge14.out B1.out
      clear B1
      have B1 := Lib.hid hbr
      clear hbr
      clear Fv15_11
      have Fv15_11 : Hid (X2_18.heap[b11]? = some (.cells #[.int .i64 (i : Int), .int .i64 (x1 : Int), .int .i64 (x2 : Int), .int .i64 (x3 : Int)] 26 (0, 0))) := Lib.hid (h1)
      have HszX2_18 := Lib.hid hsz
      clear h1 hfar hbel hsz
      simp only [ptr, Act.put, List.setIfInBounds_toArray, List.set_cons_zero, List.set_cons_succ]
      refine wpList_nil ?_
      by_cases hik : i ≤ k
      · have hci19 : ((i : Int) ≤ (k : Int)) := by omega
        go_upto_region 9 with fail
        refine wp_floatP [0, 1, 2, 3, 4, 5, 6, 7, 8, 9, 10, 11, 12] (l' := [_, _, _, _, _, _, _, _, _, _, _, _, _]) (by kernel_rfl) (lexOK_of (by kernel_rfl) (by kernel_rfl)) (ordOK_of (by kernel_rfl) (by kernel_rfl)) rfl rfl ?_
        simp only [List.getElem_toArray, List.getElem_cons_succ, List.getElem_cons_zero]
        intro V3 hb hSW
        have B2 := Lib.hid hb
        have HF3 := Lib.hid hSW
        clear hb hSW
        refine wpF_seg 2 (by kernel_rfl) ?_
        simp only [List.take_succ_cons, List.take_zero, List.drop_succ_cons, List.drop_zero]
        refine wpQuiet_val (by kernel_rfl) (.int .i64 (k : Int)) (fun v hv => rfl) ?_
        simp only [Act.put, List.setIfInBounds_toArray, List.set_cons_zero, List.set_cons_succ]
        refine wpQuiet_val (by kernel_rfl) (.agg #[.int .i64 0, .int .i64 0, .int .i64 (k : Int)]) (fun v hv => (by unfold execOp; go_simp <;> rfl)) ?_
        simp only [Act.put, List.setIfInBounds_toArray, List.set_cons_zero, List.set_cons_succ]
        refine wpQuiet_nil ?_
        refine wpF_make (.cells ([(Qu.Ci.mk 0 0 (k : Int))].flatMap ciC).toArray 46, fun b => .slice (some ⟨b, 0, none⟩) 1 1) (by kernel_rfl) (by kernel_rfl) (by kernel_rfl) (fun V => xg_lit (E := ciC) (bytes := 24) (.agg #[.int .i64 0, .int .i64 0, .int .i64 0]) [.tmp 29] [(Qu.Ci.mk 0 0 (k : Int))] 1 Tryd.underlying28 (by kernel_rfl) rfl (by decide) (by decide) rfl rfl) (fun g30 V4 hb h0 hbz => ?_)
        have Ge20 : Hid (X2_18.heap.size ≤ g30) := Lib.hid hbz
        have B3 := Lib.hid hb
        have HF4 := Lib.hid (HF3.out.ext hb)
        have Fv21_30 : Hid (RowG ciC V4 g30 46 ([(Qu.Ci.mk 0 0 (k : Int))])) := Lib.hid (h0)
        have N22 : Hid (w.heap.size ≠ g30) := Lib.hid (Nat.ne_of_lt (Nat.lt_of_lt_of_le (xp_lt (heap_keep Fv0_3.out B1.out)) hbz))
        have N23 : Hid (b7 ≠ g30) := Lib.hid (Nat.ne_of_lt (Nat.lt_of_lt_of_le (xp_lt (heap_keep Fv3_7.out B1.out)) hbz))
        have N24 : Hid (b11 ≠ g30) := Lib.hid (Nat.ne_of_lt (Nat.lt_of_lt_of_le (xp_lt Fv15_11.out) hbz))
        clear hb h0 hbz
        simp only [ptr, Act.put, List.setIfInBounds_toArray, List.set_cons_zero, List.set_cons_succ]
        refine wpF_seg 1 (by kernel_rfl) ?_
        simp only [List.take_succ_cons, List.take_zero, List.drop_succ_cons, List.drop_zero]
        refine wpQuiet_val (by kernel_rfl) (.agg #[.int .i64 (i : Int), .int .i64 (x1 : Int), .int .i64 (x2 : Int), .int .i64 (x3 : Int)]) (fun v hv => (xo_loadW b11 _ (heap_keep Fv15_11.out (laterF hv)) Tryd.underlying26 rfl (by kernel_rfl) rfl rfl)) ?_
        simp only [Act.put, List.setIfInBounds_toArray, List.set_cons_zero, List.set_cons_succ]
        refine wpQuiet_nil ?_
        refine wpF_call 16 Tryd.func16 (by kernel_rfl) (by kernel_rfl) _ _ #[.slice (some ⟨g30, 0, none⟩) 1 1, .agg #[.int .i64 (i : Int), .int .i64 (x1 : Int), .int .i64 (x2 : Int), .int .i64 (x3 : Int)]] rfl (by kernel_rfl) (by kernel_rfl) HF4.out (fun V5 hb => ?_)
        have B4 := Lib.hid hb
        have HF5 := Lib.hid (HF4.out.ext hb)
        clear hb
        refine (match_as (some ⟨g30, 0, none⟩) 1 1 [(Qu.Ci.mk 0 0 (k : Int))] (Rd.mk (i : Int) (x1 : Int) (x2 : Int) (x3 : Int)) true (by simp [Qu.mC, Qu.isC, Qu.valR] <;> omega) V5 (RowG.sg (n := 1) (c := 1) (Fv21_30.out.keep B4.out) (show ([(Qu.Ci.mk 0 0 (k : Int))]).length = 1 from rfl) (Nat.le_refl _) (by omega))).mono ?_
        rintro e V6 ⟨rfl, hb⟩
        have B5 := Lib.hid hb
        have HF6 := Lib.hid (HF5.out.ext hb)
        refine ⟨_, rfl, hb, ?_⟩
        clear hb 
        simp only [Act.put, List.setIfInBounds_toArray, List.set_cons_zero, List.set_cons_succ]
        refine wpF_seg 3 (by kernel_rfl) ?_
        simp only [List.take_succ_cons, List.take_zero, List.drop_succ_cons, List.drop_zero]
        refine wpQuiet_val (by kernel_rfl) (.int .i64 (k : Int)) (fun v hv => rfl) ?_
        simp only [Act.put, List.setIfInBounds_toArray, List.set_cons_zero, List.set_cons_succ]
        refine wpQuiet_val (by kernel_rfl) (.int .i64 ((k + 1 : Nat) : Int)) (fun v hv => (xo_addI (k : Int) 1 ((k + 1 : Nat) : Int) (by omega) (by omega) (by omega) rfl rfl rfl)) ?_
        simp only [Act.put, List.setIfInBounds_toArray, List.set_cons_zero, List.set_cons_succ]
        refine wpQuiet_val (by kernel_rfl) (.agg #[.int .i64 0, .int .i64 ((k + 1 : Nat) : Int), .int .i64 15]) (fun v hv => (by unfold execOp; go_simp <;> rfl)) ?_
        simp only [Act.put, List.setIfInBounds_toArray, List.set_cons_zero, List.set_cons_succ]
        refine wpQuiet_nil ?_
        refine wpF_make (.cells ([(Qu.Ci.mk 0 ((k + 1 : Nat) : Int) 15)].flatMap ciC).toArray 46, fun b => .slice (some ⟨b, 0, none⟩) 1 1) (by kernel_rfl) (by kernel_rfl) (by kernel_rfl) (fun V => xg_lit (E := ciC) (bytes := 24) (.agg #[.int .i64 0, .int .i64 0, .int .i64 0]) [.tmp 35] [(Qu.Ci.mk 0 ((k + 1 : Nat) : Int) 15)] 1 Tryd.underlying28 (by kernel_rfl) rfl (by decide) (by decide) rfl rfl) (fun g36 V7 hb h0 hbz => ?_)
        have Ge25 : Hid (X2_18.heap.size ≤ g36) := Lib.hid hbz
        have B6 := Lib.hid hb
        have HF7 := Lib.hid (HF6.out.ext hb)
        have Fv26_36 : Hid (RowG ciC V7 g36 46 ([(Qu.Ci.mk 0 ((k + 1 : Nat) : Int) 15)])) := Lib.hid (h0)
        have N27 : Hid (w.heap.size ≠ g36) := Lib.hid (Nat.ne_of_lt (Nat.lt_of_lt_of_le (xp_lt (heap_keep Fv0_3.out B1.out)) hbz))
        have N28 : Hid (b7 ≠ g36) := Lib.hid (Nat.ne_of_lt (Nat.lt_of_lt_of_le (xp_lt (heap_keep Fv3_7.out B1.out)) hbz))
        have N29 : Hid (b11 ≠ g36) := Lib.hid (Nat.ne_of_lt (Nat.lt_of_lt_of_le (xp_lt Fv15_11.out) hbz))
        clear hb h0 hbz
        simp only [ptr, Act.put, List.setIfInBounds_toArray, List.set_cons_zero, List.set_cons_succ]
        refine wpF_seg 1 (by kernel_rfl) ?_
        simp only [List.take_succ_cons, List.take_zero, List.drop_succ_cons, List.drop_zero]
        refine wpQuiet_val (by kernel_rfl) (.agg #[.int .i64 (i : Int), .int .i64 (x1 : Int), .int .i64 (x2 : Int), .int .i64 (x3 : Int)]) (fun v hv => (xo_loadW b11 _ (heap_keep Fv15_11.out (laterF hv)) Tryd.underlying26 rfl (by kernel_rfl) rfl rfl)) ?_
        simp only [Act.put, List.setIfInBounds_toArray, List.set_cons_zero, List.set_cons_succ]
        refine wpQuiet_nil ?_
        refine wpF_call 16 Tryd.func16 (by kernel_rfl) (by kernel_rfl) _ _ #[.slice (some ⟨g36, 0, none⟩) 1 1, .agg #[.int .i64 (i : Int), .int .i64 (x1 : Int), .int .i64 (x2 : Int), .int .i64 (x3 : Int)]] rfl (by kernel_rfl) (by kernel_rfl) HF7.out (fun V8 hb => ?_)
        have B7 := Lib.hid hb
        have HF8 := Lib.hid (HF7.out.ext hb)
        clear hb
        refine (match_as (some ⟨g36, 0, none⟩) 1 1 [(Qu.Ci.mk 0 ((k + 1 : Nat) : Int) 15)] (Rd.mk (i : Int) (x1 : Int) (x2 : Int) (x3 : Int)) false (by simp [Qu.mC, Qu.isC, Qu.valR] <;> omega) V8 (RowG.sg (n := 1) (c := 1) (Fv26_36.out.keep B7.out) (show ([(Qu.Ci.mk 0 ((k + 1 : Nat) : Int) 15)]).length = 1 from rfl) (Nat.le_refl _) (by omega))).mono ?_
        rintro e V9 ⟨rfl, hb⟩
        have B8 := Lib.hid hb
        have HF9 := Lib.hid (HF8.out.ext hb)
        refine ⟨_, rfl, hb, ?_⟩
        clear hb 
        simp only [Act.put, List.setIfInBounds_toArray, List.set_cons_zero, List.set_cons_succ]
        refine wpF_seg 2 (by kernel_rfl) ?_
        simp only [List.take_succ_cons, List.take_zero, List.drop_succ_cons, List.drop_zero]
        refine wpQuiet_val (by kernel_rfl) (.bool true) (fun v hv => rfl) ?_
        simp only [Act.put, List.setIfInBounds_toArray, List.set_cons_zero, List.set_cons_succ]
        refine wpQuiet_val (by kernel_rfl) (.bool false) (fun v hv => rfl) ?_
        simp only [Act.put, List.setIfInBounds_toArray, List.set_cons_zero, List.set_cons_succ]
        refine wpQuiet_nil ?_
        refine wpF_nil (fun V10 hb => ?_)
        have B9 := Lib.hid hb
        clear hb
        clear HF3
        clear HF4
        clear HF5
        clear HF6
        clear HF7
        clear HF8
        clear HF9
        go_upto_region 10 with fail
        refine wp_region_lit ?_
        refine wpList_run (by kernel_rfl) (.bool true) V10 rfl ?_
        simp only [Act.put, List.setIfInBounds_toArray, List.set_cons_zero, List.set_cons_succ]
        refine wpList_run (by kernel_rfl) (.bool false) V10 rfl ?_
        simp only [Act.put, List.setIfInBounds_toArray, List.set_cons_zero, List.set_cons_succ]
        refine wpList_run (by kernel_rfl) (.bool false) V10 (by unfold execOp; go_simp) ?_
        simp only [Act.put, List.setIfInBounds_toArray, List.set_cons_zero, List.set_cons_succ]
        refine wpList_run (by kernel_rfl) (.bool false) V10 rfl ?_
        simp only [Act.put, List.setIfInBounds_toArray, List.set_cons_zero, List.set_cons_succ]
        refine wpList_run (by kernel_rfl) (.bool true) V10 rfl ?_
        simp only [Act.put, List.setIfInBounds_toArray, List.set_cons_zero, List.set_cons_succ]
        refine wpList_run (by kernel_rfl) (.int .i64 (i : Int)) V10 rfl ?_
        simp only [Act.put, List.setIfInBounds_toArray, List.set_cons_zero, List.set_cons_succ]
        refine wpList_run (by kernel_rfl) (.int .i64 (k : Int)) V10 rfl ?_
        simp only [Act.put, List.setIfInBounds_toArray, List.set_cons_zero, List.set_cons_succ]
        refine wpList_run (by kernel_rfl) (.bool true) V10 (xo_leqT .i64 (i : Int) (k : Int) (by omega) rfl rfl rfl) ?_
        simp only [Act.put, List.setIfInBounds_toArray, List.set_cons_zero, List.set_cons_succ]
        refine wpList_run (by kernel_rfl) (.bool false) V10 (by unfold execOp; go_simp) ?_
        simp only [Act.put, List.setIfInBounds_toArray, List.set_cons_zero, List.set_cons_succ]
        refine wpList_run (by kernel_rfl) (.bool false) V10 rfl ?_
        simp only [Act.put, List.setIfInBounds_toArray, List.set_cons_zero, List.set_cons_succ]
        refine wpList_nil ?_
        go_upto_region 12 with fail
        refine wp_region_lit ?_
        refine wpList_run (by kernel_rfl) (.bool true) V10 rfl ?_
        simp only [Act.put, List.setIfInBounds_toArray, List.set_cons_zero, List.set_cons_succ]
        refine wpList_nil ?_
        go_upto_region 13 with fail
        refine wp_region_lit ?_
        refine wpList_run (by kernel_rfl) (.int .i64 (lo : Int)) V10 rfl ?_
        simp only [Act.put, List.setIfInBounds_toArray, List.set_cons_zero, List.set_cons_succ]
        refine wpList_run (by kernel_rfl) (.int .i64 ((lo + 1 : Nat) : Int)) V10 (xo_addI (lo : Int) 1 ((lo + 1 : Nat) : Int) (by omega) (by omega) (by omega) rfl rfl rfl) ?_
        simp only [Act.put, List.setIfInBounds_toArray, List.set_cons_zero, List.set_cons_succ]
        refine wpList_run (by kernel_rfl) (.int .i64 ((lo + 1 : Nat) : Int)) V10 rfl ?_
        simp only [Act.put, List.setIfInBounds_toArray, List.set_cons_zero, List.set_cons_succ]
        refine wpList_nil ?_
        go_upto_region 6 with fail
        refine wp_region_lit ?_
        refine wpList_run (by kernel_rfl) (.int .i64 (i : Int)) V10 rfl ?_
        simp only [Act.put, List.setIfInBounds_toArray, List.set_cons_zero, List.set_cons_succ]
        refine wpList_run (by kernel_rfl) (.int .i64 ((i + 1 : Nat) : Int)) V10 (xo_addI (i : Int) 1 ((i + 1 : Nat) : Int) (by omega) (by omega) (by omega) rfl rfl rfl) ?_
        simp only [Act.put, List.setIfInBounds_toArray, List.set_cons_zero, List.set_cons_succ]
        refine wpList_run (by kernel_rfl) (.int .i64 ((i + 1 : Nat) : Int)) V10 rfl ?_
        simp only [Act.put, List.setIfInBounds_toArray, List.set_cons_zero, List.set_cons_succ]
        refine wpList_nil ?_
        have e1 : min (i + 1) (k + 1) = lo + 1 := by omega
        have e2 : i + 1 - (lo + 1) = hh := by omega
        have C1_3 := Lib.hid (bel_step B1.out B2.out)
        have C1_4 := Lib.hid (bel_step C1_3.out B3.out)
        have C1_5 := Lib.hid (bel_step C1_4.out B4.out)
        have C1_6 := Lib.hid (bel_step C1_5.out B5.out)
        have C1_7 := Lib.hid (bel_step C1_6.out B6.out)
        have C1_8 := Lib.hid (bel_step C1_7.out B7.out)
        have C1_9 := Lib.hid (bel_step C1_8.out B8.out)
        have C1_10 := Lib.hid (bel_step C1_9.out B9.out)
        have hq31 := (heap_keep Fv0_3.out C1_10.out)
        have hq32 := (heap_keep Fv3_7.out C1_10.out)
        have C0_2 := Lib.hid (bel_step B0.out B1.out)
        have C0_3 := Lib.hid (bel_step C0_2.out B2.out)
        have C0_4 := Lib.hid (bel_step C0_3.out B3.out)
        have C0_5 := Lib.hid (bel_step C0_4.out B4.out)
        have C0_6 := Lib.hid (bel_step C0_5.out B5.out)
        have C0_7 := Lib.hid (bel_step C0_6.out B6.out)
        have C0_8 := Lib.hid (bel_step C0_7.out B7.out)
        have C0_9 := Lib.hid (bel_step C0_8.out B8.out)
        have C0_10 := Lib.hid (bel_step C0_9.out B9.out)
        have hq33 := C0_10.out
        go_wp2_with fail
        go_roundw
        case rel => exact ⟨i + 1, by omega, by go_num, by rw [e1], by rw [e1, e2], hq31, hq32, hq33⟩
        case measure => simp [intOf]; omega
      · have hci19 : ¬ ((i : Int) ≤ (k : Int)) := by omega
        go_upto_region 9 with fail
        refine wp_floatP [0, 1, 2, 3, 4, 5, 6, 7, 8, 9, 10, 11, 12] (l' := [_, _, _, _, _, _, _, _, _, _, _, _, _]) (by kernel_rfl) (lexOK_of (by kernel_rfl) (by kernel_rfl)) (ordOK_of (by kernel_rfl) (by kernel_rfl)) rfl rfl ?_
        simp only [List.getElem_toArray, List.getElem_cons_succ, List.getElem_cons_zero]
        intro V3 hb hSW
        have B2 := Lib.hid hb
        have HF3 := Lib.hid hSW
        clear hb hSW
        refine wpF_seg 2 (by kernel_rfl) ?_
        simp only [List.take_succ_cons, List.take_zero, List.drop_succ_cons, List.drop_zero]
        refine wpQuiet_val (by kernel_rfl) (.int .i64 (k : Int)) (fun v hv => rfl) ?_
        simp only [Act.put, List.setIfInBounds_toArray, List.set_cons_zero, List.set_cons_succ]
        refine wpQuiet_val (by kernel_rfl) (.agg #[.int .i64 0, .int .i64 0, .int .i64 (k : Int)]) (fun v hv => (by unfold execOp; go_simp <;> rfl)) ?_
        simp only [Act.put, List.setIfInBounds_toArray, List.set_cons_zero, List.set_cons_succ]
        refine wpQuiet_nil ?_
        refine wpF_make (.cells ([(Qu.Ci.mk 0 0 (k : Int))].flatMap ciC).toArray 46, fun b => .slice (some ⟨b, 0, none⟩) 1 1) (by kernel_rfl) (by kernel_rfl) (by kernel_rfl) (fun V => xg_lit (E := ciC) (bytes := 24) (.agg #[.int .i64 0, .int .i64 0, .int .i64 0]) [.tmp 29] [(Qu.Ci.mk 0 0 (k : Int))] 1 Tryd.underlying28 (by kernel_rfl) rfl (by decide) (by decide) rfl rfl) (fun g30 V4 hb h0 hbz => ?_)
        have Ge20 : Hid (X2_18.heap.size ≤ g30) := Lib.hid hbz
        have B3 := Lib.hid hb
        have HF4 := Lib.hid (HF3.out.ext hb)
        have Fv21_30 : Hid (RowG ciC V4 g30 46 ([(Qu.Ci.mk 0 0 (k : Int))])) := Lib.hid (h0)
        have N22 : Hid (w.heap.size ≠ g30) := Lib.hid (Nat.ne_of_lt (Nat.lt_of_lt_of_le (xp_lt (heap_keep Fv0_3.out B1.out)) hbz))
        have N23 : Hid (b7 ≠ g30) := Lib.hid (Nat.ne_of_lt (Nat.lt_of_lt_of_le (xp_lt (heap_keep Fv3_7.out B1.out)) hbz))
        have N24 : Hid (b11 ≠ g30) := Lib.hid (Nat.ne_of_lt (Nat.lt_of_lt_of_le (xp_lt Fv15_11.out) hbz))
        clear hb h0 hbz
        simp only [ptr, Act.put, List.setIfInBounds_toArray, List.set_cons_zero, List.set_cons_succ]
        refine wpF_seg 1 (by kernel_rfl) ?_
        simp only [List.take_succ_cons, List.take_zero, List.drop_succ_cons, List.drop_zero]
        refine wpQuiet_val (by kernel_rfl) (.agg #[.int .i64 (i : Int), .int .i64 (x1 : Int), .int .i64 (x2 : Int), .int .i64 (x3 : Int)]) (fun v hv => (xo_loadW b11 _ (heap_keep Fv15_11.out (laterF hv)) Tryd.underlying26 rfl (by kernel_rfl) rfl rfl)) ?_
        simp only [Act.put, List.setIfInBounds_toArray, List.set_cons_zero, List.set_cons_succ]
        refine wpQuiet_nil ?_
        refine wpF_call 16 Tryd.func16 (by kernel_rfl) (by kernel_rfl) _ _ #[.slice (some ⟨g30, 0, none⟩) 1 1, .agg #[.int .i64 (i : Int), .int .i64 (x1 : Int), .int .i64 (x2 : Int), .int .i64 (x3 : Int)]] rfl (by kernel_rfl) (by kernel_rfl) HF4.out (fun V5 hb => ?_)
        have B4 := Lib.hid hb
        have HF5 := Lib.hid (HF4.out.ext hb)
        clear hb
        refine (match_as (some ⟨g30, 0, none⟩) 1 1 [(Qu.Ci.mk 0 0 (k : Int))] (Rd.mk (i : Int) (x1 : Int) (x2 : Int) (x3 : Int)) false (by simp [Qu.mC, Qu.isC, Qu.valR] <;> omega) V5 (RowG.sg (n := 1) (c := 1) (Fv21_30.out.keep B4.out) (show ([(Qu.Ci.mk 0 0 (k : Int))]).length = 1 from rfl) (Nat.le_refl _) (by omega))).mono ?_
        rintro e V6 ⟨rfl, hb⟩
        have B5 := Lib.hid hb
        have HF6 := Lib.hid (HF5.out.ext hb)
        refine ⟨_, rfl, hb, ?_⟩
        clear hb 
        simp only [Act.put, List.setIfInBounds_toArray, List.set_cons_zero, List.set_cons_succ]
        refine wpF_seg 3 (by kernel_rfl) ?_
        simp only [List.take_succ_cons, List.take_zero, List.drop_succ_cons, List.drop_zero]
        refine wpQuiet_val (by kernel_rfl) (.int .i64 (k : Int)) (fun v hv => rfl) ?_
        simp only [Act.put, List.setIfInBounds_toArray, List.set_cons_zero, List.set_cons_succ]
        refine wpQuiet_val (by kernel_rfl) (.int .i64 ((k + 1 : Nat) : Int)) (fun v hv => (xo_addI (k : Int) 1 ((k + 1 : Nat) : Int) (by omega) (by omega) (by omega) rfl rfl rfl)) ?_
        simp only [Act.put, List.setIfInBounds_toArray, List.set_cons_zero, List.set_cons_succ]
        refine wpQuiet_val (by kernel_rfl) (.agg #[.int .i64 0, .int .i64 ((k + 1 : Nat) : Int), .int .i64 15]) (fun v hv => (by unfold execOp; go_simp <;> rfl)) ?_
        simp only [Act.put, List.setIfInBounds_toArray, List.set_cons_zero, List.set_cons_succ]
        refine wpQuiet_nil ?_
        refine wpF_make (.cells ([(Qu.Ci.mk 0 ((k + 1 : Nat) : Int) 15)].flatMap ciC).toArray 46, fun b => .slice (some ⟨b, 0, none⟩) 1 1) (by kernel_rfl) (by kernel_rfl) (by kernel_rfl) (fun V => xg_lit (E := ciC) (bytes := 24) (.agg #[.int .i64 0, .int .i64 0, .int .i64 0]) [.tmp 35] [(Qu.Ci.mk 0 ((k + 1 : Nat) : Int) 15)] 1 Tryd.underlying28 (by kernel_rfl) rfl (by decide) (by decide) rfl rfl) (fun g36 V7 hb h0 hbz => ?_)
        have Ge25 : Hid (X2_18.heap.size ≤ g36) := Lib.hid hbz
        have B6 := Lib.hid hb
        have HF7 := Lib.hid (HF6.out.ext hb)
        have Fv26_36 : Hid (RowG ciC V7 g36 46 ([(Qu.Ci.mk 0 ((k + 1 : Nat) : Int) 15)])) := Lib.hid (h0)
        have N27 : Hid (w.heap.size ≠ g36) := Lib.hid (Nat.ne_of_lt (Nat.lt_of_lt_of_le (xp_lt (heap_keep Fv0_3.out B1.out)) hbz))
        have N28 : Hid (b7 ≠ g36) := Lib.hid (Nat.ne_of_lt (Nat.lt_of_lt_of_le (xp_lt (heap_keep Fv3_7.out B1.out)) hbz))
        have N29 : Hid (b11 ≠ g36) := Lib.hid (Nat.ne_of_lt (Nat.lt_of_lt_of_le (xp_lt Fv15_11.out) hbz))
        clear hb h0 hbz
        simp only [ptr, Act.put, List.setIfInBounds_toArray, List.set_cons_zero, List.set_cons_succ]
        refine wpF_seg 1 (by kernel_rfl) ?_
        simp only [List.take_succ_cons, List.take_zero, List.drop_succ_cons, List.drop_zero]
        refine wpQuiet_val (by kernel_rfl) (.agg #[.int .i64 (i : Int), .int .i64 (x1 : Int), .int .i64 (x2 : Int), .int .i64 (x3 : Int)]) (fun v hv => (xo_loadW b11 _ (heap_keep Fv15_11.out (laterF hv)) Tryd.underlying26 rfl (by kernel_rfl) rfl rfl)) ?_
        simp only [Act.put, List.setIfInBounds_toArray, List.set_cons_zero, List.set_cons_succ]
        refine wpQuiet_nil ?_
        refine wpF_call 16 Tryd.func16 (by kernel_rfl) (by kernel_rfl) _ _ #[.slice (some ⟨g36, 0, none⟩) 1 1, .agg #[.int .i64 (i : Int), .int .i64 (x1 : Int), .int .i64 (x2 : Int), .int .i64 (x3 : Int)]] rfl (by kernel_rfl) (by kernel_rfl) HF7.out (fun V8 hb => ?_)
        have B7 := Lib.hid hb
        have HF8 := Lib.hid (HF7.out.ext hb)
        clear hb
        refine (match_as (some ⟨g36, 0, none⟩) 1 1 [(Qu.Ci.mk 0 ((k + 1 : Nat) : Int) 15)] (Rd.mk (i : Int) (x1 : Int) (x2 : Int) (x3 : Int)) true (by simp [Qu.mC, Qu.isC, Qu.valR] <;> omega) V8 (RowG.sg (n := 1) (c := 1) (Fv26_36.out.keep B7.out) (show ([(Qu.Ci.mk 0 ((k + 1 : Nat) : Int) 15)]).length = 1 from rfl) (Nat.le_refl _) (by omega))).mono ?_
        rintro e V9 ⟨rfl, hb⟩
        have B8 := Lib.hid hb
        have HF9 := Lib.hid (HF8.out.ext hb)
        refine ⟨_, rfl, hb, ?_⟩
        clear hb 
        simp only [Act.put, List.setIfInBounds_toArray, List.set_cons_zero, List.set_cons_succ]
        refine wpF_seg 2 (by kernel_rfl) ?_
        simp only [List.take_succ_cons, List.take_zero, List.drop_succ_cons, List.drop_zero]
        refine wpQuiet_val (by kernel_rfl) (.bool false) (fun v hv => rfl) ?_
        simp only [Act.put, List.setIfInBounds_toArray, List.set_cons_zero, List.set_cons_succ]
        refine wpQuiet_val (by kernel_rfl) (.bool true) (fun v hv => rfl) ?_
        simp only [Act.put, List.setIfInBounds_toArray, List.set_cons_zero, List.set_cons_succ]
        refine wpQuiet_nil ?_
        refine wpF_nil (fun V10 hb => ?_)
        have B9 := Lib.hid hb
        clear hb
        clear HF3
        clear HF4
        clear HF5
        clear HF6
        clear HF7
        clear HF8
        clear HF9
        go_upto_region 10 with fail
        refine wp_region_lit ?_
        refine wpList_run (by kernel_rfl) (.bool false) V10 rfl ?_
        simp only [Act.put, List.setIfInBounds_toArray, List.set_cons_zero, List.set_cons_succ]
        refine wpList_run (by kernel_rfl) (.bool true) V10 rfl ?_
        simp only [Act.put, List.setIfInBounds_toArray, List.set_cons_zero, List.set_cons_succ]
        refine wpList_run (by kernel_rfl) (.bool false) V10 (by unfold execOp; go_simp) ?_
        simp only [Act.put, List.setIfInBounds_toArray, List.set_cons_zero, List.set_cons_succ]
        refine wpList_run (by kernel_rfl) (.bool false) V10 rfl ?_
        simp only [Act.put, List.setIfInBounds_toArray, List.set_cons_zero, List.set_cons_succ]
        refine wpList_run (by kernel_rfl) (.bool false) V10 rfl ?_
        simp only [Act.put, List.setIfInBounds_toArray, List.set_cons_zero, List.set_cons_succ]
        refine wpList_run (by kernel_rfl) (.int .i64 (i : Int)) V10 rfl ?_
        simp only [Act.put, List.setIfInBounds_toArray, List.set_cons_zero, List.set_cons_succ]
        refine wpList_run (by kernel_rfl) (.int .i64 (k : Int)) V10 rfl ?_
        simp only [Act.put, List.setIfInBounds_toArray, List.set_cons_zero, List.set_cons_succ]
        refine wpList_run (by kernel_rfl) (.bool false) V10 (xo_leqF .i64 (i : Int) (k : Int) (by omega) rfl rfl rfl) ?_
        simp only [Act.put, List.setIfInBounds_toArray, List.set_cons_zero, List.set_cons_succ]
        refine wpList_run (by kernel_rfl) (.bool false) V10 (by unfold execOp; go_simp) ?_
        simp only [Act.put, List.setIfInBounds_toArray, List.set_cons_zero, List.set_cons_succ]
        refine wpList_run (by kernel_rfl) (.bool false) V10 rfl ?_
        simp only [Act.put, List.setIfInBounds_toArray, List.set_cons_zero, List.set_cons_succ]
        refine wpList_nil ?_
        go_upto_region 12 with fail
        refine wp_region_lit ?_
        refine wpList_run (by kernel_rfl) (.bool false) V10 rfl ?_
        simp only [Act.put, List.setIfInBounds_toArray, List.set_cons_zero, List.set_cons_succ]
        refine wpList_nil ?_
        go_upto_region 14 with fail
        refine wp_region_lit ?_
        refine wpList_run (by kernel_rfl) (.int .i64 (hh : Int)) V10 rfl ?_
        simp only [Act.put, List.setIfInBounds_toArray, List.set_cons_zero, List.set_cons_succ]
        refine wpList_run (by kernel_rfl) (.int .i64 ((hh + 1 : Nat) : Int)) V10 (xo_addI (hh : Int) 1 ((hh + 1 : Nat) : Int) (by omega) (by omega) (by omega) rfl rfl rfl) ?_
        simp only [Act.put, List.setIfInBounds_toArray, List.set_cons_zero, List.set_cons_succ]
        refine wpList_run (by kernel_rfl) (.int .i64 ((hh + 1 : Nat) : Int)) V10 rfl ?_
        simp only [Act.put, List.setIfInBounds_toArray, List.set_cons_zero, List.set_cons_succ]
        refine wpList_nil ?_
        go_upto_region 6 with fail
        refine wp_region_lit ?_
        refine wpList_run (by kernel_rfl) (.int .i64 (i : Int)) V10 rfl ?_
        simp only [Act.put, List.setIfInBounds_toArray, List.set_cons_zero, List.set_cons_succ]
        refine wpList_run (by kernel_rfl) (.int .i64 ((i + 1 : Nat) : Int)) V10 (xo_addI (i : Int) 1 ((i + 1 : Nat) : Int) (by omega) (by omega) (by omega) rfl rfl rfl) ?_
        simp only [Act.put, List.setIfInBounds_toArray, List.set_cons_zero, List.set_cons_succ]
        refine wpList_run (by kernel_rfl) (.int .i64 ((i + 1 : Nat) : Int)) V10 rfl ?_
        simp only [Act.put, List.setIfInBounds_toArray, List.set_cons_zero, List.set_cons_succ]
        refine wpList_nil ?_
        have e1 : min (i + 1) (k + 1) = lo := by omega
        have e2 : i + 1 - lo = hh + 1 := by omega
        have C1_3 := Lib.hid (bel_step B1.out B2.out)
        have C1_4 := Lib.hid (bel_step C1_3.out B3.out)
        have C1_5 := Lib.hid (bel_step C1_4.out B4.out)
        have C1_6 := Lib.hid (bel_step C1_5.out B5.out)
        have C1_7 := Lib.hid (bel_step C1_6.out B6.out)
        have C1_8 := Lib.hid (bel_step C1_7.out B7.out)
        have C1_9 := Lib.hid (bel_step C1_8.out B8.out)
        have C1_10 := Lib.hid (bel_step C1_9.out B9.out)
        have hq31 := (heap_keep Fv0_3.out C1_10.out)
        have hq32 := (heap_keep Fv3_7.out C1_10.out)
        have C0_2 := Lib.hid (bel_step B0.out B1.out)
        have C0_3 := Lib.hid (bel_step C0_2.out B2.out)
        have C0_4 := Lib.hid (bel_step C0_3.out B3.out)
        have C0_5 := Lib.hid (bel_step C0_4.out B4.out)
        have C0_6 := Lib.hid (bel_step C0_5.out B5.out)
        have C0_7 := Lib.hid (bel_step C0_6.out B6.out)
        have C0_8 := Lib.hid (bel_step C0_7.out B7.out)
        have C0_9 := Lib.hid (bel_step C0_8.out B8.out)
        have C0_10 := Lib.hid (bel_step C0_9.out B9.out)
        have hq33 := C0_10.out
        go_wp2_with fail
        go_roundw
        case rel => exact ⟨i + 1, by omega, by go_num, by rw [e1], by rw [e1, e2], hq31, hq32, hq33⟩
        case measure => simp [intOf]; omega
    · have hci11 : ¬ ((i : Int) < 16) := by omega
      obtain rfl : i = 16 := by omega
      obtain rfl : lo = k + 1 := by omega
      obtain rfl : hh = 15 - k := by omega
      go_upto_region 5 with fail
      refine wp_region_lit ?_
      refine wpList_run (by kernel_rfl) (.int .i64 16) wo rfl ?_
      simp only [Act.put, List.setIfInBounds_toArray, List.set_cons_zero, List.set_cons_succ]
      refine wpList_run (by kernel_rfl) (.bool false) wo (xo_lssF .i64 16 16 (by omega) rfl rfl rfl) ?_
      simp only [Act.put, List.setIfInBounds_toArray, List.set_cons_zero, List.set_cons_succ]
      refine wpList_nil ?_
      go_upto_region 15 with fail
      refine wp_region_lit ?_
      refine wpList_run (by kernel_rfl) (.int .i64 0) wo rfl ?_
      simp only [Act.put, List.setIfInBounds_toArray, List.set_cons_zero, List.set_cons_succ]
      refine wpList_nil ?_
      have O12 := Fv0_3.out
      have O13 := Fv3_7.out
      have O14 := B0.out
      go_wp2_with fail
      go_loopw [14] (fun p wr => ∃ j : Nat, j ≤ 4 ∧ p = .int .i64 j ∧ wr.heap[w.heap.size]? = some (.cells #[.int .i64 a1, .int .i64 b1, .int .i64 k1, .int .i64 q1] 26 (0, 0)) ∧ wr.heap[b7]? = some (.cells #[.int .i64 (x0 : Int), .int .i64 (x1 : Int), .int .i64 (x2 : Int), .int .i64 (x3 : Int)] 26 (0, 0)) ∧ Below w.heap.size w wr) (fun p _ => 4 - (intOf p).toNat)
      case atStart => exact ⟨0, Nat.zero_le _, rfl, O12, O13, O14⟩
      case round =>
        clear O12 O13 O14
        obtain ⟨wq, rfl⟩ : ∃ wq : World, wq = wr := ⟨_, rfl⟩
        obtain ⟨j, hi, rfl, hr0, hr1, hb0⟩ := hrel
        have hbr := hb0
        clear B0
        have B0 := Lib.hid hbr
        clear hbr
        clear Fv0_3
        have Fv0_3 : Hid (wq.heap[w.heap.size]? = some (.cells #[.int .i64 a1, .int .i64 b1, .int .i64 k1, .int .i64 q1] 26 (0, 0))) := Lib.hid (hr0)
        clear Fv3_7
        have Fv3_7 : Hid (wq.heap[b7]? = some (.cells #[.int .i64 (x0 : Int), .int .i64 (x1 : Int), .int .i64 (x2 : Int), .int .i64 (x3 : Int)] 26 (0, 0))) := Lib.hid (hr1)
        clear hb0 hr0 hr1
        by_cases hj4 : j < 4
        · have hci16 : ((j : Int) < 4) := by omega
          go_upto_region 16 with fail
          refine wp_region_lit ?_
          refine wpList_run (by kernel_rfl) (.int .i64 (j : Int)) wq rfl ?_
          simp only [Act.put, List.setIfInBounds_toArray, List.set_cons_zero, List.set_cons_succ]
          refine wpList_run (by kernel_rfl) (.bool true) wq (xo_lssT .i64 (j : Int) 4 (by omega) rfl rfl rfl) ?_
          simp only [Act.put, List.setIfInBounds_toArray, List.set_cons_zero, List.set_cons_succ]
          refine wpList_nil ?_
          obtain ⟨m, hm⟩ : ∃ m, Qu.maxN j = m := ⟨_, rfl⟩
          have hmt : List.all [Qu.Ci.mk (j : Int) 0 (m : Int)] (Qu.mC (Rd.mk (x0 : Int) (x1 : Int) (x2 : Int) (x3 : Int))) = true := by
                      have h4 : j = 0 ∨ j = 1 ∨ j = 2 ∨ j = 3 := by omega
                      rcases h4 with rfl | rfl | rfl | rfl <;> subst hm <;> simp [Qu.mC, Qu.isC, Qu.valR, Qu.maxN] <;> omega
          go_upto_region 18 with fail
          refine wp_floatP [0, 1, 2, 3, 4, 5, 6, 7] (l' := [_, _, _, _, _, _, _, _]) (by kernel_rfl) (lexOK_of (by kernel_rfl) (by kernel_rfl)) (ordOK_of (by kernel_rfl) (by kernel_rfl)) rfl rfl ?_
          simp only [List.getElem_toArray, List.getElem_cons_succ, List.getElem_cons_zero]
          intro V2 hb hSW
          have B1 := Lib.hid hb
          have HF2 := Lib.hid hSW
          clear hb hSW
          refine wpF_seg 2 (by kernel_rfl) ?_
          simp only [List.take_succ_cons, List.take_zero, List.drop_succ_cons, List.drop_zero]
          refine wpQuiet_val (by kernel_rfl) (.int .i64 (j : Int)) (fun v hv => rfl) ?_
          simp only [Act.put, List.setIfInBounds_toArray, List.set_cons_zero, List.set_cons_succ]
          refine wpQuiet_val (by kernel_rfl) (.int .i64 (j : Int)) (fun v hv => rfl) ?_
          simp only [Act.put, List.setIfInBounds_toArray, List.set_cons_zero, List.set_cons_succ]
          refine wpQuiet_nil ?_
          refine wpF_call 24 Tryd.func24 (by kernel_rfl) (by kernel_rfl) _ _ #[.int .i64 (j : Int)] rfl (by kernel_rfl) (by kernel_rfl) HF2.out (fun V3 hb => ?_)
          have B2 := Lib.hid hb
          have HF3 := Lib.hid (HF2.out.ext hb)
          clear hb
          refine (max_as j m hj4 hm V3).mono ?_
          rintro e _ ⟨rfl, rfl⟩
          refine ⟨_, rfl, Below.refl _ _, ?_⟩
          simp only [Act.put, List.setIfInBounds_toArray, List.set_cons_zero, List.set_cons_succ]
          refine wpF_seg 1 (by kernel_rfl) ?_
          simp only [List.take_succ_cons, List.take_zero, List.drop_succ_cons, List.drop_zero]
          refine wpQuiet_val (by kernel_rfl) (.agg #[.int .i64 (j : Int), .int .i64 0, .int .i64 (m : Int)]) (fun v hv => (by unfold execOp; go_simp <;> rfl)) ?_
          simp only [Act.put, List.setIfInBounds_toArray, List.set_cons_zero, List.set_cons_succ]
          refine wpQuiet_nil ?_
          refine wpF_make (.cells ([(Qu.Ci.mk (j : Int) 0 (m : Int))].flatMap ciC).toArray 46, fun b => .slice (some ⟨b, 0, none⟩) 1 1) (by kernel_rfl) (by kernel_rfl) (by kernel_rfl) (fun V => xg_lit (E := ciC) (bytes := 24) (.agg #[.int .i64 0, .int .i64 0, .int .i64 0]) [.tmp 61] [(Qu.Ci.mk (j : Int) 0 (m : Int))] 1 Tryd.underlying28 (by kernel_rfl) rfl (by decide) (by decide) rfl rfl) (fun g62 V4 hb h0 hbz => ?_)
          have Ge17 : Hid (wq.heap.size ≤ g62) := Lib.hid hbz
          have B3 := Lib.hid hb
          have HF4 := Lib.hid (HF3.out.ext hb)
          have Fv18_62 : Hid (RowG ciC V4 g62 46 ([(Qu.Ci.mk (j : Int) 0 (m : Int))])) := Lib.hid (h0)
          have N19 : Hid (w.heap.size ≠ g62) := Lib.hid (Nat.ne_of_lt (Nat.lt_of_lt_of_le (xp_lt Fv0_3.out) hbz))
          have N20 : Hid (b7 ≠ g62) := Lib.hid (Nat.ne_of_lt (Nat.lt_of_lt_of_le (xp_lt Fv3_7.out) hbz))
          clear hb h0 hbz
          simp only [ptr, Act.put, List.setIfInBounds_toArray, List.set_cons_zero, List.set_cons_succ]
          refine wpF_seg 1 (by kernel_rfl) ?_
          simp only [List.take_succ_cons, List.take_zero, List.drop_succ_cons, List.drop_zero]
          refine wpQuiet_val (by kernel_rfl) (.agg #[.int .i64 (x0 : Int), .int .i64 (x1 : Int), .int .i64 (x2 : Int), .int .i64 (x3 : Int)]) (fun v hv => (xo_loadW b7 _ (heap_keep Fv3_7.out (laterF hv)) Tryd.underlying26 rfl (by kernel_rfl) rfl rfl)) ?_
          simp only [Act.put, List.setIfInBounds_toArray, List.set_cons_zero, List.set_cons_succ]
          refine wpQuiet_nil ?_
          refine wpF_call 16 Tryd.func16 (by kernel_rfl) (by kernel_rfl) _ _ #[.slice (some ⟨g62, 0, none⟩) 1 1, .agg #[.int .i64 (x0 : Int), .int .i64 (x1 : Int), .int .i64 (x2 : Int), .int .i64 (x3 : Int)]] rfl (by kernel_rfl) (by kernel_rfl) HF4.out (fun V5 hb => ?_)
          have B4 := Lib.hid hb
          have HF5 := Lib.hid (HF4.out.ext hb)
          clear hb
          refine (match_as (some ⟨g62, 0, none⟩) 1 1 [(Qu.Ci.mk (j : Int) 0 (m : Int))] (Rd.mk (x0 : Int) (x1 : Int) (x2 : Int) (x3 : Int)) true hmt V5 (RowG.sg (n := 1) (c := 1) (Fv18_62.out.keep B4.out) (show ([(Qu.Ci.mk (j : Int) 0 (m : Int))]).length = 1 from rfl) (Nat.le_refl _) (by omega))).mono ?_
          rintro e V6 ⟨rfl, hb⟩
          have B5 := Lib.hid hb
          have HF6 := Lib.hid (HF5.out.ext hb)
          refine ⟨_, rfl, hb, ?_⟩
          clear hb 
          simp only [Act.put, List.setIfInBounds_toArray, List.set_cons_zero, List.set_cons_succ]
          refine wpF_seg 1 (by kernel_rfl) ?_
          simp only [List.take_succ_cons, List.take_zero, List.drop_succ_cons, List.drop_zero]
          refine wpQuiet_val (by kernel_rfl) (.bool false) (fun v hv => rfl) ?_
          simp only [Act.put, List.setIfInBounds_toArray, List.set_cons_zero, List.set_cons_succ]
          refine wpQuiet_nil ?_
          refine wpF_nil (fun V7 hb => ?_)
          have B6 := Lib.hid hb
          clear hb
          clear HF2
          clear HF3
          clear HF4
          clear HF5
          clear HF6
          go_upto_region 17 with fail
          refine wp_region_lit ?_
          refine wpList_run (by kernel_rfl) (.int .i64 (j : Int)) V7 rfl ?_
          simp only [Act.put, List.setIfInBounds_toArray, List.set_cons_zero, List.set_cons_succ]
          refine wpList_run (by kernel_rfl) (.int .i64 ((j + 1 : Nat) : Int)) V7 (xo_addI (j : Int) 1 ((j + 1 : Nat) : Int) (by omega) (by omega) (by omega) rfl rfl rfl) ?_
          simp only [Act.put, List.setIfInBounds_toArray, List.set_cons_zero, List.set_cons_succ]
          refine wpList_run (by kernel_rfl) (.int .i64 ((j + 1 : Nat) : Int)) V7 rfl ?_
          simp only [Act.put, List.setIfInBounds_toArray, List.set_cons_zero, List.set_cons_succ]
          refine wpList_nil ?_
          have C1_3 := Lib.hid (bel_step B1.out B2.out)
          have C1_4 := Lib.hid (bel_step C1_3.out B3.out)
          have C1_5 := Lib.hid (bel_step C1_4.out B4.out)
          have C1_6 := Lib.hid (bel_step C1_5.out B5.out)
          have C1_7 := Lib.hid (bel_step C1_6.out B6.out)
          have hq21 := (heap_keep Fv0_3.out C1_7.out)
          have hq22 := (heap_keep Fv3_7.out C1_7.out)
          have C0_2 := Lib.hid (bel_step B0.out B1.out)
          have C0_3 := Lib.hid (bel_step C0_2.out B2.out)
          have C0_4 := Lib.hid (bel_step C0_3.out B3.out)
          have C0_5 := Lib.hid (bel_step C0_4.out B4.out)
          have C0_6 := Lib.hid (bel_step C0_5.out B5.out)
          have C0_7 := Lib.hid (bel_step C0_6.out B6.out)
          have hq23 := C0_7.out
          go_wp2_with fail
          go_roundw
          case rel => exact ⟨j + 1, by omega, by go_num, hq21, hq22, hq23⟩
          case measure => simp [intOf]; omega
        · have hci16 : ¬ ((j : Int) < 4) := by omega
          go_upto_region 16 with fail
          refine wp_region_lit ?_
          refine wpList_run (by kernel_rfl) (.int .i64 (j : Int)) wq rfl ?_
          simp only [Act.put, List.setIfInBounds_toArray, List.set_cons_zero, List.set_cons_succ]
          refine wpList_run (by kernel_rfl) (.bool false) wq (xo_lssF .i64 (j : Int) 4 (by omega) rfl rfl rfl) ?_
          simp only [Act.put, List.setIfInBounds_toArray, List.set_cons_zero, List.set_cons_succ]
          refine wpList_nil ?_
          have hci17 : (((k + 1 : Nat) : Int) = ((k + 1 : Nat) : Int)) := by omega
          have hci18 : (((15 - k : Nat) : Int) = ((15 - k : Nat) : Int)) := by omega
          go_upto_region 20 with fail
          refine wp_region_lit ?_
          refine wpList_run (by kernel_rfl) (.int .i64 ((k + 1 : Nat) : Int)) wq rfl ?_
          simp only [Act.put, List.setIfInBounds_toArray, List.set_cons_zero, List.set_cons_succ]
          refine wpList_run (by kernel_rfl) (.int .i64 (k : Int)) wq rfl ?_
          simp only [Act.put, List.setIfInBounds_toArray, List.set_cons_zero, List.set_cons_succ]
          refine wpList_run (by kernel_rfl) (.int .i64 ((k + 1 : Nat) : Int)) wq (xo_addI (k : Int) 1 ((k + 1 : Nat) : Int) (by omega) (by omega) (by omega) rfl rfl rfl) ?_
          simp only [Act.put, List.setIfInBounds_toArray, List.set_cons_zero, List.set_cons_succ]
          refine wpList_run (by kernel_rfl) (.bool true) wq (xo_eqlT .i64 ((k + 1 : Nat) : Int) ((k + 1 : Nat) : Int) (by omega) rfl rfl rfl) ?_
          simp only [Act.put, List.setIfInBounds_toArray, List.set_cons_zero, List.set_cons_succ]
          refine wpList_run (by kernel_rfl) (.bool true) wq rfl ?_
          simp only [Act.put, List.setIfInBounds_toArray, List.set_cons_zero, List.set_cons_succ]
          refine wpList_run (by kernel_rfl) (.int .i64 ((15 - k : Nat) : Int)) wq rfl ?_
          simp only [Act.put, List.setIfInBounds_toArray, List.set_cons_zero, List.set_cons_succ]
          refine wpList_run (by kernel_rfl) (.int .i64 (k : Int)) wq rfl ?_
          simp only [Act.put, List.setIfInBounds_toArray, List.set_cons_zero, List.set_cons_succ]
          refine wpList_run (by kernel_rfl) (.int .i64 ((15 - k : Nat) : Int)) wq (xo_subI 15 (k : Int) ((15 - k : Nat) : Int) (by omega) (by omega) (by omega) rfl rfl rfl) ?_
          simp only [Act.put, List.setIfInBounds_toArray, List.set_cons_zero, List.set_cons_succ]
          refine wpList_run (by kernel_rfl) (.bool true) wq (xo_eqlT .i64 ((15 - k : Nat) : Int) ((15 - k : Nat) : Int) (by omega) rfl rfl rfl) ?_
          simp only [Act.put, List.setIfInBounds_toArray, List.set_cons_zero, List.set_cons_succ]
          refine wpList_run (by kernel_rfl) (.bool true) wq rfl ?_
          simp only [Act.put, List.setIfInBounds_toArray, List.set_cons_zero, List.set_cons_succ]
          refine wpList_run (by kernel_rfl) (.bool true) wq rfl ?_
          simp only [Act.put, List.setIfInBounds_toArray, List.set_cons_zero, List.set_cons_succ]
          refine wpList_run (by kernel_rfl) (.bool true) wq rfl ?_
          simp only [Act.put, List.setIfInBounds_toArray, List.set_cons_zero, List.set_cons_succ]
          refine wpList_run (by kernel_rfl) (.bool true) wq rfl ?_
          simp only [Act.put, List.setIfInBounds_toArray, List.set_cons_zero, List.set_cons_succ]
          refine wpList_run (by kernel_rfl) (.bool true) wq rfl ?_
          simp only [Act.put, List.setIfInBounds_toArray, List.set_cons_zero, List.set_cons_succ]
          refine wpList_nil ?_
          have hbf := B0.out
          go_wp2_with fail
          go_ret
          exact ⟨rfl, hbf⟩
end Go.Proofs.YtbcgfjlbjfkfmaaDoor
