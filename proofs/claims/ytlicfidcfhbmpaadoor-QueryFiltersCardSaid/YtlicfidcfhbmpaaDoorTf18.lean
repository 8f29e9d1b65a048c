/- Several texts in one: Yu, Yy, Yv, Yad. -/
import Derived.Test.YtlicfidcfhbmpaaDoorTf17
import Derived.Test.YtlicfidcfhbmpaaDoorRows
import Derived.Test.YtlicfidcfhbmpaaDoorTie
import Derived.ProofKit
import Derived.OpenShut
import Derived.ChangeOld
import Derived.ChangeSlices
import Derived.ChangeArms
import Derived.Below
import Derived.Lib.SmallJoins
import Derived.Lib.LaidTab
import Derived.LaidMore
import Derived.Deep.Slices
import Derived.Test.YtlicfidcfhbmpaaDoorTf03
import Derived.Test.YtlicfidcfhbmpaaDoorTf13
set_option linter.unusedVariables false
set_option linter.unusedSimpArgs false
set_option linter.unusedSectionVars false
namespace Go.Proofs.YtlicfidcfhbmpaaDoor
set_option maxRecDepth 8000
open Go.RowKit Go.Proofs.YtlicfidcfhbmpaaDoor.K
attribute [local irreducible] wpList wpQuiet
/-- bits in common with a number -/
def andN (u : Int) (v : Nat) : Nat := (BitVec.ofInt 64 u &&& BitVec.ofInt 64 (v : Int)).toNat
theorem andN_le (u : Int) (v : Nat) (hv : v < 2 ^ 64) : andN u v ≤ v := by
 unfold andN
 rw [BitVec.toNat_and]
 refine Nat.le_trans Nat.and_le_right ?_
 rw [BitVec.ofInt_natCast, BitVec.toNat_ofNat]
 exact Nat.mod_le _ _
theorem xo_andI {P : Program} {ev : Operand → Value} {o : Oper} {w : World} {x y : Operand} {ty t : TypeId} (u : Int) (v : Nat) (hv : v < 2 ^ 63) (ho : o.op = .binOp .and ty x y t) (hx : ev x = .int .i64 u) (hy : ev y = .int .i64 (v : Int)) : (execOp ev o).run P w = .ok (.value (.int .i64 (andN u v : Int))) w := by
 have hl := andN_le u v (by omega)
 have hr : IntKind.i64.wrap (andN u v : Int) = (andN u v : Int) := by rw [IntKind.wrap_i64]; omega
 have e : (Op.intBits .and .i64 u (v : Int)).run P w = .ok (.int .i64 (andN u v : Int)) w := by
  simp only [Op.intBits]
  show _ = Result.ok (Value.int .i64 ((andN u v : Nat) : Int)) w
  rw [← hr]
  rfl
 unfold execOp
 simp [ho, hx, hy, eqGuard, binOp, Sem.run_bind, e]
set_option maxRecDepth 100000 in
set_option maxHeartbeats 16000000 in
theorem madeReading_any (r : Rd) (w : World) : Calls Tryd.prog 15 #[.agg #[.int .i64 r.who, .int .i64 r.when_, .int .i64 r.kind, .int .i64 r.value]] w fun e w' => e = .returned (.agg #[.int .i64 (andN r.who 15 : Int), .int .i64 (andN r.when_ 255 : Int), .int .i64 (andN r.kind 15 : Int), .int .i64 (andN r.value 255 : Int)]) ∧ Below w.heap.size w w' := by
 go_enter Tryd.func15, Tryd.ntmps15
 go_upto_region 1 with fail
 refine wp_named2 (fun V1 hb g0 g1 hlt => ?_)
 have B0 := Lib.hid hb
 have Fv0_1 : Hid (V1.heap[w.heap.size]? = some (.cells #[.int .i64 r.who, .int .i64 r.when_, .int .i64 r.kind, .int .i64 r.value] 26 (0, 0))) := Lib.hid (g0)
 have Fv1_2 : Hid (V1.heap[(w.heap.size + 1)]? = some (.cells #[.int .i64 0, .int .i64 0, .int .i64 0, .int .i64 0] 26 (0, 0))) := Lib.hid (g1)
 have Nb0_1 : Hid (w.heap.size ≠ (w.heap.size + 1)) := Lib.hid (by omega)
 have Gb0 : Hid (w.heap.size ≤ w.heap.size) := Lib.hid (by omega)
 have Gb1 : Hid (w.heap.size ≤ (w.heap.size + 1)) := Lib.hid (by omega)
 clear hb g0 g1 hlt
 have Lt0 : Hid (w.heap.size < V1.heap.size) := Lib.hid (xp_lt Fv0_1.out)
 have Lt1 : Hid ((w.heap.size + 1) < V1.heap.size) := Lib.hid (xp_lt Fv1_2.out)
 refine wp_region_lit ?_
 refine zr (.pointer (some ⟨w.heap.size, 0, none⟩)) V1 (xo_fld0 0 w.heap.size 0 (by kernel_rfl) rfl rfl) ?_
 simp only [Act.put, zA, zB, zC]
 refine zr (.int .i64 r.who) V1 (xo_load1 ⟨w.heap.size, 0, none⟩ _ (cells_at Fv0_1.out 0 rfl) Tryd.underlying3 rfl rfl rfl) ?_
 simp only [Act.put, zA, zB, zC]
 refine zr (.int .i64 (andN r.who 15 : Int)) V1 (xo_andI r.who 15 (by decide) rfl rfl rfl) ?_
 simp only [Act.put, zA, zB, zC]
 refine zr (.pointer (some ⟨w.heap.size, 1, none⟩)) V1 (xo_fld0 1 w.heap.size 1 (by kernel_rfl) rfl rfl) ?_
 simp only [Act.put, zA, zB, zC]
 refine zr (.int .i64 r.when_) V1 (xo_load1 ⟨w.heap.size, 1, none⟩ _ (cells_at Fv0_1.out 1 rfl) Tryd.underlying3 rfl rfl rfl) ?_
 simp only [Act.put, zA, zB, zC]
 refine zr (.int .i64 (andN r.when_ 255 : Int)) V1 (xo_andI r.when_ 255 (by decide) rfl rfl rfl) ?_
 simp only [Act.put, zA, zB, zC]
 refine zr (.pointer (some ⟨w.heap.size, 2, none⟩)) V1 (xo_fld0 2 w.heap.size 2 (by kernel_rfl) rfl rfl) ?_
 simp only [Act.put, zA, zB, zC]
 refine zr (.int .i64 r.kind) V1 (xo_load1 ⟨w.heap.size, 2, none⟩ _ (cells_at Fv0_1.out 2 rfl) Tryd.underlying3 rfl rfl rfl) ?_
 simp only [Act.put, zA, zB, zC]
 refine zr (.int .i64 (andN r.kind 15 : Int)) V1 (xo_andI r.kind 15 (by decide) rfl rfl rfl) ?_
 simp only [Act.put, zA, zB, zC]
 refine zr (.pointer (some ⟨w.heap.size, 3, none⟩)) V1 (xo_fld0 3 w.heap.size 3 (by kernel_rfl) rfl rfl) ?_
 simp only [Act.put, zA, zB, zC]
 refine zr (.int .i64 r.value) V1 (xo_load1 ⟨w.heap.size, 3, none⟩ _ (cells_at Fv0_1.out 3 rfl) Tryd.underlying3 rfl rfl rfl) ?_
 simp only [Act.put, zA, zB, zC]
 refine zr (.int .i64 (andN r.value 255 : Int)) V1 (xo_andI r.value 255 (by decide) rfl rfl rfl) ?_
 simp only [Act.put, zA, zB, zC]
 refine zr (.agg #[.int .i64 (andN r.who 15 : Int), .int .i64 (andN r.when_ 255 : Int), .int .i64 (andN r.kind 15 : Int), .int .i64 (andN r.value 255 : Int)]) V1 (by unfold execOp; go_simp <;> rfl) ?_
 simp only [Act.put, zA, zB, zC]
 refine wpList_storeW (w.heap.size + 1) #[.int .i64 0, .int .i64 0, .int .i64 0, .int .i64 0] #[.int .i64 (andN r.who 15 : Int), .int .i64 (andN r.when_ 255 : Int), .int .i64 (andN r.kind 15 : Int), .int .i64 (andN r.value 255 : Int)] 26 (by kernel_rfl) Fv1_2.out (xo_storeW (w.heap.size + 1) #[.int .i64 0, .int .i64 0, .int .i64 0, .int .i64 0] #[.int .i64 (andN r.who 15 : Int), .int .i64 (andN r.when_ 255 : Int), .int .i64 (andN r.kind 15 : Int), .int .i64 (andN r.value 255 : Int)] Fv1_2.out (by kernel_rfl) rfl (by simp [Value.oneCell']) rfl rfl rfl) ?_
 intro X1_2 h1 hfar hbel hsz
 have YFv0_1 : X1_2.heap[w.heap.size]? = some (.cells #[.int .i64 r.who, .int .i64 r.when_, .int .i64 r.kind, .int .i64 r.value] 26 (0, 0)) := hfar _ _ Nb0_1.out Fv0_1.out
 have hbr := hbel _ _ Gb1.out B0.out
 clear B0
 have B0 := Lib.hid hbr
 clear hbr
 clear Fv0_1
 have Fv0_1 : Hid (X1_2.heap[w.heap.size]? = some (.cells #[.int .i64 r.who, .int .i64 r.when_, .int .i64 r.kind, .int .i64 r.value] 26 (0, 0))) := Lib.hid YFv0_1
 clear YFv0_1
 clear Fv1_2
 have Fv1_2 : Hid (X1_2.heap[(w.heap.size + 1)]? = some (.cells #[.int .i64 (andN r.who 15 : Int), .int .i64 (andN r.when_ 255 : Int), .int .i64 (andN r.kind 15 : Int), .int .i64 (andN r.value 255 : Int)] 26 (0, 0))) := Lib.hid (h1)
 have HszX1_2 := Lib.hid hsz
 clear h1 hfar hbel hsz
 simp only [ptr, Act.put, zA, zB, zC]
 refine wpList_nil ?_
 have hbf := B0.out
 go_wp2_with fail
 refine bodyPost_ret (v := .agg #[.int .i64 (andN r.who 15 : Int), .int .i64 (andN r.when_ 255 : Int), .int .i64 (andN r.kind 15 : Int), .int .i64 (andN r.value 255 : Int)]) ?_ rfl ⟨rfl, hbf⟩
 exact results_cell_row rfl _ _ (w.heap.size + 1) 26 _ (0, 0) _ rfl Fv1_2.out Tryd.underlying26 rfl (by kernel_rfl)
set_option maxRecDepth 100000 in
set_option maxHeartbeats 8000000 in
theorem max_as (c m : Nat) (hc : c < 4) (hm : Qu.maxN c = m) (w : World) : Calls Tryd.prog 24 #[.int .i64 (c : Int)] w fun e w' => e = .returned (.int .i64 (m : Int)) ∧ w' = w := by
 go_enter Tryd.func24, Tryd.ntmps24
 go_upto_region 1 with fail
 have h4 : c = 0 ∨ c = 1 ∨ c = 2 ∨ c = 3 := by omega
 rcases h4 with rfl | rfl | rfl | rfl
 ·refine wp_region_lit ?_
  refine zr (.int .i64 0) w rfl ?_
  simp only [Act.put, zA, zB, zC]
  refine zr (.bool true) w (xo_eqlT .i64 0 0 (by omega) rfl rfl rfl) ?_
  simp only [Act.put, zA, zB, zC]
  refine zr (.bool true) w rfl ?_
  simp only [Act.put, zA, zB, zC]
  refine zl ?_
  try simp only [Act.put, zA, zB, zC]
  refine zl ?_
  try simp only [Act.put, zA, zB, zC]
  refine zr (.bool true) w rfl ?_
  simp only [Act.put, zA, zB, zC]
  refine wpList_nil ?_
  go_upto_region 2 with fail
  refine wp_region_lit ?_
  refine zr (.int .i64 15) w rfl ?_
  simp only [Act.put, zA, zB, zC]
  refine wpList_nil ?_
  go_wp2_with fail
  go_ret
  exact ⟨by rw [← hm]; rfl, rfl⟩
 ·refine wp_region_lit ?_
  refine zr (.int .i64 1) w rfl ?_
  simp only [Act.put, zA, zB, zC]
  refine zr (.bool false) w (xo_eqlF .i64 1 0 (by omega) rfl rfl rfl) ?_
  simp only [Act.put, zA, zB, zC]
  refine zr (.bool false) w rfl ?_
  simp only [Act.put, zA, zB, zC]
  refine zr (.int .i64 1) w rfl ?_
  simp only [Act.put, zA, zB, zC]
  refine zr (.bool false) w (xo_eqlF .i64 1 2 (by omega) rfl rfl rfl) ?_
  simp only [Act.put, zA, zB, zC]
  refine zr (.bool false) w rfl ?_
  simp only [Act.put, zA, zB, zC]
  refine wpList_nil ?_
  go_upto_region 3 with fail
  refine wp_region_lit ?_
  refine zr (.int .i64 255) w rfl ?_
  simp only [Act.put, zA, zB, zC]
  refine wpList_nil ?_
  go_wp2_with fail
  go_ret
  exact ⟨by rw [← hm]; rfl, rfl⟩
 ·refine wp_region_lit ?_
  refine zr (.int .i64 2) w rfl ?_
  simp only [Act.put, zA, zB, zC]
  refine zr (.bool false) w (xo_eqlF .i64 2 0 (by omega) rfl rfl rfl) ?_
  simp only [Act.put, zA, zB, zC]
  refine zr (.bool false) w rfl ?_
  simp only [Act.put, zA, zB, zC]
  refine zr (.int .i64 2) w rfl ?_
  simp only [Act.put, zA, zB, zC]
  refine zr (.bool true) w (xo_eqlT .i64 2 2 (by omega) rfl rfl rfl) ?_
  simp only [Act.put, zA, zB, zC]
  refine zr (.bool true) w rfl ?_
  simp only [Act.put, zA, zB, zC]
  refine wpList_nil ?_
  go_upto_region 2 with fail
  refine wp_region_lit ?_
  refine zr (.int .i64 15) w rfl ?_
  simp only [Act.put, zA, zB, zC]
  refine wpList_nil ?_
  go_wp2_with fail
  go_ret
  exact ⟨by rw [← hm]; rfl, rfl⟩
 ·refine wp_region_lit ?_
  refine zr (.int .i64 3) w rfl ?_
  simp only [Act.put, zA, zB, zC]
  refine zr (.bool false) w (xo_eqlF .i64 3 0 (by omega) rfl rfl rfl) ?_
  simp only [Act.put, zA, zB, zC]
  refine zr (.bool false) w rfl ?_
  simp only [Act.put, zA, zB, zC]
  refine zr (.int .i64 3) w rfl ?_
  simp only [Act.put, zA, zB, zC]
  refine zr (.bool false) w (xo_eqlF .i64 3 2 (by omega) rfl rfl rfl) ?_
  simp only [Act.put, zA, zB, zC]
  refine zr (.bool false) w rfl ?_
  simp only [Act.put, zA, zB, zC]
  refine wpList_nil ?_
  go_upto_region 3 with fail
  refine wp_region_lit ?_
  refine zr (.int .i64 255) w rfl ?_
  simp only [Act.put, zA, zB, zC]
  refine wpList_nil ?_
  go_wp2_with fail
  go_ret
  exact ⟨by rw [← hm]; rfl, rfl⟩
end Go.Proofs.YtlicfidcfhbmpaaDoor

namespace Go.Proofs.YtlicfidcfhbmpaaDoor
set_option maxRecDepth 8000
open Go.RowKit Go.Proofs.YtlicfidcfhbmpaaDoor.K
attribute [local irreducible] wpList wpQuiet
def _root_.Qu.mdC (e : Qu.Ci) : Qu.Cd := ⟨andN e.col 3, min (andN e.lo 65535 % (Qu.maxN (andN e.col 3) + 1)) (andN e.hi 65535 % (Qu.maxN (andN e.col 3) + 1)), max (andN e.lo 65535 % (Qu.maxN (andN e.col 3) + 1)) (andN e.hi 65535 % (Qu.maxN (andN e.col 3) + 1))⟩
theorem _root_.Qu.mdC_ok (e : Qu.Ci) : (Qu.mdC e).col < 4 ∧ (Qu.mdC e).lo ≤ (Qu.mdC e).hi ∧ (Qu.mdC e).hi ≤ Qu.maxN (Qu.mdC e).col := by
 have h1 := andN_le e.col 3 (by decide)
 have h2 : andN e.lo 65535 % (Qu.maxN (andN e.col 3) + 1) < Qu.maxN (andN e.col 3) + 1 := Nat.mod_lt _ (Nat.succ_pos _)
 have h3 : andN e.hi 65535 % (Qu.maxN (andN e.col 3) + 1) < Qu.maxN (andN e.col 3) + 1 := Nat.mod_lt _ (Nat.succ_pos _)
 simp only [Qu.mdC]
 generalize andN e.lo 65535 % (Qu.maxN (andN e.col 3) + 1) = p at *
 generalize andN e.hi 65535 % (Qu.maxN (andN e.col 3) + 1) = q at *
 refine ⟨by omega, by omega, by omega⟩
set_option maxRecDepth 100000 in
set_option maxHeartbeats 16000000 in
theorem madeCond_any (col lo hi : Int) (w : World) : Calls Tryd.prog 27 #[.agg #[.int .i64 col, .int .i64 lo, .int .i64 hi]] w fun e w' => e = .returned (.agg #[.int .i64 ((Qu.mdC ⟨col, lo, hi⟩).col : Int), .int .i64 ((Qu.mdC ⟨col, lo, hi⟩).lo : Int), .int .i64 ((Qu.mdC ⟨col, lo, hi⟩).hi : Int)]) ∧ Below w.heap.size w w' := by
 obtain ⟨c, hc⟩ : ∃ c, andN col 3 = c := ⟨_, rfl⟩
 have hc4 : c < 4 := by have := andN_le col 3 (by decide); omega
 obtain ⟨m, hm⟩ : ∃ m, Qu.maxN c = m := ⟨_, rfl⟩
 have hm255 : m ≤ 255 := by rw [← hm]; exact Qu.maxN_le _
 obtain ⟨a0, ha0⟩ : ∃ x, andN lo 65535 = x := ⟨_, rfl⟩
 have la0 : a0 ≤ 65535 := by rw [← ha0]; exact andN_le _ _ (by decide)
 obtain ⟨a1, ha1⟩ : ∃ x, andN hi 65535 = x := ⟨_, rfl⟩
 have la1 : a1 ≤ 65535 := by rw [← ha1]; exact andN_le _ _ (by decide)
 obtain ⟨x0, hx0⟩ : ∃ x, a0 % (m + 1) = x := ⟨_, rfl⟩
 have lx0 : x0 ≤ m := by rw [← hx0]; exact Nat.le_of_lt_succ (Nat.mod_lt _ (Nat.succ_pos _))
 obtain ⟨x1, hx1⟩ : ∃ x, a1 % (m + 1) = x := ⟨_, rfl⟩
 have lx1 : x1 ≤ m := by rw [← hx1]; exact Nat.le_of_lt_succ (Nat.mod_lt _ (Nat.succ_pos _))
 have HRR : Hid (Qu.mdC ⟨col, lo, hi⟩ = ⟨c, min x0 x1, max x0 x1⟩) := Lib.hid (by simp only [Qu.mdC, hc, hm, ha0, ha1, hx0, hx1])
 go_enter Tryd.func27, Tryd.ntmps27
 go_upto_region 1 with fail
 refine wp_named2 (fun V1 hb g0 g1 hlt => ?_)
 have B0 := Lib.hid hb
 have Fv0_1 : Hid (V1.heap[w.heap.size]? = some (.cells #[.int .i64 col, .int .i64 lo, .int .i64 hi] 46 (0, 0))) := Lib.hid (g0)
 have Fv1_2 : Hid (V1.heap[(w.heap.size + 1)]? = some (.cells #[.int .i64 0, .int .i64 0, .int .i64 0] 46 (0, 0))) := Lib.hid (g1)
 have Nb0_1 : Hid (w.heap.size ≠ (w.heap.size + 1)) := Lib.hid (by omega)
 have Gb0 : Hid (w.heap.size ≤ w.heap.size) := Lib.hid (by omega)
 have Gb1 : Hid (w.heap.size ≤ (w.heap.size + 1)) := Lib.hid (by omega)
 clear hb g0 g1 hlt
 have Lt0 : Hid (w.heap.size < V1.heap.size) := Lib.hid (xp_lt Fv0_1.out)
 have Lt1 : Hid ((w.heap.size + 1) < V1.heap.size) := Lib.hid (xp_lt Fv1_2.out)
 refine wp_region_lit ?_
 refine zr (.pointer (some ⟨w.heap.size, 0, none⟩)) V1 (xo_fld0 0 w.heap.size 0 (by kernel_rfl) rfl rfl) ?_
 simp only [Act.put, zA, zB, zC]
 refine zr (.int .i64 col) V1 (xo_load1 ⟨w.heap.size, 0, none⟩ _ (cells_at Fv0_1.out 0 rfl) Tryd.underlying3 rfl rfl rfl) ?_
 simp only [Act.put, zA, zB, zC]
 refine zr (.int .i64 (c : Int)) V1 (hc ▸ xo_andI col 3 (by decide) rfl rfl rfl) ?_
 simp only [Act.put, zA, zB, zC]
 refine zr (.agg #[.int .i64 (c : Int), .int .i64 0, .int .i64 0]) V1 (by unfold execOp; go_simp <;> rfl) ?_
 simp only [Act.put, zA, zB, zC]
 refine wpList_new #[.int .i64 0, .int .i64 0, .int .i64 0] 46 (by kernel_rfl) (xo_alloc #[.int .i64 0, .int .i64 0, .int .i64 0] (by kernel_rfl) rfl) ?_
 intro b3 V2 hge h0 hb
 have N2_0 : Hid (w.heap.size ≠ b3) := Lib.hid (xp_lt0 Fv0_1.out hge)
 have N3_1 : Hid ((w.heap.size + 1) ≠ b3) := Lib.hid (xp_lt0 Fv1_2.out hge)
 have Ge4 : Hid (V1.heap.size ≤ b3) := Lib.hid hge
 have B1 := Lib.hid hb
 have Fv5_3 : Hid (V2.heap[b3]? = some (.cells #[.int .i64 0, .int .i64 0, .int .i64 0] 46 (0, 0))) := Lib.hid (h0)
 have Lt6 : Hid (b3 < V2.heap.size) := Lib.hid (xp_lt Fv5_3.out)
 clear hge h0 hb
 simp only [ptr, Act.put, zA, zB, zC]
 refine wpList_storeW b3 #[.int .i64 0, .int .i64 0, .int .i64 0] #[.int .i64 (c : Int), .int .i64 0, .int .i64 0] 46 (by kernel_rfl) Fv5_3.out (xo_storeW b3 #[.int .i64 0, .int .i64 0, .int .i64 0] #[.int .i64 (c : Int), .int .i64 0, .int .i64 0] Fv5_3.out (by kernel_rfl) rfl (by simp [Value.oneCell']) rfl rfl rfl) ?_
 intro X2_7 h1 hfar hbel hsz
 have hbr := hbel _ _ Ge4.out B1.out
 clear B1
 have B1 := Lib.hid hbr
 clear hbr
 clear Fv5_3
 have Fv5_3 : Hid (X2_7.heap[b3]? = some (.cells #[.int .i64 (c : Int), .int .i64 0, .int .i64 0] 46 (0, 0))) := Lib.hid (h1)
 have HszX2_7 := Lib.hid hsz
 clear h1 hfar hbel hsz
 simp only [ptr, Act.put, zA, zB, zC]
 refine wpList_nil ?_
 go_upto_region 2 with fail
 refine wp_region_lit ?_
 refine zr (.pointer (some ⟨b3, 0, none⟩)) X2_7 (xo_fld0 0 b3 0 (by kernel_rfl) rfl rfl) ?_
 simp only [Act.put, zA, zB, zC]
 refine zr (.int .i64 (c : Int)) X2_7 (xo_load1 ⟨b3, 0, none⟩ _ (cells_at Fv5_3.out 0 rfl) Tryd.underlying3 rfl rfl rfl) ?_
 simp only [Act.put, zA, zB, zC]
 refine wpList_call (by kernel_rfl) 24 Tryd.func24 (by kernel_rfl) (by kernel_rfl) _ _ #[.int .i64 (c : Int)] rfl (by kernel_rfl) ?_
 refine (max_as c m hc4 hm X2_7).mono ?_
 rintro e W1 ⟨rfl, hw1⟩
 rw [hw1]
 clear hw1 W1
 refine ⟨_, rfl, ?_⟩
 simp only [Act.put, zA, zB, zC]
 refine zr (.int .i64 ((m + 1 : Nat) : Int)) X2_7 (xo_addI (m : Int) 1 ((m + 1 : Nat) : Int) (by omega) (by omega) (by omega) rfl rfl rfl) ?_
 simp only [Act.put, zA, zB, zC]
 refine zr (.int .i64 ((m + 1 : Nat) : Int)) X2_7 rfl ?_
 simp only [Act.put, zA, zB, zC]
 refine wpList_nil ?_
 go_upto_region 3 with fail
 refine wp_later_lex (by kernel_rfl) (lexOK_of (by kernel_rfl) (by kernel_rfl)) ?_
 refine zv (.pointer (some ⟨w.heap.size, 1, none⟩)) (fun v hv => (xo_fld0 1 w.heap.size 1 (by kernel_rfl) rfl rfl)) ?_
 simp only [Act.put, zA, zB, zC]
 refine zv (.int .i64 lo) (fun v hv => (xo_load1 ⟨w.heap.size, 1, none⟩ _ (cells_at (heap_keep (heap_keep Fv0_1.out B1.out) (later_bel hv)) 1 rfl) Tryd.underlying3 rfl rfl rfl)) ?_
 simp only [Act.put, zA, zB, zC]
 refine zv (.int .i64 (a0 : Int)) (fun v hv => (ha0 ▸ xo_andI lo 65535 (by decide) rfl rfl rfl)) ?_
 simp only [Act.put, zA, zB, zC]
 refine zv (.int .i64 ((m + 1 : Nat) : Int)) (fun v hv => rfl) ?_
 simp only [Act.put, zA, zB, zC]
 refine zv (.int .i64 (x0 : Int)) (fun v hv => (xo_remN .i64 a0 (m + 1) x0 (by omega) hx0 rfl rfl rfl)) ?_
 simp only [Act.put, zA, zB, zC]
 refine zv (.pointer (some ⟨w.heap.size, 2, none⟩)) (fun v hv => (xo_fld0 2 w.heap.size 2 (by kernel_rfl) rfl rfl)) ?_
 simp only [Act.put, zA, zB, zC]
 refine zv (.int .i64 hi) (fun v hv => (xo_load1 ⟨w.heap.size, 2, none⟩ _ (cells_at (heap_keep (heap_keep Fv0_1.out B1.out) (later_bel hv)) 2 rfl) Tryd.underlying3 rfl rfl rfl)) ?_
 simp only [Act.put, zA, zB, zC]
 refine zv (.int .i64 (a1 : Int)) (fun v hv => (ha1 ▸ xo_andI hi 65535 (by decide) rfl rfl rfl)) ?_
 simp only [Act.put, zA, zB, zC]
 refine zv (.int .i64 ((m + 1 : Nat) : Int)) (fun v hv => rfl) ?_
 simp only [Act.put, zA, zB, zC]
 refine zv (.int .i64 (x1 : Int)) (fun v hv => (xo_remN .i64 a1 (m + 1) x1 (by omega) hx1 rfl rfl rfl)) ?_
 simp only [Act.put, zA, zB, zC]
 refine zv (.int .i64 (x0 : Int)) (fun v hv => rfl) ?_
 simp only [Act.put, zA, zB, zC]
 refine zv (.int .i64 (x1 : Int)) (fun v hv => rfl) ?_
 simp only [Act.put, zA, zB, zC]
 refine wpQuiet_nil ?_
 intro X2_8
 have hb := X2_8.below
 generalize X2_8.at = V3 at *
 have B2 := Lib.hid hb
 clear hb
 go_upto_region 4 with fail
 refine wp_region_lit ?_
 refine zr (.int .i64 (x0 : Int)) V3 rfl ?_
 simp only [Act.put, zA, zB, zC]
 refine zr (.int .i64 (x1 : Int)) V3 rfl ?_
 simp only [Act.put, zA, zB, zC]
 refine zr (.int .i64 ((min x0 x1 : Nat) : Int)) V3 (xo_min .i64 (x0 : Int) (x1 : Int) ((min x0 x1 : Nat) : Int) (by split <;> omega) rfl rfl rfl) ?_
 simp only [Act.put, zA, zB, zC]
 refine zr (.pointer (some ⟨b3, 1, none⟩)) V3 (xo_fld0 1 b3 1 (by kernel_rfl) rfl rfl) ?_
 simp only [Act.put, zA, zB, zC]
 refine wpList_store1 b3 1 #[.int .i64 (c : Int), .int .i64 0, .int .i64 0] (.int .i64 ((min x0 x1 : Nat) : Int)) 46 (by kernel_rfl) (heap_keep Fv5_3.out B2.out) (xo_store1 b3 1 #[.int .i64 (c : Int), .int .i64 0, .int .i64 0] _ (.int .i64 ((min x0 x1 : Nat) : Int)) (heap_keep Fv5_3.out B2.out) rfl (by kernel_rfl) rfl rfl rfl rfl) ?_
 intro X3_9 h1 hfar hbel hsz
 have C1_3 := zb B1 B2
 have hbr := hbel _ _ Ge4.out C1_3.out
 clear B1
 have B1 := Lib.hid hbr
 clear hbr
 clear Fv5_3
 have Fv5_3 : Hid (X3_9.heap[b3]? = some (.cells #[.int .i64 (c : Int), .int .i64 ((min x0 x1 : Nat) : Int), .int .i64 0] 46 (0, 0))) := Lib.hid (h1)
 have HszX3_9 := Lib.hid hsz
 clear h1 hfar hbel hsz
 simp only [ptr, Act.put, zA, zB, zC]
 refine wpList_nil ?_
 go_upto_region 5 with fail
 refine wp_region_lit ?_
 refine zr (.int .i64 (x0 : Int)) X3_9 rfl ?_
 simp only [Act.put, zA, zB, zC]
 refine zr (.int .i64 (x1 : Int)) X3_9 rfl ?_
 simp only [Act.put, zA, zB, zC]
 refine zr (.int .i64 ((max x0 x1 : Nat) : Int)) X3_9 (xo_max .i64 (x0 : Int) (x1 : Int) ((max x0 x1 : Nat) : Int) (by split <;> omega) rfl rfl rfl) ?_
 simp only [Act.put, zA, zB, zC]
 refine zr (.pointer (some ⟨b3, 2, none⟩)) X3_9 (xo_fld0 2 b3 2 (by kernel_rfl) rfl rfl) ?_
 simp only [Act.put, zA, zB, zC]
 refine wpList_store1 b3 2 #[.int .i64 (c : Int), .int .i64 ((min x0 x1 : Nat) : Int), .int .i64 0] (.int .i64 ((max x0 x1 : Nat) : Int)) 46 (by kernel_rfl) Fv5_3.out (xo_store1 b3 2 #[.int .i64 (c : Int), .int .i64 ((min x0 x1 : Nat) : Int), .int .i64 0] _ (.int .i64 ((max x0 x1 : Nat) : Int)) Fv5_3.out rfl (by kernel_rfl) rfl rfl rfl rfl) ?_
 intro X2_10 h1 hfar hbel hsz
 have hbr := hbel _ _ Ge4.out B1.out
 clear B1
 have B1 := Lib.hid hbr
 clear hbr
 clear Fv5_3
 have Fv5_3 : Hid (X2_10.heap[b3]? = some (.cells #[.int .i64 (c : Int), .int .i64 ((min x0 x1 : Nat) : Int), .int .i64 ((max x0 x1 : Nat) : Int)] 46 (0, 0))) := Lib.hid (h1)
 have HszX2_10 := Lib.hid hsz
 clear h1 hfar hbel hsz
 simp only [ptr, Act.put, zA, zB, zC]
 refine wpList_nil ?_
 go_upto_region 6 with fail
 refine wp_region_lit ?_
 refine zr (.agg #[.int .i64 (c : Int), .int .i64 ((min x0 x1 : Nat) : Int), .int .i64 ((max x0 x1 : Nat) : Int)]) X2_10 (xo_loadW b3 _ Fv5_3.out Tryd.underlying46 rfl (by kernel_rfl) rfl rfl) ?_
 simp only [Act.put, zA, zB, zC]
 refine wpList_storeW (w.heap.size + 1) #[.int .i64 0, .int .i64 0, .int .i64 0] #[.int .i64 (c : Int), .int .i64 ((min x0 x1 : Nat) : Int), .int .i64 ((max x0 x1 : Nat) : Int)] 46 (by kernel_rfl) (heap_keep Fv1_2.out B1.out) (xo_storeW (w.heap.size + 1) #[.int .i64 0, .int .i64 0, .int .i64 0] #[.int .i64 (c : Int), .int .i64 ((min x0 x1 : Nat) : Int), .int .i64 ((max x0 x1 : Nat) : Int)] (heap_keep Fv1_2.out B1.out) (by kernel_rfl) rfl (by simp [Value.oneCell']) rfl rfl rfl) ?_
 intro X2_11 h1 hfar hbel hsz
 have YFv0_1 : X2_11.heap[w.heap.size]? = some (.cells #[.int .i64 col, .int .i64 lo, .int .i64 hi] 46 (0, 0)) := hfar _ _ Nb0_1.out (heap_keep Fv0_1.out B1.out)
 have YFv5_3 : X2_11.heap[b3]? = some (.cells #[.int .i64 (c : Int), .int .i64 ((min x0 x1 : Nat) : Int), .int .i64 ((max x0 x1 : Nat) : Int)] 46 (0, 0)) := hfar _ _ (Ne.symm N3_1.out) Fv5_3.out
 have Gs12 : Hid (w.heap.size ≤ b3) := Lib.hid (Nat.le_trans B0.out.size Ge4.out)
 have C0_2 := zb B0 B1
 have hbr := hbel _ _ Gb1.out C0_2.out
 clear B0
 have B0 := Lib.hid hbr
 clear hbr
 clear Fv0_1
 have Fv0_1 : Hid (X2_11.heap[w.heap.size]? = some (.cells #[.int .i64 col, .int .i64 lo, .int .i64 hi] 46 (0, 0))) := Lib.hid YFv0_1
 clear YFv0_1
 clear Fv5_3
 have Fv5_3 : Hid (X2_11.heap[b3]? = some (.cells #[.int .i64 (c : Int), .int .i64 ((min x0 x1 : Nat) : Int), .int .i64 ((max x0 x1 : Nat) : Int)] 46 (0, 0))) := Lib.hid YFv5_3
 clear YFv5_3
 clear Fv1_2
 have Fv1_2 : Hid (X2_11.heap[(w.heap.size + 1)]? = some (.cells #[.int .i64 (c : Int), .int .i64 ((min x0 x1 : Nat) : Int), .int .i64 ((max x0 x1 : Nat) : Int)] 46 (0, 0))) := Lib.hid (h1)
 have HszX2_11 := Lib.hid hsz
 clear h1 hfar hbel hsz
 simp only [ptr, Act.put, zA, zB, zC]
 refine wpList_nil ?_
 have hbf := B0.out
 go_wp2_with fail
 refine bodyPost_ret (v := .agg #[.int .i64 (c : Int), .int .i64 ((min x0 x1 : Nat) : Int), .int .i64 ((max x0 x1 : Nat) : Int)]) ?_ rfl ⟨by rw [HRR.out], hbf⟩
 exact results_cell_row rfl _ _ (w.heap.size + 1) 46 _ (0, 0) _ rfl Fv1_2.out Tryd.underlying46 rfl (by kernel_rfl)
end Go.Proofs.YtlicfidcfhbmpaaDoor

namespace Go.Proofs.YtlicfidcfhbmpaaDoor
set_option maxRecDepth 8000
open Go.ChangeShapes Go.WideShapes Go.ChangeAt Go.RowKit Go.Joins Go.Deep Go.Proofs.YtlicfidcfhbmpaaDoor.K
theorem own : ownKnob Tryd.prog.godebug = none := by kernel_rfl
theorem laidOut : laidOutB Tryd.prog = true := by kernel_rfl
section
variable {H : Type} {enc : TypeId × Value → H} {W : World} {base : Nat} {sp : Nat → Bool} {b1 : Nat} {hd : Bool} {v : Value} {d : DataW H} {p : List MemPlace}
theorem cells13I : Tryd.prog.cellsOf 3 = 1 := by kernel_rfl
theorem cells13S : Tryd.prog.cellsOf 9 = 1 := by kernel_rfl
theorem cells13C : Tryd.prog.cellsOf 62 = 2 := by kernel_rfl
theorem cells13T : Tryd.prog.cellsOf 63 = 8 := by kernel_rfl
theorem cells13R : Tryd.prog.cellsOf 26 = 4 := by kernel_rfl
theorem open13_reading (hv : Value.okWide Tryd.prog W .any base 26 v) (h : DataW.Trod enc Tryd.prog W b1 sp hd 26 v d p) : ∃ a b k q : Int, v = .agg #[.int .i64 a, .int .i64 b, .int .i64 k, .int .i64 q] := by
 obtain ⟨cs, rfl, hsz, _⟩ : ∃ cs, v = .agg cs ∧ cs.size = Tryd.prog.cellsOf 26 ∧ Row.okWide Tryd.prog W .any base 26 cs := by
  simpa [Value.okWide, Tryd.underlying26] using hv
 rw [cells13R] at hsz
 obtain ⟨c0, c1, c2, c3, rfl⟩ : ∃ c0 c1 c2 c3, cs = #[c0, c1, c2, c3] := by
  match cs, hsz with
  | ⟨[c0, c1, c2, c3]⟩, _ => exact ⟨c0, c1, c2, c3, rfl⟩
 obtain ⟨fuel, hf⟩ := h
 obtain ⟨ys, m', _, _, _, hn, hel⟩ := DataW.trod_struct Tryd.underlying26 (show DataW.trod enc Tryd.prog W b1 sp hd fuel 26 [c0, c1, c2, c3] = some (d, p) by simpa [Value.cells] using hf)
 match ys, hn with
 | [y0, y1, y2, y3], _ =>
  have g0 : DataW.trod enc Tryd.prog W b1 sp hd m' 3 [c0] = some y0 := by simpa [cells13I] using hel 0 _ rfl
  have g1 : DataW.trod enc Tryd.prog W b1 sp hd m' 3 [c1] = some y1 := by simpa [cells13I] using hel 1 _ rfl
  have g2 : DataW.trod enc Tryd.prog W b1 sp hd m' 3 [c2] = some y2 := by simpa [cells13I] using hel 2 _ rfl
  have g3 : DataW.trod enc Tryd.prog W b1 sp hd m' 3 [c3] = some y3 := by simpa [cells13I] using hel 3 _ rfl
  obtain ⟨a0, e0, _, _⟩ := DataW.trod_int Tryd.underlying3 g0
  obtain ⟨a1, e1, _, _⟩ := DataW.trod_int Tryd.underlying3 g1
  obtain ⟨a2, e2, _, _⟩ := DataW.trod_int Tryd.underlying3 g2
  obtain ⟨a3, e3, _, _⟩ := DataW.trod_int Tryd.underlying3 g3
  simp at e0 e1 e2 e3
  subst e0 e1 e2 e3
  exact ⟨a0, a1, a2, a3, rfl⟩
theorem trod13_col {fuel : Nat} {c0 c1 : Value} {s : List UInt8} {z : Int} {q : List MemPlace} (h : DataW.trod enc Tryd.prog W b1 sp hd fuel 62 [c0, c1] = some (.agg [.lit (.string s), .lit (.int .i64 z)], q)) : c0 = .string (sB s) ∧ c1 = .int .i64 z := by
 obtain ⟨ys, m', _, hx, _, hn, hel⟩ := DataW.trod_struct Tryd.underlying62 h
 match ys, hn with
 | [y0, y1], _ =>
  have g0 : DataW.trod enc Tryd.prog W b1 sp hd m' 9 [c0] = some y0 := by simpa [cells13S] using hel 0 _ rfl
  have g1 : DataW.trod enc Tryd.prog W b1 sp hd m' 3 [c1] = some y1 := by simpa [cells13I] using hel 1 _ rfl
  obtain ⟨b0, e0, x0, _⟩ := DataW.trod_string Tryd.underlying9 g0
  obtain ⟨a1, e1, x1, _⟩ := DataW.trod_int Tryd.underlying3 g1
  subst x0
  have hx' := congrArg Prod.fst hx
  simp [x1] at hx' e0 e1
  obtain ⟨rfl, rfl⟩ := hx'
  subst e0 e1
  exact ⟨by rw [sB_of], rfl⟩
end
def laid13 : List (String × DataW Unit) := [("attestor/query.columns", Rows.laid_attestor_query_columns)]
theorem of_laid13 {W : World} (h : laidMetH Tryd.prog laid13 W) : Gc W := by
 rw [MakeChecks.laidMetH_plain _ _ _ (by kernel_rfl)] at h
 obtain ⟨ps, ⟨g', t', cs, fuel, p, q, hg', ht', hvar, hd, _, _⟩, _⟩ := h
 have g1 : Tryd.prog.globalNamed "attestor/query.columns" = some 0 := by kernel_rfl
 obtain rfl := Option.some.inj (g1.symm.trans hg')
 have t1 : (Tryd.prog.globals[0]?).map (·.type) = some 63 := by kernel_rfl
 obtain rfl := Option.some.inj (t1.symm.trans ht')
 obtain ⟨xs, m, _, hx, hl, hn, hel⟩ := DataW.trod_array Tryd.underlying63 hd
 rw [cells13T] at hl
 rw [cells13C] at hel
 have hx' := congrArg Prod.fst hx
 match cs, hl, xs, hn with
 | ⟨[c0, c1, c2, c3, c4, c5, c6, c7]⟩, _, [y0, y1, y2, y3], _ =>
  simp [Rows.laid_attestor_query_columns] at hx'
  obtain ⟨h0, h1, h2, h3⟩ := hx'
  have k0 := hel 0 (by omega)
  have k1 := hel 1 (by omega)
  have k2 := hel 2 (by omega)
  have k3 := hel 3 (by omega)
  simp at k0 k1 k2 k3
  obtain ⟨e0, e1⟩ := trod13_col (q := y0.2) (by rw [k0]; rw [h0])
  obtain ⟨e2, e3⟩ := trod13_col (q := y1.2) (by rw [k1]; rw [h1])
  obtain ⟨e4, e5⟩ := trod13_col (q := y2.2) (by rw [k2]; rw [h2])
  obtain ⟨e6, e7⟩ := trod13_col (q := y3.2) (by rw [k3]; rw [h3])
  subst e0 e1 e2 e3 e4 e5 e6 e7
  intro j v hv
  rw [Nat.zero_add]
  have hc := World.var?_cell g1 hvar j
  rw [hc]
  simpa [Qu.nameN] using hv
theorem door_met13 (os : Os) (args : Array Value) : laidMetH Tryd.prog laid13 ((World.doorLaid Tryd.prog 400 os).forCall (fun _ _ => 0) ⟨#[], args, []⟩).memory :=
 laidMetH_of_parts3 (fuel := 8) (laidMet_of_run' 8 (by kernel_rfl) (by kernel_rfl)) (by kernel_rfl) (by kernel_rfl)
end Go.Proofs.YtlicfidcfhbmpaaDoor

namespace Go.Proofs.YtlicfidcfhbmpaaDoor.K
set_option maxRecDepth 8000
open Go.ChangeShapes Go.WideShapes Go.ChangeAt Go.RowKit Go.Joins Go.Deep
theorem list_ofK {α : Type} (n : Nat) (P : Nat → α → Prop) (h : ∀ i, i < n → ∃ x, P i x) : ∃ l : List α, l.length = n ∧ ∀ i x, l[i]? = some x → P i x := by
 induction n with
 | zero => exact ⟨[], rfl, fun i x hx => by simp at hx⟩
 | succ n ih =>
  obtain ⟨l, hl, hp⟩ := ih fun i hi => h i (by omega)
  obtain ⟨x, hx⟩ := h n (Nat.lt_succ_self n)
  refine ⟨l ++ [x], by simp [hl], fun i y hy => ?_⟩
  by_cases hi : i < l.length
  ·rw [List.getElem?_append_left hi] at hy
   exact hp i y hy
  ·rw [List.getElem?_append_right (by omega)] at hy
   have e : i = n := by
    have := (List.getElem?_eq_some_iff.1 hy).1
    simp at this
    omega
   subst e
   rw [hl, Nat.sub_self] at hy
   simp at hy
   subst hy
   exact hx
section
variable {α : Type} {E : α → List Value} {k : Nat} [hE : Enc E k] {P : Program} {H : Type} {enc : TypeId × Value → H} {W : World} {b1 : Nat} {sp : Nat → Bool} {hd : Bool} {t e : TypeId}
/-- a slice that comes in, its elements opened -/
theorem open_seq (p : α → Prop) (hu : P.underlying t = some (.slice e)) (hc : P.cellsOf e = k) (hel : ∀ m cs y, cs.length = k → DataW.trod enc P W b1 sp hd m e cs = some y → ∃ x, cs = E x ∧ p x) {m : Nat} {cs : List Value} {y : DataW H × List MemPlace} (h : DataW.trod enc P W b1 sp hd m t cs = some y) :
  ∃ A n c xs, cs = [.slice A n c] ∧ Sg E k W A n c xs ∧ ∀ x ∈ xs, p x := by
 have hk := hE.pos
 rcases open_slice hu h with ⟨hcs, _⟩ | ⟨a, len, cap, m', n', D, Pl, hcs, _, hl, hm, hmm, _, hi⟩
 ·exact ⟨none, 0, 0, [], hcs, Sg.nil_ _, fun x hx => by cases hx⟩
 ·unfold maxLen at hm
  have hC : ∀ i, i < len → ∃ x, p x ∧ ∀ j v, (E x)[j]? = some v → W.cell? ((a.add (i * k)).add j) = some v := fun i hin => by
   obtain ⟨cs', hc2, ht⟩ := hi i (by rw [hmm]; split <;> omega)
   rw [hc] at hc2
   obtain ⟨_, hcl, hat⟩ := World.cells?_some hc2
   obtain ⟨x, hx, hpx⟩ := hel _ _ _ hcl ht
   subst hx
   exact ⟨x, hpx, fun j v hv => (hat j (by rw [← hE.len x]; exact (List.getElem?_eq_some_iff.1 hv).1)).trans hv⟩
  obtain ⟨xs, hxl, hxx⟩ := list_ofK len _ hC
  refine ⟨some a, len, cap, xs, hcs, ⟨hxl, hl, by omega, fun e => (by cases e), fun i x hx => ?_⟩, fun x hx => ?_⟩
  ·have hil := (List.getElem?_eq_some_iff.1 hx).1
   obtain ⟨b, off, s⟩ := a
   obtain ⟨x0, hx0⟩ : ∃ x0, xs[0]? = some x0 := ⟨_, List.getElem?_eq_getElem (by omega)⟩
   obtain ⟨v0, hv0⟩ : ∃ v0, (E x0)[0]? = some v0 := ⟨_, List.getElem?_eq_getElem (by rw [hE.len]; exact hk)⟩
   have h0 := (hxx 0 x0 hx0).2 0 v0 hv0
   rw [Nat.zero_mul] at h0
   have hs : s = none := by
    cases s with
    | none => rfl
    | some q =>
     simp only [Addr.add, if_true, World.cell?] at h0
     split at h0 <;> simp at h0
   subst hs
   refine ⟨b, off, rfl, fun j v hv => ?_⟩
   have h1 := (hxx i x hx).2 j v hv
   rw [Addr.add_mid, Addr.add_mid] at h1
   exact h1
  ·obtain ⟨i, hi'⟩ := List.getElem?_of_mem hx
   exact (hxx i x hi').1
end
end Go.Proofs.YtlicfidcfhbmpaaDoor.K
namespace Go.Proofs.YtlicfidcfhbmpaaDoor
open Go.ChangeShapes Go.WideShapes Go.ChangeAt Go.RowKit Go.Joins Go.Deep Go.Proofs.YtlicfidcfhbmpaaDoor.K
section
variable {H : Type} {enc : TypeId × Value → H} {W : World} {base : Nat} {sp : Nat → Bool} {b1 : Nat} {hd : Bool} {v : Value} {d : DataW H} {p : List MemPlace}
theorem cells13D : Tryd.prog.cellsOf 46 = 3 := by kernel_rfl
set_option maxRecDepth 100000 in
theorem trod13_cond {m : Nat} {cs : List Value} {y : DataW H × List MemPlace} (hl : cs.length = 3) (h : DataW.trod enc Tryd.prog W b1 sp hd m 46 cs = some y) : ∃ x : Qu.Ci, cs = ciC x := by
 obtain ⟨ys, m', _, _, _, hn, hel⟩ := DataW.trod_struct Tryd.underlying46 h
 match cs, hl, ys, hn with
 | [c0, c1, c2], _, [y0, y1, y2], _ =>
  have g0 : DataW.trod enc Tryd.prog W b1 sp hd m' 3 [c0] = some y0 := by simpa [cells13I] using hel 0 _ rfl
  have g1 : DataW.trod enc Tryd.prog W b1 sp hd m' 3 [c1] = some y1 := by simpa [cells13I] using hel 1 _ rfl
  have g2 : DataW.trod enc Tryd.prog W b1 sp hd m' 3 [c2] = some y2 := by simpa [cells13I] using hel 2 _ rfl
  obtain ⟨a0, e0, _, _⟩ := DataW.trod_int Tryd.underlying3 g0
  obtain ⟨a1, e1, _, _⟩ := DataW.trod_int Tryd.underlying3 g1
  obtain ⟨a2, e2, _, _⟩ := DataW.trod_int Tryd.underlying3 g2
  simp at e0 e1 e2
  subst e0 e1 e2
  exact ⟨⟨a0, a1, a2⟩, rfl⟩
set_option maxRecDepth 100000 in
theorem open13_cond (hv : Value.okWide Tryd.prog W .any base 46 v) (h : DataW.Trod enc Tryd.prog W b1 sp hd 46 v d p) : ∃ a b c : Int, v = .agg #[.int .i64 a, .int .i64 b, .int .i64 c] := by
 obtain ⟨cs, rfl, hsz, _⟩ : ∃ cs, v = .agg cs ∧ cs.size = Tryd.prog.cellsOf 46 ∧ Row.okWide Tryd.prog W .any base 46 cs := by
  simpa [Value.okWide, Tryd.underlying46] using hv
 rw [cells13D] at hsz
 obtain ⟨fuel, hf⟩ := h
 obtain ⟨x, hx⟩ := trod13_cond (enc := enc) (cs := cs.toList) (by simpa using hsz) (show DataW.trod enc Tryd.prog W b1 sp hd fuel 46 cs.toList = some (d, p) by simpa [Value.cells] using hf)
 refine ⟨x.col, x.lo, x.hi, ?_⟩
 have e : cs = (ciC x).toArray := by rw [← hx]
 rw [e]
 rfl
set_option maxRecDepth 100000 in
theorem open13_conds (hv : Value.okWide Tryd.prog W .any base 28 v) (h : DataW.Trod enc Tryd.prog W b1 sp hd 28 v d p) : ∃ (A : Option Addr) (n c : Nat) (xs : List Qu.Ci), v = .slice A n c ∧ Sg ciC 3 W A n c xs := by
 obtain ⟨A, n, c, rfl⟩ : ∃ A n c, v = .slice A n c := okWide_slice Tryd.underlying28 hv
 obtain ⟨fuel, hf⟩ := h
 obtain ⟨A2, n2, c2, xs, e, hs, _⟩ := open_seq (E := ciC) (fun _ => True) Tryd.underlying28 cells13D (fun m cs y hl hy => by obtain ⟨x, e⟩ := trod13_cond hl hy; exact ⟨x, e, trivial⟩) (show DataW.trod enc Tryd.prog W b1 sp hd fuel 28 [.slice A n c] = some (d, p) by simpa [Value.cells] using hf)
 simp only [List.cons.injEq, Value.slice.injEq, and_true] at e
 obtain ⟨rfl, rfl, rfl⟩ := e
 exact ⟨A, n, c, xs, rfl, hs⟩
end
end Go.Proofs.YtlicfidcfhbmpaaDoor

