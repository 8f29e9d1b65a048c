/- Several texts in one: Yu, Yy, Yz, Yae, Yaf, Yag, Yah, Yai, Yaj, Yak, Yal. -/
import Derived.Test.YtlicfidcfhbmpaaDoorTw17
import Derived.Test.YtlicfidcfhbmpaaDoorTw14
import Derived.Test.YtlicfidcfhbmpaaDoorTw15
set_option linter.unusedVariables false
set_option linter.unusedSimpArgs false
set_option linter.unusedSectionVars false
namespace Go.Proofs.YtlicfidcfhbmpaaDoor
set_option maxRecDepth 8000
open Go.RowKit Go.Proofs.YtlicfidcfhbmpaaDoor.K
attribute [local irreducible] wpList wpQuiet
/-- bits in common with a number -/
def andN (u : Int) (v : Nat) : Nat := (BitVec.ofInt 64 u &&& BitVec.ofInt 64 (v : Int)).toNat
theorem andN_le (u : Int) (v : Nat) (hv : v < 2 ^ 64) : andN u v ≤ v := by
 unfold andN
 rw [BitVec.toNat_and]
 refine Nat.le_trans Nat.and_le_right ?_
 rw [BitVec.ofInt_natCast, BitVec.toNat_ofNat]
 exact Nat.mod_le _ _
theorem xo_andI {P : Program} {ev : Operand → Value} {o : Oper} {w : World} {x y : Operand} {ty t : TypeId} (u : Int) (v : Nat) (hv : v < 2 ^ 63) (ho : o.op = .binOp .and ty x y t) (hx : ev x = .int .i64 u) (hy : ev y = .int .i64 (v : Int)) : (execOp ev o).run P w = .ok (.value (.int .i64 (andN u v : Int))) w := by
 have hl := andN_le u v (by omega)
 have hr : IntKind.i64.wrap (andN u v : Int) = (andN u v : Int) := by rw [IntKind.wrap_i64]; omega
 have e : (Op.intBits .and .i64 u (v : Int)).run P w = .ok (.int .i64 (andN u v : Int)) w := by
  simp only [Op.intBits]
  show _ = Result.ok (Value.int .i64 ((andN u v : Nat) : Int)) w
  rw [← hr]
  rfl
 unfold execOp
 simp [ho, hx, hy, eqGuard, binOp, Sem.run_bind, e]
set_option maxRecDepth 100000 in
set_option maxHeartbeats 8000000 in
theorem max_as (c m : Nat) (hc : c < 4) (hm : Qu.maxN c = m) (w : World) : Calls Tryd.prog 24 #[.int .i64 (c : Int)] w fun e w' => e = .returned (.int .i64 (m : Int)) ∧ w' = w := by
 go_enter Tryd.func24, Tryd.ntmps24
 go_upto_region 1 with fail
 have h4 : c = 0 ∨ c = 1 ∨ c = 2 ∨ c = 3 := by omega
 rcases h4 with rfl | rfl | rfl | rfl
 ·refine wp_region_lit ?_
  refine zr (.int .i64 0) w rfl ?_
  simp only [Act.put, zA, zB, zC]
  refine zr (.bool true) w (xo_eqlT .i64 0 0 (by omega) rfl rfl rfl) ?_
  simp only [Act.put, zA, zB, zC]
  refine zr (.bool true) w rfl ?_
  simp only [Act.put, zA, zB, zC]
  refine zl ?_
  try simp only [Act.put, zA, zB, zC]
  refine zl ?_
  try simp only [Act.put, zA, zB, zC]
  refine zr (.bool true) w rfl ?_
  simp only [Act.put, zA, zB, zC]
  refine wpList_nil ?_
  go_upto_region 2 with fail
  refine wp_region_lit ?_
  refine zr (.int .i64 15) w rfl ?_
  simp only [Act.put, zA, zB, zC]
  refine wpList_nil ?_
  go_wp2_with fail
  go_ret
  exact ⟨by rw [← hm]; rfl, rfl⟩
 ·refine wp_region_lit ?_
  refine zr (.int .i64 1) w rfl ?_
  simp only [Act.put, zA, zB, zC]
  refine zr (.bool false) w (xo_eqlF .i64 1 0 (by omega) rfl rfl rfl) ?_
  simp only [Act.put, zA, zB, zC]
  refine zr (.bool false) w rfl ?_
  simp only [Act.put, zA, zB, zC]
  refine zr (.int .i64 1) w rfl ?_
  simp only [Act.put, zA, zB, zC]
  refine zr (.bool false) w (xo_eqlF .i64 1 2 (by omega) rfl rfl rfl) ?_
  simp only [Act.put, zA, zB, zC]
  refine zr (.bool false) w rfl ?_
  simp only [Act.put, zA, zB, zC]
  refine wpList_nil ?_
  go_upto_region 3 with fail
  refine wp_region_lit ?_
  refine zr (.int .i64 255) w rfl ?_
  simp only [Act.put, zA, zB, zC]
  refine wpList_nil ?_
  go_wp2_with fail
  go_ret
  exact ⟨by rw [← hm]; rfl, rfl⟩
 ·refine wp_region_lit ?_
  refine zr (.int .i64 2) w rfl ?_
  simp only [Act.put, zA, zB, zC]
  refine zr (.bool false) w (xo_eqlF .i64 2 0 (by omega) rfl rfl rfl) ?_
  simp only [Act.put, zA, zB, zC]
  refine zr (.bool false) w rfl ?_
  simp only [Act.put, zA, zB, zC]
  refine zr (.int .i64 2) w rfl ?_
  simp only [Act.put, zA, zB, zC]
  refine zr (.bool true) w (xo_eqlT .i64 2 2 (by omega) rfl rfl rfl) ?_
  simp only [Act.put, zA, zB, zC]
  refine zr (.bool true) w rfl ?_
  simp only [Act.put, zA, zB, zC]
  refine wpList_nil ?_
  go_upto_region 2 with fail
  refine wp_region_lit ?_
  refine zr (.int .i64 15) w rfl ?_
  simp only [Act.put, zA, zB, zC]
  refine wpList_nil ?_
  go_wp2_with fail
  go_ret
  exact ⟨by rw [← hm]; rfl, rfl⟩
 ·refine wp_region_lit ?_
  refine zr (.int .i64 3) w rfl ?_
  simp only [Act.put, zA, zB, zC]
  refine zr (.bool false) w (xo_eqlF .i64 3 0 (by omega) rfl rfl rfl) ?_
  simp only [Act.put, zA, zB, zC]
  refine zr (.bool false) w rfl ?_
  simp only [Act.put, zA, zB, zC]
  refine zr (.int .i64 3) w rfl ?_
  simp only [Act.put, zA, zB, zC]
  refine zr (.bool false) w (xo_eqlF .i64 3 2 (by omega) rfl rfl rfl) ?_
  simp only [Act.put, zA, zB, zC]
  refine zr (.bool false) w rfl ?_
  simp only [Act.put, zA, zB, zC]
  refine wpList_nil ?_
  go_upto_region 3 with fail
  refine wp_region_lit ?_
  refine zr (.int .i64 255) w rfl ?_
  simp only [Act.put, zA, zB, zC]
  refine wpList_nil ?_
  go_wp2_with fail
  go_ret
  exact ⟨by rw [← hm]; rfl, rfl⟩
end Go.Proofs.YtlicfidcfhbmpaaDoor

namespace Go.Proofs.YtlicfidcfhbmpaaDoor
set_option maxRecDepth 8000
open Go.RowKit Go.Proofs.YtlicfidcfhbmpaaDoor.K
attribute [local irreducible] wpList wpQuiet
def _root_.Qu.mdC (e : Qu.Ci) : Qu.Cd := ⟨andN e.col 3, min (andN e.lo 65535 % (Qu.maxN (andN e.col 3) + 1)) (andN e.hi 65535 % (Qu.maxN (andN e.col 3) + 1)), max (andN e.lo 65535 % (Qu.maxN (andN e.col 3) + 1)) (andN e.hi 65535 % (Qu.maxN (andN e.col 3) + 1))⟩
theorem _root_.Qu.mdC_ok (e : Qu.Ci) : (Qu.mdC e).col < 4 ∧ (Qu.mdC e).lo ≤ (Qu.mdC e).hi ∧ (Qu.mdC e).hi ≤ Qu.maxN (Qu.mdC e).col := by
 have h1 := andN_le e.col 3 (by decide)
 have h2 : andN e.lo 65535 % (Qu.maxN (andN e.col 3) + 1) < Qu.maxN (andN e.col 3) + 1 := Nat.mod_lt _ (Nat.succ_pos _)
 have h3 : andN e.hi 65535 % (Qu.maxN (andN e.col 3) + 1) < Qu.maxN (andN e.col 3) + 1 := Nat.mod_lt _ (Nat.succ_pos _)
 simp only [Qu.mdC]
 generalize andN e.lo 65535 % (Qu.maxN (andN e.col 3) + 1) = p at *
 generalize andN e.hi 65535 % (Qu.maxN (andN e.col 3) + 1) = q at *
 refine ⟨by omega, by omega, by omega⟩
set_option maxRecDepth 100000 in
set_option maxHeartbeats 16000000 in
theorem madeCond_any (col lo hi : Int) (w : World) : Calls Tryd.prog 27 #[.agg #[.int .i64 col, .int .i64 lo, .int .i64 hi]] w fun e w' => e = .returned (.agg #[.int .i64 ((Qu.mdC ⟨col, lo, hi⟩).col : Int), .int .i64 ((Qu.mdC ⟨col, lo, hi⟩).lo : Int), .int .i64 ((Qu.mdC ⟨col, lo, hi⟩).hi : Int)]) ∧ Below w.heap.size w w' := by
 obtain ⟨c, hc⟩ : ∃ c, andN col 3 = c := ⟨_, rfl⟩
 have hc4 : c < 4 := by have := andN_le col 3 (by decide); omega
 obtain ⟨m, hm⟩ : ∃ m, Qu.maxN c = m := ⟨_, rfl⟩
 have hm255 : m ≤ 255 := by rw [← hm]; exact Qu.maxN_le _
 obtain ⟨a0, ha0⟩ : ∃ x, andN lo 65535 = x := ⟨_, rfl⟩
 have la0 : a0 ≤ 65535 := by rw [← ha0]; exact andN_le _ _ (by decide)
 obtain ⟨a1, ha1⟩ : ∃ x, andN hi 65535 = x := ⟨_, rfl⟩
 have la1 : a1 ≤ 65535 := by rw [← ha1]; exact andN_le _ _ (by decide)
 obtain ⟨x0, hx0⟩ : ∃ x, a0 % (m + 1) = x := ⟨_, rfl⟩
 have lx0 : x0 ≤ m := by rw [← hx0]; exact Nat.le_of_lt_succ (Nat.mod_lt _ (Nat.succ_pos _))
 obtain ⟨x1, hx1⟩ : ∃ x, a1 % (m + 1) = x := ⟨_, rfl⟩
 have lx1 : x1 ≤ m := by rw [← hx1]; exact Nat.le_of_lt_succ (Nat.mod_lt _ (Nat.succ_pos _))
 have HRR : Hid (Qu.mdC ⟨col, lo, hi⟩ = ⟨c, min x0 x1, max x0 x1⟩) := Lib.hid (by simp only [Qu.mdC, hc, hm, ha0, ha1, hx0, hx1])
 go_enter Tryd.func27, Tryd.ntmps27
 go_upto_region 1 with fail
 refine wp_named2 (fun V1 hb g0 g1 hlt => ?_)
 have B0 := Lib.hid hb
 have Fv0_1 : Hid (V1.heap[w.heap.size]? = some (.cells #[.int .i64 col, .int .i64 lo, .int .i64 hi] 46 (0, 0))) := Lib.hid (g0)
 have Fv1_2 : Hid (V1.heap[(w.heap.size + 1)]? = some (.cells #[.int .i64 0, .int .i64 0, .int .i64 0] 46 (0, 0))) := Lib.hid (g1)
 have Nb0_1 : Hid (w.heap.size ≠ (w.heap.size + 1)) := Lib.hid (by omega)
 have Gb0 : Hid (w.heap.size ≤ w.heap.size) := Lib.hid (by omega)
 have Gb1 : Hid (w.heap.size ≤ (w.heap.size + 1)) := Lib.hid (by omega)
 clear hb g0 g1 hlt
 have Lt0 : Hid (w.heap.size < V1.heap.size) := Lib.hid (xp_lt Fv0_1.out)
 have Lt1 : Hid ((w.heap.size + 1) < V1.heap.size) := Lib.hid (xp_lt Fv1_2.out)
 refine wp_region_lit ?_
 refine zr (.pointer (some ⟨w.heap.size, 0, none⟩)) V1 (xo_fld0 0 w.heap.size 0 (by kernel_rfl) rfl rfl) ?_
 simp only [Act.put, zA, zB, zC]
 refine zr (.int .i64 col) V1 (xo_load1 ⟨w.heap.size, 0, none⟩ _ (cells_at Fv0_1.out 0 rfl) Tryd.underlying3 rfl rfl rfl) ?_
 simp only [Act.put, zA, zB, zC]
 refine zr (.int .i64 (c : Int)) V1 (hc ▸ xo_andI col 3 (by decide) rfl rfl rfl) ?_
 simp only [Act.put, zA, zB, zC]
 refine zr (.agg #[.int .i64 (c : Int), .int .i64 0, .int .i64 0]) V1 (by unfold execOp; go_simp <;> rfl) ?_
 simp only [Act.put, zA, zB, zC]
 refine wpList_new #[.int .i64 0, .int .i64 0, .int .i64 0] 46 (by kernel_rfl) (xo_alloc #[.int .i64 0, .int .i64 0, .int .i64 0] (by kernel_rfl) rfl) ?_
 intro b3 V2 hge h0 hb
 have N2_0 : Hid (w.heap.size ≠ b3) := Lib.hid (xp_lt0 Fv0_1.out hge)
 have N3_1 : Hid ((w.heap.size + 1) ≠ b3) := Lib.hid (xp_lt0 Fv1_2.out hge)
 have Ge4 : Hid (V1.heap.size ≤ b3) := Lib.hid hge
 have B1 := Lib.hid hb
 have Fv5_3 : Hid (V2.heap[b3]? = some (.cells #[.int .i64 0, .int .i64 0, .int .i64 0] 46 (0, 0))) := Lib.hid (h0)
 have Lt6 : Hid (b3 < V2.heap.size) := Lib.hid (xp_lt Fv5_3.out)
 clear hge h0 hb
 simp only [ptr, Act.put, zA, zB, zC]
 refine wpList_storeW b3 #[.int .i64 0, .int .i64 0, .int .i64 0] #[.int .i64 (c : Int), .int .i64 0, .int .i64 0] 46 (by kernel_rfl) Fv5_3.out (xo_storeW b3 #[.int .i64 0, .int .i64 0, .int .i64 0] #[.int .i64 (c : Int), .int .i64 0, .int .i64 0] Fv5_3.out (by kernel_rfl) rfl (by simp [Value.oneCell']) rfl rfl rfl) ?_
 intro X2_7 h1 hfar hbel hsz
 have hbr := hbel _ _ Ge4.out B1.out
 clear B1
 have B1 := Lib.hid hbr
 clear hbr
 clear Fv5_3
 have Fv5_3 : Hid (X2_7.heap[b3]? = some (.cells #[.int .i64 (c : Int), .int .i64 0, .int .i64 0] 46 (0, 0))) := Lib.hid (h1)
 have HszX2_7 := Lib.hid hsz
 clear h1 hfar hbel hsz
 simp only [ptr, Act.put, zA, zB, zC]
 refine wpList_nil ?_
 go_upto_region 2 with fail
 refine wp_region_lit ?_
 refine zr (.pointer (some ⟨b3, 0, none⟩)) X2_7 (xo_fld0 0 b3 0 (by kernel_rfl) rfl rfl) ?_
 simp only [Act.put, zA, zB, zC]
 refine zr (.int .i64 (c : Int)) X2_7 (xo_load1 ⟨b3, 0, none⟩ _ (cells_at Fv5_3.out 0 rfl) Tryd.underlying3 rfl rfl rfl) ?_
 simp only [Act.put, zA, zB, zC]
 refine wpList_call (by kernel_rfl) 24 Tryd.func24 (by kernel_rfl) (by kernel_rfl) _ _ #[.int .i64 (c : Int)] rfl (by kernel_rfl) ?_
 refine (max_as c m hc4 hm X2_7).mono ?_
 rintro e W1 ⟨rfl, hw1⟩
 rw [hw1]
 clear hw1 W1
 refine ⟨_, rfl, ?_⟩
 simp only [Act.put, zA, zB, zC]
 refine zr (.int .i64 ((m + 1 : Nat) : Int)) X2_7 (xo_addI (m : Int) 1 ((m + 1 : Nat) : Int) (by omega) (by omega) (by omega) rfl rfl rfl) ?_
 simp only [Act.put, zA, zB, zC]
 refine zr (.int .i64 ((m + 1 : Nat) : Int)) X2_7 rfl ?_
 simp only [Act.put, zA, zB, zC]
 refine wpList_nil ?_
 go_upto_region 3 with fail
 refine wp_later_lex (by kernel_rfl) (lexOK_of (by kernel_rfl) (by kernel_rfl)) ?_
 refine zv (.pointer (some ⟨w.heap.size, 1, none⟩)) (fun v hv => (xo_fld0 1 w.heap.size 1 (by kernel_rfl) rfl rfl)) ?_
 simp only [Act.put, zA, zB, zC]
 refine zv (.int .i64 lo) (fun v hv => (xo_load1 ⟨w.heap.size, 1, none⟩ _ (cells_at (heap_keep (heap_keep Fv0_1.out B1.out) (later_bel hv)) 1 rfl) Tryd.underlying3 rfl rfl rfl)) ?_
 simp only [Act.put, zA, zB, zC]
 refine zv (.int .i64 (a0 : Int)) (fun v hv => (ha0 ▸ xo_andI lo 65535 (by decide) rfl rfl rfl)) ?_
 simp only [Act.put, zA, zB, zC]
 refine zv (.int .i64 ((m + 1 : Nat) : Int)) (fun v hv => rfl) ?_
 simp only [Act.put, zA, zB, zC]
 refine zv (.int .i64 (x0 : Int)) (fun v hv => (xo_remN .i64 a0 (m + 1) x0 (by omega) hx0 rfl rfl rfl)) ?_
 simp only [Act.put, zA, zB, zC]
 refine zv (.pointer (some ⟨w.heap.size, 2, none⟩)) (fun v hv => (xo_fld0 2 w.heap.size 2 (by kernel_rfl) rfl rfl)) ?_
 simp only [Act.put, zA, zB, zC]
 refine zv (.int .i64 hi) (fun v hv => (xo_load1 ⟨w.heap.size, 2, none⟩ _ (cells_at (heap_keep (heap_keep Fv0_1.out B1.out) (later_bel hv)) 2 rfl) Tryd.underlying3 rfl rfl rfl)) ?_
 simp only [Act.put, zA, zB, zC]
 refine zv (.int .i64 (a1 : Int)) (fun v hv => (ha1 ▸ xo_andI hi 65535 (by decide) rfl rfl rfl)) ?_
 simp only [Act.put, zA, zB, zC]
 refine zv (.int .i64 ((m + 1 : Nat) : Int)) (fun v hv => rfl) ?_
 simp only [Act.put, zA, zB, zC]
 refine zv (.int .i64 (x1 : Int)) (fun v hv => (xo_remN .i64 a1 (m + 1) x1 (by omega) hx1 rfl rfl rfl)) ?_
 simp only [Act.put, zA, zB, zC]
 refine zv (.int .i64 (x0 : Int)) (fun v hv => rfl) ?_
 simp only [Act.put, zA, zB, zC]
 refine zv (.int .i64 (x1 : Int)) (fun v hv => rfl) ?_
 simp only [Act.put, zA, zB, zC]
 refine wpQuiet_nil ?_
 intro X2_8
 have hb := X2_8.below
 generalize X2_8.at = V3 at *
 have B2 := Lib.hid hb
 clear hb
 go_upto_region 4 with fail
 refine wp_region_lit ?_
 refine zr (.int .i64 (x0 : Int)) V3 rfl ?_
 simp only [Act.put, zA, zB, zC]
 refine zr (.int .i64 (x1 : Int)) V3 rfl ?_
 simp only [Act.put, zA, zB, zC]
 refine zr (.int .i64 ((min x0 x1 : Nat) : Int)) V3 (xo_min .i64 (x0 : Int) (x1 : Int) ((min x0 x1 : Nat) : Int) (by split <;> omega) rfl rfl rfl) ?_
 simp only [Act.put, zA, zB, zC]
 refine zr (.pointer (some ⟨b3, 1, none⟩)) V3 (xo_fld0 1 b3 1 (by kernel_rfl) rfl rfl) ?_
 simp only [Act.put, zA, zB, zC]
 refine wpList_store1 b3 1 #[.int .i64 (c : Int), .int .i64 0, .int .i64 0] (.int .i64 ((min x0 x1 : Nat) : Int)) 46 (by kernel_rfl) (heap_keep Fv5_3.out B2.out) (xo_store1 b3 1 #[.int .i64 (c : Int), .int .i64 0, .int .i64 0] _ (.int .i64 ((min x0 x1 : Nat) : Int)) (heap_keep Fv5_3.out B2.out) rfl (by kernel_rfl) rfl rfl rfl rfl) ?_
 intro X3_9 h1 hfar hbel hsz
 have C1_3 := zb B1 B2
 have hbr := hbel _ _ Ge4.out C1_3.out
 clear B1
 have B1 := Lib.hid hbr
 clear hbr
 clear Fv5_3
 have Fv5_3 : Hid (X3_9.heap[b3]? = some (.cells #[.int .i64 (c : Int), .int .i64 ((min x0 x1 : Nat) : Int), .int .i64 0] 46 (0, 0))) := Lib.hid (h1)
 have HszX3_9 := Lib.hid hsz
 clear h1 hfar hbel hsz
 simp only [ptr, Act.put, zA, zB, zC]
 refine wpList_nil ?_
 go_upto_region 5 with fail
 refine wp_region_lit ?_
 refine zr (.int .i64 (x0 : Int)) X3_9 rfl ?_
 simp only [Act.put, zA, zB, zC]
 refine zr (.int .i64 (x1 : Int)) X3_9 rfl ?_
 simp only [Act.put, zA, zB, zC]
 refine zr (.int .i64 ((max x0 x1 : Nat) : Int)) X3_9 (xo_max .i64 (x0 : Int) (x1 : Int) ((max x0 x1 : Nat) : Int) (by split <;> omega) rfl rfl rfl) ?_
 simp only [Act.put, zA, zB, zC]
 refine zr (.pointer (some ⟨b3, 2, none⟩)) X3_9 (xo_fld0 2 b3 2 (by kernel_rfl) rfl rfl) ?_
 simp only [Act.put, zA, zB, zC]
 refine wpList_store1 b3 2 #[.int .i64 (c : Int), .int .i64 ((min x0 x1 : Nat) : Int), .int .i64 0] (.int .i64 ((max x0 x1 : Nat) : Int)) 46 (by kernel_rfl) Fv5_3.out (xo_store1 b3 2 #[.int .i64 (c : Int), .int .i64 ((min x0 x1 : Nat) : Int), .int .i64 0] _ (.int .i64 ((max x0 x1 : Nat) : Int)) Fv5_3.out rfl (by kernel_rfl) rfl rfl rfl rfl) ?_
 intro X2_10 h1 hfar hbel hsz
 have hbr := hbel _ _ Ge4.out B1.out
 clear B1
 have B1 := Lib.hid hbr
 clear hbr
 clear Fv5_3
 have Fv5_3 : Hid (X2_10.heap[b3]? = some (.cells #[.int .i64 (c : Int), .int .i64 ((min x0 x1 : Nat) : Int), .int .i64 ((max x0 x1 : Nat) : Int)] 46 (0, 0))) := Lib.hid (h1)
 have HszX2_10 := Lib.hid hsz
 clear h1 hfar hbel hsz
 simp only [ptr, Act.put, zA, zB, zC]
 refine wpList_nil ?_
 go_upto_region 6 with fail
 refine wp_region_lit ?_
 refine zr (.agg #[.int .i64 (c : Int), .int .i64 ((min x0 x1 : Nat) : Int), .int .i64 ((max x0 x1 : Nat) : Int)]) X2_10 (xo_loadW b3 _ Fv5_3.out Tryd.underlying46 rfl (by kernel_rfl) rfl rfl) ?_
 simp only [Act.put, zA, zB, zC]
 refine wpList_storeW (w.heap.size + 1) #[.int .i64 0, .int .i64 0, .int .i64 0] #[.int .i64 (c : Int), .int .i64 ((min x0 x1 : Nat) : Int), .int .i64 ((max x0 x1 : Nat) : Int)] 46 (by kernel_rfl) (heap_keep Fv1_2.out B1.out) (xo_storeW (w.heap.size + 1) #[.int .i64 0, .int .i64 0, .int .i64 0] #[.int .i64 (c : Int), .int .i64 ((min x0 x1 : Nat) : Int), .int .i64 ((max x0 x1 : Nat) : Int)] (heap_keep Fv1_2.out B1.out) (by kernel_rfl) rfl (by simp [Value.oneCell']) rfl rfl rfl) ?_
 intro X2_11 h1 hfar hbel hsz
 have YFv0_1 : X2_11.heap[w.heap.size]? = some (.cells #[.int .i64 col, .int .i64 lo, .int .i64 hi] 46 (0, 0)) := hfar _ _ Nb0_1.out (heap_keep Fv0_1.out B1.out)
 have YFv5_3 : X2_11.heap[b3]? = some (.cells #[.int .i64 (c : Int), .int .i64 ((min x0 x1 : Nat) : Int), .int .i64 ((max x0 x1 : Nat) : Int)] 46 (0, 0)) := hfar _ _ (Ne.symm N3_1.out) Fv5_3.out
 have Gs12 : Hid (w.heap.size ≤ b3) := Lib.hid (Nat.le_trans B0.out.size Ge4.out)
 have C0_2 := zb B0 B1
 have hbr := hbel _ _ Gb1.out C0_2.out
 clear B0
 have B0 := Lib.hid hbr
 clear hbr
 clear Fv0_1
 have Fv0_1 : Hid (X2_11.heap[w.heap.size]? = some (.cells #[.int .i64 col, .int .i64 lo, .int .i64 hi] 46 (0, 0))) := Lib.hid YFv0_1
 clear YFv0_1
 clear Fv5_3
 have Fv5_3 : Hid (X2_11.heap[b3]? = some (.cells #[.int .i64 (c : Int), .int .i64 ((min x0 x1 : Nat) : Int), .int .i64 ((max x0 x1 : Nat) : Int)] 46 (0, 0))) := Lib.hid YFv5_3
 clear YFv5_3
 clear Fv1_2
 have Fv1_2 : Hid (X2_11.heap[(w.heap.size + 1)]? = some (.cells #[.int .i64 (c : Int), .int .i64 ((min x0 x1 : Nat) : Int), .int .i64 ((max x0 x1 : Nat) : Int)] 46 (0, 0))) := Lib.hid (h1)
 have HszX2_11 := Lib.hid hsz
 clear h1 hfar hbel hsz
 simp only [ptr, Act.put, zA, zB, zC]
 refine wpList_nil ?_
 have hbf := B0.out
 go_wp2_with fail
 refine bodyPost_ret (v := .agg #[.int .i64 (c : Int), .int .i64 ((min x0 x1 : Nat) : Int), .int .i64 ((max x0 x1 : Nat) : Int)]) ?_ rfl ⟨by rw [HRR.out], hbf⟩
 exact results_cell_row rfl _ _ (w.heap.size + 1) 46 _ (0, 0) _ rfl Fv1_2.out Tryd.underlying46 rfl (by kernel_rfl)
end Go.Proofs.YtlicfidcfhbmpaaDoor

namespace Go.Proofs.YtlicfidcfhbmpaaDoor
set_option maxRecDepth 8000
open Go.RowKit Go.Proofs.YtlicfidcfhbmpaaDoor.K
attribute [local irreducible] wpList wpQuiet
def zzC (x : Int) : List Value := [.int .i64 x]
instance : Enc zzC 1 := ⟨fun _ => rfl, fun x u hu => by
 simp only [zzC, List.mem_cons, List.not_mem_nil, or_false] at hu
 subst hu
 rfl, by decide⟩
set_option maxRecDepth 100000 in
set_option maxHeartbeats 8000000 in
theorem rhasC_as (k : Nat) (b : Bool) (hb : Qu.hasC k = b) (w : World) : Calls Tryd.prog 32 #[.int .i64 (k : Int)] w fun e w' => e = .returned (.bool b) ∧ w' = w := by
 go_enter Tryd.func32, Tryd.ntmps32
 go_upto_region 1 with fail
 by_cases h2 : 2 ≤ k
 ·have hci0 : ((k : Int) ≥ 2) := by omega
  by_cases h6 : k ≤ 6
  ·have hci1 : ((k : Int) ≤ 6) := by omega
   refine wp_region_lit ?_
   refine zr (.int .i64 (k : Int)) w rfl ?_
   simp only [Act.put, zA, zB, zC]
   refine zr (.bool true) w (xo_geqT .i64 (k : Int) 2 (by omega) rfl rfl rfl) ?_
   simp only [Act.put, zA, zB, zC]
   refine zr (.bool true) w rfl ?_
   simp only [Act.put, zA, zB, zC]
   refine zr (.int .i64 (k : Int)) w rfl ?_
   simp only [Act.put, zA, zB, zC]
   refine zr (.bool true) w (xo_leqT .i64 (k : Int) 6 (by omega) rfl rfl rfl) ?_
   simp only [Act.put, zA, zB, zC]
   refine zr (.bool true) w rfl ?_
   simp only [Act.put, zA, zB, zC]
   refine zr (.bool true) w rfl ?_
   simp only [Act.put, zA, zB, zC]
   refine wpList_nil ?_
   obtain rfl : b = true := by rw [← hb]; unfold Qu.hasC; simp <;> omega
   go_wp2_with fail
   go_ret
   exact ⟨rfl, rfl⟩
  ·have hci1 : ¬ ((k : Int) ≤ 6) := by omega
   refine wp_region_lit ?_
   refine zr (.int .i64 (k : Int)) w rfl ?_
   simp only [Act.put, zA, zB, zC]
   refine zr (.bool true) w (xo_geqT .i64 (k : Int) 2 (by omega) rfl rfl rfl) ?_
   simp only [Act.put, zA, zB, zC]
   refine zr (.bool true) w rfl ?_
   simp only [Act.put, zA, zB, zC]
   refine zr (.int .i64 (k : Int)) w rfl ?_
   simp only [Act.put, zA, zB, zC]
   refine zr (.bool false) w (xo_leqF .i64 (k : Int) 6 (by omega) rfl rfl rfl) ?_
   simp only [Act.put, zA, zB, zC]
   refine zr (.bool false) w rfl ?_
   simp only [Act.put, zA, zB, zC]
   refine zr (.bool false) w rfl ?_
   simp only [Act.put, zA, zB, zC]
   refine wpList_nil ?_
   obtain rfl : b = false := by rw [← hb]; unfold Qu.hasC; simp <;> omega
   go_wp2_with fail
   go_ret
   exact ⟨rfl, rfl⟩
 ·have hci0 : ¬ ((k : Int) ≥ 2) := by omega
  refine wp_region_lit ?_
  refine zr (.int .i64 (k : Int)) w rfl ?_
  simp only [Act.put, zA, zB, zC]
  refine zr (.bool false) w (xo_geqF .i64 (k : Int) 2 (by omega) rfl rfl rfl) ?_
  simp only [Act.put, zA, zB, zC]
  refine zr (.bool false) w rfl ?_
  simp only [Act.put, zA, zB, zC]
  refine zl ?_
  try simp only [Act.put, zA, zB, zC]
  refine zl ?_
  try simp only [Act.put, zA, zB, zC]
  refine zr (.bool false) w rfl ?_
  simp only [Act.put, zA, zB, zC]
  refine zr (.bool false) w rfl ?_
  simp only [Act.put, zA, zB, zC]
  refine wpList_nil ?_
  obtain rfl : b = false := by rw [← hb]; unfold Qu.hasC; simp <;> omega
  go_wp2_with fail
  go_ret
  exact ⟨rfl, rfl⟩
set_option maxRecDepth 100000 in
set_option maxHeartbeats 8000000 in
theorem rmaxK_as (k m : Nat) (hm : Qu.maxK k = m) (w : World) : Calls Tryd.prog 33 #[.int .i64 (k : Int)] w fun e w' => e = .returned (.int .i64 (m : Int)) ∧ w' = w := by
 go_enter Tryd.func33, Tryd.ntmps33
 go_upto_region 1 with fail
 have hm2 : m = if k = 3 then 6 else if k = 6 then 65536 else 0 := by rw [← hm]; unfold Qu.maxK; split <;> simp_all
 by_cases h3 : k = 3
 ·have hci0 : ((k : Int) = 3) := by omega
  obtain rfl : m = 6 := by rw [hm2, if_pos h3]
  refine wp_region_lit ?_
  refine zr (.int .i64 (k : Int)) w rfl ?_
  simp only [Act.put, zA, zB, zC]
  refine zr (.bool true) w (xo_eqlT .i64 (k : Int) 3 (by omega) rfl rfl rfl) ?_
  simp only [Act.put, zA, zB, zC]
  refine wpList_nil ?_
  go_upto_region 2 with fail
  refine wp_region_lit ?_
  refine zr (.int .i64 6) w rfl ?_
  simp only [Act.put, zA, zB, zC]
  refine wpList_nil ?_
  go_wp2_with fail
  go_ret
  exact ⟨rfl, rfl⟩
 ·have hci0 : ¬ ((k : Int) = 3) := by omega
  refine wp_region_lit ?_
  refine zr (.int .i64 (k : Int)) w rfl ?_
  simp only [Act.put, zA, zB, zC]
  refine zr (.bool false) w (xo_eqlF .i64 (k : Int) 3 (by omega) rfl rfl rfl) ?_
  simp only [Act.put, zA, zB, zC]
  refine wpList_nil ?_
  by_cases h6 : k = 6
  ·have hci1 : ((k : Int) = 6) := by omega
   obtain rfl : m = 65536 := by rw [hm2, if_neg h3, if_pos h6]
   go_upto_region 3 with fail
   refine wp_region_lit ?_
   refine zr (.int .i64 (k : Int)) w rfl ?_
   simp only [Act.put, zA, zB, zC]
   refine zr (.bool true) w (xo_eqlT .i64 (k : Int) 6 (by omega) rfl rfl rfl) ?_
   simp only [Act.put, zA, zB, zC]
   refine wpList_nil ?_
   go_upto_region 4 with fail
   refine wp_region_lit ?_
   refine zr (.int .i64 65536) w rfl ?_
   simp only [Act.put, zA, zB, zC]
   refine wpList_nil ?_
   go_wp2_with fail
   go_ret
   exact ⟨rfl, rfl⟩
  ·have hci1 : ¬ ((k : Int) = 6) := by omega
   obtain rfl : m = 0 := by rw [hm2, if_neg h3, if_neg h6]
   go_upto_region 3 with fail
   refine wp_region_lit ?_
   refine zr (.int .i64 (k : Int)) w rfl ?_
   simp only [Act.put, zA, zB, zC]
   refine zr (.bool false) w (xo_eqlF .i64 (k : Int) 6 (by omega) rfl rfl rfl) ?_
   simp only [Act.put, zA, zB, zC]
   refine wpList_nil ?_
   go_upto_region 5 with fail
   refine wp_region_lit ?_
   refine zr (.int .i64 0) w rfl ?_
   simp only [Act.put, zA, zB, zC]
   refine wpList_nil ?_
   go_wp2_with fail
   go_ret
   exact ⟨rfl, rfl⟩
end Go.Proofs.YtlicfidcfhbmpaaDoor

namespace Go.Proofs.YtlicfidcfhbmpaaDoor
set_option maxRecDepth 8000
theorem _root_.Qu.dig_sub (d : Nat) (hd : d < 10) : (Qu.dig d - 48).toNat = d := by
 have h : d = 0 ∨ d = 1 ∨ d = 2 ∨ d = 3 ∨ d = 4 ∨ d = 5 ∨ d = 6 ∨ d = 7 ∨ d = 8 ∨ d = 9 := by omega
 rcases h with rfl | rfl | rfl | rfl | rfl | rfl | rfl | rfl | rfl | rfl <;> rfl
theorem _root_.Qu.dig_dg (d : Nat) (hd : d < 10) : Qu.isDg (Qu.dig d) = true := by
 have h : d = 0 ∨ d = 1 ∨ d = 2 ∨ d = 3 ∨ d = 4 ∨ d = 5 ∨ d = 6 ∨ d = 7 ∨ d = 8 ∨ d = 9 := by omega
 rcases h with rfl | rfl | rfl | rfl | rfl | rfl | rfl | rfl | rfl | rfl <;> rfl
theorem _root_.Qu.numOf_snoc (l : List UInt8) (b : UInt8) : Qu.numOf (l ++ [b]) = min (10 * Qu.numOf l + (b - 48).toNat) 65537 := by
 unfold Qu.numOf
 rw [List.foldl_append]
 rfl
theorem _root_.Qu.numOf_decF : ∀ (f n : Nat), n < 10 ^ f → 1 ≤ f → n ≤ 65537 → Qu.numOf (Qu.decF f n) = n
 | 0, _, _, h, _ => by omega
 | f + 1, n, hn, _, h5 => by
  by_cases h : n < 10
  ·rw [Qu.decF_lt h]
   have := Qu.numOf_snoc [] (Qu.dig n)
   rw [List.nil_append] at this
   rw [this, Qu.dig_sub n h]
   show min (10 * 0 + n) 65537 = n
   omega
  ·rw [Qu.decF_ge h, Qu.numOf_snoc, Qu.dig_sub _ (Nat.mod_lt _ (by decide))]
   rw [Nat.pow_succ] at hn
   have hf : 1 ≤ f := by
    rcases f with _ | f
    ·simp at hn
     omega
    ·omega
   rw [Qu.numOf_decF f (n / 10) (by omega) hf (by omega)]
   omega
/-- a number is read back from its digits -/
theorem _root_.Qu.numOf_decN (n : Nat) (h : n ≤ 65537) : Qu.numOf (Qu.decN n) = n := Qu.numOf_decF 6 n (by omega) (by decide) h
theorem _root_.Qu.decF_dg : ∀ (f n : Nat), (Qu.decF f n).all Qu.isDg = true
 | 0, _ => rfl
 | f + 1, n => by
  by_cases h : n < 10
  ·rw [Qu.decF_lt h]
   simp [Qu.dig_dg n h]
  ·rw [Qu.decF_ge h, List.all_append, Qu.decF_dg f (n / 10)]
   simp [Qu.dig_dg _ (Nat.mod_lt n (by decide : 0 < 10))]
end Go.Proofs.YtlicfidcfhbmpaaDoor

namespace Go.Proofs.YtlicfidcfhbmpaaDoor
set_option maxRecDepth 8000
section
variable {s : List UInt8} {q : Nat}
theorem _root_.Qu.runE_drop {p : UInt8 → Bool} {l r : List UInt8} (hd : s.drop q = l ++ r) (hl : l.all p = true) (hr : ∀ b, r[0]? = some b → p b = false) : Qu.runE p s q = q + l.length := by
 unfold Qu.runE
 rw [hd]
 have h : (l ++ r).takeWhile p = l := by
  rw [List.takeWhile_append_of_pos (by simpa using hl)]
  cases r with
  | nil => simp
  | cons b r => rw [List.takeWhile_cons_of_neg (by rw [hr b rfl]; decide), List.append_nil]
 rw [h]
theorem _root_.Qu.get_drop {l r : List UInt8} (hd : s.drop q = l ++ r) : s[q + l.length]? = r[0]? := by
 rw [← List.getElem?_drop, hd, List.getElem?_append_right (Nat.le_refl _), Nat.sub_self]
theorem _root_.Qu.drop_drop' {l r : List UInt8} (hd : s.drop q = l ++ r) : s.drop (q + l.length) = r := by
 rw [← List.drop_drop, hd, List.drop_left]
theorem _root_.Qu.cut_drop {w r : List UInt8} (hd : s.drop q = w ++ r) : (s.take (q + w.length)).drop q = w := by
 rw [List.drop_take, hd, Nat.add_sub_cancel_left, List.take_left]
theorem _root_.Qu.lt_not_sp {b : UInt8} (h : Qu.isLt b = true) : Qu.isSp b = false := by
 unfold Qu.isLt at h
 unfold Qu.isSp
 simp at h ⊢
 omega
theorem _root_.Qu.dg_not_sp {b : UInt8} (h : Qu.isDg b = true) : Qu.isSp b = false := by
 unfold Qu.isDg at h
 unfold Qu.isSp
 simp at h ⊢
 omega
theorem _root_.Qu.dg_not_lt {b : UInt8} (h : Qu.isDg b = true) : Qu.isLt b = false := by
 unfold Qu.isDg at h
 unfold Qu.isLt
 simp at h ⊢
 omega
variable {sp w r : List UInt8}
/-- a word behind white space -/
theorem _root_.Qu.nxt_word_at (hd : s.drop q = sp ++ (w ++ r)) (hsp : sp.all Qu.isSp = true) (hw : w ≠ []) (hwl : w.all Qu.isLt = true) (hr : ∀ b, r[0]? = some b → Qu.isLt b = false) :
  Qu.nxt s q = ⟨⟨2, w⟩, q + sp.length, q + sp.length + w.length⟩ := by
 obtain ⟨b, w', rfl⟩ := List.exists_cons_of_ne_nil hw
 have hb : Qu.isLt b = true := by simp at hwl; exact hwl.1
 have h1 := Qu.runE_drop hd hsp (fun c hc => by simp at hc; rw [← hc]; exact Qu.lt_not_sp hb)
 have h2 := Qu.get_drop hd
 have h3 := Qu.drop_drop' hd
 have h4 := Qu.runE_drop h3 hwl hr
 rw [Qu.nxt_word h1 (b := b) (by rw [h2]; rfl) hb, h4, Qu.cut_drop h3]
/-- a number behind white space -/
theorem _root_.Qu.nxt_num_at (hd : s.drop q = sp ++ (w ++ r)) (hsp : sp.all Qu.isSp = true) (hw : w ≠ []) (hwl : w.all Qu.isDg = true) (hr : ∀ b, r[0]? = some b → Qu.isDg b = false) :
  Qu.nxt s q = ⟨⟨3, w⟩, q + sp.length, q + sp.length + w.length⟩ := by
 obtain ⟨b, w', rfl⟩ := List.exists_cons_of_ne_nil hw
 have hb : Qu.isDg b = true := by simp at hwl; exact hwl.1
 have h1 := Qu.runE_drop hd hsp (fun c hc => by simp at hc; rw [← hc]; exact Qu.dg_not_sp hb)
 have h2 := Qu.get_drop hd
 have h3 := Qu.drop_drop' hd
 have h4 := Qu.runE_drop h3 hwl hr
 rw [Qu.nxt_num h1 (b := b) (by rw [h2]; rfl) (Qu.dg_not_lt hb) hb, h4, Qu.cut_drop h3]
/-- the end behind white space -/
theorem _root_.Qu.nxt_end_at (hd : s.drop q = sp) (hsp : sp.all Qu.isSp = true) : Qu.nxt s q = ⟨⟨0, []⟩, q + sp.length, q + sp.length⟩ := by
 have hd2 : s.drop q = sp ++ [] := by rw [hd, List.append_nil]
 have h1 := Qu.runE_drop hd2 hsp (fun c hc => by simp at hc)
 have h2 := Qu.get_drop hd2
 rw [Qu.nxt_end h1 (by rw [h2]; rfl)]
/-- two dots behind white space -/
theorem _root_.Qu.nxt_dots_at (hd : s.drop q = sp ++ (46 :: 46 :: r)) (hsp : sp.all Qu.isSp = true) : Qu.nxt s q = ⟨⟨4, []⟩, q + sp.length, q + sp.length + 2⟩ := by
 have h1 := Qu.runE_drop hd hsp (fun c hc => by simp at hc; rw [← hc]; rfl)
 have h2 := Qu.get_drop hd
 have h3 := Qu.drop_drop' hd
 have h4 := Qu.cut_drop (w := [46, 46]) (r := r) h3
 have h5 : Qu.bgN s (q + sp.length) [46, 46] = true := by
  unfold Qu.bgN
  rw [h4]
  have hl := congrArg List.length h3
  simp at hl ⊢
  omega
 rw [Qu.nxt_dots h1 (b := 46) (by rw [h2]; rfl) rfl rfl h5]
end
end Go.Proofs.YtlicfidcfhbmpaaDoor

namespace Go.Proofs.YtlicfidcfhbmpaaDoor
set_option maxRecDepth 8000
theorem _root_.Qu.sp_not_lt {b : UInt8} (h : Qu.isSp b = true) : Qu.isLt b = false := by
 cases h2 : Qu.isLt b with
 | false => rfl
 | true => rw [Qu.lt_not_sp h2] at h; cases h
theorem _root_.Qu.sp_not_dg {b : UInt8} (h : Qu.isSp b = true) : Qu.isDg b = false := by
 cases h2 : Qu.isDg b with
 | false => rfl
 | true => rw [Qu.dg_not_sp h2] at h; cases h
/-- the first byte behind white space -/
theorem _root_.Qu.first_sp {sp t : List UInt8} {b : UInt8} (h : (sp ++ t)[0]? = some b) (hsp : sp.all Qu.isSp = true) : Qu.isSp b = true ∨ (sp = [] ∧ t[0]? = some b) := by
 cases sp with
 | nil => exact .inr ⟨rfl, h⟩
 | cons c sp =>
  simp at h hsp
  subst h
  exact .inl hsp.1
theorem _root_.Qu.decN_ne (n : Nat) : Qu.decN n ≠ [] := by
 unfold Qu.decN
 by_cases h : n < 10
 ·rw [Qu.decF_lt h]
  exact List.cons_ne_nil _ _
 ·rw [Qu.decF_ge h]
  simp
theorem _root_.Qu.findT_name (c : Nat) (hc : c < 4) : Qu.findT Qu.nameN ⟨2, Qu.nameN c⟩ 0 4 = some c := by
 have h4 : c = 0 ∨ c = 1 ∨ c = 2 ∨ c = 3 := by omega
 rcases h4 with rfl | rfl | rfl | rfl <;> rfl
theorem _root_.Qu.nameN_lt (c : Nat) : (Qu.nameN c).all Qu.isLt = true := by
 unfold Qu.nameN
 split <;> rfl
theorem _root_.Qu.nameN_ne (c : Nat) : Qu.nameN c ≠ [] := by
 unfold Qu.nameN
 split <;> exact List.cons_ne_nil _ _
theorem _root_.Qu.numN_at {s : List UInt8} {lo hi v p j : Nat} (h0 : v ≤ 65537) (h1 : lo ≤ v) (h2 : v ≤ hi) : Qu.numN s lo hi ⟨⟨3, Qu.decN v⟩, j, p⟩ = ⟨v, 0, Qu.nxt s p⟩ := by
 unfold Qu.numN
 simp only [Qu.numOf_decN v h0, if_true]
 rw [if_neg (by omega)]
 rfl
theorem _root_.Qu.cond_at {s : List UInt8} {q : Nat} {sp0 sp1 sp2 sp3 sp4 r : List UInt8} {c lo hi : Nat}
  (hd : s.drop q = sp0 ++ (Qu.nameN c ++ (sp1 ++ ([105, 110] ++ (sp2 ++ (Qu.decN lo ++ (sp3 ++ (46 :: 46 :: (sp4 ++ (Qu.decN hi ++ r))))))))))
  (s0 : sp0.all Qu.isSp = true) (s1 : sp1.all Qu.isSp = true) (s2 : sp2.all Qu.isSp = true) (s3 : sp3.all Qu.isSp = true) (s4 : sp4.all Qu.isSp = true) (n1 : sp1 ≠ []) (n2 : sp2 ≠ [])
  (hr : ∀ b, r[0]? = some b → Qu.isDg b = false) (hc : c < 4) (hlo : lo ≤ hi) (hhi : hi ≤ Qu.maxN c) : ∃ q', s.drop q' = r ∧ Qu.condN s (Qu.nxt s q) = ⟨⟨c, lo, hi⟩, 0, Qu.nxt s q'⟩ := by
 have hm : Qu.maxN c ≤ 255 := by unfold Qu.maxN; split <;> decide
 have f1 : ∀ t : List UInt8, ∀ b, (sp1 ++ t)[0]? = some b → Qu.isLt b = false := fun t b hb => by
  rcases Qu.first_sp hb s1 with h | ⟨h, _⟩
  ·exact Qu.sp_not_lt h
  ·exact absurd h n1
 have f2 : ∀ t : List UInt8, ∀ b, (sp2 ++ t)[0]? = some b → Qu.isLt b = false := fun t b hb => by
  rcases Qu.first_sp hb s2 with h | ⟨h, _⟩
  ·exact Qu.sp_not_lt h
  ·exact absurd h n2
 have f3 : ∀ t : List UInt8, ∀ b, (sp3 ++ (46 :: t))[0]? = some b → Qu.isDg b = false := fun t b hb => by
  rcases Qu.first_sp hb s3 with h | ⟨_, h⟩
  ·exact Qu.sp_not_dg h
  ·simp at h
   subst h
   rfl
 have e1 := Qu.nxt_word_at hd s0 (Qu.nameN_ne c) (Qu.nameN_lt c) (f1 _)
 have d1 := Qu.drop_drop' (Qu.drop_drop' hd)
 have e2 := Qu.nxt_word_at d1 s1 (List.cons_ne_nil _ _) rfl (f2 _)
 have d2 := Qu.drop_drop' (Qu.drop_drop' d1)
 have e3 := Qu.nxt_num_at d2 s2 (Qu.decN_ne lo) (Qu.decF_dg 6 lo) (f3 _)
 have d3 := Qu.drop_drop' (Qu.drop_drop' d2)
 have e4 := Qu.nxt_dots_at d3 s3
 have d4 := (show List.drop (_ + 2) s = sp4 ++ (Qu.decN hi ++ r) from Qu.drop_drop' (l := [46, 46]) (Qu.drop_drop' d3))
 have e5 := Qu.nxt_num_at d4 s4 (Qu.decN_ne hi) (Qu.decF_dg 6 hi) hr
 have d5 := Qu.drop_drop' (Qu.drop_drop' d4)
 refine ⟨_, d5, ?_⟩
 have c1 : Qu.colN s (Qu.nxt s q) = ⟨c, 0, Qu.nxt s (q + sp0.length + (Qu.nameN c).length)⟩ := by
  unfold Qu.colN Qu.pickT
  rw [e1]
  simp only [Qu.findT_name c hc]
  rfl
 unfold Qu.condN
 simp only [c1, if_true]
 rw [e2, if_neg (show ¬ (⟨2, [105, 110]⟩ : Qu.Tk) = ⟨5, []⟩ by decide)]
 unfold Qu.expN Qu.accS Qu.adv
 simp only [if_true]
 rw [e3]
 unfold Qu.rangeN
 simp only [Qu.numN_at (show lo ≤ 65537 by omega) (Nat.zero_le _) (show lo ≤ Qu.maxN c by omega), if_true]
 rw [e4]
 unfold Qu.expN Qu.accS Qu.adv
 simp only [if_true]
 rw [e5]
 simp only [Qu.numN_at (show hi ≤ 65537 by omega) hlo hhi, if_true]
end Go.Proofs.YtlicfidcfhbmpaaDoor

namespace Go.Proofs.YtlicfidcfhbmpaaDoor
set_option maxRecDepth 8000
def _root_.Qu.condW (a b d w : List UInt8) (c : Qu.Cd) : List UInt8 := a ++ (w ++ (a ++ (Qu.nameN c.col ++ (a ++ ([105, 110] ++ (a ++ (Qu.decN c.lo ++ (b ++ (46 :: 46 :: (d ++ Qu.decN c.hi))))))))))
def _root_.Qu.ftW (a b d : List UInt8) : List UInt8 → List Qu.Cd → List UInt8
 | _, [] => []
 | w, c :: l => Qu.condW a b d w c ++ Qu.ftW a b d [97, 110, 100] l
section
variable {s a b d r : List UInt8} (ha : a.all Qu.isSp = true) (hb : b.all Qu.isSp = true) (hd : d.all Qu.isSp = true) (hn : a ≠ [])
 (hr : ∀ x, r[0]? = some x → Qu.isDg x = false) (hw1 : ∀ q, s.drop q = r → ¬ (Qu.nxt s q).tok = ⟨2, Qu.whereN⟩) (hw2 : ∀ q, s.drop q = r → ¬ (Qu.nxt s q).tok = ⟨2, [97, 110, 100]⟩)
include ha hb hd hn hr hw1 hw2
theorem _root_.Qu.filter_at : ∀ (l : List Qu.Cd) (n : Nat) (w : List UInt8) (acc : List Qu.Cd) (q : Nat), l.length ≤ n → (w = Qu.whereN ∨ w = [97, 110, 100]) → (∀ e ∈ l, e.col < 4 ∧ e.lo ≤ e.hi ∧ e.hi ≤ Qu.maxN e.col) → s.drop q = Qu.ftW a b d w l ++ r →
  ∃ q', s.drop q' = r ∧ Qu.filterN s n w acc (Qu.nxt s q) = ⟨acc ++ l, 0, Qu.nxt s q'⟩
 | [], n, w, acc, q, _, hw, _, hq => by
  refine ⟨q, hq, ?_⟩
  rw [List.append_nil, Qu.filterN_no]
  rcases hw with rfl | rfl
  ·exact hw1 q hq
  ·exact hw2 q hq
 | c :: l, n, w, acc, q, hl, hw, hok, hq => by
  obtain ⟨h1, h2, h3⟩ := hok c (List.mem_cons_self ..)
  have hwl : w.all Qu.isLt = true := by rcases hw with rfl | rfl <;> rfl
  have hwn : w ≠ [] := by rcases hw with rfl | rfl <;> exact List.cons_ne_nil _ _
  have hf : ∀ t : List UInt8, ∀ x, (a ++ t)[0]? = some x → Qu.isLt x = false := fun t x hx => by
   rcases Qu.first_sp hx ha with h | ⟨h, _⟩
   ·exact Qu.sp_not_lt h
   ·exact absurd h hn
  simp only [Qu.ftW, Qu.condW, List.append_assoc, List.cons_append] at hq
  have e1 := Qu.nxt_word_at hq ha hwn hwl (hf _)
  have d1 := Qu.drop_drop' (Qu.drop_drop' hq)
  have hr2 : ∀ x, (Qu.ftW a b d [97, 110, 100] l ++ r)[0]? = some x → Qu.isDg x = false := fun x hx => by
   cases l with
   | nil => exact hr x hx
   | cons c2 l2 =>
    simp only [Qu.ftW, Qu.condW, List.append_assoc] at hx
    rcases Qu.first_sp hx ha with h | ⟨h, _⟩
    ·exact Qu.sp_not_dg h
    ·exact absurd h hn
  obtain ⟨q2, d2, e2⟩ := Qu.cond_at d1 ha ha ha hb hd hn hn hr2 h1 h2 h3
  obtain ⟨q3, d3, e3⟩ := filter_at l (n - 1) [97, 110, 100] (acc ++ [c]) q2 (by simp at hl; omega) (.inr rfl) (fun e he => hok e (List.mem_cons_of_mem _ he)) d2
  refine ⟨q3, d3, ?_⟩
  have ht : (Qu.nxt s q).tok = ⟨2, w⟩ := by rw [e1]
  have hp : Qu.adv s (Qu.nxt s q) = Qu.nxt s (q + a.length + w.length) := by unfold Qu.adv; rw [e1]
  rw [Qu.filterN_go (c := ⟨⟨c.col, c.lo, c.hi⟩, 0, Qu.nxt s q2⟩) (by simp at hl; omega) ht (by rw [hp, e2]) rfl]
  show Qu.filterN s (n - 1) [97, 110, 100] (acc ++ [c]) (Qu.nxt s q2) = _
  rw [e3, List.append_assoc]
  rfl
end
end Go.Proofs.YtlicfidcfhbmpaaDoor

namespace Go.Proofs.YtlicfidcfhbmpaaDoor
set_option maxRecDepth 8000
theorem _root_.Qu.sp_first_dg {e : List UInt8} (he : e.all Qu.isSp = true) : ∀ x, e[0]? = some x → Qu.isDg x = false := fun x hx => by
 cases e with
 | nil => simp at hx
 | cons y e =>
  simp at hx he
  subst hx
  exact Qu.sp_not_dg he.1
theorem _root_.Qu.sp_first_lt {e : List UInt8} (he : e.all Qu.isSp = true) : ∀ x, e[0]? = some x → Qu.isLt x = false := fun x hx => by
 cases e with
 | nil => simp at hx
 | cons y e =>
  simp at hx he
  subst hx
  exact Qu.sp_not_lt he.1
def OkC (e : Qu.Cd) : Prop := e.col < 4 ∧ e.lo ≤ e.hi ∧ e.hi ≤ Qu.maxN e.col
section
variable {s a b d e : List UInt8} (ha : a.all Qu.isSp = true) (hb : b.all Qu.isSp = true) (hd : d.all Qu.isSp = true) (hn : a ≠ []) (he : e.all Qu.isSp = true)
include ha hb hd hn he
theorem _root_.Qu.filter_end {l : List Qu.Cd} {q : Nat} (hl : l.length ≤ 3) (hok : ∀ c ∈ l, OkC c) (hq : s.drop q = Qu.ftW a b d Qu.whereN l ++ e) : ∃ q', s.drop q' = e ∧ Qu.filterN s 3 Qu.whereN [] (Qu.nxt s q) = ⟨l, 0, Qu.nxt s q'⟩ :=
 Qu.filter_at ha hb hd hn (Qu.sp_first_dg he) (fun q h => by rw [Qu.nxt_end_at h he]; exact (by decide : ¬ (⟨0, []⟩ : Qu.Tk) = ⟨2, Qu.whereN⟩)) (fun q h => by rw [Qu.nxt_end_at h he]; exact (by decide : ¬ (⟨0, []⟩ : Qu.Tk) = ⟨2, [97, 110, 100]⟩)) l 3 Qu.whereN [] q hl (.inl rfl) hok hq
/-- one filter -/
theorem _root_.Qu.filters_one {l : List Qu.Cd} {q : Nat} (hl : l.length ≤ 3) (hok : ∀ c ∈ l, OkC c) (hq : s.drop q = Qu.ftW a b d Qu.whereN l ++ e) : ∃ q', s.drop q' = e ∧ Qu.filtersN s 1 [] (Qu.nxt s q) = ⟨[l], 0, Qu.nxt s q'⟩ := by
 obtain ⟨q1, d1, e1⟩ := Qu.filter_end ha hb hd hn he hl hok hq
 exact ⟨q1, d1, by rw [Qu.filtersN_go0 (by decide) rfl e1 rfl]; rfl⟩
/-- two filters -/
theorem _root_.Qu.filters_two {l m : List Qu.Cd} {q : Nat} (hl : l.length ≤ 3) (hm : m.length ≤ 3) (hok : ∀ c ∈ l, OkC c) (hom : ∀ c ∈ m, OkC c) (hq : s.drop q = Qu.ftW a b d Qu.whereN l ++ (a ++ (Qu.withN ++ (Qu.ftW a b d Qu.whereN m ++ e)))) :
  ∃ q', s.drop q' = e ∧ Qu.filtersN s 2 [] (Qu.nxt s q) = ⟨[l, m], 0, Qu.nxt s q'⟩ := by
 have hf : ∀ x, (Qu.ftW a b d Qu.whereN m ++ e)[0]? = some x → Qu.isLt x = false := fun x hx => by
  cases m with
  | nil => exact Qu.sp_first_lt he x hx
  | cons c2 l2 =>
   simp only [Qu.ftW, Qu.condW, List.append_assoc] at hx
   rcases Qu.first_sp hx ha with h | ⟨h, _⟩
   ·exact Qu.sp_not_lt h
   ·exact absurd h hn
 have hw : ∀ q, s.drop q = a ++ (Qu.withN ++ (Qu.ftW a b d Qu.whereN m ++ e)) → Qu.nxt s q = ⟨⟨2, Qu.withN⟩, q + a.length, q + a.length + Qu.withN.length⟩ := fun q h => Qu.nxt_word_at h ha (List.cons_ne_nil _ _) rfl hf
 have hdg : ∀ x, (a ++ (Qu.withN ++ (Qu.ftW a b d Qu.whereN m ++ e)))[0]? = some x → Qu.isDg x = false := fun x hx => by
  rcases Qu.first_sp hx ha with h | ⟨h, _⟩
  ·exact Qu.sp_not_dg h
  ·exact absurd h hn
 obtain ⟨q1, d1, e1⟩ := Qu.filter_at ha hb hd hn hdg (fun q h => by rw [hw q h]; exact (by decide : ¬ (⟨2, Qu.withN⟩ : Qu.Tk) = ⟨2, Qu.whereN⟩)) (fun q h => by rw [hw q h]; exact (by decide : ¬ (⟨2, Qu.withN⟩ : Qu.Tk) = ⟨2, [97, 110, 100]⟩)) l 3 Qu.whereN [] q hl (.inl rfl) hok hq
 have d2 := Qu.drop_drop' (Qu.drop_drop' d1)
 obtain ⟨q3, d3, e3⟩ := Qu.filter_end ha hb hd hn he hm hom d2
 refine ⟨q3, d3, ?_⟩
 have hp : Qu.adv s (Qu.nxt s q1) = Qu.nxt s (q1 + a.length + Qu.withN.length) := by unfold Qu.adv; rw [hw q1 d1]
 rw [Qu.filtersN_go0 (by decide) rfl e1 rfl]
 show Qu.filtersN s 1 [l] (Qu.nxt s q1) = _
 rw [Qu.filtersN_go1 (c := ⟨m, 0, Qu.nxt s q3⟩) (by decide) (by simp) (by rw [hw q1 d1]) (by rw [hp, e3]) rfl]
 rfl
end
end Go.Proofs.YtlicfidcfhbmpaaDoor

namespace Go.Proofs.YtlicfidcfhbmpaaDoor
set_option maxRecDepth 8000
def _root_.Qu.fsW (a b d : List UInt8) : List (List Qu.Cd) → List UInt8
 | [] => []
 | [l] => Qu.ftW a b d Qu.whereN l
 | l :: m :: _ => Qu.ftW a b d Qu.whereN l ++ (a ++ (Qu.withN ++ Qu.ftW a b d Qu.whereN m))
def _root_.Qu.qyW (a b d : List UInt8) (q : Qu.Qy) : List UInt8 := Qu.kwN q.kind ++ ((if Qu.hasC q.kind = true then a ++ Qu.nameN q.col else []) ++ ((if 0 < Qu.maxK q.kind then a ++ Qu.decN q.k else []) ++ Qu.fsW a b d q.fs))
/-- a valid query of numbers -/
structure OkQ (q : Qu.Qy) : Prop where
 k1 : 1 ≤ q.kind
 k7 : q.kind ≤ 7
 c1 : Qu.hasC q.kind = true → q.col < 4
 c0 : Qu.hasC q.kind = false → q.col = 0
 m1 : 0 < Qu.maxK q.kind → 1 ≤ q.k ∧ q.k ≤ Qu.maxK q.kind
 m0 : ¬ 0 < Qu.maxK q.kind → q.k = 0
 nf : q.fs.length = Qu.numF q.kind
 ok : ∀ l ∈ q.fs, l.length ≤ 3 ∧ ∀ c ∈ l, OkC c
theorem _root_.Qu.findT_kw (k : Nat) (h1 : 1 ≤ k) (h7 : k ≤ 7) : Qu.findT Qu.kwN ⟨2, Qu.kwN k⟩ 1 7 = some k := by
 have h4 : k = 1 ∨ k = 2 ∨ k = 3 ∨ k = 4 ∨ k = 5 ∨ k = 6 ∨ k = 7 := by omega
 rcases h4 with rfl | rfl | rfl | rfl | rfl | rfl | rfl <;> rfl
theorem _root_.Qu.kwN_lt (c : Nat) : (Qu.kwN c).all Qu.isLt = true := by
 unfold Qu.kwN
 split <;> rfl
theorem _root_.Qu.kwN_ne (c : Nat) : Qu.kwN c ≠ [] := by
 unfold Qu.kwN
 split <;> exact List.cons_ne_nil _ _
theorem _root_.Qu.maxK_le' (k : Nat) : Qu.maxK k ≤ 65536 := by
 unfold Qu.maxK
 split <;> decide
/-- what begins with white space, or is empty -/
def Fst (r : List UInt8) : Prop := ∀ x, r[0]? = some x → Qu.isSp x = true
theorem fst_sp {e : List UInt8} (he : e.all Qu.isSp = true) : Fst e := fun x hx => by
 cases e with
 | nil => simp at hx
 | cons y e =>
  simp at hx he
  subst hx
  exact he.1
theorem fst_app {a t : List UInt8} (ha : a.all Qu.isSp = true) (hn : a ≠ []) : Fst (a ++ t) := fun x hx => by
 rcases Qu.first_sp hx ha with h | ⟨h, _⟩
 ·exact h
 ·exact absurd h hn
section
variable {s a b d e s0 : List UInt8} (ha : a.all Qu.isSp = true) (hb : b.all Qu.isSp = true) (hd : d.all Qu.isSp = true) (hn : a ≠ []) (he : e.all Qu.isSp = true)
include ha hn he
theorem fst_ft (w : List UInt8) (l : List Qu.Cd) {t : List UInt8} (ht : Fst t) : Fst (Qu.ftW a b d w l ++ t) := by
 cases l with
 | nil => exact ht
 | cons c l =>
  simp only [Qu.ftW, Qu.condW, List.append_assoc]
  exact fst_app ha hn
theorem fst_fs (fs : List (List Qu.Cd)) : Fst (Qu.fsW a b d fs ++ e) := by
 rcases fs with _ | ⟨l, _ | ⟨m, r⟩⟩
 ·exact fst_sp he
 ·exact fst_ft ha hn he _ _ (fst_sp he)
 ·simp only [Qu.fsW, List.append_assoc]
  exact fst_ft ha hn he _ _ (fst_app ha hn)
include hb hd
theorem _root_.Qu.parse_at {q : Qu.Qy} (hq : OkQ q) (hs0 : s0.all Qu.isSp = true) (hs : s = s0 ++ (Qu.qyW a b d q ++ e)) (hl : s.length ≤ 400) : Qu.parseN s = (q, 0, 0) := by
 obtain ⟨kind, col, k, fs⟩ := q
 obtain ⟨k1, k7, c1, c0, m1, m0, nf, ok⟩ := hq
 replace k1 : 1 ≤ kind := k1
 replace k7 : kind ≤ 7 := k7
 replace c1 : Qu.hasC kind = true → col < 4 := c1
 replace c0 : Qu.hasC kind = false → col = 0 := c0
 replace m1 : 0 < Qu.maxK kind → 1 ≤ k ∧ k ≤ Qu.maxK kind := m1
 replace m0 : ¬ 0 < Qu.maxK kind → k = 0 := m0
 replace nf : fs.length = Qu.numF kind := nf
 have hmk := Qu.maxK_le' kind
 have F3 : Fst (Qu.fsW a b d fs ++ e) := fst_fs ha hn he fs
 have F2 : Fst ((if 0 < Qu.maxK kind then a ++ Qu.decN k else []) ++ (Qu.fsW a b d fs ++ e)) := by
  split
  ·rw [List.append_assoc]; exact fst_app ha hn
  ·exact F3
 have F1 : Fst ((if Qu.hasC kind = true then a ++ Qu.nameN col else []) ++ ((if 0 < Qu.maxK kind then a ++ Qu.decN k else []) ++ (Qu.fsW a b d fs ++ e))) := by
  split
  ·rw [List.append_assoc]; exact fst_app ha hn
  ·exact F2
 have d0 : s.drop 0 = s0 ++ (Qu.kwN kind ++ ((if Qu.hasC kind = true then a ++ Qu.nameN col else []) ++ ((if 0 < Qu.maxK kind then a ++ Qu.decN k else []) ++ (Qu.fsW a b d fs ++ e)))) := by
  rw [List.drop_zero, hs]
  simp only [Qu.qyW, List.append_assoc]
 have e1 := Qu.nxt_word_at d0 hs0 (Qu.kwN_ne kind) (Qu.kwN_lt kind) (fun x hx => Qu.sp_not_lt (F1 x hx))
 have d1 := Qu.drop_drop' (Qu.drop_drop' d0)
 have g1 : Qu.kindN s (Qu.nxt s 0) = ⟨kind, 0, Qu.nxt s (0 + s0.length + (Qu.kwN kind).length)⟩ := by
  unfold Qu.kindN Qu.pickT
  rw [e1]
  simp only [Qu.findT_kw kind k1 k7]
  rfl
 generalize 0 + s0.length + (Qu.kwN kind).length = p1 at d1 g1
 obtain ⟨p2, d2, g2⟩ : ∃ p2, s.drop p2 = (if 0 < Qu.maxK kind then a ++ Qu.decN k else []) ++ (Qu.fsW a b d fs ++ e) ∧ (if Qu.hasC kind = true then Qu.colN s (Qu.nxt s p1) else ⟨0, 0, Qu.nxt s p1⟩) = ⟨col, 0, Qu.nxt s p2⟩ := by
  by_cases hc : Qu.hasC kind = true
  ·rw [if_pos hc, List.append_assoc] at d1
   have e2 := Qu.nxt_word_at d1 ha (Qu.nameN_ne col) (Qu.nameN_lt col) (fun x hx => Qu.sp_not_lt (F2 x hx))
   refine ⟨_, Qu.drop_drop' (Qu.drop_drop' d1), ?_⟩
   rw [if_pos hc]
   unfold Qu.colN Qu.pickT
   rw [e2]
   simp only [Qu.findT_name col (c1 hc)]
   rfl
  ·rw [if_neg hc, List.nil_append] at d1
   exact ⟨p1, d1, by rw [if_neg hc, c0 (by simpa using hc)]⟩
 obtain ⟨p3, d3, g3⟩ : ∃ p3, s.drop p3 = Qu.fsW a b d fs ++ e ∧ (if 0 < Qu.maxK kind then Qu.numN s 1 (Qu.maxK kind) (Qu.nxt s p2) else ⟨0, 0, Qu.nxt s p2⟩) = ⟨k, 0, Qu.nxt s p3⟩ := by
  by_cases hm : 0 < Qu.maxK kind
  ·rw [if_pos hm, List.append_assoc] at d2
   have e2 := Qu.nxt_num_at d2 ha (Qu.decN_ne k) (Qu.decF_dg 6 k) (fun x hx => Qu.sp_not_dg (F3 x hx))
   refine ⟨_, Qu.drop_drop' (Qu.drop_drop' d2), ?_⟩
   rw [if_pos hm, e2, Qu.numN_at (by have := (m1 hm).2; omega) (m1 hm).1 (m1 hm).2]
  ·rw [if_neg hm, List.nil_append] at d2
   exact ⟨p2, d2, by rw [if_neg hm, m0 hm]⟩
 obtain ⟨p4, d4, g4⟩ : ∃ p4, s.drop p4 = e ∧ Qu.filtersN s (Qu.numF kind) [] (Qu.nxt s p3) = ⟨fs, 0, Qu.nxt s p4⟩ := by
  have hn2 : Qu.numF kind = 1 ∨ Qu.numF kind = 2 := by unfold Qu.numF; split <;> simp
  rcases hn2 with h | h
  ·rw [h] at nf ⊢
   obtain ⟨l, rfl⟩ := List.length_eq_one_iff.1 nf
   have o1 := ok l (List.mem_cons_self ..)
   exact Qu.filters_one ha hb hd hn he o1.1 o1.2 d3
  ·rw [h] at nf ⊢
   obtain ⟨l, m, rfl⟩ : ∃ l m, fs = [l, m] := by
    match fs, nf with
    | [l, m], _ => exact ⟨l, m, rfl⟩
   have o1 := ok l (List.mem_cons_self ..)
   have o2 := ok m (List.mem_cons_of_mem _ (List.mem_cons_self ..))
   simp only [Qu.fsW, List.append_assoc] at d3
   exact Qu.filters_two ha hb hd hn he o1.1 o2.1 o1.2 o2.2 d3
 have e5 := Qu.nxt_end_at d4 he
 have hq : Qu.queryN s (Qu.nxt s 0) = ⟨⟨kind, col, k, fs⟩, 0, Qu.adv s (Qu.nxt s p4)⟩ := by
  have ht : (Qu.nxt s p4).tok = ⟨0, []⟩ := by rw [e5]
  simp only [Qu.queryN, g1, if_true, g2, g3, g4, Qu.expN, Qu.accS, if_pos ht]
 unfold Qu.parseN
 rw [if_neg (by omega), hq]
 rfl
end
end Go.Proofs.YtlicfidcfhbmpaaDoor

namespace Go.Proofs.YtlicfidcfhbmpaaDoor
set_option maxRecDepth 8000
theorem ftW_can : ∀ (w : List UInt8) (l : List Qu.Cd), Qu.ftG ([32] ++ w ++ [32]) l = Qu.ftW [32] [] [] w l
 | _, [] => rfl
 | w, c :: l => by
  have h := ftW_can [97, 110, 100] l
  show Qu.condT ([32] ++ w ++ [32]) c ++ Qu.ftG Qu.andT l = Qu.condW [32] [] [] w c ++ Qu.ftW [32] [] [] [97, 110, 100] l
  rw [← h]
  simp [Qu.condT, Qu.condW, Qu.inT, Qu.dotT, Qu.andT]
theorem fmtN_can (q : Qu.Qy) (h : q.fs.length = Qu.numF q.kind) : Qu.fmtN q = Qu.qyW [32] [] [] q := by
 obtain ⟨kind, col, k, fs⟩ := q
 replace h : fs.length = Qu.numF kind := h
 have hf : ∀ l, Qu.ftN l = Qu.ftW [32] [] [] Qu.whereN l := fun l => ftW_can Qu.whereN l
 have hfs : Qu.fsN fs = Qu.fsW [32] [] [] fs := by
  have hn2 : Qu.numF kind = 1 ∨ Qu.numF kind = 2 := by unfold Qu.numF; split <;> simp
  rcases hn2 with e | e
  ·rw [e] at h
   obtain ⟨l, rfl⟩ := List.length_eq_one_iff.1 h
   simp [Qu.fsN, Qu.fsG, Qu.fsW, hf]
  ·rw [e] at h
   obtain ⟨l, m, rfl⟩ : ∃ l m, fs = [l, m] := by
    match fs, h with
    | [l, m], _ => exact ⟨l, m, rfl⟩
   simp [Qu.fsN, Qu.fsG, Qu.fsW, hf, Qu.withT, Qu.withN]
 show Qu.hdN kind col k ++ Qu.fsN fs = _
 rw [hfs]
 simp only [Qu.hdN, Qu.qyW]
 split <;> split <;> simp
theorem fmtN_len (q : Qu.Qy) (h : OkQ q) : (Qu.fmtN q).length ≤ 400 := by
 obtain ⟨kind, col, k, fs⟩ := q
 have h1 := Qu.kwN_le kind
 have h2 := Qu.nameN_le col
 have h3 := Qu.decF_le 6 k
 have h4 := fsG_len true fs (fun l hl => (h.ok l hl).1)
 have h5 : fs.length ≤ 2 := by rw [show fs.length = Qu.numF kind from h.nf]; exact Qu.numF_le _
 show (Qu.hdN kind col k ++ Qu.fsG true fs).length ≤ 400
 rw [List.length_append]
 have h6 : (Qu.hdN kind col k).length ≤ 30 := by
  unfold Qu.hdN Qu.decN
  split <;> split <;> simp only [List.length_append, List.length_cons, List.length_nil] <;> omega
 omega
end Go.Proofs.YtlicfidcfhbmpaaDoor

namespace Go.Proofs.YtlicfidcfhbmpaaDoor
set_option maxRecDepth 8000
def mdF (fs : List (List Qu.Ci)) (i : Nat) : List Qu.Cd := ((fs.getD i []).take 3).map Qu.mdC
def mdQ (kind col k : Int) (fs : List (List Qu.Ci)) : Qu.Qy :=
 ⟨1 + andN kind 255 % 7, if Qu.hasC (1 + andN kind 255 % 7) = true then andN col 3 else 0, if 0 < Qu.maxK (1 + andN kind 255 % 7) then 1 + andN k 65535 % Qu.maxK (1 + andN kind 255 % 7) else 0, (List.range (Qu.numF (1 + andN kind 255 % 7))).map (mdF fs)⟩
theorem mdQ_ok (kind col k : Int) (fs : List (List Qu.Ci)) : OkQ (mdQ kind col k fs) := by
 have h7 := Nat.mod_lt (andN kind 255) (by decide : 0 < 7)
 have h3 := andN_le col 3 (by decide)
 refine ⟨?_, ?_, fun h => ?_, fun h => ?_, fun h => ?_, fun h => ?_, ?_, fun l hl => ?_⟩
 ·show 1 ≤ 1 + andN kind 255 % 7
  omega
 ·show 1 + andN kind 255 % 7 ≤ 7
  omega
 ·show (if Qu.hasC (1 + andN kind 255 % 7) = true then andN col 3 else 0) < 4
  rw [if_pos (show Qu.hasC (1 + andN kind 255 % 7) = true from h)]
  omega
 ·show (if Qu.hasC (1 + andN kind 255 % 7) = true then andN col 3 else 0) = 0
  have h0 : Qu.hasC (1 + andN kind 255 % 7) = false := h
  rw [if_neg (by rw [h0]; decide)]
 ·have h0 : 0 < Qu.maxK (1 + andN kind 255 % 7) := h
  have hm := Nat.mod_lt (andN k 65535) h0
  show 1 ≤ (if 0 < Qu.maxK (1 + andN kind 255 % 7) then 1 + andN k 65535 % Qu.maxK (1 + andN kind 255 % 7) else 0) ∧ (if 0 < Qu.maxK (1 + andN kind 255 % 7) then 1 + andN k 65535 % Qu.maxK (1 + andN kind 255 % 7) else 0) ≤ Qu.maxK (1 + andN kind 255 % 7)
  rw [if_pos h0]
  omega
 ·show (if 0 < Qu.maxK (1 + andN kind 255 % 7) then _ else 0) = 0
  rw [if_neg (show ¬ 0 < Qu.maxK (1 + andN kind 255 % 7) from h)]
 ·simp [mdQ]
 ·obtain ⟨i, _, rfl⟩ := List.mem_map.1 (show l ∈ (List.range (Qu.numF (1 + andN kind 255 % 7))).map (mdF fs) from hl)
  refine ⟨?_, fun c hc => ?_⟩
  ·unfold mdF
   rw [List.length_map, List.length_take]
   omega
  ·obtain ⟨e, _, rfl⟩ := List.mem_map.1 hc
   exact Qu.mdC_ok e
/-- a valid query of numbers passes the check -/
theorem vQ_of (q : Qu.Qy) (h : OkQ q) : Qu.vQ (q.kind : Int) (q.col : Int) (q.k : Int) (q.fs.map (List.map Qu.Cd.ci)) = true := by
 obtain ⟨kind, col, k, fs⟩ := q
 obtain ⟨k1, k7, c1, c0, m1, m0, nf, ok⟩ := h
 replace k1 : 1 ≤ kind := k1
 replace k7 : kind ≤ 7 := k7
 replace c1 : Qu.hasC kind = true → col < 4 := c1
 replace c0 : Qu.hasC kind = false → col = 0 := c0
 replace m1 : 0 < Qu.maxK kind → 1 ≤ k ∧ k ≤ Qu.maxK kind := m1
 replace m0 : ¬ 0 < Qu.maxK kind → k = 0 := m0
 replace nf : fs.length = Qu.numF kind := nf
 have hc4 : col < 4 := by
  cases hc : Qu.hasC kind with
  | true => exact c1 hc
  | false => have := c0 hc; omega
 have hk : min 1 (Qu.maxK kind) ≤ k ∧ k ≤ Qu.maxK kind := by
  by_cases hm : 0 < Qu.maxK kind
  ·have := m1 hm; omega
  ·have := m0 hm; omega
 have hall : (fs.map (List.map Qu.Cd.ci)).all Qu.vL = true := by
  rw [List.all_eq_true]
  intro l hl
  obtain ⟨l2, h2, rfl⟩ := List.mem_map.1 hl
  have hk2 := ok l2 h2
  unfold Qu.vL
  have h3 : (l2.map Qu.Cd.ci).all Qu.vC = true := by
   rw [List.all_eq_true]
   intro x hx
   obtain ⟨c, hc, rfl⟩ := List.mem_map.1 hx
   obtain ⟨a1, a2, a3⟩ := hk2.2 c hc
   have e1 : decide ((0 : Int) ≤ c.ci.col) = true := decide_eq_true (Int.natCast_nonneg _)
   have e2 : decide (c.ci.col < 4) = true := decide_eq_true (by show (c.col : Int) < 4; omega)
   have e3 : decide ((0 : Int) ≤ c.ci.lo) = true := decide_eq_true (Int.natCast_nonneg _)
   have e4 : decide (c.ci.lo ≤ c.ci.hi) = true := decide_eq_true (by show (c.lo : Int) ≤ (c.hi : Int); omega)
   have e5 : decide (c.ci.hi ≤ (Qu.maxN c.ci.col.toNat : Int)) = true := decide_eq_true (by show (c.hi : Int) ≤ ((Qu.maxN (c.col : Int).toNat : Nat) : Int); rw [Int.toNat_natCast]; omega)
   unfold Qu.vC Qu.isC
   rw [e1, e2, e3, e4, e5]
   rfl
  rw [h3, List.length_map, decide_eq_true hk2.1]
  rfl
 unfold Qu.vQ Qu.mF Qu.isC
 rw [Int.toNat_natCast, List.length_map, hall, decide_eq_true (show (1 : Int) ≤ (kind : Int) by omega), decide_eq_true (show (kind : Int) ≤ 7 by omega), decide_eq_true (show (0 : Int) ≤ (col : Int) by omega), decide_eq_true (show (col : Int) < 4 by omega), decide_eq_true (show ((min 1 (Qu.maxK kind) : Nat) : Int) ≤ (k : Int) by omega), decide_eq_true (show (k : Int) ≤ ((Qu.maxK kind : Nat) : Int) by omega), decide_eq_true nf]
 cases hc : Qu.hasC kind with
 | true => rfl
 | false => rw [decide_eq_true (show (col : Int) = 0 by have := c0 hc; omega)]; rfl
end Go.Proofs.YtlicfidcfhbmpaaDoor

