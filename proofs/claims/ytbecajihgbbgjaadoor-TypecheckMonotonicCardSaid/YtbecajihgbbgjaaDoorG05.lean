/- Several texts in one: Yq, Yai, Yaj, Yr, Ys, Yt, Yu, Yy, Yal, Yca, Yz, Ycb, Ycc, Ycd, Ycf, Ycn. -/
import Derived.Test.YtbecajihgbbgjaaDoorG04
set_option linter.unusedVariables false
set_option linter.unusedSimpArgs false
set_option linter.unusedSectionVars false
namespace Go.Proofs.YtbecajihgbbgjaaDoor
set_option maxRecDepth 8000
open Go.RowKit Go.Proofs.YtbecajihgbbgjaaDoor.K
attribute [local irreducible] wpList wpQuiet
theorem Gc.name {w : World} (h : Gc w) (i : Nat) (hi : i < 4) : w.cell? ⟨1, i * 2 + 0, none⟩ = some (.string (sB (Qu.nameN i))) := by
 rcases i with _ | _ | _ | _ | i
 ·exact h 0 _ rfl
 ·exact h 2 _ rfl
 ·exact h 4 _ rfl
 ·exact h 6 _ rfl
 ·omega
end Go.Proofs.YtbecajihgbbgjaaDoor

namespace Go.Proofs.YtbecajihgbbgjaaDoor
set_option maxRecDepth 8000
def OkC (e : Qu.Cd) : Prop := e.col < 4 ∧ e.lo ≤ e.hi ∧ e.hi ≤ Qu.maxN e.col
section
variable {s a b d e : List UInt8} (ha : a.all Qu.isSp = true) (hb : b.all Qu.isSp = true) (hd : d.all Qu.isSp = true) (hn : a ≠ []) (he : e.all Qu.isSp = true)
include ha hb hd hn he
end
end Go.Proofs.YtbecajihgbbgjaaDoor

namespace Go.Proofs.YtbecajihgbbgjaaDoor
set_option maxRecDepth 8000
/-- a valid query of numbers -/
structure OkQ (q : Qu.Qy) : Prop where
 k1 : 1 ≤ q.kind
 k7 : q.kind ≤ 7
 c1 : Qu.hasC q.kind = true → q.col < 4
 c0 : Qu.hasC q.kind = false → q.col = 0
 m1 : 0 < Qu.maxK q.kind → 1 ≤ q.k ∧ q.k ≤ Qu.maxK q.kind
 m0 : ¬ 0 < Qu.maxK q.kind → q.k = 0
 nf : q.fs.length = Qu.numF q.kind
 ok : ∀ l ∈ q.fs, l.length ≤ 3 ∧ ∀ c ∈ l, OkC c
theorem _root_.Qu.maxK_le' (k : Nat) : Qu.maxK k ≤ 65536 := by
 unfold Qu.maxK
 split <;> decide
section
variable {s a b d e s0 : List UInt8} (ha : a.all Qu.isSp = true) (hb : b.all Qu.isSp = true) (hd : d.all Qu.isSp = true) (hn : a ≠ []) (he : e.all Qu.isSp = true)
include ha hn he
include hb hd
end
end Go.Proofs.YtbecajihgbbgjaaDoor

namespace Go.Proofs.YtbecajihgbbgjaaDoor
set_option maxRecDepth 8000
open Go.RowKit Go.Proofs.YtbecajihgbbgjaaDoor.K
attribute [local irreducible] wpList wpQuiet
theorem _root_.Qu.maxN_le (k : Nat) : Qu.maxN k ≤ 255 := by
 unfold Qu.maxN
 split <;> decide
theorem _root_.Qu.maxK_le (k : Nat) : Qu.maxK k ≤ 65536 := by
 unfold Qu.maxK
 split <;> decide
end Go.Proofs.YtbecajihgbbgjaaDoor

namespace Go.Proofs.YtbecajihgbbgjaaDoor
set_option maxRecDepth 8000
open Go.RowKit Go.Proofs.YtbecajihgbbgjaaDoor.K
attribute [local irreducible] wpList wpQuiet
theorem fl_ci (xs : List Qu.Cd) : fl ciC (xs.map Qu.Cd.ci) = fl cdC xs := by
 unfold fl
 rw [List.flatMap_map]
 rfl
theorem FsOwn.fsR {w : World} {base : Nat} {A : Option Addr} {n c : Nat} {fs : List (List Qu.Cd)} (h : FsOwn w base (.slice A n c) fs) : n = fs.length ∧ ∃ hs, FsR w A n c hs (fs.map (List.map Qu.Cd.ci)) := by
 obtain ⟨A2, c2, hs, he, ho, hc⟩ := h
 injection he with e1 e2 e3
 subst e1 e2 e3
 refine ⟨rfl, hs, Sg.ownS ho, by rw [List.length_map]; exact hc.len, fun i d xs hi hx => ?_⟩
 rw [List.getElem?_map] at hx
 obtain ⟨ys, hy, rfl⟩ := Option.map_eq_some_iff.1 hx
 have h2 := (hc.row i d ys hi hy).2
 rw [← fl_ci] at h2
 exact Sg.ownS h2
end Go.Proofs.YtbecajihgbbgjaaDoor

namespace Go.Proofs.YtbecajihgbbgjaaDoor
set_option maxRecDepth 8000
open Go.RowKit Go.Proofs.YtbecajihgbbgjaaDoor.K
attribute [local irreducible] wpList wpQuiet
section
variable {w : World} {A A1 A2 : Option Addr} {c n1 c1 n2 c2 : Nat} {xs ys : List Qu.Ci}
theorem fsR1 (h : Sg hdC 1 w A 1 c [Hd.mk A1 n1 c1]) (h1 : Sg ciC 3 w A1 n1 c1 xs) : FsR w A 1 c [Hd.mk A1 n1 c1] [xs] := ⟨h, rfl, fun i d zs hi hx => by
 rcases i with _ | i
 ·simp at hi hx
  subst hi hx
  exact h1
 ·simp at hi⟩
end
end Go.Proofs.YtbecajihgbbgjaaDoor

namespace Go.Proofs.YtbecajihgbbgjaaDoor
set_option maxRecDepth 8000
open Go.RowKit Go.Proofs.YtbecajihgbbgjaaDoor.K
attribute [local irreducible] wpList wpQuiet
/-- bits in common with a number -/
def andN (u : Int) (v : Nat) : Nat := (BitVec.ofInt 64 u &&& BitVec.ofInt 64 (v : Int)).toNat
theorem andN_le (u : Int) (v : Nat) (hv : v < 2 ^ 64) : andN u v ≤ v := by
 unfold andN
 rw [BitVec.toNat_and]
 refine Nat.le_trans Nat.and_le_right ?_
 rw [BitVec.ofInt_natCast, BitVec.toNat_ofNat]
 exact Nat.mod_le _ _
theorem xo_andI {P : Program} {ev : Operand → Value} {o : Oper} {w : World} {x y : Operand} {ty t : TypeId} (u : Int) (v : Nat) (hv : v < 2 ^ 63) (ho : o.op = .binOp .and ty x y t) (hx : ev x = .int .i64 u) (hy : ev y = .int .i64 (v : Int)) : (execOp ev o).run P w = .ok (.value (.int .i64 (andN u v : Int))) w := by
 have hl := andN_le u v (by omega)
 have hr : IntKind.i64.wrap (andN u v : Int) = (andN u v : Int) := by rw [IntKind.wrap_i64]; omega
 have e : (Op.intBits .and .i64 u (v : Int)).run P w = .ok (.int .i64 (andN u v : Int)) w := by
  simp only [Op.intBits]
  show _ = Result.ok (Value.int .i64 ((andN u v : Nat) : Int)) w
  rw [← hr]
  rfl
 unfold execOp
 simp [ho, hx, hy, eqGuard, binOp, Sem.run_bind, e]
set_option maxRecDepth 100000 in
set_option maxHeartbeats 8000000 in
theorem max_as (c m : Nat) (hc : c < 4) (hm : Qu.maxN c = m) (w : World) : Calls Tryd.prog 26 #[.int .i64 (c : Int)] w fun e w' => e = .returned (.int .i64 (m : Int)) ∧ w' = w := by
 go_enter Tryd.func26, Tryd.ntmps26
 go_upto_region 1 with fail
 have h4 : c = 0 ∨ c = 1 ∨ c = 2 ∨ c = 3 := by omega
 rcases h4 with rfl | rfl | rfl | rfl
 ·refine wp_region_lit ?_
  refine zr (.int .i64 0) w rfl ?_
  simp only [Act.put, zA]
  refine zr (.bool true) w (xo_eqlT .i64 0 0 (by omega) rfl rfl rfl) ?_
  simp only [Act.put, zA]
  refine zr (.bool true) w rfl ?_
  simp only [Act.put, zA]
  refine zl ?_
  try simp only [Act.put, zA]
  refine zl ?_
  try simp only [Act.put, zA]
  refine zr (.bool true) w rfl ?_
  simp only [Act.put, zA]
  refine wpList_nil ?_
  go_upto_region 2 with fail
  refine wp_region_lit ?_
  refine zr (.int .i64 15) w rfl ?_
  simp only [Act.put, zA]
  refine wpList_nil ?_
  go_wp2_with fail
  go_ret
  exact ⟨by rw [← hm]; rfl, rfl⟩
 ·refine wp_region_lit ?_
  refine zr (.int .i64 1) w rfl ?_
  simp only [Act.put, zA]
  refine zr (.bool false) w (xo_eqlF .i64 1 0 (by omega) rfl rfl rfl) ?_
  simp only [Act.put, zA]
  refine zr (.bool false) w rfl ?_
  simp only [Act.put, zA]
  refine zr (.int .i64 1) w rfl ?_
  simp only [Act.put, zA]
  refine zr (.bool false) w (xo_eqlF .i64 1 2 (by omega) rfl rfl rfl) ?_
  simp only [Act.put, zA]
  refine zr (.bool false) w rfl ?_
  simp only [Act.put, zA]
  refine wpList_nil ?_
  go_upto_region 3 with fail
  refine wp_region_lit ?_
  refine zr (.int .i64 255) w rfl ?_
  simp only [Act.put, zA]
  refine wpList_nil ?_
  go_wp2_with fail
  go_ret
  exact ⟨by rw [← hm]; rfl, rfl⟩
 ·refine wp_region_lit ?_
  refine zr (.int .i64 2) w rfl ?_
  simp only [Act.put, zA]
  refine zr (.bool false) w (xo_eqlF .i64 2 0 (by omega) rfl rfl rfl) ?_
  simp only [Act.put, zA]
  refine zr (.bool false) w rfl ?_
  simp only [Act.put, zA]
  refine zr (.int .i64 2) w rfl ?_
  simp only [Act.put, zA]
  refine zr (.bool true) w (xo_eqlT .i64 2 2 (by omega) rfl rfl rfl) ?_
  simp only [Act.put, zA]
  refine zr (.bool true) w rfl ?_
  simp only [Act.put, zA]
  refine wpList_nil ?_
  go_upto_region 2 with fail
  refine wp_region_lit ?_
  refine zr (.int .i64 15) w rfl ?_
  simp only [Act.put, zA]
  refine wpList_nil ?_
  go_wp2_with fail
  go_ret
  exact ⟨by rw [← hm]; rfl, rfl⟩
 ·refine wp_region_lit ?_
  refine zr (.int .i64 3) w rfl ?_
  simp only [Act.put, zA]
  refine zr (.bool false) w (xo_eqlF .i64 3 0 (by omega) rfl rfl rfl) ?_
  simp only [Act.put, zA]
  refine zr (.bool false) w rfl ?_
  simp only [Act.put, zA]
  refine zr (.int .i64 3) w rfl ?_
  simp only [Act.put, zA]
  refine zr (.bool false) w (xo_eqlF .i64 3 2 (by omega) rfl rfl rfl) ?_
  simp only [Act.put, zA]
  refine zr (.bool false) w rfl ?_
  simp only [Act.put, zA]
  refine wpList_nil ?_
  go_upto_region 3 with fail
  refine wp_region_lit ?_
  refine zr (.int .i64 255) w rfl ?_
  simp only [Act.put, zA]
  refine wpList_nil ?_
  go_wp2_with fail
  go_ret
  exact ⟨by rw [← hm]; rfl, rfl⟩
end Go.Proofs.YtbecajihgbbgjaaDoor

namespace Go.Proofs.YtbecajihgbbgjaaDoor
set_option maxRecDepth 8000
open Go.RowKit Go.Proofs.YtbecajihgbbgjaaDoor.K
attribute [local irreducible] wpList wpQuiet
def _root_.Qu.mdC (e : Qu.Ci) : Qu.Cd := ⟨andN e.col 3, min (andN e.lo 65535 % (Qu.maxN (andN e.col 3) + 1)) (andN e.hi 65535 % (Qu.maxN (andN e.col 3) + 1)), max (andN e.lo 65535 % (Qu.maxN (andN e.col 3) + 1)) (andN e.hi 65535 % (Qu.maxN (andN e.col 3) + 1))⟩
theorem _root_.Qu.mdC_ok (e : Qu.Ci) : (Qu.mdC e).col < 4 ∧ (Qu.mdC e).lo ≤ (Qu.mdC e).hi ∧ (Qu.mdC e).hi ≤ Qu.maxN (Qu.mdC e).col := by
 have h1 := andN_le e.col 3 (by decide)
 have h2 : andN e.lo 65535 % (Qu.maxN (andN e.col 3) + 1) < Qu.maxN (andN e.col 3) + 1 := Nat.mod_lt _ (Nat.succ_pos _)
 have h3 : andN e.hi 65535 % (Qu.maxN (andN e.col 3) + 1) < Qu.maxN (andN e.col 3) + 1 := Nat.mod_lt _ (Nat.succ_pos _)
 simp only [Qu.mdC]
 generalize andN e.lo 65535 % (Qu.maxN (andN e.col 3) + 1) = p at *
 generalize andN e.hi 65535 % (Qu.maxN (andN e.col 3) + 1) = q at *
 refine ⟨by omega, by omega, by omega⟩
set_option maxRecDepth 100000 in
set_option maxHeartbeats 16000000 in
theorem madeCond_any (col lo hi : Int) (w : World) : Calls Tryd.prog 23 #[.agg #[.int .i64 col, .int .i64 lo, .int .i64 hi]] w fun e w' => e = .returned (.agg #[.int .i64 ((Qu.mdC ⟨col, lo, hi⟩).col : Int), .int .i64 ((Qu.mdC ⟨col, lo, hi⟩).lo : Int), .int .i64 ((Qu.mdC ⟨col, lo, hi⟩).hi : Int)]) ∧ Below w.heap.size w w' := by
 obtain ⟨c, hc⟩ : ∃ c, andN col 3 = c := ⟨_, rfl⟩
 have hc4 : c < 4 := by have := andN_le col 3 (by decide); omega
 obtain ⟨m, hm⟩ : ∃ m, Qu.maxN c = m := ⟨_, rfl⟩
 have hm255 : m ≤ 255 := by rw [← hm]; exact Qu.maxN_le _
 obtain ⟨a0, ha0⟩ : ∃ x, andN lo 65535 = x := ⟨_, rfl⟩
 have la0 : a0 ≤ 65535 := by rw [← ha0]; exact andN_le _ _ (by decide)
 obtain ⟨a1, ha1⟩ : ∃ x, andN hi 65535 = x := ⟨_, rfl⟩
 have la1 : a1 ≤ 65535 := by rw [← ha1]; exact andN_le _ _ (by decide)
 obtain ⟨x0, hx0⟩ : ∃ x, a0 % (m + 1) = x := ⟨_, rfl⟩
 have lx0 : x0 ≤ m := by rw [← hx0]; exact Nat.le_of_lt_succ (Nat.mod_lt _ (Nat.succ_pos _))
 obtain ⟨x1, hx1⟩ : ∃ x, a1 % (m + 1) = x := ⟨_, rfl⟩
 have lx1 : x1 ≤ m := by rw [← hx1]; exact Nat.le_of_lt_succ (Nat.mod_lt _ (Nat.succ_pos _))
 have HRR : Hid (Qu.mdC ⟨col, lo, hi⟩ = ⟨c, min x0 x1, max x0 x1⟩) := zh (by simp only [Qu.mdC, hc, hm, ha0, ha1, hx0, hx1])
 go_enter Tryd.func23, Tryd.ntmps23
 go_upto_region 1 with fail
 refine wp_named2 (fun V1 hb g0 g1 hlt => ?_)
 have B0 := zh hb
 have Fv0_1 : Hid (V1.heap[w.heap.size]? = some (.cells #[.int .i64 col, .int .i64 lo, .int .i64 hi] 49 (0, 0))) := zh (g0)
 have Fv1_2 : Hid (V1.heap[(w.heap.size + 1)]? = some (.cells #[.int .i64 0, .int .i64 0, .int .i64 0] 49 (0, 0))) := zh (g1)
 have Nb0_1 : Hid (w.heap.size ≠ (w.heap.size + 1)) := zh (by omega)
 have Gb0 : Hid (w.heap.size ≤ w.heap.size) := zh (by omega)
 have Gb1 : Hid (w.heap.size ≤ (w.heap.size + 1)) := zh (by omega)
 clear hb g0 g1 hlt
 have Lt0 : Hid (w.heap.size < V1.heap.size) := zh (xp_lt Fv0_1.out)
 have Lt1 : Hid ((w.heap.size + 1) < V1.heap.size) := zh (xp_lt Fv1_2.out)
 refine wp_region_lit ?_
 refine zr (.pointer (some ⟨w.heap.size, 0, none⟩)) V1 (xo_fld0 0 w.heap.size 0 (by kernel_rfl) rfl rfl) ?_
 simp only [Act.put, zA]
 refine zr (.int .i64 col) V1 (xo_load1 ⟨w.heap.size, 0, none⟩ _ (cells_at Fv0_1.out 0 rfl) Tryd.underlying3 rfl rfl rfl) ?_
 simp only [Act.put, zA]
 refine zr (.int .i64 (c : Int)) V1 (hc ▸ xo_andI col 3 (by decide) rfl rfl rfl) ?_
 simp only [Act.put, zA]
 refine zr (.agg #[.int .i64 (c : Int), .int .i64 0, .int .i64 0]) V1 (by unfold execOp; go_simp <;> rfl) ?_
 simp only [Act.put, zA]
 refine wpList_new #[.int .i64 0, .int .i64 0, .int .i64 0] 49 (by kernel_rfl) (xo_alloc #[.int .i64 0, .int .i64 0, .int .i64 0] (by kernel_rfl) rfl) ?_
 intro b3 V2 hge h0 hb
 have N2_0 : Hid (w.heap.size ≠ b3) := zh (xp_lt0 Fv0_1.out hge)
 have N3_1 : Hid ((w.heap.size + 1) ≠ b3) := zh (xp_lt0 Fv1_2.out hge)
 have Ge4 : Hid (V1.heap.size ≤ b3) := zh hge
 have B1 := zh hb
 have Fv5_3 : Hid (V2.heap[b3]? = some (.cells #[.int .i64 0, .int .i64 0, .int .i64 0] 49 (0, 0))) := zh (h0)
 have Lt6 : Hid (b3 < V2.heap.size) := zh (xp_lt Fv5_3.out)
 clear hge h0 hb
 simp only [ptr, Act.put, zA]
 refine wpList_storeW b3 #[.int .i64 0, .int .i64 0, .int .i64 0] #[.int .i64 (c : Int), .int .i64 0, .int .i64 0] 49 (by kernel_rfl) Fv5_3.out (xo_storeW b3 #[.int .i64 0, .int .i64 0, .int .i64 0] #[.int .i64 (c : Int), .int .i64 0, .int .i64 0] Fv5_3.out (by kernel_rfl) rfl (by simp [Value.oneCell']) rfl rfl rfl) ?_
 intro X2_7 h1 hfar hbel hsz
 have hbr := hbel _ _ Ge4.out B1.out
 clear B1
 have B1 := zh hbr
 clear hbr
 clear Fv5_3
 have Fv5_3 : Hid (X2_7.heap[b3]? = some (.cells #[.int .i64 (c : Int), .int .i64 0, .int .i64 0] 49 (0, 0))) := zh (h1)
 have HszX2_7 := zh hsz
 clear h1 hfar hbel hsz
 simp only [ptr, Act.put, zA]
 refine wpList_nil ?_
 go_upto_region 2 with fail
 refine wp_region_lit ?_
 refine zr (.pointer (some ⟨b3, 0, none⟩)) X2_7 (xo_fld0 0 b3 0 (by kernel_rfl) rfl rfl) ?_
 simp only [Act.put, zA]
 refine zr (.int .i64 (c : Int)) X2_7 (xo_load1 ⟨b3, 0, none⟩ _ (cells_at Fv5_3.out 0 rfl) Tryd.underlying3 rfl rfl rfl) ?_
 simp only [Act.put, zA]
 refine wpList_call (by kernel_rfl) 26 Tryd.func26 (by kernel_rfl) (by kernel_rfl) _ _ #[.int .i64 (c : Int)] rfl (by kernel_rfl) ?_
 refine (max_as c m hc4 hm X2_7).mono ?_
 rintro e W1 ⟨rfl, hw1⟩
 rw [hw1]
 clear hw1 W1
 refine ⟨_, rfl, ?_⟩
 simp only [Act.put, zA]
 refine zr (.int .i64 ((m + 1 : Nat) : Int)) X2_7 (xo_addI (m : Int) 1 ((m + 1 : Nat) : Int) (by omega) (by omega) (by omega) rfl rfl rfl) ?_
 simp only [Act.put, zA]
 refine zr (.int .i64 ((m + 1 : Nat) : Int)) X2_7 rfl ?_
 simp only [Act.put, zA]
 refine wpList_nil ?_
 go_upto_region 3 with fail
 refine wp_later_lex (by kernel_rfl) (lexOK_of (by kernel_rfl) (by kernel_rfl)) ?_
 refine zv (.pointer (some ⟨w.heap.size, 1, none⟩)) (fun v hv => (xo_fld0 1 w.heap.size 1 (by kernel_rfl) rfl rfl)) ?_
 simp only [Act.put, zA]
 refine zv (.int .i64 lo) (fun v hv => (xo_load1 ⟨w.heap.size, 1, none⟩ _ (cells_at (heap_keep (heap_keep Fv0_1.out B1.out) (later_bel hv)) 1 rfl) Tryd.underlying3 rfl rfl rfl)) ?_
 simp only [Act.put, zA]
 refine zv (.int .i64 (a0 : Int)) (fun v hv => (ha0 ▸ xo_andI lo 65535 (by decide) rfl rfl rfl)) ?_
 simp only [Act.put, zA]
 refine zv (.int .i64 ((m + 1 : Nat) : Int)) (fun v hv => rfl) ?_
 simp only [Act.put, zA]
 refine zv (.int .i64 (x0 : Int)) (fun v hv => (xo_remN .i64 a0 (m + 1) x0 (by omega) hx0 rfl rfl rfl)) ?_
 simp only [Act.put, zA]
 refine zv (.pointer (some ⟨w.heap.size, 2, none⟩)) (fun v hv => (xo_fld0 2 w.heap.size 2 (by kernel_rfl) rfl rfl)) ?_
 simp only [Act.put, zA]
 refine zv (.int .i64 hi) (fun v hv => (xo_load1 ⟨w.heap.size, 2, none⟩ _ (cells_at (heap_keep (heap_keep Fv0_1.out B1.out) (later_bel hv)) 2 rfl) Tryd.underlying3 rfl rfl rfl)) ?_
 simp only [Act.put, zA]
 refine zv (.int .i64 (a1 : Int)) (fun v hv => (ha1 ▸ xo_andI hi 65535 (by decide) rfl rfl rfl)) ?_
 simp only [Act.put, zA]
 refine zv (.int .i64 ((m + 1 : Nat) : Int)) (fun v hv => rfl) ?_
 simp only [Act.put, zA]
 refine zv (.int .i64 (x1 : Int)) (fun v hv => (xo_remN .i64 a1 (m + 1) x1 (by omega) hx1 rfl rfl rfl)) ?_
 simp only [Act.put, zA]
 refine zv (.int .i64 (x0 : Int)) (fun v hv => rfl) ?_
 simp only [Act.put, zA]
 refine zv (.int .i64 (x1 : Int)) (fun v hv => rfl) ?_
 simp only [Act.put, zA]
 refine wpQuiet_nil ?_
 intro X2_8
 have hb := X2_8.below
 generalize X2_8.at = V3 at *
 have B2 := zh hb
 clear hb
 go_upto_region 4 with fail
 refine wp_region_lit ?_
 refine zr (.int .i64 (x0 : Int)) V3 rfl ?_
 simp only [Act.put, zA]
 refine zr (.int .i64 (x1 : Int)) V3 rfl ?_
 simp only [Act.put, zA]
 refine zr (.int .i64 ((min x0 x1 : Nat) : Int)) V3 (xo_min .i64 (x0 : Int) (x1 : Int) ((min x0 x1 : Nat) : Int) (by split <;> omega) rfl rfl rfl) ?_
 simp only [Act.put, zA]
 refine zr (.pointer (some ⟨b3, 1, none⟩)) V3 (xo_fld0 1 b3 1 (by kernel_rfl) rfl rfl) ?_
 simp only [Act.put, zA]
 refine wpList_store1 b3 1 #[.int .i64 (c : Int), .int .i64 0, .int .i64 0] (.int .i64 ((min x0 x1 : Nat) : Int)) 49 (by kernel_rfl) (heap_keep Fv5_3.out B2.out) (xo_store1 b3 1 #[.int .i64 (c : Int), .int .i64 0, .int .i64 0] _ (.int .i64 ((min x0 x1 : Nat) : Int)) (heap_keep Fv5_3.out B2.out) rfl (by kernel_rfl) rfl rfl rfl rfl) ?_
 intro X3_9 h1 hfar hbel hsz
 have C1_3 := zb B1 B2
 have hbr := hbel _ _ Ge4.out C1_3.out
 clear B1
 have B1 := zh hbr
 clear hbr
 clear Fv5_3
 have Fv5_3 : Hid (X3_9.heap[b3]? = some (.cells #[.int .i64 (c : Int), .int .i64 ((min x0 x1 : Nat) : Int), .int .i64 0] 49 (0, 0))) := zh (h1)
 have HszX3_9 := zh hsz
 clear h1 hfar hbel hsz
 simp only [ptr, Act.put, zA]
 refine wpList_nil ?_
 go_upto_region 5 with fail
 refine wp_region_lit ?_
 refine zr (.int .i64 (x0 : Int)) X3_9 rfl ?_
 simp only [Act.put, zA]
 refine zr (.int .i64 (x1 : Int)) X3_9 rfl ?_
 simp only [Act.put, zA]
 refine zr (.int .i64 ((max x0 x1 : Nat) : Int)) X3_9 (xo_max .i64 (x0 : Int) (x1 : Int) ((max x0 x1 : Nat) : Int) (by split <;> omega) rfl rfl rfl) ?_
 simp only [Act.put, zA]
 refine zr (.pointer (some ⟨b3, 2, none⟩)) X3_9 (xo_fld0 2 b3 2 (by kernel_rfl) rfl rfl) ?_
 simp only [Act.put, zA]
 refine wpList_store1 b3 2 #[.int .i64 (c : Int), .int .i64 ((min x0 x1 : Nat) : Int), .int .i64 0] (.int .i64 ((max x0 x1 : Nat) : Int)) 49 (by kernel_rfl) Fv5_3.out (xo_store1 b3 2 #[.int .i64 (c : Int), .int .i64 ((min x0 x1 : Nat) : Int), .int .i64 0] _ (.int .i64 ((max x0 x1 : Nat) : Int)) Fv5_3.out rfl (by kernel_rfl) rfl rfl rfl rfl) ?_
 intro X2_10 h1 hfar hbel hsz
 have hbr := hbel _ _ Ge4.out B1.out
 clear B1
 have B1 := zh hbr
 clear hbr
 clear Fv5_3
 have Fv5_3 : Hid (X2_10.heap[b3]? = some (.cells #[.int .i64 (c : Int), .int .i64 ((min x0 x1 : Nat) : Int), .int .i64 ((max x0 x1 : Nat) : Int)] 49 (0, 0))) := zh (h1)
 have HszX2_10 := zh hsz
 clear h1 hfar hbel hsz
 simp only [ptr, Act.put, zA]
 refine wpList_nil ?_
 go_upto_region 6 with fail
 refine wp_region_lit ?_
 refine zr (.agg #[.int .i64 (c : Int), .int .i64 ((min x0 x1 : Nat) : Int), .int .i64 ((max x0 x1 : Nat) : Int)]) X2_10 (xo_loadW b3 _ Fv5_3.out Tryd.underlying49 rfl (by kernel_rfl) rfl rfl) ?_
 simp only [Act.put, zA]
 refine wpList_storeW (w.heap.size + 1) #[.int .i64 0, .int .i64 0, .int .i64 0] #[.int .i64 (c : Int), .int .i64 ((min x0 x1 : Nat) : Int), .int .i64 ((max x0 x1 : Nat) : Int)] 49 (by kernel_rfl) (heap_keep Fv1_2.out B1.out) (xo_storeW (w.heap.size + 1) #[.int .i64 0, .int .i64 0, .int .i64 0] #[.int .i64 (c : Int), .int .i64 ((min x0 x1 : Nat) : Int), .int .i64 ((max x0 x1 : Nat) : Int)] (heap_keep Fv1_2.out B1.out) (by kernel_rfl) rfl (by simp [Value.oneCell']) rfl rfl rfl) ?_
 intro X2_11 h1 hfar hbel hsz
 have YFv0_1 : X2_11.heap[w.heap.size]? = some (.cells #[.int .i64 col, .int .i64 lo, .int .i64 hi] 49 (0, 0)) := hfar _ _ Nb0_1.out (heap_keep Fv0_1.out B1.out)
 have YFv5_3 : X2_11.heap[b3]? = some (.cells #[.int .i64 (c : Int), .int .i64 ((min x0 x1 : Nat) : Int), .int .i64 ((max x0 x1 : Nat) : Int)] 49 (0, 0)) := hfar _ _ (Ne.symm N3_1.out) Fv5_3.out
 have Gs12 : Hid (w.heap.size ≤ b3) := zh (Nat.le_trans B0.out.size Ge4.out)
 have C0_2 := zb B0 B1
 have hbr := hbel _ _ Gb1.out C0_2.out
 clear B0
 have B0 := zh hbr
 clear hbr
 clear Fv0_1
 have Fv0_1 : Hid (X2_11.heap[w.heap.size]? = some (.cells #[.int .i64 col, .int .i64 lo, .int .i64 hi] 49 (0, 0))) := zh YFv0_1
 clear YFv0_1
 clear Fv5_3
 have Fv5_3 : Hid (X2_11.heap[b3]? = some (.cells #[.int .i64 (c : Int), .int .i64 ((min x0 x1 : Nat) : Int), .int .i64 ((max x0 x1 : Nat) : Int)] 49 (0, 0))) := zh YFv5_3
 clear YFv5_3
 clear Fv1_2
 have Fv1_2 : Hid (X2_11.heap[(w.heap.size + 1)]? = some (.cells #[.int .i64 (c : Int), .int .i64 ((min x0 x1 : Nat) : Int), .int .i64 ((max x0 x1 : Nat) : Int)] 49 (0, 0))) := zh (h1)
 have HszX2_11 := zh hsz
 clear h1 hfar hbel hsz
 simp only [ptr, Act.put, zA]
 refine wpList_nil ?_
 have hbf := B0.out
 go_wp2_with fail
 refine bodyPost_ret (v := .agg #[.int .i64 (c : Int), .int .i64 ((min x0 x1 : Nat) : Int), .int .i64 ((max x0 x1 : Nat) : Int)]) ?_ rfl ⟨by rw [HRR.out], hbf⟩
 exact results_cell_row rfl _ _ (w.heap.size + 1) 49 _ (0, 0) _ rfl Fv1_2.out Tryd.underlying49 rfl (by kernel_rfl)
end Go.Proofs.YtbecajihgbbgjaaDoor

namespace Go.Proofs.YtbecajihgbbgjaaDoor
set_option maxRecDepth 8000
def mdF (fs : List (List Qu.Ci)) (i : Nat) : List Qu.Cd := ((fs.getD i []).take 3).map Qu.mdC
def mdQ (kind col k : Int) (fs : List (List Qu.Ci)) : Qu.Qy :=
 ⟨1 + andN kind 255 % 7, if Qu.hasC (1 + andN kind 255 % 7) = true then andN col 3 else 0, if 0 < Qu.maxK (1 + andN kind 255 % 7) then 1 + andN k 65535 % Qu.maxK (1 + andN kind 255 % 7) else 0, (List.range (Qu.numF (1 + andN kind 255 % 7))).map (mdF fs)⟩
theorem mdQ_ok (kind col k : Int) (fs : List (List Qu.Ci)) : OkQ (mdQ kind col k fs) := by
 have h7 := Nat.mod_lt (andN kind 255) (by decide : 0 < 7)
 have h3 := andN_le col 3 (by decide)
 refine ⟨?_, ?_, fun h => ?_, fun h => ?_, fun h => ?_, fun h => ?_, ?_, fun l hl => ?_⟩
 ·show 1 ≤ 1 + andN kind 255 % 7
  omega
 ·show 1 + andN kind 255 % 7 ≤ 7
  omega
 ·show (if Qu.hasC (1 + andN kind 255 % 7) = true then andN col 3 else 0) < 4
  rw [if_pos (show Qu.hasC (1 + andN kind 255 % 7) = true from h)]
  omega
 ·show (if Qu.hasC (1 + andN kind 255 % 7) = true then andN col 3 else 0) = 0
  have h0 : Qu.hasC (1 + andN kind 255 % 7) = false := h
  rw [if_neg (by rw [h0]; decide)]
 ·have h0 : 0 < Qu.maxK (1 + andN kind 255 % 7) := h
  have hm := Nat.mod_lt (andN k 65535) h0
  show 1 ≤ (if 0 < Qu.maxK (1 + andN kind 255 % 7) then 1 + andN k 65535 % Qu.maxK (1 + andN kind 255 % 7) else 0) ∧ (if 0 < Qu.maxK (1 + andN kind 255 % 7) then 1 + andN k 65535 % Qu.maxK (1 + andN kind 255 % 7) else 0) ≤ Qu.maxK (1 + andN kind 255 % 7)
  rw [if_pos h0]
  omega
 ·show (if 0 < Qu.maxK (1 + andN kind 255 % 7) then _ else 0) = 0
  rw [if_neg (show ¬ 0 < Qu.maxK (1 + andN kind 255 % 7) from h)]
 ·simp [mdQ]
 ·obtain ⟨i, _, rfl⟩ := List.mem_map.1 (show l ∈ (List.range (Qu.numF (1 + andN kind 255 % 7))).map (mdF fs) from hl)
  refine ⟨?_, fun c hc => ?_⟩
  ·unfold mdF
   rw [List.length_map, List.length_take]
   omega
  ·obtain ⟨e, _, rfl⟩ := List.mem_map.1 hc
   exact Qu.mdC_ok e
/-- a valid query of numbers passes the check -/
theorem vQ_of (q : Qu.Qy) (h : OkQ q) : Qu.vQ (q.kind : Int) (q.col : Int) (q.k : Int) (q.fs.map (List.map Qu.Cd.ci)) = true := by
 obtain ⟨kind, col, k, fs⟩ := q
 obtain ⟨k1, k7, c1, c0, m1, m0, nf, ok⟩ := h
 replace k1 : 1 ≤ kind := k1
 replace k7 : kind ≤ 7 := k7
 replace c1 : Qu.hasC kind = true → col < 4 := c1
 replace c0 : Qu.hasC kind = false → col = 0 := c0
 replace m1 : 0 < Qu.maxK kind → 1 ≤ k ∧ k ≤ Qu.maxK kind := m1
 replace m0 : ¬ 0 < Qu.maxK kind → k = 0 := m0
 replace nf : fs.length = Qu.numF kind := nf
 have hc4 : col < 4 := by
  cases hc : Qu.hasC kind with
  | true => exact c1 hc
  | false => have := c0 hc; omega
 have hk : min 1 (Qu.maxK kind) ≤ k ∧ k ≤ Qu.maxK kind := by
  by_cases hm : 0 < Qu.maxK kind
  ·have := m1 hm; omega
  ·have := m0 hm; omega
 have hall : (fs.map (List.map Qu.Cd.ci)).all Qu.vL = true := by
  rw [List.all_eq_true]
  intro l hl
  obtain ⟨l2, h2, rfl⟩ := List.mem_map.1 hl
  have hk2 := ok l2 h2
  unfold Qu.vL
  have h3 : (l2.map Qu.Cd.ci).all Qu.vC = true := by
   rw [List.all_eq_true]
   intro x hx
   obtain ⟨c, hc, rfl⟩ := List.mem_map.1 hx
   obtain ⟨a1, a2, a3⟩ := hk2.2 c hc
   have e1 : decide ((0 : Int) ≤ c.ci.col) = true := decide_eq_true (Int.natCast_nonneg _)
   have e2 : decide (c.ci.col < 4) = true := decide_eq_true (by show (c.col : Int) < 4; omega)
   have e3 : decide ((0 : Int) ≤ c.ci.lo) = true := decide_eq_true (Int.natCast_nonneg _)
   have e4 : decide (c.ci.lo ≤ c.ci.hi) = true := decide_eq_true (by show (c.lo : Int) ≤ (c.hi : Int); omega)
   have e5 : decide (c.ci.hi ≤ (Qu.maxN c.ci.col.toNat : Int)) = true := decide_eq_true (by show (c.hi : Int) ≤ ((Qu.maxN (c.col : Int).toNat : Nat) : Int); rw [Int.toNat_natCast]; omega)
   unfold Qu.vC Qu.isC
   rw [e1, e2, e3, e4, e5]
   rfl
  rw [h3, List.length_map, decide_eq_true hk2.1]
  rfl
 unfold Qu.vQ Qu.mF Qu.isC
 rw [Int.toNat_natCast, List.length_map, hall, decide_eq_true (show (1 : Int) ≤ (kind : Int) by omega), decide_eq_true (show (kind : Int) ≤ 7 by omega), decide_eq_true (show (0 : Int) ≤ (col : Int) by omega), decide_eq_true (show (col : Int) < 4 by omega), decide_eq_true (show ((min 1 (Qu.maxK kind) : Nat) : Int) ≤ (k : Int) by omega), decide_eq_true (show (k : Int) ≤ ((Qu.maxK kind : Nat) : Int) by omega), decide_eq_true nf]
 cases hc : Qu.hasC kind with
 | true => rfl
 | false => rw [decide_eq_true (show (col : Int) = 0 by have := c0 hc; omega)]; rfl
end Go.Proofs.YtbecajihgbbgjaaDoor

namespace Go.Proofs.YtbecajihgbbgjaaDoor
set_option maxRecDepth 8000
namespace Ty
def stC (c : Nat) (a : Nat × Nat) (e : Qu.Cd) : Nat × Nat := if e.col = c then (max a.1 e.lo, min a.2 e.hi) else a
/-- the range of column c under a filter -/
def spC (l : List Qu.Cd) (c : Nat) : Nat × Nat := l.foldl (stC c) (0, Qu.maxN c)
theorem spC_snoc (l : List Qu.Cd) (e : Qu.Cd) (c : Nat) : spC (l ++ [e]) c = stC c (spC l c) e := by unfold spC; rw [List.foldl_append]; rfl
theorem spC_take {l : List Qu.Cd} {i : Nat} {e : Qu.Cd} (h : l[i]? = some e) (c : Nat) : spC (l.take (i + 1)) c = stC c (spC (l.take i) c) e := by
 rw [List.take_add_one, h]
 exact spC_snoc _ _ _
theorem fold_iff (c v : Nat) : ∀ (l : List Qu.Cd) (a b : Nat), ((l.foldl (stC c) (a, b)).1 ≤ v ∧ v ≤ (l.foldl (stC c) (a, b)).2) ↔ (a ≤ v ∧ v ≤ b) ∧ ∀ e ∈ l, e.col = c → e.lo ≤ v ∧ v ≤ e.hi
 | [], a, b => by simp
 | e :: l, a, b => by
  rw [List.foldl_cons]
  by_cases he : e.col = c
  ·rw [show stC c (a, b) e = (max a e.lo, min b e.hi) by unfold stC; rw [if_pos he], fold_iff c v l]
   constructor
   ·rintro ⟨⟨h1, h2⟩, h3⟩
    refine ⟨⟨by omega, by omega⟩, fun x hx hc => ?_⟩
    rcases List.mem_cons.1 hx with rfl | hx
    ·exact ⟨by omega, by omega⟩
    ·exact h3 x hx hc
   ·rintro ⟨⟨h1, h2⟩, h3⟩
    have h4 := h3 e List.mem_cons_self he
    exact ⟨⟨by omega, by omega⟩, fun x hx => h3 x (List.mem_cons_of_mem _ hx)⟩
  ·rw [show stC c (a, b) e = (a, b) by unfold stC; rw [if_neg he], fold_iff c v l]
   constructor
   ·rintro ⟨h1, h3⟩
    refine ⟨h1, fun x hx hc => ?_⟩
    rcases List.mem_cons.1 hx with rfl | hx
    ·exact absurd hc he
    ·exact h3 x hx hc
   ·rintro ⟨h1, h3⟩
    exact ⟨h1, fun x hx => h3 x (List.mem_cons_of_mem _ hx)⟩
/-- a value is in the range of a column -/
def posN (l : List Qu.Cd) (c v : Nat) : Bool := decide (v ≤ Qu.maxN c) && l.all fun e => !decide (e.col = c) || (decide (e.lo ≤ v) && decide (v ≤ e.hi))
theorem pos_def (l : List Qu.Cd) (c v : Nat) : posN l c v = true ↔ v ≤ Qu.maxN c ∧ ∀ e ∈ l, e.col = c → e.lo ≤ v ∧ v ≤ e.hi := by
 unfold posN
 rw [Bool.and_eq_true, decide_eq_true_eq, List.all_eq_true]
 refine and_congr Iff.rfl (forall_congr' fun e => forall_congr' fun _ => ?_)
 by_cases h : e.col = c <;> simp [h]
theorem pos_iff (l : List Qu.Cd) (c v : Nat) : posN l c v = true ↔ (spC l c).1 ≤ v ∧ v ≤ (spC l c).2 := by
 rw [pos_def, show spC l c = l.foldl (stC c) (0, Qu.maxN c) from rfl, fold_iff]
 simp
theorem fold_le (c : Nat) : ∀ (l : List Qu.Cd) (a b : Nat), (l.foldl (stC c) (a, b)).2 ≤ b
 | [], _, b => Nat.le_refl b
 | e :: l, a, b => by
  rw [List.foldl_cons]
  by_cases he : e.col = c
  ·rw [show stC c (a, b) e = (max a e.lo, min b e.hi) by unfold stC; rw [if_pos he]]
   exact Nat.le_trans (fold_le c l _ _) (Nat.min_le_left _ _)
  ·rw [show stC c (a, b) e = (a, b) by unfold stC; rw [if_neg he]]
   exact fold_le c l _ _
theorem hi_le (l : List Qu.Cd) (c : Nat) : (spC l c).2 ≤ Qu.maxN c := fold_le c l _ _
theorem maxN_le (c : Nat) : Qu.maxN c ≤ 255 := by unfold Qu.maxN; split <;> decide
/-- no range is empty -/
def satN (l : List Qu.Cd) : Bool := (List.range 4).all fun c => decide ((spC l c).1 ≤ (spC l c).2)
theorem sat_iff (l : List Qu.Cd) : satN l = true ↔ ∀ c, c < 4 → (spC l c).1 ≤ (spC l c).2 := by
 unfold satN
 rw [List.all_eq_true]
 simp
/-- 1 where the range holds the value -/
def cnN (l : List Qu.Cd) (c v : Nat) : Nat := if posN l c v = true then 1 else 0
/-- what one reading can add at most, as a power -/
def moN (q : Qu.Qy) (l : List Qu.Cd) (v : Nat) : Nat × Nat :=
 match q.kind with
 | 1 => (1, 1)
 | 2 => ((spC l q.col).2, 1)
 | 3 => ((spC l q.col).2, q.k)
 | 7 => (cnN l 0 (v % 16), 1)
 | _ => (cnN l q.col v, 1)
def ruN (q : Qu.Qy) (v : Nat) : List Qu.Cd := q.fs.getD (v / 16) []
/-- what one reading can add at most -/
def oneN (q : Qu.Qy) (v : Nat) : Nat := if satN (ruN q v) = true then (moN q (ruN q v) v).1 ^ (moN q (ruN q v) v).2 else 0
/-- the bound of sum v -/
def bdN (q : Qu.Qy) (rows v : Nat) : Nat := if satN (ruN q v) = true then rows * (moN q (ruN q v) v).1 ^ (moN q (ruN q v) v).2 else 0
theorem bd_eq (q : Qu.Qy) (rows v : Nat) : bdN q rows v = rows * oneN q v := by
 unfold bdN oneN
 split
 ·rfl
 ·simp
/-- the number of sums -/
def suN : Nat → Nat
 | 1 => 1
 | 2 => 1
 | 3 => 1
 | 4 => 16
 | 5 => 16
 | 6 => 16
 | 7 => 32
 | _ => 0
/-- what Check says of a valid query: the bounds and the code -/
def ckN (q : Qu.Qy) (rows : Nat) : List Nat × Nat :=
 if 4 ≤ q.kind ∧ q.kind ≤ 6 ∧ q.col % 2 = 1 then ([], 140)
 else if ((List.range (suN q.kind)).all fun v => decide (bdN q rows v < 2 ^ 62)) = true then ((List.range (suN q.kind)).map (bdN q rows), 0)
 else ([], 141)
theorem pow_big {rows base i e : Nat} (hr : rows < 2 ^ 62) (hi : i ≤ e) (h : 2 ^ 62 ≤ rows * base ^ i) : 2 ^ 62 ≤ rows * base ^ e := by
 rcases Nat.eq_zero_or_pos base with rfl | hb
 ·rcases Nat.eq_zero_or_pos i with rfl | h0
  ·rw [Nat.pow_zero, Nat.mul_one] at h
   omega
  ·rw [Nat.zero_pow h0, Nat.mul_zero] at h
   omega
 ·exact Nat.le_trans h (Nat.mul_le_mul_left _ (Nat.pow_le_pow_right hb hi))
theorem cn_le (l : List Qu.Cd) (c v : Nat) : cnN l c v ≤ 1 := by unfold cnN; split <;> decide
theorem ck_ok {q : Qu.Qy} {rows : Nat} (ht : ¬ (4 ≤ q.kind ∧ q.kind ≤ 6 ∧ q.col % 2 = 1)) (h : ∀ v, v < suN q.kind → bdN q rows v < 2 ^ 62) : ckN q rows = ((List.range (suN q.kind)).map (bdN q rows), 0) := by
 unfold ckN
 rw [if_neg ht, if_pos]
 rw [List.all_eq_true]
 intro v hv
 exact decide_eq_true (h v (List.mem_range.1 hv))
theorem ck_bad {q : Qu.Qy} {rows v : Nat} (ht : ¬ (4 ≤ q.kind ∧ q.kind ≤ 6 ∧ q.col % 2 = 1)) (hv : v < suN q.kind) (h : ¬ bdN q rows v < 2 ^ 62) : ckN q rows = ([], 141) := by
 unfold ckN
 rw [if_neg ht, if_neg]
 intro ha
 exact h (of_decide_eq_true (List.all_eq_true.1 ha v (List.mem_range.2 hv)))
theorem ck_type {q : Qu.Qy} {rows : Nat} (ht : 4 ≤ q.kind ∧ q.kind ≤ 6 ∧ q.col % 2 = 1) : ckN q rows = ([], 140) := by
 unfold ckN
 rw [if_pos ht]
end Ty
end Go.Proofs.YtbecajihgbbgjaaDoor

namespace Go.Proofs.YtbecajihgbbgjaaDoor
set_option maxRecDepth 8000
open Go.RowKit Go.Proofs.YtbecajihgbbgjaaDoor.K
attribute [local irreducible] wpList wpQuiet
def zzC (x : Int) : List Value := [.int .i64 x]
instance : Enc zzC 1 := ⟨fun _ => rfl, fun x u hu => by
 simp only [zzC, List.mem_cons, List.not_mem_nil, or_false] at hu
 subst hu
 rfl, by decide⟩
set_option maxRecDepth 100000 in
set_option maxHeartbeats 8000000 in
theorem rhasC_as (k : Nat) (b : Bool) (hb : Qu.hasC k = b) (w : World) : Calls Tryd.prog 36 #[.int .i64 (k : Int)] w fun e w' => e = .returned (.bool b) ∧ w' = w := by
 go_enter Tryd.func36, Tryd.ntmps36
 go_upto_region 1 with fail
 by_cases h2 : 2 ≤ k
 ·have hci0 : ((k : Int) ≥ 2) := by omega
  by_cases h6 : k ≤ 6
  ·have hci1 : ((k : Int) ≤ 6) := by omega
   refine wp_region_lit ?_
   refine zr (.int .i64 (k : Int)) w rfl ?_
   simp only [Act.put, zA]
   refine zr (.bool true) w (xo_geqT .i64 (k : Int) 2 (by omega) rfl rfl rfl) ?_
   simp only [Act.put, zA]
   refine zr (.bool true) w rfl ?_
   simp only [Act.put, zA]
   refine zr (.int .i64 (k : Int)) w rfl ?_
   simp only [Act.put, zA]
   refine zr (.bool true) w (xo_leqT .i64 (k : Int) 6 (by omega) rfl rfl rfl) ?_
   simp only [Act.put, zA]
   refine zr (.bool true) w rfl ?_
   simp only [Act.put, zA]
   refine zr (.bool true) w rfl ?_
   simp only [Act.put, zA]
   refine wpList_nil ?_
   obtain rfl : b = true := by rw [← hb]; unfold Qu.hasC; simp <;> omega
   go_wp2_with fail
   go_ret
   exact ⟨rfl, rfl⟩
  ·have hci1 : ¬ ((k : Int) ≤ 6) := by omega
   refine wp_region_lit ?_
   refine zr (.int .i64 (k : Int)) w rfl ?_
   simp only [Act.put, zA]
   refine zr (.bool true) w (xo_geqT .i64 (k : Int) 2 (by omega) rfl rfl rfl) ?_
   simp only [Act.put, zA]
   refine zr (.bool true) w rfl ?_
   simp only [Act.put, zA]
   refine zr (.int .i64 (k : Int)) w rfl ?_
   simp only [Act.put, zA]
   refine zr (.bool false) w (xo_leqF .i64 (k : Int) 6 (by omega) rfl rfl rfl) ?_
   simp only [Act.put, zA]
   refine zr (.bool false) w rfl ?_
   simp only [Act.put, zA]
   refine zr (.bool false) w rfl ?_
   simp only [Act.put, zA]
   refine wpList_nil ?_
   obtain rfl : b = false := by rw [← hb]; unfold Qu.hasC; simp <;> omega
   go_wp2_with fail
   go_ret
   exact ⟨rfl, rfl⟩
 ·have hci0 : ¬ ((k : Int) ≥ 2) := by omega
  refine wp_region_lit ?_
  refine zr (.int .i64 (k : Int)) w rfl ?_
  simp only [Act.put, zA]
  refine zr (.bool false) w (xo_geqF .i64 (k : Int) 2 (by omega) rfl rfl rfl) ?_
  simp only [Act.put, zA]
  refine zr (.bool false) w rfl ?_
  simp only [Act.put, zA]
  refine zl ?_
  try simp only [Act.put, zA]
  refine zl ?_
  try simp only [Act.put, zA]
  refine zr (.bool false) w rfl ?_
  simp only [Act.put, zA]
  refine zr (.bool false) w rfl ?_
  simp only [Act.put, zA]
  refine wpList_nil ?_
  obtain rfl : b = false := by rw [← hb]; unfold Qu.hasC; simp <;> omega
  go_wp2_with fail
  go_ret
  exact ⟨rfl, rfl⟩
set_option maxRecDepth 100000 in
set_option maxHeartbeats 8000000 in
theorem rmaxK_as (k m : Nat) (hm : Qu.maxK k = m) (w : World) : Calls Tryd.prog 37 #[.int .i64 (k : Int)] w fun e w' => e = .returned (.int .i64 (m : Int)) ∧ w' = w := by
 go_enter Tryd.func37, Tryd.ntmps37
 go_upto_region 1 with fail
 have hm2 : m = if k = 3 then 6 else if k = 6 then 65536 else 0 := by rw [← hm]; unfold Qu.maxK; split <;> simp_all
 by_cases h3 : k = 3
 ·have hci0 : ((k : Int) = 3) := by omega
  obtain rfl : m = 6 := by rw [hm2, if_pos h3]
  refine wp_region_lit ?_
  refine zr (.int .i64 (k : Int)) w rfl ?_
  simp only [Act.put, zA]
  refine zr (.bool true) w (xo_eqlT .i64 (k : Int) 3 (by omega) rfl rfl rfl) ?_
  simp only [Act.put, zA]
  refine wpList_nil ?_
  go_upto_region 2 with fail
  refine wp_region_lit ?_
  refine zr (.int .i64 6) w rfl ?_
  simp only [Act.put, zA]
  refine wpList_nil ?_
  go_wp2_with fail
  go_ret
  exact ⟨rfl, rfl⟩
 ·have hci0 : ¬ ((k : Int) = 3) := by omega
  refine wp_region_lit ?_
  refine zr (.int .i64 (k : Int)) w rfl ?_
  simp only [Act.put, zA]
  refine zr (.bool false) w (xo_eqlF .i64 (k : Int) 3 (by omega) rfl rfl rfl) ?_
  simp only [Act.put, zA]
  refine wpList_nil ?_
  by_cases h6 : k = 6
  ·have hci1 : ((k : Int) = 6) := by omega
   obtain rfl : m = 65536 := by rw [hm2, if_neg h3, if_pos h6]
   go_upto_region 3 with fail
   refine wp_region_lit ?_
   refine zr (.int .i64 (k : Int)) w rfl ?_
   simp only [Act.put, zA]
   refine zr (.bool true) w (xo_eqlT .i64 (k : Int) 6 (by omega) rfl rfl rfl) ?_
   simp only [Act.put, zA]
   refine wpList_nil ?_
   go_upto_region 4 with fail
   refine wp_region_lit ?_
   refine zr (.int .i64 65536) w rfl ?_
   simp only [Act.put, zA]
   refine wpList_nil ?_
   go_wp2_with fail
   go_ret
   exact ⟨rfl, rfl⟩
  ·have hci1 : ¬ ((k : Int) = 6) := by omega
   obtain rfl : m = 0 := by rw [hm2, if_neg h3, if_neg h6]
   go_upto_region 3 with fail
   refine wp_region_lit ?_
   refine zr (.int .i64 (k : Int)) w rfl ?_
   simp only [Act.put, zA]
   refine zr (.bool false) w (xo_eqlF .i64 (k : Int) 6 (by omega) rfl rfl rfl) ?_
   simp only [Act.put, zA]
   refine wpList_nil ?_
   go_upto_region 5 with fail
   refine wp_region_lit ?_
   refine zr (.int .i64 0) w rfl ?_
   simp only [Act.put, zA]
   refine wpList_nil ?_
   go_wp2_with fail
   go_ret
   exact ⟨rfl, rfl⟩
end Go.Proofs.YtbecajihgbbgjaaDoor

namespace Go.Proofs.YtbecajihgbbgjaaDoor
set_option maxRecDepth 8000
open Go.RowKit Go.Proofs.YtbecajihgbbgjaaDoor.K
attribute [local irreducible] wpList wpQuiet
namespace Ty
end Ty
set_option maxRecDepth 100000 in
set_option maxHeartbeats 16000000 in
theorem has_as (lo hi v : Nat) (b : Bool) (hb : (decide (lo ≤ v) && decide (v ≤ hi)) = b) (w : World) : Calls Tryd.prog 57 #[.agg #[.int .i64 (lo : Int), .int .i64 (hi : Int)], .int .i64 (v : Int)] w fun e w' => e = .returned (.bool b) ∧ Below w.heap.size w w' := by
 go_enter Tryd.func57, Tryd.ntmps57
 go_upto_region 1 with fail
 refine wp_named1 (fun V1 hb g0 hlt => ?_)
 have B0 := zh hb
 have Fv0_2 : Hid (V1.heap[w.heap.size]? = some (.cells #[.int .i64 (lo : Int), .int .i64 (hi : Int)] 82 (0, 0))) := zh (g0)
 have Gb0 : Hid (w.heap.size ≤ w.heap.size) := zh (by omega)
 clear hb g0 hlt
 have Lt0 : Hid (w.heap.size < V1.heap.size) := zh (xp_lt Fv0_2.out)
 by_cases h1 : lo ≤ v
 ·have hci1 : ((lo : Int) ≤ (v : Int)) := by omega
  by_cases h2 : v ≤ hi
  ·have hci2 : ((v : Int) ≤ (hi : Int)) := by omega
   refine wp_region_lit ?_
   refine zr (.pointer (some ⟨w.heap.size, 0, none⟩)) V1 (xo_fld0 0 w.heap.size 0 (by kernel_rfl) rfl rfl) ?_
   simp only [Act.put, zA]
   refine zr (.int .i64 (lo : Int)) V1 (xo_load1 ⟨w.heap.size, 0, none⟩ _ (cells_at Fv0_2.out 0 rfl) Tryd.underlying3 rfl rfl rfl) ?_
   simp only [Act.put, zA]
   refine zr (.int .i64 (v : Int)) V1 rfl ?_
   simp only [Act.put, zA]
   refine zr (.bool true) V1 (xo_leqT .i64 (lo : Int) (v : Int) (by omega) rfl rfl rfl) ?_
   simp only [Act.put, zA]
   refine zr (.bool true) V1 rfl ?_
   simp only [Act.put, zA]
   refine zr (.int .i64 (v : Int)) V1 rfl ?_
   simp only [Act.put, zA]
   refine zr (.pointer (some ⟨w.heap.size, 1, none⟩)) V1 (xo_fld0 1 w.heap.size 1 (by kernel_rfl) rfl rfl) ?_
   simp only [Act.put, zA]
   refine zr (.int .i64 (hi : Int)) V1 (xo_load1 ⟨w.heap.size, 1, none⟩ _ (cells_at Fv0_2.out 1 rfl) Tryd.underlying3 rfl rfl rfl) ?_
   simp only [Act.put, zA]
   refine zr (.bool true) V1 (xo_leqT .i64 (v : Int) (hi : Int) (by omega) rfl rfl rfl) ?_
   simp only [Act.put, zA]
   refine zr (.bool true) V1 rfl ?_
   simp only [Act.put, zA]
   refine zr (.bool true) V1 rfl ?_
   simp only [Act.put, zA]
   refine wpList_nil ?_
   obtain rfl : b = true := by rw [← hb] <;> simp <;> omega
   have hbf := B0.out
   go_wp2_with fail
   go_ret
   exact ⟨rfl, hbf⟩
  ·have hci2 : ¬ ((v : Int) ≤ (hi : Int)) := by omega
   refine wp_region_lit ?_
   refine zr (.pointer (some ⟨w.heap.size, 0, none⟩)) V1 (xo_fld0 0 w.heap.size 0 (by kernel_rfl) rfl rfl) ?_
   simp only [Act.put, zA]
   refine zr (.int .i64 (lo : Int)) V1 (xo_load1 ⟨w.heap.size, 0, none⟩ _ (cells_at Fv0_2.out 0 rfl) Tryd.underlying3 rfl rfl rfl) ?_
   simp only [Act.put, zA]
   refine zr (.int .i64 (v : Int)) V1 rfl ?_
   simp only [Act.put, zA]
   refine zr (.bool true) V1 (xo_leqT .i64 (lo : Int) (v : Int) (by omega) rfl rfl rfl) ?_
   simp only [Act.put, zA]
   refine zr (.bool true) V1 rfl ?_
   simp only [Act.put, zA]
   refine zr (.int .i64 (v : Int)) V1 rfl ?_
   simp only [Act.put, zA]
   refine zr (.pointer (some ⟨w.heap.size, 1, none⟩)) V1 (xo_fld0 1 w.heap.size 1 (by kernel_rfl) rfl rfl) ?_
   simp only [Act.put, zA]
   refine zr (.int .i64 (hi : Int)) V1 (xo_load1 ⟨w.heap.size, 1, none⟩ _ (cells_at Fv0_2.out 1 rfl) Tryd.underlying3 rfl rfl rfl) ?_
   simp only [Act.put, zA]
   refine zr (.bool false) V1 (xo_leqF .i64 (v : Int) (hi : Int) (by omega) rfl rfl rfl) ?_
   simp only [Act.put, zA]
   refine zr (.bool false) V1 rfl ?_
   simp only [Act.put, zA]
   refine zr (.bool false) V1 rfl ?_
   simp only [Act.put, zA]
   refine wpList_nil ?_
   obtain rfl : b = false := by rw [← hb] <;> simp <;> omega
   have hbf := B0.out
   go_wp2_with fail
   go_ret
   exact ⟨rfl, hbf⟩
 ·have hci1 : ¬ ((lo : Int) ≤ (v : Int)) := by omega
  refine wp_region_lit ?_
  refine zr (.pointer (some ⟨w.heap.size, 0, none⟩)) V1 (xo_fld0 0 w.heap.size 0 (by kernel_rfl) rfl rfl) ?_
  simp only [Act.put, zA]
  refine zr (.int .i64 (lo : Int)) V1 (xo_load1 ⟨w.heap.size, 0, none⟩ _ (cells_at Fv0_2.out 0 rfl) Tryd.underlying3 rfl rfl rfl) ?_
  simp only [Act.put, zA]
  refine zr (.int .i64 (v : Int)) V1 rfl ?_
  simp only [Act.put, zA]
  refine zr (.bool false) V1 (xo_leqF .i64 (lo : Int) (v : Int) (by omega) rfl rfl rfl) ?_
  simp only [Act.put, zA]
  refine zr (.bool false) V1 rfl ?_
  simp only [Act.put, zA]
  refine zl ?_
  try simp only [Act.put, zA]
  refine zl ?_
  try simp only [Act.put, zA]
  refine zl ?_
  try simp only [Act.put, zA]
  refine zl ?_
  try simp only [Act.put, zA]
  refine zr (.bool false) V1 rfl ?_
  simp only [Act.put, zA]
  refine zr (.bool false) V1 rfl ?_
  simp only [Act.put, zA]
  refine wpList_nil ?_
  obtain rfl : b = false := by rw [← hb] <;> simp <;> omega
  have hbf := B0.out
  go_wp2_with fail
  go_ret
  exact ⟨rfl, hbf⟩
end Go.Proofs.YtbecajihgbbgjaaDoor

namespace Go.Proofs.YtbecajihgbbgjaaDoor
set_option maxRecDepth 8000
open Go.RowKit Go.Proofs.YtbecajihgbbgjaaDoor.K
attribute [local irreducible] wpList wpQuiet
set_option maxRecDepth 100000 in
set_option maxHeartbeats 16000000 in
theorem intersect_as (a b c d x y : Nat) (hx : max a c = x) (hy : min b d = y) (w : World) : Calls Tryd.prog 58 #[.agg #[.int .i64 (a : Int), .int .i64 (b : Int)], .agg #[.int .i64 (c : Int), .int .i64 (d : Int)]] w fun e w' => e = .returned (.agg #[.int .i64 (x : Int), .int .i64 (y : Int)]) ∧ Below w.heap.size w w' := by
 have HX := zh hx
 have HY := zh hy
 clear hx hy
 go_enter Tryd.func58, Tryd.ntmps58
 go_upto_region 1 with fail
 refine wp_named3 (fun V1 hb g0 g1 g2 hlt => ?_)
 have B0 := zh hb
 have Fv0_2 : Hid (V1.heap[w.heap.size]? = some (.cells #[.int .i64 (a : Int), .int .i64 (b : Int)] 82 (0, 0))) := zh (g0)
 have Fv1_3 : Hid (V1.heap[(w.heap.size + 1)]? = some (.cells #[.int .i64 (c : Int), .int .i64 (d : Int)] 82 (0, 0))) := zh (g1)
 have Fv2_4 : Hid (V1.heap[(w.heap.size + 1 + 1)]? = some (.cells #[.int .i64 0, .int .i64 0] 82 (0, 0))) := zh (g2)
 have Nb0_1 : Hid (w.heap.size ≠ (w.heap.size + 1)) := zh (by omega)
 have Nb0_2 : Hid (w.heap.size ≠ (w.heap.size + 1 + 1)) := zh (by omega)
 have Nb1_2 : Hid ((w.heap.size + 1) ≠ (w.heap.size + 1 + 1)) := zh (by omega)
 have Gb0 : Hid (w.heap.size ≤ w.heap.size) := zh (by omega)
 have Gb1 : Hid (w.heap.size ≤ (w.heap.size + 1)) := zh (by omega)
 have Gb2 : Hid (w.heap.size ≤ (w.heap.size + 1 + 1)) := zh (by omega)
 clear hb g0 g1 g2 hlt
 have Lt0 : Hid (w.heap.size < V1.heap.size) := zh (xp_lt Fv0_2.out)
 have Lt1 : Hid ((w.heap.size + 1) < V1.heap.size) := zh (xp_lt Fv1_3.out)
 have Lt2 : Hid ((w.heap.size + 1 + 1) < V1.heap.size) := zh (xp_lt Fv2_4.out)
 refine wp_region_lit ?_
 refine zr (.pointer (some ⟨w.heap.size, 0, none⟩)) V1 (xo_fld0 0 w.heap.size 0 (by kernel_rfl) rfl rfl) ?_
 simp only [Act.put, zA]
 refine zr (.int .i64 (a : Int)) V1 (xo_load1 ⟨w.heap.size, 0, none⟩ _ (cells_at Fv0_2.out 0 rfl) Tryd.underlying3 rfl rfl rfl) ?_
 simp only [Act.put, zA]
 refine zr (.pointer (some ⟨(w.heap.size + 1), 0, none⟩)) V1 (xo_fld0 0 (w.heap.size + 1) 0 (by kernel_rfl) rfl rfl) ?_
 simp only [Act.put, zA]
 refine zr (.int .i64 (c : Int)) V1 (xo_load1 ⟨(w.heap.size + 1), 0, none⟩ _ (cells_at Fv1_3.out 0 rfl) Tryd.underlying3 rfl rfl rfl) ?_
 simp only [Act.put, zA]
 refine zr (.int .i64 (x : Int)) V1 (xo_max .i64 (a : Int) (c : Int) (x : Int) (by have := HX.out; split <;> omega) rfl rfl rfl) ?_
 simp only [Act.put, zA]
 refine zr (.pointer (some ⟨w.heap.size, 1, none⟩)) V1 (xo_fld0 1 w.heap.size 1 (by kernel_rfl) rfl rfl) ?_
 simp only [Act.put, zA]
 refine zr (.int .i64 (b : Int)) V1 (xo_load1 ⟨w.heap.size, 1, none⟩ _ (cells_at Fv0_2.out 1 rfl) Tryd.underlying3 rfl rfl rfl) ?_
 simp only [Act.put, zA]
 refine zr (.pointer (some ⟨(w.heap.size + 1), 1, none⟩)) V1 (xo_fld0 1 (w.heap.size + 1) 1 (by kernel_rfl) rfl rfl) ?_
 simp only [Act.put, zA]
 refine zr (.int .i64 (d : Int)) V1 (xo_load1 ⟨(w.heap.size + 1), 1, none⟩ _ (cells_at Fv1_3.out 1 rfl) Tryd.underlying3 rfl rfl rfl) ?_
 simp only [Act.put, zA]
 refine zr (.int .i64 (y : Int)) V1 (xo_min .i64 (b : Int) (d : Int) (y : Int) (by have := HY.out; split <;> omega) rfl rfl rfl) ?_
 simp only [Act.put, zA]
 refine zr (.agg #[.int .i64 (x : Int), .int .i64 (y : Int)]) V1 (by unfold execOp; go_simp <;> rfl) ?_
 simp only [Act.put, zA]
 refine wpList_storeW (w.heap.size + 1 + 1) #[.int .i64 0, .int .i64 0] #[.int .i64 (x : Int), .int .i64 (y : Int)] 82 (by kernel_rfl) Fv2_4.out (xo_storeW (w.heap.size + 1 + 1) #[.int .i64 0, .int .i64 0] #[.int .i64 (x : Int), .int .i64 (y : Int)] Fv2_4.out (by kernel_rfl) rfl (by simp [Value.oneCell']) rfl rfl rfl) ?_
 intro X1_3 h1 hfar hbel hsz
 have YFv0_2 : X1_3.heap[w.heap.size]? = some (.cells #[.int .i64 (a : Int), .int .i64 (b : Int)] 82 (0, 0)) := hfar _ _ Nb0_2.out Fv0_2.out
 have YFv1_3 : X1_3.heap[(w.heap.size + 1)]? = some (.cells #[.int .i64 (c : Int), .int .i64 (d : Int)] 82 (0, 0)) := hfar _ _ Nb1_2.out Fv1_3.out
 have hbr := hbel _ _ Gb2.out B0.out
 clear B0
 have B0 := zh hbr
 clear hbr
 clear Fv0_2
 have Fv0_2 : Hid (X1_3.heap[w.heap.size]? = some (.cells #[.int .i64 (a : Int), .int .i64 (b : Int)] 82 (0, 0))) := zh YFv0_2
 clear YFv0_2
 clear Fv1_3
 have Fv1_3 : Hid (X1_3.heap[(w.heap.size + 1)]? = some (.cells #[.int .i64 (c : Int), .int .i64 (d : Int)] 82 (0, 0))) := zh YFv1_3
 clear YFv1_3
 clear Fv2_4
 have Fv2_4 : Hid (X1_3.heap[(w.heap.size + 1 + 1)]? = some (.cells #[.int .i64 (x : Int), .int .i64 (y : Int)] 82 (0, 0))) := zh (h1)
 have HszX1_3 := zh hsz
 clear h1 hfar hbel hsz
 simp only [ptr, Act.put, zA]
 refine wpList_nil ?_
 have hbf := B0.out
 go_wp2_with fail
 refine bodyPost_ret (v := .agg #[.int .i64 (x : Int), .int .i64 (y : Int)]) ?_ rfl ⟨rfl, hbf⟩
 exact results_cell_row rfl _ _ (w.heap.size + 1 + 1) 82 _ (0, 0) _ rfl Fv2_4.out Tryd.underlying82 rfl (by kernel_rfl)
end Go.Proofs.YtbecajihgbbgjaaDoor

namespace Go.Proofs.YtbecajihgbbgjaaDoor
set_option maxRecDepth 8000
open Go.RowKit Go.Proofs.YtbecajihgbbgjaaDoor.K
attribute [local irreducible] wpList wpQuiet
namespace Ty
/-- the number of bits of a column -/
def btN (c : Int) : Nat := if c = 0 then 4 else if c = 1 then 8 else if c = 2 then 4 else if c = 3 then 8 else if c = 4 then 1 else 0
theorem bt_out {c : Int} (h : c < 0 ∨ 5 ≤ c) : btN c = 0 := by
 unfold btN
 repeat' split
 all_goals omega
def widN : Nat → Nat
 | 0 => 4
 | 1 => 8
 | 2 => 4
 | 3 => 8
 | _ => 1
theorem bt_wid {k : Nat} (h : k < 5) : btN (k : Int) = widN k := by
 rcases k with _ | _ | _ | _ | _ | k <;> first | rfl | omega
end Ty
theorem xw_iad {ev : Operand → Value} {o : Oper} {w : World} {x y : Operand} (i : Nat) (hi : i < 5) (ho : o.op = .indexAddr 72 x y) (hx : ev x = .pointer (some ⟨0, 0, none⟩)) (hy : ev y = .int .i64 (i : Int)) :
  (execOp ev o).run Tryd.prog w = .ok (.value (.pointer (some ⟨0, i, none⟩))) w := by
 unfold execOp
 simp only [ho, hx, hy]
 rcases i with _ | _ | _ | _ | _ | i
 ·rfl
 ·rfl
 ·rfl
 ·rfl
 ·rfl
 ·omega
/-- the table of the widths -/
def Gw5 (w : World) : Prop := w.rangeAt 0 0 [.int .i64 4, .int .i64 8, .int .i64 4, .int .i64 8, .int .i64 1]
theorem Gw5.keep {w w' : World} (h : Gw5 w) (hb : Below w.heap.size w w') : Gw5 w' := fun j v hv => cell_keep (h j v hv) hb
theorem Gw5.at {w : World} (h : Gw5 w) (i : Nat) (hi : i < 5) : w.cell? ⟨0, i, none⟩ = some (.int .i64 (Ty.widN i : Int)) := by
 rcases i with _ | _ | _ | _ | _ | i
 ·exact h 0 _ rfl
 ·exact h 1 _ rfl
 ·exact h 2 _ rfl
 ·exact h 3 _ rfl
 ·exact h 4 _ rfl
 ·omega
set_option maxRecDepth 100000 in
set_option maxHeartbeats 16000000 in
theorem bits_as (c : Int) (b : Nat) (hb : Ty.btN c = b) (w : World) (hG : Gw5 w) : Calls Tryd.prog 17 #[.int .i64 c] w fun e w' => e = .returned (.int .i64 (b : Int)) ∧ w' = w := by
 have HG := zh hG
 have HBB := zh hb
 clear hb hG
 go_enter Tryd.func17, Tryd.ntmps17
 go_upto_region 1 with fail
 by_cases h0 : c < 0
 ·refine wp_region_lit ?_
  refine zr (.int .i64 c) w rfl ?_
  simp only [Act.put, zA]
  refine zr (.bool true) w (xo_lssT .i64 c 0 (by omega) rfl rfl rfl) ?_
  simp only [Act.put, zA]
  refine zr (.bool true) w rfl ?_
  simp only [Act.put, zA]
  refine zl ?_
  try simp only [Act.put, zA]
  refine zl ?_
  try simp only [Act.put, zA]
  refine zr (.bool true) w rfl ?_
  simp only [Act.put, zA]
  refine wpList_nil ?_
  go_upto_region 2 with fail
  refine wp_region_lit ?_
  refine zr (.int .i64 0) w rfl ?_
  simp only [Act.put, zA]
  refine wpList_nil ?_
  obtain rfl : b = 0 := by rw [← HBB.out]; exact Ty.bt_out (.inl h0)
  go_wp2_with fail
  go_ret
  exact ⟨rfl, rfl⟩
 ·by_cases h5 : c ≥ 5
  ·refine wp_region_lit ?_
   refine zr (.int .i64 c) w rfl ?_
   simp only [Act.put, zA]
   refine zr (.bool false) w (xo_lssF .i64 c 0 (by omega) rfl rfl rfl) ?_
   simp only [Act.put, zA]
   refine zr (.bool false) w rfl ?_
   simp only [Act.put, zA]
   refine zr (.int .i64 c) w rfl ?_
   simp only [Act.put, zA]
   refine zr (.bool true) w (xo_geqT .i64 c 5 (by omega) rfl rfl rfl) ?_
   simp only [Act.put, zA]
   refine zr (.bool true) w rfl ?_
   simp only [Act.put, zA]
   refine wpList_nil ?_
   go_upto_region 2 with fail
   refine wp_region_lit ?_
   refine zr (.int .i64 0) w rfl ?_
   simp only [Act.put, zA]
   refine wpList_nil ?_
   obtain rfl : b = 0 := by rw [← HBB.out]; exact Ty.bt_out (.inr h5)
   go_wp2_with fail
   go_ret
   exact ⟨rfl, rfl⟩
  ·obtain ⟨k, rfl⟩ : ∃ k : Nat, c = (k : Int) := ⟨c.toNat, by omega⟩
   have hk5 : k < 5 := by omega
   clear h0 h5
   have hci0 : ¬ ((k : Int) < 0) := by omega
   have hci1 : ¬ ((k : Int) ≥ 5) := by omega
   refine wp_region_lit ?_
   refine zr (.int .i64 (k : Int)) w rfl ?_
   simp only [Act.put, zA]
   refine zr (.bool false) w (xo_lssF .i64 (k : Int) 0 (by omega) rfl rfl rfl) ?_
   simp only [Act.put, zA]
   refine zr (.bool false) w rfl ?_
   simp only [Act.put, zA]
   refine zr (.int .i64 (k : Int)) w rfl ?_
   simp only [Act.put, zA]
   refine zr (.bool false) w (xo_geqF .i64 (k : Int) 5 (by omega) rfl rfl rfl) ?_
   simp only [Act.put, zA]
   refine zr (.bool false) w rfl ?_
   simp only [Act.put, zA]
   refine wpList_nil ?_
   go_upto_region 3 with fail
   refine wp_region_lit ?_
   refine zr (.int .i64 (k : Int)) w rfl ?_
   simp only [Act.put, zA]
   refine zr (.pointer (some ⟨0, k, none⟩)) w (xw_iad k (by omega) rfl rfl rfl) ?_
   simp only [Act.put, zA]
   refine zr (.int .i64 (Ty.widN k : Int)) w (xo_load1 ⟨0, k, none⟩ _ (Gw5.at HG.out k (by omega)) Tryd.underlying3 rfl rfl rfl) ?_
   simp only [Act.put, zA]
   refine zr (.int .i64 (Ty.widN k : Int)) w rfl ?_
   simp only [Act.put, zA]
   refine wpList_nil ?_
   obtain rfl : b = Ty.widN k := by rw [← HBB.out]; exact Ty.bt_wid hk5
   go_wp2_with fail
   go_ret
   exact ⟨rfl, rfl⟩
end Go.Proofs.YtbecajihgbbgjaaDoor

namespace Go.Proofs.YtbecajihgbbgjaaDoor
set_option maxRecDepth 8000
open Go.RowKit Go.Proofs.YtbecajihgbbgjaaDoor.K
attribute [local irreducible] wpList wpQuiet
namespace Ty
/-- the number of sums of any query -/
def suZ (kd : Int) : Nat := if 1 ≤ kd ∧ kd ≤ 7 then suN kd.toNat else 0
end Ty
end Go.Proofs.YtbecajihgbbgjaaDoor

namespace Go.Proofs.YtbecajihgbbgjaaDoor
set_option maxRecDepth 8000
open Go.RowKit Go.Proofs.YtbecajihgbbgjaaDoor.K
attribute [local irreducible] wpList wpQuiet
namespace Ty
/-- kinds whose column is counted value by value -/
def grN : Nat → Bool
 | 4 => true
 | 5 => true
 | 6 => true
 | _ => false
end Ty
/-- the function of a kind -/
def kfN : Nat → FuncId
 | 1 => 46
 | 2 => 47
 | 3 => 48
 | 4 => 44
 | 5 => 44
 | 6 => 44
 | _ => 49
def kindV (i : Nat) : Value := .agg #[.int .i64 (Ty.suN i : Int), .bool (Ty.grN i), .func (.func (kfN i)) #[] #[]]
def kindE (i : Nat) : MapEntry := ⟨.int .i64 (i : Int), kindV i, i - 1⟩
def kindsM : Obj := .map [kindE 1, kindE 2, kindE 3, kindE 4, kindE 5, kindE 6, kindE 7].toArray 7
theorem kinds_find (i : Nat) (h1 : 1 ≤ i) (h7 : i ≤ 7) : Instr.findNow (.int .i64) (.int .i64 (i : Int)) [kindE 1, kindE 2, kindE 3, kindE 4, kindE 5, kindE 6, kindE 7] 0 = some (some (i - 1, kindV i)) := by
 rcases i with _ | _ | _ | _ | _ | _ | _ | _ | i
 ·omega
 all_goals first | rfl | omega
theorem kinds_miss (i : Int) (h : i < 1 ∨ 7 < i) : Instr.findNow (.int .i64) (.int .i64 i) [kindE 1, kindE 2, kindE 3, kindE 4, kindE 5, kindE 6, kindE 7] 0 = some none := by
 have e : ∀ j : Nat, 1 ≤ j → j ≤ 7 → (i == ((j : Nat) : Int)) = false := fun j h1 h7 => by
  rw [beq_eq_false_iff_ne]
  omega
 simp only [Instr.findNow, Instr.sameNow, kindE, e 1 (by omega) (by omega), e 2 (by omega) (by omega), e 3 (by omega) (by omega), e 4 (by omega) (by omega), e 5 (by omega) (by omega), e 6 (by omega) (by omega), e 7 (by omega) (by omega), if_true]
set_option maxRecDepth 100000 in
set_option maxHeartbeats 16000000 in
theorem kinds_as (w : World) : Calls Tryd.prog 31 #[] w fun e w' => ∃ b, e = .returned (.map (some b)) ∧ w.heap.size ≤ b ∧ w'.heap[b]? = some kindsM ∧ Below w.heap.size w w' := by
 go_enter Tryd.func31, Tryd.ntmps31
 go_upto_region 1 with fail
 refine wp_region_lit ?_
 refine zr (.func (.func 44) #[] #[]) w rfl ?_
 simp only [Act.put, zA]
 refine wpList_nil ?_
 go_upto_region 2 with fail
 refine wp_region_lit ?_
 refine wpList_mkmap (by kernel_rfl) rfl ?_
 intro b X0 hge hm0 hB0
 simp only [ptr, Act.put, zA]
 refine zr (.agg #[.int .i64 1, .bool false, .func (.func 46) #[] #[]]) X0 (by unfold execOp; go_simp <;> rfl) ?_
 simp only [Act.put, zA]
 refine wpList_ins (by kernel_rfl) b _ 0 1 (kindV 1) hm0 rfl Tryd.underlying64 Tryd.underlying3 rfl rfl rfl rfl ?_
 intro X1 hm1 hl1
 have hB1 := hl1 _ _ hge hB0
 clear hl1 hm0 hB0
 simp only [ptr, Act.put, zA]
 refine zr (.agg #[.int .i64 1, .bool false, .func (.func 47) #[] #[]]) X1 (by unfold execOp; go_simp <;> rfl) ?_
 simp only [Act.put, zA]
 refine wpList_ins (by kernel_rfl) b _ 1 2 (kindV 2) hm1 rfl Tryd.underlying64 Tryd.underlying3 rfl rfl rfl rfl ?_
 intro X2 hm2 hl2
 have hB2 := hl2 _ _ hge hB1
 clear hl2 hm1 hB1
 simp only [ptr, Act.put, zA]
 refine zr (.agg #[.int .i64 1, .bool false, .func (.func 48) #[] #[]]) X2 (by unfold execOp; go_simp <;> rfl) ?_
 simp only [Act.put, zA]
 refine wpList_ins (by kernel_rfl) b _ 2 3 (kindV 3) hm2 rfl Tryd.underlying64 Tryd.underlying3 rfl rfl rfl rfl ?_
 intro X3 hm3 hl3
 have hB3 := hl3 _ _ hge hB2
 clear hl3 hm2 hB2
 simp only [ptr, Act.put, zA]
 refine zr (.func (.func 44) #[] #[]) X3 rfl ?_
 simp only [Act.put, zA]
 refine zr (.agg #[.int .i64 16, .bool true, .func (.func 44) #[] #[]]) X3 (by unfold execOp; go_simp <;> rfl) ?_
 simp only [Act.put, zA]
 refine wpList_ins (by kernel_rfl) b _ 3 4 (kindV 4) hm3 rfl Tryd.underlying64 Tryd.underlying3 rfl rfl rfl rfl ?_
 intro X4 hm4 hl4
 have hB4 := hl4 _ _ hge hB3
 clear hl4 hm3 hB3
 simp only [ptr, Act.put, zA]
 refine zr (.func (.func 44) #[] #[]) X4 rfl ?_
 simp only [Act.put, zA]
 refine zr (.agg #[.int .i64 16, .bool true, .func (.func 44) #[] #[]]) X4 (by unfold execOp; go_simp <;> rfl) ?_
 simp only [Act.put, zA]
 refine wpList_ins (by kernel_rfl) b _ 4 5 (kindV 5) hm4 rfl Tryd.underlying64 Tryd.underlying3 rfl rfl rfl rfl ?_
 intro X5 hm5 hl5
 have hB5 := hl5 _ _ hge hB4
 clear hl5 hm4 hB4
 simp only [ptr, Act.put, zA]
 refine zr (.func (.func 44) #[] #[]) X5 rfl ?_
 simp only [Act.put, zA]
 refine zr (.agg #[.int .i64 16, .bool true, .func (.func 44) #[] #[]]) X5 (by unfold execOp; go_simp <;> rfl) ?_
 simp only [Act.put, zA]
 refine wpList_ins (by kernel_rfl) b _ 5 6 (kindV 6) hm5 rfl Tryd.underlying64 Tryd.underlying3 rfl rfl rfl rfl ?_
 intro X6 hm6 hl6
 have hB6 := hl6 _ _ hge hB5
 clear hl6 hm5 hB5
 simp only [ptr, Act.put, zA]
 refine zr (.agg #[.int .i64 32, .bool false, .func (.func 49) #[] #[]]) X6 (by unfold execOp; go_simp <;> rfl) ?_
 simp only [Act.put, zA]
 refine wpList_ins (by kernel_rfl) b _ 6 7 (kindV 7) hm6 rfl Tryd.underlying64 Tryd.underlying3 rfl rfl rfl rfl ?_
 intro X7 hm7 hl7
 have hB7 := hl7 _ _ hge hB6
 clear hl7 hm6 hB6
 simp only [ptr, Act.put, zA]
 refine zr (.map (some b)) X7 rfl ?_
 simp only [Act.put, zA]
 refine zr (.map (some b)) X7 rfl ?_
 simp only [Act.put, zA]
 refine wpList_nil ?_
 go_wp2_with fail
 go_ret
 exact ⟨b, rfl, hge, hm7, hB7⟩
set_option maxRecDepth 100000 in
set_option maxHeartbeats 16000000 in
theorem sums_as (kd col k : Int) (A : Option Addr) (n c : Nat) (s : Nat) (hs : Ty.suZ kd = s) (w : World) : Calls Tryd.prog 15 #[.agg #[.int .i64 kd, .int .i64 col, .int .i64 k, .slice A n c]] w fun e w' => e = .returned (.int .i64 (s : Int)) ∧ Below w.heap.size w w' := by
 have HSS := zh hs
 clear hs
 go_enter Tryd.func15, Tryd.ntmps15
 go_upto_region 1 with fail
 refine wp_named1 (fun V1 hb g0 hlt => ?_)
 have B0 := zh hb
 have Fv0_1 : Hid (V1.heap[w.heap.size]? = some (.cells #[.int .i64 kd, .int .i64 col, .int .i64 k, .slice A n c] 24 (0, 0))) := zh (g0)
 have Gb0 : Hid (w.heap.size ≤ w.heap.size) := zh (by omega)
 clear hb g0 hlt
 have Lt0 : Hid (w.heap.size < V1.heap.size) := zh (xp_lt Fv0_1.out)
 by_cases hkn : 1 ≤ kd ∧ kd ≤ 7
 ·obtain ⟨j, rfl⟩ : ∃ j : Nat, kd = (j : Int) := ⟨kd.toNat, by omega⟩
  have hj1 : 1 ≤ j := by omega
  have hj7 : j ≤ 7 := by omega
  clear hkn
  try simp only [List.append_eq, List.cons_append, List.nil_append]
  refine wp_ordT (fun W => Below V1.heap.size V1 W) (.q 1 (.q 2 (.one 0 (.one 3 (.q 4 (.q 5 .nil)))))) (by kernel_rfl) (by kernel_rfl) (fun _ _ dt _ _ h => by first | exact h.elim | (cases dt <;> exact h)) (by kernel_rfl) (by kernel_rfl) (Below.refl _ _).drew ?_
  have hb : Below V1.heap.size V1 V1.drew := (Below.refl _ _).drew
  generalize V1.drew = V2 at hb ⊢
  have B1 := zh hb
  clear hb
  refine wpOT_q (.pointer (some ⟨w.heap.size, 0, none⟩)) rfl (by kernel_rfl) (fun v hW => (xo_fld0 0 w.heap.size 0 (by kernel_rfl) rfl rfl)) ?_
  simp only [ptr, Act.put, zA]
  refine wpOT_q (.int .i64 (j : Int)) rfl (by kernel_rfl) (fun v hW => (xo_load1 ⟨w.heap.size, 0, none⟩ _ (cells_at (heap_keep Fv0_1.out hW) 0 rfl) Tryd.underlying3 rfl rfl rfl)) ?_
  simp only [ptr, Act.put, zA]
  refine wpOT_one rfl (by kernel_rfl) ?_
  refine hOp_call 31 Tryd.func31 (by kernel_rfl) (by kernel_rfl) _ _ #[] rfl (by kernel_rfl) ?_
  refine (kinds_as V2).mono ?_
  rintro e V3 ⟨kb, rfl, hge, hkm, hb⟩
  have B2 := zh hb
  clear hge
  have HKm := zh hkm
  clear hb hkm
  have C1_3 := zb B1 B2
  refine ⟨_, rfl, C1_3.out, ?_⟩
  simp only [ptr, Act.put, zA]
  refine wpOT_one rfl (by kernel_rfl) ?_
  refine hOp_val (.agg #[.int .i64 (Ty.suN j : Int), .bool (Ty.grN j), .func (.func (kfN j)) #[] #[]]) (xm_lookup kb [kindE 1, kindE 2, kindE 3, kindE 4, kindE 5, kindE 6, kindE 7] 7 (j : Int) (j - 1) (kindV j) HKm.out (kinds_find j hj1 hj7) Tryd.underlying64 Tryd.underlying3 rfl rfl rfl) ⟨C1_3.out, ?_⟩
  simp only [ptr, Act.put, zA]
  refine wpOT_q (.int .i64 (Ty.suN j : Int)) rfl (by kernel_rfl) (fun v hW => (by first | kernel_rfl | (unfold execOp; go_simp))) ?_
  simp only [ptr, Act.put, zA]
  refine wpOT_q (.int .i64 (Ty.suN j : Int)) rfl (by kernel_rfl) (fun v hW => rfl) ?_
  simp only [ptr, Act.put, zA]
  refine wpOT_nil ?_
  obtain rfl : s = Ty.suN j := by rw [← HSS.out]; unfold Ty.suZ; rw [if_pos (by omega), Int.toNat_natCast]
  have C0_2 := zb B0 B1
  have C0_3 := zb C0_2 B2
  have hbf := C0_3.out
  go_wp2_with fail
  go_ret
  exact ⟨rfl, hbf⟩
 ·try simp only [List.append_eq, List.cons_append, List.nil_append]
  refine wp_ordT (fun W => Below V1.heap.size V1 W) (.q 1 (.q 2 (.one 0 (.one 3 (.q 4 (.q 5 .nil)))))) (by kernel_rfl) (by kernel_rfl) (fun _ _ dt _ _ h => by first | exact h.elim | (cases dt <;> exact h)) (by kernel_rfl) (by kernel_rfl) (Below.refl _ _).drew ?_
  have hb : Below V1.heap.size V1 V1.drew := (Below.refl _ _).drew
  generalize V1.drew = V2 at hb ⊢
  have B1 := zh hb
  clear hb
  refine wpOT_q (.pointer (some ⟨w.heap.size, 0, none⟩)) rfl (by kernel_rfl) (fun v hW => (xo_fld0 0 w.heap.size 0 (by kernel_rfl) rfl rfl)) ?_
  simp only [ptr, Act.put, zA]
  refine wpOT_q (.int .i64 kd) rfl (by kernel_rfl) (fun v hW => (xo_load1 ⟨w.heap.size, 0, none⟩ _ (cells_at (heap_keep Fv0_1.out hW) 0 rfl) Tryd.underlying3 rfl rfl rfl)) ?_
  simp only [ptr, Act.put, zA]
  refine wpOT_one rfl (by kernel_rfl) ?_
  refine hOp_call 31 Tryd.func31 (by kernel_rfl) (by kernel_rfl) _ _ #[] rfl (by kernel_rfl) ?_
  refine (kinds_as V2).mono ?_
  rintro e V3 ⟨kb, rfl, hge, hkm, hb⟩
  have B2 := zh hb
  clear hge
  have HKm := zh hkm
  clear hb hkm
  have C1_3 := zb B1 B2
  refine ⟨_, rfl, C1_3.out, ?_⟩
  simp only [ptr, Act.put, zA]
  refine wpOT_one rfl (by kernel_rfl) ?_
  refine hOp_val (.agg #[.int .i64 0, .bool false, .nilFunc]) (xm_miss kb [kindE 1, kindE 2, kindE 3, kindE 4, kindE 5, kindE 6, kindE 7] 7 kd _ HKm.out (by kernel_rfl) (kinds_miss kd (by omega)) Tryd.underlying64 Tryd.underlying3 rfl rfl rfl) ⟨C1_3.out, ?_⟩
  simp only [ptr, Act.put, zA]
  refine wpOT_q (.int .i64 0) rfl (by kernel_rfl) (fun v hW => (by first | kernel_rfl | (unfold execOp; go_simp))) ?_
  simp only [ptr, Act.put, zA]
  refine wpOT_q (.int .i64 0) rfl (by kernel_rfl) (fun v hW => rfl) ?_
  simp only [ptr, Act.put, zA]
  refine wpOT_nil ?_
  obtain rfl : s = 0 := by rw [← HSS.out]; unfold Ty.suZ; rw [if_neg hkn]
  have C0_2 := zb B0 B1
  have C0_3 := zb C0_2 B2
  have hbf := C0_3.out
  go_wp2_with fail
  go_ret
  exact ⟨rfl, hbf⟩
end Go.Proofs.YtbecajihgbbgjaaDoor

