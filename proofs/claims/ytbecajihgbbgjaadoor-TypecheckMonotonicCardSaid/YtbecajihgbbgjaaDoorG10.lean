/- Several texts in one: Yx0, Yct, Ycu, Ycm. -/
import Derived.Test.YtbecajihgbbgjaaDoorG05
import Derived.Test.YtbecajihgbbgjaaDoorG09
import Derived.Test.YtbecajihgbbgjaaDoorG08
import Derived.Test.YtbecajihgbbgjaaDoorG06
set_option linter.unusedVariables false
set_option linter.unusedSimpArgs false
set_option linter.unusedSectionVars false
namespace Go.Proofs.YtbecajihgbbgjaaDoor
set_option maxRecDepth 8000
open Go.RowKit Go.Proofs.YtbecajihgbbgjaaDoor.K
attribute [local irreducible] wpList wpQuiet
def stC (l : List UInt8) : List Value := [.string (sB l)]
instance : Enc stC 1 := ⟨fun _ => rfl, fun x u hu => by
 simp only [stC, List.mem_cons, List.not_mem_nil, or_false] at hu
 subst hu
 rfl, by decide⟩
end Go.Proofs.YtbecajihgbbgjaaDoor

namespace Go.Proofs.YtbecajihgbbgjaaDoor
set_option maxRecDepth 8000
open Go.RowKit Go.Proofs.YtbecajihgbbgjaaDoor.K
attribute [local irreducible] wpList wpQuiet
namespace Ty
theorem ru_of {q : Qu.Qy} {v : Nat} {l : List Qu.Cd} (hl : q.fs[v / 16]? = some l) : ruN q v = l := by unfold ruN; rw [List.getD_eq_getElem?_getD, hl]; rfl
end Ty
end Go.Proofs.YtbecajihgbbgjaaDoor

namespace Go.Proofs.YtbecajihgbbgjaaDoor
set_option maxRecDepth 8000
open Go.RowKit Go.Proofs.YtbecajihgbbgjaaDoor.K
attribute [local irreducible] wpList wpQuiet
namespace Ty
/-- columns that are counted value by value are even -/
def evQ (q : Qu.Qy) : Qu.Qy := if 4 ≤ q.kind ∧ q.kind ≤ 6 then ⟨q.kind, q.col / 2 * 2, q.k, q.fs⟩ else q
end Ty
theorem evQ_ok {q : Qu.Qy} (h : OkQ q) : OkQ (Ty.evQ q) := by
 unfold Ty.evQ
 by_cases hk : 4 ≤ q.kind ∧ q.kind ≤ 6
 ·rw [if_pos hk]
  refine ⟨h.k1, h.k7, fun hc => ?_, fun hc => ?_, h.m1, h.m0, h.nf, h.ok⟩
  ·have := h.c1 hc
   show q.col / 2 * 2 < 4
   omega
  ·have := h.c0 hc
   show q.col / 2 * 2 = 0
   omega
 ·rw [if_neg hk]
  exact h
theorem evQ_even (q : Qu.Qy) : ¬ (4 ≤ (Ty.evQ q).kind ∧ (Ty.evQ q).kind ≤ 6 ∧ (Ty.evQ q).col % 2 = 1) := by
 unfold Ty.evQ
 by_cases hk : 4 ≤ q.kind ∧ q.kind ≤ 6
 ·rw [if_pos hk]
  show ¬ (4 ≤ q.kind ∧ q.kind ≤ 6 ∧ q.col / 2 * 2 % 2 = 1)
  omega
 ·rw [if_neg hk]
  omega
theorem xo_clr1 {P : Program} {ev : Operand → Value} {o : Oper} {w : World} {x y : Operand} {ty t : TypeId} (u r : Nat) (hu : u < 4) (hr : u / 2 * 2 = r) (ho : o.op = .binOp .andNot ty x y t) (hx : ev x = .int .i64 (u : Int)) (hy : ev y = .int .i64 1) :
  (execOp ev o).run P w = .ok (.value (.int .i64 (r : Int))) w := by
 have e : (Op.intBits .andNot .i64 (u : Int) 1).run P w = .ok (.int .i64 (r : Int)) w := by
  subst hr
  rcases (show u = 0 ∨ u = 1 ∨ u = 2 ∨ u = 3 by omega) with rfl | rfl | rfl | rfl <;> rfl
 unfold execOp
 simp [ho, hx, hy, eqGuard, binOp, Sem.run_bind, e]
set_option maxRecDepth 100000 in
set_option maxHeartbeats 16000000 in
theorem made14_as (kind col k : Int) (A : Option Addr) (n c : Nat) (hs : List Hd) (fs : List (List Qu.Ci)) (q : Qu.Qy) (hq : Ty.evQ (mdQ kind col k fs) = q) (w : World) (hF : FsR w A n c hs fs) :
  Calls Tryd.prog 19 #[.agg #[.int .i64 kind, .int .i64 col, .int .i64 k, .slice A n c]] w fun e w' => ∃ A2 n2 c2, e = .returned (.agg #[.int .i64 (q.kind : Int), .int .i64 (q.col : Int), .int .i64 (q.k : Int), .slice A2 n2 c2]) ∧ FsOwn w' w.heap.size (.slice A2 n2 c2) q.fs ∧ Below w.heap.size w w' := by
 have HFR := zh hF
 have HQ := zh hq
 clear hF hq
 obtain ⟨⟨kd, cl, kk, qf⟩, hq0⟩ : ∃ q, mdQ kind col k fs = q := ⟨_, rfl⟩
 have hcl : cl < 4 := by have h := okQ_col (mdQ_ok kind col k fs); rw [hq0] at h; exact h
 have HQ0 := zh hq0
 clear hq0
 obtain ⟨ce, hce⟩ : ∃ z, cl / 2 * 2 = z := ⟨_, rfl⟩
 have HCE := zh hce
 clear hce
 go_enter Tryd.func19, Tryd.ntmps19
 go_upto_region 1 with fail
 refine wp_named2 (fun V1 hb g0 g1 hlt => ?_)
 have B0 := zh hb
 have Fv0_1 : Hid (V1.heap[w.heap.size]? = some (.cells #[.int .i64 kind, .int .i64 col, .int .i64 k, .slice A n c] 24 (0, 0))) := zh (g0)
 have Fv1_2 : Hid (V1.heap[(w.heap.size + 1)]? = some (.cells #[.int .i64 0, .int .i64 0, .int .i64 0, .slice none 0 0] 24 (0, 0))) := zh (g1)
 have Nb0_1 : Hid (w.heap.size ≠ (w.heap.size + 1)) := zh (by omega)
 have Gb0 : Hid (w.heap.size ≤ w.heap.size) := zh (by omega)
 have Gb1 : Hid (w.heap.size ≤ (w.heap.size + 1)) := zh (by omega)
 clear hb g0 g1 hlt
 have Lt0 : Hid (w.heap.size < V1.heap.size) := zh (xp_lt Fv0_1.out)
 have Lt1 : Hid ((w.heap.size + 1) < V1.heap.size) := zh (xp_lt Fv1_2.out)
 refine wp_region_lit ?_
 refine zr (.agg #[.int .i64 kind, .int .i64 col, .int .i64 k, .slice A n c]) V1 (xo_loadW w.heap.size _ Fv0_1.out Tryd.underlying24 rfl (by kernel_rfl) rfl rfl) ?_
 simp only [Act.put, zA]
 refine wpList_call (by kernel_rfl) 13 Tryd.func13 (by kernel_rfl) (by kernel_rfl) _ _ #[.agg #[.int .i64 kind, .int .i64 col, .int .i64 k, .slice A n c]] rfl (by kernel_rfl) ?_
 refine (made_as kind col k A n c hs fs ⟨kd, cl, kk, qf⟩ HQ0.out V1 (HFR.out.keep B0.out)).mono ?_
 rintro e V2 ⟨A2, n2, c2, rfl, hfo0, hb⟩
 have B1 := zh hb
 have hfo := FsOwn.mono hfo0 B0.out.size
 clear hfo0
 have HFO := zh hfo
 clear hb hfo
 refine ⟨_, rfl, ?_⟩
 simp only [Act.put, zA]
 refine wpList_new #[.int .i64 0, .int .i64 0, .int .i64 0, .slice none 0 0] 24 (by kernel_rfl) (xo_alloc #[.int .i64 0, .int .i64 0, .int .i64 0, .slice none 0 0] (by kernel_rfl) rfl) ?_
 intro b3 V3 hge h0 hb
 have N2_0 : Hid (w.heap.size ≠ b3) := zh (xp_lt0 (heap_keep Fv0_1.out B1.out) hge)
 have N3_1 : Hid ((w.heap.size + 1) ≠ b3) := zh (xp_lt0 (heap_keep Fv1_2.out B1.out) hge)
 have Ge4 : Hid (V2.heap.size ≤ b3) := zh hge
 have B2 := zh hb
 have Fv5_3 : Hid (V3.heap[b3]? = some (.cells #[.int .i64 0, .int .i64 0, .int .i64 0, .slice none 0 0] 24 (0, 0))) := zh (h0)
 have Lt6 : Hid (b3 < V3.heap.size) := zh (xp_lt Fv5_3.out)
 clear hge h0 hb
 simp only [ptr, Act.put, zA]
 refine wpList_storeW b3 #[.int .i64 0, .int .i64 0, .int .i64 0, .slice none 0 0] #[.int .i64 (kd : Int), .int .i64 (cl : Int), .int .i64 (kk : Int), .slice A2 n2 c2] 24 (by kernel_rfl) Fv5_3.out (xo_storeW b3 #[.int .i64 0, .int .i64 0, .int .i64 0, .slice none 0 0] #[.int .i64 (kd : Int), .int .i64 (cl : Int), .int .i64 (kk : Int), .slice A2 n2 c2] Fv5_3.out (by kernel_rfl) rfl (by simp [Value.oneCell']) rfl rfl rfl) ?_
 intro X3_7 h1 hfar hbel hsz
 have YHFO : FsOwn X3_7 w.heap.size (.slice A2 n2 c2) qf := FsOwn.store (HFO.out.keep B2.out) Fv5_3.out (by decide) (by decide) hfar
 have hbr := hbel _ _ Ge4.out B2.out
 clear B2
 have B2 := zh hbr
 clear hbr
 clear HFO
 have HFO := zh YHFO
 clear YHFO
 clear Fv5_3
 have Fv5_3 : Hid (X3_7.heap[b3]? = some (.cells #[.int .i64 (kd : Int), .int .i64 (cl : Int), .int .i64 (kk : Int), .slice A2 n2 c2] 24 (0, 0))) := zh (h1)
 have HszX3_7 := zh hsz
 clear h1 hfar hbel hsz
 simp only [ptr, Act.put, zA]
 refine wpList_nil ?_
 by_cases h4 : 4 ≤ kd
 ·have hci8 : ((kd : Int) ≥ 4) := by omega
  by_cases h6 : kd ≤ 6
  ·have hci9 : ((kd : Int) ≤ 6) := by omega
   go_upto_region 2 with fail
   refine wp_region_lit ?_
   refine zr (.pointer (some ⟨b3, 0, none⟩)) X3_7 (xo_fld0 0 b3 0 (by kernel_rfl) rfl rfl) ?_
   simp only [Act.put, zA]
   refine zr (.int .i64 (kd : Int)) X3_7 (xo_load1 ⟨b3, 0, none⟩ _ (cells_at Fv5_3.out 0 rfl) Tryd.underlying3 rfl rfl rfl) ?_
   simp only [Act.put, zA]
   refine zr (.bool true) X3_7 (xo_geqT .i64 (kd : Int) 4 (by omega) rfl rfl rfl) ?_
   simp only [Act.put, zA]
   refine zr (.bool true) X3_7 rfl ?_
   simp only [Act.put, zA]
   refine zr (.pointer (some ⟨b3, 0, none⟩)) X3_7 (xo_fld0 0 b3 0 (by kernel_rfl) rfl rfl) ?_
   simp only [Act.put, zA]
   refine zr (.int .i64 (kd : Int)) X3_7 (xo_load1 ⟨b3, 0, none⟩ _ (cells_at Fv5_3.out 0 rfl) Tryd.underlying3 rfl rfl rfl) ?_
   simp only [Act.put, zA]
   refine zr (.bool true) X3_7 (xo_leqT .i64 (kd : Int) 6 (by omega) rfl rfl rfl) ?_
   simp only [Act.put, zA]
   refine zr (.bool true) X3_7 rfl ?_
   simp only [Act.put, zA]
   refine wpList_nil ?_
   go_upto_region 3 with fail
   refine wp_region_lit ?_
   refine zr (.pointer (some ⟨b3, 1, none⟩)) X3_7 (xo_fld0 1 b3 1 (by kernel_rfl) rfl rfl) ?_
   simp only [Act.put, zA]
   refine zr (.int .i64 (cl : Int)) X3_7 (xo_load1 ⟨b3, 1, none⟩ _ (cells_at Fv5_3.out 1 rfl) Tryd.underlying3 rfl rfl rfl) ?_
   simp only [Act.put, zA]
   refine zr (.int .i64 (ce : Int)) X3_7 (xo_clr1 cl ce hcl HCE.out rfl rfl rfl) ?_
   simp only [Act.put, zA]
   refine zr (.pointer (some ⟨b3, 1, none⟩)) X3_7 (xo_fld0 1 b3 1 (by kernel_rfl) rfl rfl) ?_
   simp only [Act.put, zA]
   refine wpList_store1 b3 1 #[.int .i64 (kd : Int), .int .i64 (cl : Int), .int .i64 (kk : Int), .slice A2 n2 c2] (.int .i64 (ce : Int)) 24 (by kernel_rfl) Fv5_3.out (xo_store1 b3 1 #[.int .i64 (kd : Int), .int .i64 (cl : Int), .int .i64 (kk : Int), .slice A2 n2 c2] _ (.int .i64 (ce : Int)) Fv5_3.out rfl (by kernel_rfl) rfl rfl rfl rfl) ?_
   intro X3_10 h1 hfar hbel hsz
   have YHFO : FsOwn X3_10 w.heap.size (.slice A2 n2 c2) qf := FsOwn.store HFO.out Fv5_3.out (by decide) (by decide) hfar
   have hbr := hbel _ _ Ge4.out B2.out
   clear B2
   have B2 := zh hbr
   clear hbr
   clear HFO
   have HFO := zh YHFO
   clear YHFO
   clear Fv5_3
   have Fv5_3 : Hid (X3_10.heap[b3]? = some (.cells #[.int .i64 (kd : Int), .int .i64 (ce : Int), .int .i64 (kk : Int), .slice A2 n2 c2] 24 (0, 0))) := zh (h1)
   have HszX3_10 := zh hsz
   clear h1 hfar hbel hsz
   simp only [ptr, Act.put, zA]
   refine wpList_nil ?_
   go_upto_region 4 with fail
   refine wp_region_lit ?_
   refine zr (.agg #[.int .i64 (kd : Int), .int .i64 (ce : Int), .int .i64 (kk : Int), .slice A2 n2 c2]) X3_10 (xo_loadW b3 _ Fv5_3.out Tryd.underlying24 rfl (by kernel_rfl) rfl rfl) ?_
   simp only [Act.put, zA]
   have C1_3 := zb B1 B2
   refine wpList_storeW (w.heap.size + 1) #[.int .i64 0, .int .i64 0, .int .i64 0, .slice none 0 0] #[.int .i64 (kd : Int), .int .i64 (ce : Int), .int .i64 (kk : Int), .slice A2 n2 c2] 24 (by kernel_rfl) (heap_keep Fv1_2.out C1_3.out) (xo_storeW (w.heap.size + 1) #[.int .i64 0, .int .i64 0, .int .i64 0, .slice none 0 0] #[.int .i64 (kd : Int), .int .i64 (ce : Int), .int .i64 (kk : Int), .slice A2 n2 c2] (heap_keep Fv1_2.out C1_3.out) (by kernel_rfl) rfl (by simp [Value.oneCell']) rfl rfl rfl) ?_
   intro X3_11 h1 hfar hbel hsz
   have YHFO : FsOwn X3_11 w.heap.size (.slice A2 n2 c2) qf := FsOwn.store HFO.out (heap_keep Fv1_2.out C1_3.out) (by decide) (by decide) hfar
   have YFv0_1 : X3_11.heap[w.heap.size]? = some (.cells #[.int .i64 kind, .int .i64 col, .int .i64 k, .slice A n c] 24 (0, 0)) := hfar _ _ Nb0_1.out (heap_keep Fv0_1.out C1_3.out)
   have YFv5_3 : X3_11.heap[b3]? = some (.cells #[.int .i64 (kd : Int), .int .i64 (ce : Int), .int .i64 (kk : Int), .slice A2 n2 c2] 24 (0, 0)) := hfar _ _ (Ne.symm N3_1.out) Fv5_3.out
   have C0_2 := zb B0 B1
   have Gs12 : Hid (w.heap.size ≤ b3) := zh (Nat.le_trans C0_2.out.size Ge4.out)
   have C0_3 := zb C0_2 B2
   have hbr := hbel _ _ Gb1.out C0_3.out
   clear B0
   have B0 := zh hbr
   clear hbr
   clear Fv0_1
   have Fv0_1 : Hid (X3_11.heap[w.heap.size]? = some (.cells #[.int .i64 kind, .int .i64 col, .int .i64 k, .slice A n c] 24 (0, 0))) := zh YFv0_1
   clear YFv0_1
   clear Fv5_3
   have Fv5_3 : Hid (X3_11.heap[b3]? = some (.cells #[.int .i64 (kd : Int), .int .i64 (ce : Int), .int .i64 (kk : Int), .slice A2 n2 c2] 24 (0, 0))) := zh YFv5_3
   clear YFv5_3
   clear HFO
   have HFO := zh YHFO
   clear YHFO
   clear Fv1_2
   have Fv1_2 : Hid (X3_11.heap[(w.heap.size + 1)]? = some (.cells #[.int .i64 (kd : Int), .int .i64 (ce : Int), .int .i64 (kk : Int), .slice A2 n2 c2] 24 (0, 0))) := zh (h1)
   have HszX3_11 := zh hsz
   clear h1 hfar hbel hsz
   simp only [ptr, Act.put, zA]
   refine wpList_nil ?_
   have hq2 : q = ⟨kd, ce, kk, qf⟩ := by rw [← HQ.out, HQ0.out]; rw [← HCE.out]; exact if_pos ⟨h4, h6⟩
   subst hq2
   have hbf := B0.out
   have hfo := HFO.out
   go_wp2_with fail
   refine bodyPost_ret (v := .agg #[.int .i64 (kd : Int), .int .i64 (ce : Int), .int .i64 (kk : Int), .slice A2 n2 c2]) ?_ rfl ⟨_, _, _, rfl, hfo, hbf⟩
   exact results_cell_row rfl _ _ (w.heap.size + 1) 24 _ (0, 0) _ rfl Fv1_2.out Tryd.underlying24 rfl (by kernel_rfl)
  ·have hci9 : ¬ ((kd : Int) ≤ 6) := by omega
   go_upto_region 2 with fail
   refine wp_region_lit ?_
   refine zr (.pointer (some ⟨b3, 0, none⟩)) X3_7 (xo_fld0 0 b3 0 (by kernel_rfl) rfl rfl) ?_
   simp only [Act.put, zA]
   refine zr (.int .i64 (kd : Int)) X3_7 (xo_load1 ⟨b3, 0, none⟩ _ (cells_at Fv5_3.out 0 rfl) Tryd.underlying3 rfl rfl rfl) ?_
   simp only [Act.put, zA]
   refine zr (.bool true) X3_7 (xo_geqT .i64 (kd : Int) 4 (by omega) rfl rfl rfl) ?_
   simp only [Act.put, zA]
   refine zr (.bool true) X3_7 rfl ?_
   simp only [Act.put, zA]
   refine zr (.pointer (some ⟨b3, 0, none⟩)) X3_7 (xo_fld0 0 b3 0 (by kernel_rfl) rfl rfl) ?_
   simp only [Act.put, zA]
   refine zr (.int .i64 (kd : Int)) X3_7 (xo_load1 ⟨b3, 0, none⟩ _ (cells_at Fv5_3.out 0 rfl) Tryd.underlying3 rfl rfl rfl) ?_
   simp only [Act.put, zA]
   refine zr (.bool false) X3_7 (xo_leqF .i64 (kd : Int) 6 (by omega) rfl rfl rfl) ?_
   simp only [Act.put, zA]
   refine zr (.bool false) X3_7 rfl ?_
   simp only [Act.put, zA]
   refine wpList_nil ?_
   go_upto_region 4 with fail
   refine wp_region_lit ?_
   refine zr (.agg #[.int .i64 (kd : Int), .int .i64 (cl : Int), .int .i64 (kk : Int), .slice A2 n2 c2]) X3_7 (xo_loadW b3 _ Fv5_3.out Tryd.underlying24 rfl (by kernel_rfl) rfl rfl) ?_
   simp only [Act.put, zA]
   have C1_3 := zb B1 B2
   refine wpList_storeW (w.heap.size + 1) #[.int .i64 0, .int .i64 0, .int .i64 0, .slice none 0 0] #[.int .i64 (kd : Int), .int .i64 (cl : Int), .int .i64 (kk : Int), .slice A2 n2 c2] 24 (by kernel_rfl) (heap_keep Fv1_2.out C1_3.out) (xo_storeW (w.heap.size + 1) #[.int .i64 0, .int .i64 0, .int .i64 0, .slice none 0 0] #[.int .i64 (kd : Int), .int .i64 (cl : Int), .int .i64 (kk : Int), .slice A2 n2 c2] (heap_keep Fv1_2.out C1_3.out) (by kernel_rfl) rfl (by simp [Value.oneCell']) rfl rfl rfl) ?_
   intro X3_10 h1 hfar hbel hsz
   have YHFO : FsOwn X3_10 w.heap.size (.slice A2 n2 c2) qf := FsOwn.store HFO.out (heap_keep Fv1_2.out C1_3.out) (by decide) (by decide) hfar
   have YFv0_1 : X3_10.heap[w.heap.size]? = some (.cells #[.int .i64 kind, .int .i64 col, .int .i64 k, .slice A n c] 24 (0, 0)) := hfar _ _ Nb0_1.out (heap_keep Fv0_1.out C1_3.out)
   have YFv5_3 : X3_10.heap[b3]? = some (.cells #[.int .i64 (kd : Int), .int .i64 (cl : Int), .int .i64 (kk : Int), .slice A2 n2 c2] 24 (0, 0)) := hfar _ _ (Ne.symm N3_1.out) Fv5_3.out
   have C0_2 := zb B0 B1
   have Gs11 : Hid (w.heap.size ≤ b3) := zh (Nat.le_trans C0_2.out.size Ge4.out)
   have C0_3 := zb C0_2 B2
   have hbr := hbel _ _ Gb1.out C0_3.out
   clear B0
   have B0 := zh hbr
   clear hbr
   clear Fv0_1
   have Fv0_1 : Hid (X3_10.heap[w.heap.size]? = some (.cells #[.int .i64 kind, .int .i64 col, .int .i64 k, .slice A n c] 24 (0, 0))) := zh YFv0_1
   clear YFv0_1
   clear Fv5_3
   have Fv5_3 : Hid (X3_10.heap[b3]? = some (.cells #[.int .i64 (kd : Int), .int .i64 (cl : Int), .int .i64 (kk : Int), .slice A2 n2 c2] 24 (0, 0))) := zh YFv5_3
   clear YFv5_3
   clear HFO
   have HFO := zh YHFO
   clear YHFO
   clear Fv1_2
   have Fv1_2 : Hid (X3_10.heap[(w.heap.size + 1)]? = some (.cells #[.int .i64 (kd : Int), .int .i64 (cl : Int), .int .i64 (kk : Int), .slice A2 n2 c2] 24 (0, 0))) := zh (h1)
   have HszX3_10 := zh hsz
   clear h1 hfar hbel hsz
   simp only [ptr, Act.put, zA]
   refine wpList_nil ?_
   have hq2 : q = ⟨kd, cl, kk, qf⟩ := by rw [← HQ.out, HQ0.out]; exact if_neg (fun e => h6 e.2)
   subst hq2
   have hbf := B0.out
   have hfo := HFO.out
   go_wp2_with fail
   refine bodyPost_ret (v := .agg #[.int .i64 (kd : Int), .int .i64 (cl : Int), .int .i64 (kk : Int), .slice A2 n2 c2]) ?_ rfl ⟨_, _, _, rfl, hfo, hbf⟩
   exact results_cell_row rfl _ _ (w.heap.size + 1) 24 _ (0, 0) _ rfl Fv1_2.out Tryd.underlying24 rfl (by kernel_rfl)
 ·have hci8 : ¬ ((kd : Int) ≥ 4) := by omega
  go_upto_region 2 with fail
  refine wp_region_lit ?_
  refine zr (.pointer (some ⟨b3, 0, none⟩)) X3_7 (xo_fld0 0 b3 0 (by kernel_rfl) rfl rfl) ?_
  simp only [Act.put, zA]
  refine zr (.int .i64 (kd : Int)) X3_7 (xo_load1 ⟨b3, 0, none⟩ _ (cells_at Fv5_3.out 0 rfl) Tryd.underlying3 rfl rfl rfl) ?_
  simp only [Act.put, zA]
  refine zr (.bool false) X3_7 (xo_geqF .i64 (kd : Int) 4 (by omega) rfl rfl rfl) ?_
  simp only [Act.put, zA]
  refine zr (.bool false) X3_7 rfl ?_
  simp only [Act.put, zA]
  refine zl ?_
  try simp only [Act.put, zA]
  refine zl ?_
  try simp only [Act.put, zA]
  refine zl ?_
  try simp only [Act.put, zA]
  refine zr (.bool false) X3_7 rfl ?_
  simp only [Act.put, zA]
  refine wpList_nil ?_
  go_upto_region 4 with fail
  refine wp_region_lit ?_
  refine zr (.agg #[.int .i64 (kd : Int), .int .i64 (cl : Int), .int .i64 (kk : Int), .slice A2 n2 c2]) X3_7 (xo_loadW b3 _ Fv5_3.out Tryd.underlying24 rfl (by kernel_rfl) rfl rfl) ?_
  simp only [Act.put, zA]
  have C1_3 := zb B1 B2
  refine wpList_storeW (w.heap.size + 1) #[.int .i64 0, .int .i64 0, .int .i64 0, .slice none 0 0] #[.int .i64 (kd : Int), .int .i64 (cl : Int), .int .i64 (kk : Int), .slice A2 n2 c2] 24 (by kernel_rfl) (heap_keep Fv1_2.out C1_3.out) (xo_storeW (w.heap.size + 1) #[.int .i64 0, .int .i64 0, .int .i64 0, .slice none 0 0] #[.int .i64 (kd : Int), .int .i64 (cl : Int), .int .i64 (kk : Int), .slice A2 n2 c2] (heap_keep Fv1_2.out C1_3.out) (by kernel_rfl) rfl (by simp [Value.oneCell']) rfl rfl rfl) ?_
  intro X3_9 h1 hfar hbel hsz
  have YHFO : FsOwn X3_9 w.heap.size (.slice A2 n2 c2) qf := FsOwn.store HFO.out (heap_keep Fv1_2.out C1_3.out) (by decide) (by decide) hfar
  have YFv0_1 : X3_9.heap[w.heap.size]? = some (.cells #[.int .i64 kind, .int .i64 col, .int .i64 k, .slice A n c] 24 (0, 0)) := hfar _ _ Nb0_1.out (heap_keep Fv0_1.out C1_3.out)
  have YFv5_3 : X3_9.heap[b3]? = some (.cells #[.int .i64 (kd : Int), .int .i64 (cl : Int), .int .i64 (kk : Int), .slice A2 n2 c2] 24 (0, 0)) := hfar _ _ (Ne.symm N3_1.out) Fv5_3.out
  have C0_2 := zb B0 B1
  have Gs10 : Hid (w.heap.size ≤ b3) := zh (Nat.le_trans C0_2.out.size Ge4.out)
  have C0_3 := zb C0_2 B2
  have hbr := hbel _ _ Gb1.out C0_3.out
  clear B0
  have B0 := zh hbr
  clear hbr
  clear Fv0_1
  have Fv0_1 : Hid (X3_9.heap[w.heap.size]? = some (.cells #[.int .i64 kind, .int .i64 col, .int .i64 k, .slice A n c] 24 (0, 0))) := zh YFv0_1
  clear YFv0_1
  clear Fv5_3
  have Fv5_3 : Hid (X3_9.heap[b3]? = some (.cells #[.int .i64 (kd : Int), .int .i64 (cl : Int), .int .i64 (kk : Int), .slice A2 n2 c2] 24 (0, 0))) := zh YFv5_3
  clear YFv5_3
  clear HFO
  have HFO := zh YHFO
  clear YHFO
  clear Fv1_2
  have Fv1_2 : Hid (X3_9.heap[(w.heap.size + 1)]? = some (.cells #[.int .i64 (kd : Int), .int .i64 (cl : Int), .int .i64 (kk : Int), .slice A2 n2 c2] 24 (0, 0))) := zh (h1)
  have HszX3_9 := zh hsz
  clear h1 hfar hbel hsz
  simp only [ptr, Act.put, zA]
  refine wpList_nil ?_
  have hq2 : q = ⟨kd, cl, kk, qf⟩ := by rw [← HQ.out, HQ0.out]; exact if_neg (fun e => h4 e.1)
  subst hq2
  have hbf := B0.out
  have hfo := HFO.out
  go_wp2_with fail
  refine bodyPost_ret (v := .agg #[.int .i64 (kd : Int), .int .i64 (cl : Int), .int .i64 (kk : Int), .slice A2 n2 c2]) ?_ rfl ⟨_, _, _, rfl, hfo, hbf⟩
  exact results_cell_row rfl _ _ (w.heap.size + 1) 24 _ (0, 0) _ rfl Fv1_2.out Tryd.underlying24 rfl (by kernel_rfl)
end Go.Proofs.YtbecajihgbbgjaaDoor

namespace Go.Proofs.YtbecajihgbbgjaaDoor
set_option maxRecDepth 8000
open Go.RowKit Go.Proofs.YtbecajihgbbgjaaDoor.K
attribute [local irreducible] wpList wpQuiet
set_option maxRecDepth 100000 in
set_option maxHeartbeats 16000000 in
theorem first_as (A : Option Addr) (n c : Nat) (xs : List Int) (f : Int) (hf : xs.headD (-1) = f) (w : World) (hL : Sg zzC 1 w A n c xs) : Calls Tryd.prog 29 #[.agg #[.slice A n c]] w fun e w' => e = .returned (.int .i64 f) ∧ Below w.heap.size w w' := by
 have HL := zh hL
 have HFF := zh hf
 have hln := hL.len
 have hlc := hL.cap
 have hlt := hL.top
 clear hL hf
 go_enter Tryd.func29, Tryd.ntmps29
 go_upto_region 1 with fail
 refine wp_named1 (fun V1 hb g0 hlt => ?_)
 have B0 := zh hb
 have Fv0_1 : Hid (V1.heap[w.heap.size]? = some (.cells #[.slice A n c] 29 (0, 0))) := zh (g0)
 have Gb0 : Hid (w.heap.size ≤ w.heap.size) := zh (by omega)
 clear hb g0 hlt
 have Lt0 : Hid (w.heap.size < V1.heap.size) := zh (xp_lt Fv0_1.out)
 by_cases hn0 : n = 0
 ·have hci1 : ((n : Int) = 0) := by omega
  refine wp_region_lit ?_
  refine zr (.pointer (some ⟨w.heap.size, 0, none⟩)) V1 (xo_fld0 0 w.heap.size 0 (by kernel_rfl) rfl rfl) ?_
  simp only [Act.put, zA]
  refine zr (.slice A n c) V1 (xo_load1 ⟨w.heap.size, 0, none⟩ _ (cells_at Fv0_1.out 0 rfl) Tryd.underlying27 rfl rfl rfl) ?_
  simp only [Act.put, zA]
  refine zr (.int .i64 (n : Int)) V1 (xo_len A n c Tryd.underlying27 rfl rfl) ?_
  simp only [Act.put, zA]
  refine zr (.bool true) V1 (xo_eqlT .i64 (n : Int) 0 (by omega) rfl rfl rfl) ?_
  simp only [Act.put, zA]
  refine wpList_nil ?_
  go_upto_region 2 with fail
  refine wp_region_lit ?_
  refine zr (.int .i64 (-1)) V1 rfl ?_
  simp only [Act.put, zA]
  refine wpList_nil ?_
  obtain rfl : f = -1 := by rw [← HFF.out, List.eq_nil_of_length_eq_zero (hln.trans hn0)]; rfl
  have hbf := B0.out
  go_wp2_with fail
  go_ret
  exact ⟨rfl, hbf⟩
 ·have hci1 : ¬ ((n : Int) = 0) := by omega
  refine wp_region_lit ?_
  refine zr (.pointer (some ⟨w.heap.size, 0, none⟩)) V1 (xo_fld0 0 w.heap.size 0 (by kernel_rfl) rfl rfl) ?_
  simp only [Act.put, zA]
  refine zr (.slice A n c) V1 (xo_load1 ⟨w.heap.size, 0, none⟩ _ (cells_at Fv0_1.out 0 rfl) Tryd.underlying27 rfl rfl rfl) ?_
  simp only [Act.put, zA]
  refine zr (.int .i64 (n : Int)) V1 (xo_len A n c Tryd.underlying27 rfl rfl) ?_
  simp only [Act.put, zA]
  refine zr (.bool false) V1 (xo_eqlF .i64 (n : Int) 0 (by omega) rfl rfl rfl) ?_
  simp only [Act.put, zA]
  refine wpList_nil ?_
  obtain ⟨x, hx⟩ : ∃ x, xs[0]? = some x := ⟨_, List.getElem?_eq_getElem (by omega)⟩
  have HX := zh hx
  clear hx
  go_upto_region 3 with fail
  refine wp_region_lit ?_
  refine zr (.pointer (some ⟨w.heap.size, 0, none⟩)) V1 (xo_fld0 0 w.heap.size 0 (by kernel_rfl) rfl rfl) ?_
  simp only [Act.put, zA]
  refine zr (.slice A n c) V1 (xo_load1 ⟨w.heap.size, 0, none⟩ _ (cells_at Fv0_1.out 0 rfl) Tryd.underlying27 rfl rfl rfl) ?_
  simp only [Act.put, zA]
  refine zr (.pointer (some (gad A (0 * 1)))) V1 (xg_idx .i64 (HL.out.keep B0.out) HX.out Tryd.underlying27 (by kernel_rfl) rfl rfl rfl) ?_
  simp only [Act.put, zA]
  refine zr (.int .i64 x) V1 (xg_load1 (E := zzC) (i := 0) (j := 0) (HL.out.keep B0.out) HX.out rfl rfl Tryd.underlying2 rfl rfl rfl) ?_
  simp only [Act.put, zA]
  refine zr (.int .i64 x) V1 rfl ?_
  simp only [Act.put, zA]
  refine wpList_nil ?_
  obtain rfl : f = x := by
     rw [← HFF.out]
     have h1 := HX.out
     cases xs with
     | nil => cases h1
     | cons y l => injection h1
  have hbf := B0.out
  go_wp2_with fail
  go_ret
  exact ⟨rfl, hbf⟩
end Go.Proofs.YtbecajihgbbgjaaDoor

