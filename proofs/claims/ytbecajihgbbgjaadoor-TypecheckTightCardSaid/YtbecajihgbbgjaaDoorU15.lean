/- Several texts in one: Ycx, Ycy, Yda, Yv, Yad, Ycz. -/
import Derived.Test.YtbecajihgbbgjaaDoorU14
import Derived.Test.YtbecajihgbbgjaaDoorRows
import Derived.Test.YtbecajihgbbgjaaDoorTie
import Derived.ProofKit
import Derived.OpenShut
import Derived.ChangeOld
import Derived.ChangeSlices
import Derived.ChangeArms
import Derived.Below
import Derived.Lib.SmallJoins
import Derived.Lib.LaidTab
import Derived.LaidMore
import Derived.Deep.Slices
import Derived.Test.YtbecajihgbbgjaaDoorU03
import Derived.Test.YtbecajihgbbgjaaDoorU05
import Derived.Test.YtbecajihgbbgjaaDoorU07
set_option linter.unusedVariables false
set_option linter.unusedSimpArgs false
set_option linter.unusedSectionVars false
namespace Go.Proofs.YtbecajihgbbgjaaDoor
set_option maxRecDepth 8000
open Go.RowKit Go.Proofs.YtbecajihgbbgjaaDoor.K
attribute [local irreducible] wpList wpQuiet
namespace Ty
theorem ex_set (l : List Qu.Cd) {col : Nat} (hc : col < 4) (u : Nat) {m0 m1 m2 m3 : Nat} (h0 : (spC l 0).2 = m0) (h1 : (spC l 1).2 = m1) (h2 : (spC l 2).2 = m2) (h3 : (spC l 3).2 = m3) : [(m0 : Int), (m1 : Int), (m2 : Int), (m3 : Int)].set col (u : Int) = [((exN l col (some u) 0 : Nat) : Int), ((exN l col (some u) 1 : Nat) : Int), ((exN l col (some u) 2 : Nat) : Int), ((exN l col (some u) 3 : Nat) : Int)] := by
 subst h0 h1 h2 h3
 rcases (show col = 0 ∨ col = 1 ∨ col = 2 ∨ col = 3 by omega) with rfl | rfl | rfl | rfl <;> rfl
end Ty
set_option maxRecDepth 100000 in
set_option maxHeartbeats 32000000 in
theorem extreme_none (A : Option Addr) (n c : Nat) (l : List Qu.Cd) (hs : Ty.satN l = true) (col : Nat) (hc : col < 4) (y : Nat → Nat) (hy : Ty.exN l col none = y) (w : World) (hL : Sg ciC 3 w A n c (l.map Qu.Cd.ci)) :
  Calls Tryd.prog 22 #[.slice A n c, .int .i64 (col : Int), .int .i64 (-1)] w fun e w' => e = .returned (.agg #[.int .i64 (y 0 : Int), .int .i64 (y 1 : Int), .int .i64 (y 2 : Int), .int .i64 (y 3 : Int)]) ∧ Below w.heap.size w w' := by
 have HL := zh hL
 have hlc := hL.cap
 have hlt := hL.top
 have HSA := zh hs
 clear hL hs
 obtain ⟨m0, hm0⟩ : ∃ m, (Ty.spC l 0).2 = m := ⟨_, rfl⟩
 have HM0 := zh hm0
 clear hm0
 obtain ⟨m1, hm1⟩ : ∃ m, (Ty.spC l 1).2 = m := ⟨_, rfl⟩
 have HM1 := zh hm1
 clear hm1
 obtain ⟨m2, hm2⟩ : ∃ m, (Ty.spC l 2).2 = m := ⟨_, rfl⟩
 have HM2 := zh hm2
 clear hm2
 obtain ⟨m3, hm3⟩ : ∃ m, (Ty.spC l 3).2 = m := ⟨_, rfl⟩
 have HM3 := zh hm3
 clear hm3
 go_enter Tryd.func22, Tryd.ntmps22
 go_upto_region 1 with fail
 refine wp_named1 (fun V1 hb g0 hlt => ?_)
 have B0 := zh hb
 have Fv0_6 : Hid (V1.heap[w.heap.size]? = some (.cells #[.int .i64 0, .int .i64 0, .int .i64 0, .int .i64 0] 40 (0, 0))) := zh (g0)
 have Gb0 : Hid (w.heap.size ≤ w.heap.size) := zh (by omega)
 clear hb g0 hlt
 have Lt0 : Hid (w.heap.size < V1.heap.size) := zh (xp_lt Fv0_6.out)
 refine wp_region_lit ?_
 refine zr (.slice A n c) V1 rfl ?_
 simp only [Act.put, zA]
 refine wpList_call (by kernel_rfl) 24 Tryd.func24 (by kernel_rfl) (by kernel_rfl) _ _ #[.slice A n c, .int .i64 0] rfl (by kernel_rfl) ?_
 refine (largest_as A n c l 0 (by decide) (m0 : Int) (by rw [Ty.lg_sat HSA.out (by decide), HM0.out]) V1 (HL.out.keep B0.out)).mono ?_
 rintro e V2 ⟨rfl, hb⟩
 have B1 := zh hb
 clear hb 
 refine ⟨_, rfl, ?_⟩
 simp only [Act.put, zA]
 refine zr (.slice A n c) V2 rfl ?_
 simp only [Act.put, zA]
 have C0_2 := zb B0 B1
 refine wpList_call (by kernel_rfl) 24 Tryd.func24 (by kernel_rfl) (by kernel_rfl) _ _ #[.slice A n c, .int .i64 1] rfl (by kernel_rfl) ?_
 refine (largest_as A n c l 1 (by decide) (m1 : Int) (by rw [Ty.lg_sat HSA.out (by decide), HM1.out]) V2 (HL.out.keep C0_2.out)).mono ?_
 rintro e V3 ⟨rfl, hb⟩
 have B2 := zh hb
 clear hb 
 refine ⟨_, rfl, ?_⟩
 simp only [Act.put, zA]
 refine zr (.slice A n c) V3 rfl ?_
 simp only [Act.put, zA]
 have C0_3 := zb C0_2 B2
 refine wpList_call (by kernel_rfl) 24 Tryd.func24 (by kernel_rfl) (by kernel_rfl) _ _ #[.slice A n c, .int .i64 2] rfl (by kernel_rfl) ?_
 refine (largest_as A n c l 2 (by decide) (m2 : Int) (by rw [Ty.lg_sat HSA.out (by decide), HM2.out]) V3 (HL.out.keep C0_3.out)).mono ?_
 rintro e V4 ⟨rfl, hb⟩
 have B3 := zh hb
 clear hb 
 refine ⟨_, rfl, ?_⟩
 simp only [Act.put, zA]
 refine zr (.slice A n c) V4 rfl ?_
 simp only [Act.put, zA]
 have C0_4 := zb C0_3 B3
 refine wpList_call (by kernel_rfl) 24 Tryd.func24 (by kernel_rfl) (by kernel_rfl) _ _ #[.slice A n c, .int .i64 3] rfl (by kernel_rfl) ?_
 refine (largest_as A n c l 3 (by decide) (m3 : Int) (by rw [Ty.lg_sat HSA.out (by decide), HM3.out]) V4 (HL.out.keep C0_4.out)).mono ?_
 rintro e V5 ⟨rfl, hb⟩
 have B4 := zh hb
 clear hb 
 refine ⟨_, rfl, ?_⟩
 simp only [Act.put, zA]
 refine wpList_mk (by kernel_rfl) ([(m0 : Int), (m1 : Int), (m2 : Int), (m3 : Int)].flatMap zzC).toArray 3 4 4 (xg_lit (E := zzC) (bytes := 8) (.int .i64 0) [.tmp 9, .tmp 11, .tmp 13, .tmp 15] [(m0 : Int), (m1 : Int), (m2 : Int), (m3 : Int)] 4 Tryd.underlying71 (by kernel_rfl) rfl (by decide) (by decide) rfl rfl) ?_
 intro g16 V6 hge h0 hb
 have C1_3 := zb B1 B2
 have C1_4 := zb C1_3 B3
 have C1_5 := zb C1_4 B4
 have N1_0 : Hid (w.heap.size ≠ g16) := zh (xp_lt0 (heap_keep Fv0_6.out C1_5.out) hge)
 have Ge2 : Hid (V5.heap.size ≤ g16) := zh hge
 have B5 := zh hb
 have Fv3_16 : Hid (RowG zzC V6 g16 3 ([(m0 : Int), (m1 : Int), (m2 : Int), (m3 : Int)])) := zh (h0)
 have Lt4 : Hid (g16 < V6.heap.size) := zh (xp_lt Fv3_16.out)
 clear hge h0 hb
 simp only [ptr, Act.put, zA]
 refine zr (.slice (some ⟨g16, 0, none⟩) 4 4) V6 rfl ?_
 simp only [Act.put, zA]
 refine wpList_nil ?_
 go_upto_region 2 with fail
 refine wp_region_lit ?_
 refine zr (.int .i64 (-1)) V6 rfl ?_
 simp only [Act.put, zA]
 refine zr (.bool false) V6 (xo_geqF .i64 (-1) 0 (by decide) rfl rfl rfl) ?_
 simp only [Act.put, zA]
 refine wpList_nil ?_
 go_upto_region 4 with fail
 try simp only [List.append_eq, List.cons_append, List.nil_append]
 refine wp_ordM 13 (.q 0 (.q 1 (.q 2 (.q 3 (.q 4 (.q 5 (.q 6 (.q 7 (.q 8 (.q 9 (.q 10 (.q 11 (.q 12 .nil))))))))))))) (by kernel_rfl) (by kernel_rfl) (by kernel_rfl) (by kernel_rfl) (by kernel_rfl) (by kernel_rfl) (by kernel_rfl) (fun V7 hb => ?_)
 have B6 := zh hb
 clear hb
 refine wpOT_q (.slice (some ⟨g16, 0, none⟩) 4 4) rfl (by kernel_rfl) (fun v hW => rfl) ?_
 simp only [ptr, Act.put, zA]
 refine wpOT_q (.pointer (some (gad (some ⟨g16, 0, none⟩) (0 * 1)))) rfl (by kernel_rfl) (fun v hW => (xo_index .i64 ⟨g16, 0, none⟩ 4 4 0 1 (by omega) Tryd.underlying71 (by kernel_rfl) rfl rfl rfl)) ?_
 simp only [ptr, Act.put, zA]
 refine wpOT_q (.int .i64 (m0 : Int)) rfl (by kernel_rfl) (fun v hW => (xg_load1 (E := zzC) (i := 0) (j := 0) (RowG.sg (n := 4) (c := 4) ((Fv3_16.out.keep B6.out).keep hW) (show ([(m0 : Int), (m1 : Int), (m2 : Int), (m3 : Int)]).length = 4 from rfl) (Nat.le_refl _) (by omega)) (show ([(m0 : Int), (m1 : Int), (m2 : Int), (m3 : Int)])[0]? = some (m0 : Int) from rfl) rfl rfl Tryd.underlying3 rfl rfl rfl)) ?_
 simp only [ptr, Act.put, zA]
 refine wpOT_q (.slice (some ⟨g16, 0, none⟩) 4 4) rfl (by kernel_rfl) (fun v hW => rfl) ?_
 simp only [ptr, Act.put, zA]
 refine wpOT_q (.pointer (some (gad (some ⟨g16, 0, none⟩) (1 * 1)))) rfl (by kernel_rfl) (fun v hW => (xo_index .i64 ⟨g16, 0, none⟩ 4 4 1 1 (by omega) Tryd.underlying71 (by kernel_rfl) rfl rfl rfl)) ?_
 simp only [ptr, Act.put, zA]
 refine wpOT_q (.int .i64 (m1 : Int)) rfl (by kernel_rfl) (fun v hW => (xg_load1 (E := zzC) (i := 1) (j := 0) (RowG.sg (n := 4) (c := 4) ((Fv3_16.out.keep B6.out).keep hW) (show ([(m0 : Int), (m1 : Int), (m2 : Int), (m3 : Int)]).length = 4 from rfl) (Nat.le_refl _) (by omega)) (show ([(m0 : Int), (m1 : Int), (m2 : Int), (m3 : Int)])[1]? = some (m1 : Int) from rfl) rfl rfl Tryd.underlying3 rfl rfl rfl)) ?_
 simp only [ptr, Act.put, zA]
 refine wpOT_q (.slice (some ⟨g16, 0, none⟩) 4 4) rfl (by kernel_rfl) (fun v hW => rfl) ?_
 simp only [ptr, Act.put, zA]
 refine wpOT_q (.pointer (some (gad (some ⟨g16, 0, none⟩) (2 * 1)))) rfl (by kernel_rfl) (fun v hW => (xo_index .i64 ⟨g16, 0, none⟩ 4 4 2 1 (by omega) Tryd.underlying71 (by kernel_rfl) rfl rfl rfl)) ?_
 simp only [ptr, Act.put, zA]
 refine wpOT_q (.int .i64 (m2 : Int)) rfl (by kernel_rfl) (fun v hW => (xg_load1 (E := zzC) (i := 2) (j := 0) (RowG.sg (n := 4) (c := 4) ((Fv3_16.out.keep B6.out).keep hW) (show ([(m0 : Int), (m1 : Int), (m2 : Int), (m3 : Int)]).length = 4 from rfl) (Nat.le_refl _) (by omega)) (show ([(m0 : Int), (m1 : Int), (m2 : Int), (m3 : Int)])[2]? = some (m2 : Int) from rfl) rfl rfl Tryd.underlying3 rfl rfl rfl)) ?_
 simp only [ptr, Act.put, zA]
 refine wpOT_q (.slice (some ⟨g16, 0, none⟩) 4 4) rfl (by kernel_rfl) (fun v hW => rfl) ?_
 simp only [ptr, Act.put, zA]
 refine wpOT_q (.pointer (some (gad (some ⟨g16, 0, none⟩) (3 * 1)))) rfl (by kernel_rfl) (fun v hW => (xo_index .i64 ⟨g16, 0, none⟩ 4 4 3 1 (by omega) Tryd.underlying71 (by kernel_rfl) rfl rfl rfl)) ?_
 simp only [ptr, Act.put, zA]
 refine wpOT_q (.int .i64 (m3 : Int)) rfl (by kernel_rfl) (fun v hW => (xg_load1 (E := zzC) (i := 3) (j := 0) (RowG.sg (n := 4) (c := 4) ((Fv3_16.out.keep B6.out).keep hW) (show ([(m0 : Int), (m1 : Int), (m2 : Int), (m3 : Int)]).length = 4 from rfl) (Nat.le_refl _) (by omega)) (show ([(m0 : Int), (m1 : Int), (m2 : Int), (m3 : Int)])[3]? = some (m3 : Int) from rfl) rfl rfl Tryd.underlying3 rfl rfl rfl)) ?_
 simp only [ptr, Act.put, zA]
 refine wpOT_q (.agg #[.int .i64 (m0 : Int), .int .i64 (m1 : Int), .int .i64 (m2 : Int), .int .i64 (m3 : Int)]) rfl (by kernel_rfl) (fun v hW => (by unfold execOp; go_simp <;> rfl)) ?_
 simp only [ptr, Act.put, zA]
 refine wpOT_nil ?_
 have C1_6 := zb C1_5 B5
 have C1_7 := zb C1_6 B6
 have hfs := (heap_keep Fv0_6.out C1_7.out)
 have hgb := Gb0.out
 have C0_5 := zb C0_4 B4
 have C0_6 := zb C0_5 B5
 have C0_7 := zb C0_6 B6
 have hbs := C0_7.out
 have hfar : ∀ k o, k ≠ w.heap.size → V7.heap[k]? = some o → (V7.setRow w.heap.size #[.int .i64 (m0 : Int), .int .i64 (m1 : Int), .int .i64 (m2 : Int), .int .i64 (m3 : Int)]).heap[k]? = some o := fun k o hk h0 => heap_farRow h0 hk _
 have YFv3_16 : RowG zzC (V7.setRow w.heap.size #[.int .i64 (m0 : Int), .int .i64 (m1 : Int), .int .i64 (m2 : Int), .int .i64 (m3 : Int)]) g16 3 ([(m0 : Int), (m1 : Int), (m2 : Int), (m3 : Int)]) := hfar _ _ (Ne.symm N1_0.out) (Fv3_16.out.keep B6.out)
 refine mOp_run0 _ rfl rfl (xo_storeW w.heap.size #[.int .i64 0, .int .i64 0, .int .i64 0, .int .i64 0] #[.int .i64 (m0 : Int), .int .i64 (m1 : Int), .int .i64 (m2 : Int), .int .i64 (m3 : Int)] hfs (by kernel_rfl) rfl (by simp [Value.oneCell']) rfl rfl rfl) ?_
 try simp only [List.getElem_toArray, List.getElem_cons_succ, List.getElem_cons_zero, ptr, Act.put, zA]
 have hfn := setRow_heap V7 w.heap.size _ #[.int .i64 (m0 : Int), .int .i64 (m1 : Int), .int .i64 (m2 : Int), .int .i64 (m3 : Int)] _ _ hfs
 have hbn := bel_setRow hbs hgb #[.int .i64 (m0 : Int), .int .i64 (m1 : Int), .int .i64 (m2 : Int), .int .i64 (m3 : Int)]
 clear hfar
 generalize V7.setRow w.heap.size #[.int .i64 (m0 : Int), .int .i64 (m1 : Int), .int .i64 (m2 : Int), .int .i64 (m3 : Int)] = X5 at *
 have Gt6 : Hid (w.heap.size ≤ g16) := zh (Nat.le_trans C0_5.out.size Ge2.out)
 have hbr := hbn
 clear B0
 have B0 := zh hbr
 clear hbr
 clear Fv3_16
 have Fv3_16 := zh YFv3_16
 clear YFv3_16
 clear Fv0_6
 have Fv0_6 : Hid (X5.heap[w.heap.size]? = some (.cells #[.int .i64 (m0 : Int), .int .i64 (m1 : Int), .int .i64 (m2 : Int), .int .i64 (m3 : Int)] 40 (0, 0))) := zh hfn
 clear hfs hgb hbs hfn hbn
 have hbf := B0.out
 have e0' : y 0 = m0 := by rw [← hy]; exact HM0.out
 have e1' : y 1 = m1 := by rw [← hy]; exact HM1.out
 have e2' : y 2 = m2 := by rw [← hy]; exact HM2.out
 have e3' : y 3 = m3 := by rw [← hy]; exact HM3.out
 subst e0' e1' e2' e3'
 go_wp2_with fail
 refine bodyPost_ret (v := .agg #[.int .i64 (y 0 : Int), .int .i64 (y 1 : Int), .int .i64 (y 2 : Int), .int .i64 (y 3 : Int)]) ?_ rfl ⟨rfl, hbf⟩
 exact results_cell_row rfl _ _ w.heap.size 40 _ (0, 0) _ rfl Fv0_6.out Tryd.underlying40 rfl (by kernel_rfl)
set_option maxRecDepth 100000 in
set_option maxHeartbeats 32000000 in
theorem extreme_some (A : Option Addr) (n c : Nat) (l : List Qu.Cd) (hs : Ty.satN l = true) (col : Nat) (hc : col < 4) (u : Nat) (y : Nat → Nat) (hy : Ty.exN l col (some u) = y) (w : World) (hL : Sg ciC 3 w A n c (l.map Qu.Cd.ci)) :
  Calls Tryd.prog 22 #[.slice A n c, .int .i64 (col : Int), .int .i64 (u : Int)] w fun e w' => e = .returned (.agg #[.int .i64 (y 0 : Int), .int .i64 (y 1 : Int), .int .i64 (y 2 : Int), .int .i64 (y 3 : Int)]) ∧ Below w.heap.size w w' := by
 have HL := zh hL
 have hlc := hL.cap
 have hlt := hL.top
 have HSA := zh hs
 clear hL hs
 obtain ⟨m0, hm0⟩ : ∃ m, (Ty.spC l 0).2 = m := ⟨_, rfl⟩
 have HM0 := zh hm0
 clear hm0
 obtain ⟨m1, hm1⟩ : ∃ m, (Ty.spC l 1).2 = m := ⟨_, rfl⟩
 have HM1 := zh hm1
 clear hm1
 obtain ⟨m2, hm2⟩ : ∃ m, (Ty.spC l 2).2 = m := ⟨_, rfl⟩
 have HM2 := zh hm2
 clear hm2
 obtain ⟨m3, hm3⟩ : ∃ m, (Ty.spC l 3).2 = m := ⟨_, rfl⟩
 have HM3 := zh hm3
 clear hm3
 go_enter Tryd.func22, Tryd.ntmps22
 go_upto_region 1 with fail
 refine wp_named1 (fun V1 hb g0 hlt => ?_)
 have B0 := zh hb
 have Fv0_6 : Hid (V1.heap[w.heap.size]? = some (.cells #[.int .i64 0, .int .i64 0, .int .i64 0, .int .i64 0] 40 (0, 0))) := zh (g0)
 have Gb0 : Hid (w.heap.size ≤ w.heap.size) := zh (by omega)
 clear hb g0 hlt
 have Lt0 : Hid (w.heap.size < V1.heap.size) := zh (xp_lt Fv0_6.out)
 refine wp_region_lit ?_
 refine zr (.slice A n c) V1 rfl ?_
 simp only [Act.put, zA]
 refine wpList_call (by kernel_rfl) 24 Tryd.func24 (by kernel_rfl) (by kernel_rfl) _ _ #[.slice A n c, .int .i64 0] rfl (by kernel_rfl) ?_
 refine (largest_as A n c l 0 (by decide) (m0 : Int) (by rw [Ty.lg_sat HSA.out (by decide), HM0.out]) V1 (HL.out.keep B0.out)).mono ?_
 rintro e V2 ⟨rfl, hb⟩
 have B1 := zh hb
 clear hb 
 refine ⟨_, rfl, ?_⟩
 simp only [Act.put, zA]
 refine zr (.slice A n c) V2 rfl ?_
 simp only [Act.put, zA]
 have C0_2 := zb B0 B1
 refine wpList_call (by kernel_rfl) 24 Tryd.func24 (by kernel_rfl) (by kernel_rfl) _ _ #[.slice A n c, .int .i64 1] rfl (by kernel_rfl) ?_
 refine (largest_as A n c l 1 (by decide) (m1 : Int) (by rw [Ty.lg_sat HSA.out (by decide), HM1.out]) V2 (HL.out.keep C0_2.out)).mono ?_
 rintro e V3 ⟨rfl, hb⟩
 have B2 := zh hb
 clear hb 
 refine ⟨_, rfl, ?_⟩
 simp only [Act.put, zA]
 refine zr (.slice A n c) V3 rfl ?_
 simp only [Act.put, zA]
 have C0_3 := zb C0_2 B2
 refine wpList_call (by kernel_rfl) 24 Tryd.func24 (by kernel_rfl) (by kernel_rfl) _ _ #[.slice A n c, .int .i64 2] rfl (by kernel_rfl) ?_
 refine (largest_as A n c l 2 (by decide) (m2 : Int) (by rw [Ty.lg_sat HSA.out (by decide), HM2.out]) V3 (HL.out.keep C0_3.out)).mono ?_
 rintro e V4 ⟨rfl, hb⟩
 have B3 := zh hb
 clear hb 
 refine ⟨_, rfl, ?_⟩
 simp only [Act.put, zA]
 refine zr (.slice A n c) V4 rfl ?_
 simp only [Act.put, zA]
 have C0_4 := zb C0_3 B3
 refine wpList_call (by kernel_rfl) 24 Tryd.func24 (by kernel_rfl) (by kernel_rfl) _ _ #[.slice A n c, .int .i64 3] rfl (by kernel_rfl) ?_
 refine (largest_as A n c l 3 (by decide) (m3 : Int) (by rw [Ty.lg_sat HSA.out (by decide), HM3.out]) V4 (HL.out.keep C0_4.out)).mono ?_
 rintro e V5 ⟨rfl, hb⟩
 have B4 := zh hb
 clear hb 
 refine ⟨_, rfl, ?_⟩
 simp only [Act.put, zA]
 refine wpList_mk (by kernel_rfl) ([(m0 : Int), (m1 : Int), (m2 : Int), (m3 : Int)].flatMap zzC).toArray 3 4 4 (xg_lit (E := zzC) (bytes := 8) (.int .i64 0) [.tmp 9, .tmp 11, .tmp 13, .tmp 15] [(m0 : Int), (m1 : Int), (m2 : Int), (m3 : Int)] 4 Tryd.underlying71 (by kernel_rfl) rfl (by decide) (by decide) rfl rfl) ?_
 intro g16 V6 hge h0 hb
 have C1_3 := zb B1 B2
 have C1_4 := zb C1_3 B3
 have C1_5 := zb C1_4 B4
 have N1_0 : Hid (w.heap.size ≠ g16) := zh (xp_lt0 (heap_keep Fv0_6.out C1_5.out) hge)
 have Ge2 : Hid (V5.heap.size ≤ g16) := zh hge
 have B5 := zh hb
 have Fv3_16 : Hid (RowG zzC V6 g16 3 ([(m0 : Int), (m1 : Int), (m2 : Int), (m3 : Int)])) := zh (h0)
 have Lt4 : Hid (g16 < V6.heap.size) := zh (xp_lt Fv3_16.out)
 clear hge h0 hb
 simp only [ptr, Act.put, zA]
 refine zr (.slice (some ⟨g16, 0, none⟩) 4 4) V6 rfl ?_
 simp only [Act.put, zA]
 refine wpList_nil ?_
 have hci5 : ((u : Int) ≥ 0) := by omega
 go_upto_region 2 with fail
 refine wp_region_lit ?_
 refine zr (.int .i64 (u : Int)) V6 rfl ?_
 simp only [Act.put, zA]
 refine zr (.bool true) V6 (xo_geqT .i64 (u : Int) 0 (by omega) rfl rfl rfl) ?_
 simp only [Act.put, zA]
 refine wpList_nil ?_
 go_upto_region 3 with fail
 refine wp_region_lit ?_
 refine zr (.slice (some ⟨g16, 0, none⟩) 4 4) V6 rfl ?_
 simp only [Act.put, zA]
 refine zr (.int .i64 (col : Int)) V6 rfl ?_
 simp only [Act.put, zA]
 refine zr (.int .i64 (u : Int)) V6 rfl ?_
 simp only [Act.put, zA]
 refine zr (.pointer (some (gad (some ⟨g16, 0, none⟩) (col * 1)))) V6 (xg_idx .i64 (RowG.sg (n := 4) (c := 4) Fv3_16.out (show ([(m0 : Int), (m1 : Int), (m2 : Int), (m3 : Int)]).length = 4 from rfl) (Nat.le_refl _) (by omega)) (List.getElem?_eq_getElem (show col < ([(m0 : Int), (m1 : Int), (m2 : Int), (m3 : Int)]).length from hc)) Tryd.underlying71 (by kernel_rfl) rfl rfl rfl) ?_
 simp only [Act.put, zA]
 refine wpList_storeW g16 _ _ 3 (by kernel_rfl) (RowG.h Fv3_16.out) (xg_store Fv3_16.out (List.getElem?_eq_some_iff.1 (List.getElem?_eq_getElem (show col < ([(m0 : Int), (m1 : Int), (m2 : Int), (m3 : Int)]).length from hc))).1 (u : Int) (by kernel_rfl) rfl rfl rfl) ?_
 intro X6_6 h1 hfar hbel hsz
 have hbr := hbel _ _ Ge2.out B5.out
 clear B5
 have B5 := zh hbr
 clear hbr
 clear Fv3_16
 have Fv3_16 : Hid (RowG zzC X6_6 g16 3 (([(m0 : Int), (m1 : Int), (m2 : Int), (m3 : Int)]).set col (u : Int))) := zh (h1)
 have HszX6_6 := zh hsz
 clear h1 hfar hbel hsz
 simp only [ptr, Act.put, zA]
 refine wpList_nil ?_
 have hz := Fv3_16.out
 rw [Ty.ex_set l hc u HM0.out HM1.out HM2.out HM3.out] at hz
 obtain ⟨e0, he0⟩ : ∃ m, Ty.exN l col (some u) 0 = m := ⟨_, rfl⟩
 have HE0 := zh he0
 rw [he0] at hz
 clear he0
 obtain ⟨e1, he1⟩ : ∃ m, Ty.exN l col (some u) 1 = m := ⟨_, rfl⟩
 have HE1 := zh he1
 rw [he1] at hz
 clear he1
 obtain ⟨e2, he2⟩ : ∃ m, Ty.exN l col (some u) 2 = m := ⟨_, rfl⟩
 have HE2 := zh he2
 rw [he2] at hz
 clear he2
 obtain ⟨e3, he3⟩ : ∃ m, Ty.exN l col (some u) 3 = m := ⟨_, rfl⟩
 have HE3 := zh he3
 rw [he3] at hz
 clear he3
 clear Fv3_16
 have Fv3_16 : Hid (RowG zzC X6_6 g16 3 ([(e0 : Int), (e1 : Int), (e2 : Int), (e3 : Int)])) := zh hz
 clear hz
 go_upto_region 4 with fail
 try simp only [List.append_eq, List.cons_append, List.nil_append]
 refine wp_ordM 13 (.q 0 (.q 1 (.q 2 (.q 3 (.q 4 (.q 5 (.q 6 (.q 7 (.q 8 (.q 9 (.q 10 (.q 11 (.q 12 .nil))))))))))))) (by kernel_rfl) (by kernel_rfl) (by kernel_rfl) (by kernel_rfl) (by kernel_rfl) (by kernel_rfl) (by kernel_rfl) (fun V7 hb => ?_)
 have B6 := zh hb
 clear hb
 refine wpOT_q (.slice (some ⟨g16, 0, none⟩) 4 4) rfl (by kernel_rfl) (fun v hW => rfl) ?_
 simp only [ptr, Act.put, zA]
 refine wpOT_q (.pointer (some (gad (some ⟨g16, 0, none⟩) (0 * 1)))) rfl (by kernel_rfl) (fun v hW => (xo_index .i64 ⟨g16, 0, none⟩ 4 4 0 1 (by omega) Tryd.underlying71 (by kernel_rfl) rfl rfl rfl)) ?_
 simp only [ptr, Act.put, zA]
 refine wpOT_q (.int .i64 (e0 : Int)) rfl (by kernel_rfl) (fun v hW => (xg_load1 (E := zzC) (i := 0) (j := 0) (RowG.sg (n := 4) (c := 4) ((Fv3_16.out.keep B6.out).keep hW) (show ([(e0 : Int), (e1 : Int), (e2 : Int), (e3 : Int)]).length = 4 from rfl) (Nat.le_refl _) (by omega)) (show ([(e0 : Int), (e1 : Int), (e2 : Int), (e3 : Int)])[0]? = some (e0 : Int) from rfl) rfl rfl Tryd.underlying3 rfl rfl rfl)) ?_
 simp only [ptr, Act.put, zA]
 refine wpOT_q (.slice (some ⟨g16, 0, none⟩) 4 4) rfl (by kernel_rfl) (fun v hW => rfl) ?_
 simp only [ptr, Act.put, zA]
 refine wpOT_q (.pointer (some (gad (some ⟨g16, 0, none⟩) (1 * 1)))) rfl (by kernel_rfl) (fun v hW => (xo_index .i64 ⟨g16, 0, none⟩ 4 4 1 1 (by omega) Tryd.underlying71 (by kernel_rfl) rfl rfl rfl)) ?_
 simp only [ptr, Act.put, zA]
 refine wpOT_q (.int .i64 (e1 : Int)) rfl (by kernel_rfl) (fun v hW => (xg_load1 (E := zzC) (i := 1) (j := 0) (RowG.sg (n := 4) (c := 4) ((Fv3_16.out.keep B6.out).keep hW) (show ([(e0 : Int), (e1 : Int), (e2 : Int), (e3 : Int)]).length = 4 from rfl) (Nat.le_refl _) (by omega)) (show ([(e0 : Int), (e1 : Int), (e2 : Int), (e3 : Int)])[1]? = some (e1 : Int) from rfl) rfl rfl Tryd.underlying3 rfl rfl rfl)) ?_
 simp only [ptr, Act.put, zA]
 refine wpOT_q (.slice (some ⟨g16, 0, none⟩) 4 4) rfl (by kernel_rfl) (fun v hW => rfl) ?_
 simp only [ptr, Act.put, zA]
 refine wpOT_q (.pointer (some (gad (some ⟨g16, 0, none⟩) (2 * 1)))) rfl (by kernel_rfl) (fun v hW => (xo_index .i64 ⟨g16, 0, none⟩ 4 4 2 1 (by omega) Tryd.underlying71 (by kernel_rfl) rfl rfl rfl)) ?_
 simp only [ptr, Act.put, zA]
 refine wpOT_q (.int .i64 (e2 : Int)) rfl (by kernel_rfl) (fun v hW => (xg_load1 (E := zzC) (i := 2) (j := 0) (RowG.sg (n := 4) (c := 4) ((Fv3_16.out.keep B6.out).keep hW) (show ([(e0 : Int), (e1 : Int), (e2 : Int), (e3 : Int)]).length = 4 from rfl) (Nat.le_refl _) (by omega)) (show ([(e0 : Int), (e1 : Int), (e2 : Int), (e3 : Int)])[2]? = some (e2 : Int) from rfl) rfl rfl Tryd.underlying3 rfl rfl rfl)) ?_
 simp only [ptr, Act.put, zA]
 refine wpOT_q (.slice (some ⟨g16, 0, none⟩) 4 4) rfl (by kernel_rfl) (fun v hW => rfl) ?_
 simp only [ptr, Act.put, zA]
 refine wpOT_q (.pointer (some (gad (some ⟨g16, 0, none⟩) (3 * 1)))) rfl (by kernel_rfl) (fun v hW => (xo_index .i64 ⟨g16, 0, none⟩ 4 4 3 1 (by omega) Tryd.underlying71 (by kernel_rfl) rfl rfl rfl)) ?_
 simp only [ptr, Act.put, zA]
 refine wpOT_q (.int .i64 (e3 : Int)) rfl (by kernel_rfl) (fun v hW => (xg_load1 (E := zzC) (i := 3) (j := 0) (RowG.sg (n := 4) (c := 4) ((Fv3_16.out.keep B6.out).keep hW) (show ([(e0 : Int), (e1 : Int), (e2 : Int), (e3 : Int)]).length = 4 from rfl) (Nat.le_refl _) (by omega)) (show ([(e0 : Int), (e1 : Int), (e2 : Int), (e3 : Int)])[3]? = some (e3 : Int) from rfl) rfl rfl Tryd.underlying3 rfl rfl rfl)) ?_
 simp only [ptr, Act.put, zA]
 refine wpOT_q (.agg #[.int .i64 (e0 : Int), .int .i64 (e1 : Int), .int .i64 (e2 : Int), .int .i64 (e3 : Int)]) rfl (by kernel_rfl) (fun v hW => (by unfold execOp; go_simp <;> rfl)) ?_
 simp only [ptr, Act.put, zA]
 refine wpOT_nil ?_
 have C1_6 := zb C1_5 B5
 have C1_7 := zb C1_6 B6
 have hfs := (heap_keep Fv0_6.out C1_7.out)
 have hgb := Gb0.out
 have C0_5 := zb C0_4 B4
 have C0_6 := zb C0_5 B5
 have C0_7 := zb C0_6 B6
 have hbs := C0_7.out
 have hfar : ∀ k o, k ≠ w.heap.size → V7.heap[k]? = some o → (V7.setRow w.heap.size #[.int .i64 (e0 : Int), .int .i64 (e1 : Int), .int .i64 (e2 : Int), .int .i64 (e3 : Int)]).heap[k]? = some o := fun k o hk h0 => heap_farRow h0 hk _
 have YFv3_16 : RowG zzC (V7.setRow w.heap.size #[.int .i64 (e0 : Int), .int .i64 (e1 : Int), .int .i64 (e2 : Int), .int .i64 (e3 : Int)]) g16 3 ([(e0 : Int), (e1 : Int), (e2 : Int), (e3 : Int)]) := hfar _ _ (Ne.symm N1_0.out) (Fv3_16.out.keep B6.out)
 refine mOp_run0 _ rfl rfl (xo_storeW w.heap.size #[.int .i64 0, .int .i64 0, .int .i64 0, .int .i64 0] #[.int .i64 (e0 : Int), .int .i64 (e1 : Int), .int .i64 (e2 : Int), .int .i64 (e3 : Int)] hfs (by kernel_rfl) rfl (by simp [Value.oneCell']) rfl rfl rfl) ?_
 try simp only [List.getElem_toArray, List.getElem_cons_succ, List.getElem_cons_zero, ptr, Act.put, zA]
 have hfn := setRow_heap V7 w.heap.size _ #[.int .i64 (e0 : Int), .int .i64 (e1 : Int), .int .i64 (e2 : Int), .int .i64 (e3 : Int)] _ _ hfs
 have hbn := bel_setRow hbs hgb #[.int .i64 (e0 : Int), .int .i64 (e1 : Int), .int .i64 (e2 : Int), .int .i64 (e3 : Int)]
 clear hfar
 generalize V7.setRow w.heap.size #[.int .i64 (e0 : Int), .int .i64 (e1 : Int), .int .i64 (e2 : Int), .int .i64 (e3 : Int)] = X7 at *
 have Gt8 : Hid (w.heap.size ≤ g16) := zh (Nat.le_trans C0_5.out.size Ge2.out)
 have hbr := hbn
 clear B0
 have B0 := zh hbr
 clear hbr
 clear Fv3_16
 have Fv3_16 := zh YFv3_16
 clear YFv3_16
 clear Fv0_6
 have Fv0_6 : Hid (X7.heap[w.heap.size]? = some (.cells #[.int .i64 (e0 : Int), .int .i64 (e1 : Int), .int .i64 (e2 : Int), .int .i64 (e3 : Int)] 40 (0, 0))) := zh hfn
 clear hfs hgb hbs hfn hbn
 have hbf := B0.out
 have e0' := HE0.out
 have e1' := HE1.out
 have e2' := HE2.out
 have e3' := HE3.out
 rw [hy] at e0' e1' e2' e3'
 subst e0' e1' e2' e3'
 go_wp2_with fail
 refine bodyPost_ret (v := .agg #[.int .i64 (y 0 : Int), .int .i64 (y 1 : Int), .int .i64 (y 2 : Int), .int .i64 (y 3 : Int)]) ?_ rfl ⟨rfl, hbf⟩
 exact results_cell_row rfl _ _ w.heap.size 40 _ (0, 0) _ rfl Fv0_6.out Tryd.underlying40 rfl (by kernel_rfl)
end Go.Proofs.YtbecajihgbbgjaaDoor

namespace Go.Proofs.YtbecajihgbbgjaaDoor
set_option maxRecDepth 8000
open Go.RowKit Go.Proofs.YtbecajihgbbgjaaDoor.K
attribute [local irreducible] wpList wpQuiet
namespace Ty
theorem zs_len (l : List Nat) : (zs l).length = l.length := by unfold zs; rw [List.length_map]
theorem ck_len {q : Qu.Qy} {rows co : Nat} {xs : List Nat} (h : ckN q rows = (xs, co)) : xs.length ≤ 32 := by
 unfold ckN at h
 split at h
 ·injection h with h1 _
  rw [← h1]
  exact Nat.zero_le _
 ·split at h
  ·injection h with h1 _
   rw [← h1, List.length_map, List.length_range]
   exact su_le q.kind
  ·injection h with h1 _
   rw [← h1]
   exact Nat.zero_le _
end Ty
end Go.Proofs.YtbecajihgbbgjaaDoor

namespace Go.Proofs.YtbecajihgbbgjaaDoor
set_option maxRecDepth 8000
namespace Ty
theorem zs_at {l : List Nat} {v a : Nat} (h : l[v]? = some a) : (zs l)[v]? = some (a : Int) := by
 unfold zs
 rw [List.getElem?_map, h]
 rfl
theorem ck_facts {q : Qu.Qy} {m co : Nat} {xs : List Nat} (hev : ¬ (4 ≤ q.kind ∧ q.kind ≤ 6 ∧ q.col % 2 = 1)) (h : ckN q m = (xs, co)) :
  (co = 0 ∨ co = 141) ∧ (co = 141 → xs.length = 0) ∧ (co = 0 → xs.length = suN q.kind ∧ ∀ v, v < suN q.kind → (zs xs)[v]? = some ((bdN q m v : Nat) : Int) ∧ bdN q m v < 2 ^ 62) := by
 unfold ckN at h
 rw [if_neg hev] at h
 split at h
 ·next ha =>
  injection h with h1 h2
  subst h1 h2
  refine ⟨.inl rfl, fun e => absurd e (by decide), fun _ => ⟨by rw [List.length_map, List.length_range], fun v hv => ⟨zs_at ?_, ?_⟩⟩⟩
  ·rw [List.getElem?_map, List.getElem?_range hv]
   rfl
  ·exact of_decide_eq_true (List.all_eq_true.1 ha v (List.mem_range.2 hv))
 ·injection h with h1 h2
  subst h1 h2
  exact ⟨.inr rfl, fun _ => rfl, fun e => absurd e (by decide)⟩
theorem ck_all_lt {q : Qu.Qy} {m co : Nat} {xs : List Nat} (hev : ¬ (4 ≤ q.kind ∧ q.kind ≤ 6 ∧ q.col % 2 = 1)) (h : ckN q m = (xs, co)) (ha : ∀ v, v < suN q.kind → bdN q m v < 2 ^ 62) : co = 0 := by
 rw [ck_ok hev ha] at h
 injection h with _ h2
 exact h2.symm
theorem suZ_nat {kd : Nat} (h1 : 1 ≤ kd) (h7 : kd ≤ 7) : suZ (kd : Int) = suN kd := by
 unfold suZ
 rw [if_pos (by omega), Int.toNat_natCast]
end Ty
end Go.Proofs.YtbecajihgbbgjaaDoor

namespace Go.Proofs.YtbecajihgbbgjaaDoor
set_option maxRecDepth 8000
open Go.ChangeShapes Go.WideShapes Go.ChangeAt Go.RowKit Go.Joins Go.Deep Go.Proofs.YtbecajihgbbgjaaDoor.K
theorem own : ownKnob Tryd.prog.godebug = none := by kernel_rfl
theorem laidOut : laidOutB Tryd.prog = true := by kernel_rfl
section
variable {H : Type} {enc : TypeId × Value → H} {W : World} {base : Nat} {sp : Nat → Bool} {b1 : Nat} {hd : Bool} {v : Value} {d : DataW H} {p : List MemPlace}
theorem cells13I : Tryd.prog.cellsOf 3 = 1 := by kernel_rfl
theorem cells13S : Tryd.prog.cellsOf 9 = 1 := by kernel_rfl
theorem cells13C : Tryd.prog.cellsOf 96 = 2 := by kernel_rfl
theorem cells13T : Tryd.prog.cellsOf 97 = 8 := by kernel_rfl
theorem trod13_col {fuel : Nat} {c0 c1 : Value} {s : List UInt8} {z : Int} {q : List MemPlace} (h : DataW.trod enc Tryd.prog W b1 sp hd fuel 96 [c0, c1] = some (.agg [.lit (.string s), .lit (.int .i64 z)], q)) : c0 = .string (sB s) ∧ c1 = .int .i64 z := by
 obtain ⟨ys, m', _, hx, _, hn, hel⟩ := DataW.trod_struct Tryd.underlying96 h
 match ys, hn with
 | [y0, y1], _ =>
  have g0 : DataW.trod enc Tryd.prog W b1 sp hd m' 9 [c0] = some y0 := by simpa [cells13S] using hel 0 _ rfl
  have g1 : DataW.trod enc Tryd.prog W b1 sp hd m' 3 [c1] = some y1 := by simpa [cells13I] using hel 1 _ rfl
  obtain ⟨b0, e0, x0, _⟩ := DataW.trod_string Tryd.underlying9 g0
  obtain ⟨a1, e1, x1, _⟩ := DataW.trod_int Tryd.underlying3 g1
  subst x0
  have hx' := congrArg Prod.fst hx
  simp [x1] at hx' e0 e1
  obtain ⟨rfl, rfl⟩ := hx'
  subst e0 e1
  exact ⟨by rw [sB_of], rfl⟩
end
def laid13 : List (String × DataW Unit) := [("attestor/query.columns", Rows.laid_attestor_query_columns)]
theorem of_laid13 {W : World} (h : laidMetH Tryd.prog laid13 W) : Gc W := by
 rw [MakeChecks.laidMetH_plain _ _ _ (by kernel_rfl)] at h
 obtain ⟨ps, ⟨g', t', cs, fuel, p, q, hg', ht', hvar, hd, _, _⟩, _⟩ := h
 have g1 : Tryd.prog.globalNamed "attestor/query.columns" = some 1 := by kernel_rfl
 obtain rfl := Option.some.inj (g1.symm.trans hg')
 have t1 : (Tryd.prog.globals[1]?).map (·.type) = some 97 := by kernel_rfl
 obtain rfl := Option.some.inj (t1.symm.trans ht')
 obtain ⟨xs, m, _, hx, hl, hn, hel⟩ := DataW.trod_array Tryd.underlying97 hd
 rw [cells13T] at hl
 rw [cells13C] at hel
 have hx' := congrArg Prod.fst hx
 match cs, hl, xs, hn with
 | ⟨[c0, c1, c2, c3, c4, c5, c6, c7]⟩, _, [y0, y1, y2, y3], _ =>
  simp [Rows.laid_attestor_query_columns] at hx'
  obtain ⟨h0, h1, h2, h3⟩ := hx'
  have k0 := hel 0 (by omega)
  have k1 := hel 1 (by omega)
  have k2 := hel 2 (by omega)
  have k3 := hel 3 (by omega)
  simp at k0 k1 k2 k3
  obtain ⟨e0, e1⟩ := trod13_col (q := y0.2) (by rw [k0]; rw [h0])
  obtain ⟨e2, e3⟩ := trod13_col (q := y1.2) (by rw [k1]; rw [h1])
  obtain ⟨e4, e5⟩ := trod13_col (q := y2.2) (by rw [k2]; rw [h2])
  obtain ⟨e6, e7⟩ := trod13_col (q := y3.2) (by rw [k3]; rw [h3])
  subst e0 e1 e2 e3 e4 e5 e6 e7
  intro j v hv
  rw [Nat.zero_add]
  have hc := World.var?_cell g1 hvar j
  rw [hc]
  simpa [Qu.nameN] using hv
end Go.Proofs.YtbecajihgbbgjaaDoor

namespace Go.Proofs.YtbecajihgbbgjaaDoor.K
set_option maxRecDepth 8000
open Go.ChangeShapes Go.WideShapes Go.ChangeAt Go.RowKit Go.Joins Go.Deep
theorem list_ofK {α : Type} (n : Nat) (P : Nat → α → Prop) (h : ∀ i, i < n → ∃ x, P i x) : ∃ l : List α, l.length = n ∧ ∀ i x, l[i]? = some x → P i x := by
 induction n with
 | zero => exact ⟨[], rfl, fun i x hx => by simp at hx⟩
 | succ n ih =>
  obtain ⟨l, hl, hp⟩ := ih fun i hi => h i (by omega)
  obtain ⟨x, hx⟩ := h n (Nat.lt_succ_self n)
  refine ⟨l ++ [x], by simp [hl], fun i y hy => ?_⟩
  by_cases hi : i < l.length
  ·rw [List.getElem?_append_left hi] at hy
   exact hp i y hy
  ·rw [List.getElem?_append_right (by omega)] at hy
   have e : i = n := by
    have := (List.getElem?_eq_some_iff.1 hy).1
    simp at this
    omega
   subst e
   rw [hl, Nat.sub_self] at hy
   simp at hy
   subst hy
   exact hx
section
variable {α : Type} {E : α → List Value} {k : Nat} [hE : Enc E k] {P : Program} {H : Type} {enc : TypeId × Value → H} {W : World} {b1 : Nat} {sp : Nat → Bool} {hd : Bool} {t e : TypeId}
/-- a slice that comes in, its elements opened -/
theorem open_seq (p : α → Prop) (hu : P.underlying t = some (.slice e)) (hc : P.cellsOf e = k) (hel : ∀ m cs y, cs.length = k → DataW.trod enc P W b1 sp hd m e cs = some y → ∃ x, cs = E x ∧ p x) {m : Nat} {cs : List Value} {y : DataW H × List MemPlace} (h : DataW.trod enc P W b1 sp hd m t cs = some y) :
  ∃ A n c xs, cs = [.slice A n c] ∧ Sg E k W A n c xs ∧ ∀ x ∈ xs, p x := by
 have hk := hE.pos
 rcases open_slice hu h with ⟨hcs, _⟩ | ⟨a, len, cap, m', n', D, Pl, hcs, _, hl, hm, hmm, _, hi⟩
 ·exact ⟨none, 0, 0, [], hcs, Sg.nil_ _, fun x hx => by cases hx⟩
 ·unfold maxLen at hm
  have hC : ∀ i, i < len → ∃ x, p x ∧ ∀ j v, (E x)[j]? = some v → W.cell? ((a.add (i * k)).add j) = some v := fun i hin => by
   obtain ⟨cs', hc2, ht⟩ := hi i (by rw [hmm]; split <;> omega)
   rw [hc] at hc2
   obtain ⟨_, hcl, hat⟩ := World.cells?_some hc2
   obtain ⟨x, hx, hpx⟩ := hel _ _ _ hcl ht
   subst hx
   exact ⟨x, hpx, fun j v hv => (hat j (by rw [← hE.len x]; exact (List.getElem?_eq_some_iff.1 hv).1)).trans hv⟩
  obtain ⟨xs, hxl, hxx⟩ := list_ofK len _ hC
  refine ⟨some a, len, cap, xs, hcs, ⟨hxl, hl, by omega, fun e => (by cases e), fun i x hx => ?_⟩, fun x hx => ?_⟩
  ·have hil := (List.getElem?_eq_some_iff.1 hx).1
   obtain ⟨b, off, s⟩ := a
   obtain ⟨x0, hx0⟩ : ∃ x0, xs[0]? = some x0 := ⟨_, List.getElem?_eq_getElem (by omega)⟩
   obtain ⟨v0, hv0⟩ : ∃ v0, (E x0)[0]? = some v0 := ⟨_, List.getElem?_eq_getElem (by rw [hE.len]; exact hk)⟩
   have h0 := (hxx 0 x0 hx0).2 0 v0 hv0
   rw [Nat.zero_mul] at h0
   have hs : s = none := by
    cases s with
    | none => rfl
    | some q =>
     simp only [Addr.add, if_true, World.cell?] at h0
     split at h0 <;> simp at h0
   subst hs
   refine ⟨b, off, rfl, fun j v hv => ?_⟩
   have h1 := (hxx i x hx).2 j v hv
   rw [Addr.add_mid, Addr.add_mid] at h1
   exact h1
  ·obtain ⟨i, hi'⟩ := List.getElem?_of_mem hx
   exact (hxx i x hi').1
end
end Go.Proofs.YtbecajihgbbgjaaDoor.K
namespace Go.Proofs.YtbecajihgbbgjaaDoor
open Go.ChangeShapes Go.WideShapes Go.ChangeAt Go.RowKit Go.Joins Go.Deep Go.Proofs.YtbecajihgbbgjaaDoor.K
section
variable {H : Type} {enc : TypeId × Value → H} {W : World} {base : Nat} {sp : Nat → Bool} {b1 : Nat} {hd : Bool} {v : Value} {d : DataW H} {p : List MemPlace}
theorem cells13D : Tryd.prog.cellsOf 49 = 3 := by kernel_rfl
set_option maxRecDepth 100000 in
theorem trod13_cond {m : Nat} {cs : List Value} {y : DataW H × List MemPlace} (hl : cs.length = 3) (h : DataW.trod enc Tryd.prog W b1 sp hd m 49 cs = some y) : ∃ x : Qu.Ci, cs = ciC x := by
 obtain ⟨ys, m', _, _, _, hn, hel⟩ := DataW.trod_struct Tryd.underlying49 h
 match cs, hl, ys, hn with
 | [c0, c1, c2], _, [y0, y1, y2], _ =>
  have g0 : DataW.trod enc Tryd.prog W b1 sp hd m' 3 [c0] = some y0 := by simpa [cells13I] using hel 0 _ rfl
  have g1 : DataW.trod enc Tryd.prog W b1 sp hd m' 3 [c1] = some y1 := by simpa [cells13I] using hel 1 _ rfl
  have g2 : DataW.trod enc Tryd.prog W b1 sp hd m' 3 [c2] = some y2 := by simpa [cells13I] using hel 2 _ rfl
  obtain ⟨a0, e0, _, _⟩ := DataW.trod_int Tryd.underlying3 g0
  obtain ⟨a1, e1, _, _⟩ := DataW.trod_int Tryd.underlying3 g1
  obtain ⟨a2, e2, _, _⟩ := DataW.trod_int Tryd.underlying3 g2
  simp at e0 e1 e2
  subst e0 e1 e2
  exact ⟨⟨a0, a1, a2⟩, rfl⟩
theorem cells13F : Tryd.prog.cellsOf 44 = 1 := by kernel_rfl
set_option maxRecDepth 100000 in
theorem trod13_filter {m : Nat} {cs : List Value} {y : DataW H × List MemPlace} (h : DataW.trod enc Tryd.prog W b1 sp hd m 44 cs = some y) : ∃ x : Hd, cs = hdC x ∧ ∃ xs, Sg ciC 3 W x.A x.n x.c xs := by
 obtain ⟨A, n, c, xs, e, hs, _⟩ := open_seq (E := ciC) (fun _ => True) Tryd.underlying44 cells13D (fun m cs y hl hy => by obtain ⟨x, e⟩ := trod13_cond hl hy; exact ⟨x, e, trivial⟩) h
 exact ⟨Hd.mk A n c, e, xs, hs⟩
set_option maxRecDepth 100000 in
theorem all13 : ∀ (hs : List Hd), (∀ h ∈ hs, ∃ xs, Sg ciC 3 W h.A h.n h.c xs) → ∃ fs : List (List Qu.Ci), hs.length = fs.length ∧ ∀ (i : Nat) (h : Hd) (xs : List Qu.Ci), hs[i]? = some h → fs[i]? = some xs → Sg ciC 3 W h.A h.n h.c xs
 | [], _ => ⟨[], rfl, fun i h xs hi => by simp at hi⟩
 | h :: hs, hh => by
  obtain ⟨xs, hx⟩ := hh h (List.mem_cons_self ..)
  obtain ⟨fs, hl, hf⟩ := all13 hs fun q hq => hh q (List.mem_cons_of_mem _ hq)
  refine ⟨xs :: fs, by simp [hl], fun i q ys hi hy => ?_⟩
  cases i with
  | zero =>
   simp at hi hy
   subst hi hy
   exact hx
  | succ i => exact hf i q ys (by simpa using hi) (by simpa using hy)
set_option maxRecDepth 100000 in
theorem trod13_filters {m : Nat} {c0 : Value} {y : DataW H × List MemPlace} (h : DataW.trod enc Tryd.prog W b1 sp hd m 22 [c0] = some y) : ∃ (A : Option Addr) (n c : Nat) (hs : List Hd) (fs : List (List Qu.Ci)), c0 = .slice A n c ∧ FsR W A n c hs fs := by
 obtain ⟨A, n, c, hs, e, hh, hp⟩ := open_seq (E := hdC) (fun x => ∃ xs, Sg ciC 3 W x.A x.n x.c xs) Tryd.underlying22 cells13F (fun m cs y _ hy => trod13_filter hy) h
 simp only [List.cons.injEq, and_true] at e
 obtain ⟨fs, hl, hf⟩ := all13 hs hp
 exact ⟨A, n, c, hs, fs, e, ⟨hh, hl, hf⟩⟩
theorem cells13Q : Tryd.prog.cellsOf 24 = 4 := by kernel_rfl
theorem cells13G : Tryd.prog.cellsOf 22 = 1 := by kernel_rfl
set_option maxRecDepth 100000 in
theorem open13_query (hv : Value.okWide Tryd.prog W .any base 24 v) (h : DataW.Trod enc Tryd.prog W b1 sp hd 24 v d p) : ∃ (a b k : Int) (A : Option Addr) (n c : Nat) (hs : List Hd) (fs : List (List Qu.Ci)), v = .agg #[.int .i64 a, .int .i64 b, .int .i64 k, .slice A n c] ∧ FsR W A n c hs fs := by
 obtain ⟨cs, rfl, hsz, _⟩ : ∃ cs, v = .agg cs ∧ cs.size = Tryd.prog.cellsOf 24 ∧ Row.okWide Tryd.prog W .any base 24 cs := by
  simpa [Value.okWide, Tryd.underlying24] using hv
 rw [cells13Q] at hsz
 obtain ⟨c0, c1, c2, c3, rfl⟩ : ∃ c0 c1 c2 c3, cs = #[c0, c1, c2, c3] := by
  match cs, hsz with
  | ⟨[c0, c1, c2, c3]⟩, _ => exact ⟨c0, c1, c2, c3, rfl⟩
 obtain ⟨fuel, hf⟩ := h
 obtain ⟨ys, m', _, _, _, hn, hel⟩ := DataW.trod_struct Tryd.underlying24 (show DataW.trod enc Tryd.prog W b1 sp hd fuel 24 [c0, c1, c2, c3] = some (d, p) by simpa [Value.cells] using hf)
 match ys, hn with
 | [y0, y1, y2, y3], _ =>
  have g0 : DataW.trod enc Tryd.prog W b1 sp hd m' 3 [c0] = some y0 := by simpa [cells13I] using hel 0 _ rfl
  have g1 : DataW.trod enc Tryd.prog W b1 sp hd m' 3 [c1] = some y1 := by simpa [cells13I] using hel 1 _ rfl
  have g2 : DataW.trod enc Tryd.prog W b1 sp hd m' 3 [c2] = some y2 := by simpa [cells13I] using hel 2 _ rfl
  have g3 : DataW.trod enc Tryd.prog W b1 sp hd m' 22 [c3] = some y3 := by simpa [cells13G] using hel 3 _ rfl
  obtain ⟨a0, e0, _, _⟩ := DataW.trod_int Tryd.underlying3 g0
  obtain ⟨a1, e1, _, _⟩ := DataW.trod_int Tryd.underlying3 g1
  obtain ⟨a2, e2, _, _⟩ := DataW.trod_int Tryd.underlying3 g2
  obtain ⟨A, n, c, hs, fs, rfl, hF⟩ := trod13_filters g3
  simp at e0 e1 e2
  subst e0 e1 e2
  exact ⟨a0, a1, a2, A, n, c, hs, fs, rfl, hF⟩
end
end Go.Proofs.YtbecajihgbbgjaaDoor

namespace Go.Proofs.YtbecajihgbbgjaaDoor
set_option maxRecDepth 8000
open Go.ChangeShapes Go.WideShapes Go.ChangeAt Go.RowKit Go.Joins Go.Deep Go.Proofs.YtbecajihgbbgjaaDoor.K
def laid14 : List (String × DataW Unit) := [("attestor/query.columns", Rows.laid_attestor_query_columns), ("attestor/typecheck.widths", Rows.laid_attestor_typecheck_widths)]
theorem laid14_cols {W : World} (h : laidMet Tryd.prog laid14 W) : laidMetH Tryd.prog laid13 W := by
 rw [MakeChecks.laidMetH_plain _ _ _ (by kernel_rfl)]
 have hk := laidMet.filter (fun x => x.1 == "attestor/query.columns") h
 rwa [show (laid14.filter fun x => x.1 == "attestor/query.columns") = laid13 by kernel_rfl] at hk
theorem laid14_wid {W : World} (h : laidMet Tryd.prog laid14 W) : Gw5 W := by
 have h2 : laidMet Tryd.prog (("attestor/typecheck.widths", Lib.tabData .i64 [4, 8, 4, 8, 1]) :: []) W := by
  have hk := laidMet.filter (fun x => x.1 == "attestor/typecheck.widths") h
  rwa [show (laid14.filter fun x => x.1 == "attestor/typecheck.widths") = [("attestor/typecheck.widths", Lib.tabData .i64 [4, 8, 4, 8, 1])] by kernel_rfl] at hk
 have g2 : Tryd.prog.globalNamed "attestor/typecheck.widths" = some 0 := by kernel_rfl
 have t2 := Lib.tabIs_of_head g2 (t := 72) (by kernel_rfl) Tryd.underlying72 Tryd.underlying3 (by kernel_rfl) (by kernel_rfl) h2
 intro j v hv
 have hj : j < 5 := (List.getElem?_eq_some_iff.1 hv).1
 have := t2.cell g2 j hj
 rw [Nat.zero_add, this]
 rcases (show j = 0 ∨ j = 1 ∨ j = 2 ∨ j = 3 ∨ j = 4 by omega) with rfl | rfl | rfl | rfl | rfl <;> exact hv
theorem of_laid14 {W : World} (h : laidMetH Tryd.prog laid14 W) : Gw5 W ∧ Gc W := by
 rw [MakeChecks.laidMetH_plain _ _ _ (by kernel_rfl)] at h
 exact ⟨laid14_wid h, of_laid13 (laid14_cols h)⟩
theorem door_met14 (os : Os) (args : Array Value) : laidMetH Tryd.prog laid14 ((World.doorLaid Tryd.prog 400 os).forCall (fun _ _ => 0) ⟨#[], args, []⟩).memory :=
 laidMetH_of_parts3 (fuel := 8) (laidMet_of_run' 8 (by kernel_rfl) (by kernel_rfl)) (by kernel_rfl) (by kernel_rfl)
section
variable {H : Type} {enc : TypeId × Value → H} {W : World} {base : Nat} {sp : Nat → Bool} {b1 : Nat} {hd : Bool} {v : Value} {d : DataW H} {p : List MemPlace}
end
end Go.Proofs.YtbecajihgbbgjaaDoor

