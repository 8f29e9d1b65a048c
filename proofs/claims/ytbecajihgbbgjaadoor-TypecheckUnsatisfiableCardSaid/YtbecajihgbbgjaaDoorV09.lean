/- Several texts in one: Ycq, Ycg. -/
import Derived.Test.YtbecajihgbbgjaaDoorV08
import Derived.Test.YtbecajihgbbgjaaDoorV06
set_option linter.unusedVariables false
set_option linter.unusedSimpArgs false
set_option linter.unusedSectionVars false
namespace Go.Proofs.YtbecajihgbbgjaaDoor
set_option maxRecDepth 8000
open Go.RowKit Go.Proofs.YtbecajihgbbgjaaDoor.K
attribute [local irreducible] wpList wpQuiet
namespace Ty
theorem bd_of {q : Qu.Qy} {rows v m e : Nat} {l : List Qu.Cd} (hl : q.fs[v / 16]? = some l) (hs : satN l = true) (hm : moN q l v = (m, e)) : bdN q rows v = rows * m ^ e := by
 have h1 : ruN q v = l := by unfold ruN; rw [List.getD_eq_getElem?_getD, hl]; rfl
 unfold bdN
 rw [h1, if_pos hs, hm]
theorem bd_un {q : Qu.Qy} {v : Nat} {l : List Qu.Cd} (rows : Nat) (hl : q.fs[v / 16]? = some l) (hs : satN l = false) : bdN q rows v = 0 := by
 have h1 : ruN q v = l := by unfold ruN; rw [List.getD_eq_getElem?_getD, hl]; rfl
 unfold bdN
 rw [h1, hs]
 rfl
theorem cn_sp {l : List Qu.Cd} {lw up : Nat → Nat} {c v : Nat} (h : lw c = (spC l c).1 ∧ up c = (spC l c).2) : (if lw c ≤ v ∧ v ≤ up c then 1 else 0) = cnN l c v := by
 unfold cnN
 rw [h.1, h.2]
 by_cases hp : (spC l c).1 ≤ v ∧ v ≤ (spC l c).2
 ·rw [if_pos hp, if_pos ((pos_iff l c v).2 hp)]
 ·rw [if_neg hp, if_neg (fun e => hp ((pos_iff l c v).1 e))]
theorem sat_sp {l : List Qu.Cd} {lw up : Nat → Nat} {b : Bool} (h : ∀ c, c < 4 → lw c = (spC l c).1 ∧ up c = (spC l c).2) (hb : satN l = b) : (List.range 4).all (fun c => decide (lw c ≤ up c)) = b := by
 rw [← hb]
 unfold satN
 rw [Bool.eq_iff_iff, List.all_eq_true, List.all_eq_true]
 refine forall_congr' fun c => forall_congr' fun hc => ?_
 have h4 := h c (List.mem_range.1 hc)
 rw [h4.1, h4.2]
theorem mo_1 {q : Qu.Qy} (l : List Qu.Cd) (v : Nat) (h : q.kind = 1) : moN q l v = (1, 1) := by unfold moN; simp only [h]
theorem mo_2 {q : Qu.Qy} (l : List Qu.Cd) (v : Nat) (h : q.kind = 2) : moN q l v = ((spC l q.col).2, 1) := by unfold moN; simp only [h]
theorem mo_3 {q : Qu.Qy} (l : List Qu.Cd) (v : Nat) (h : q.kind = 3) : moN q l v = ((spC l q.col).2, q.k) := by unfold moN; simp only [h]
theorem mo_g {q : Qu.Qy} (l : List Qu.Cd) (v : Nat) (h4 : 4 ≤ q.kind) (h6 : q.kind ≤ 6) : moN q l v = (cnN l q.col v, 1) := by
 unfold moN
 split <;> first | omega | rfl
theorem mo_7 {q : Qu.Qy} (l : List Qu.Cd) (v : Nat) (h : q.kind = 7) : moN q l v = (cnN l 0 (v % 16), 1) := by unfold moN; simp only [h]
end Ty
theorem kf_g {kd : Nat} (h4 : 4 ≤ kd) (h6 : kd ≤ 6) : kfN kd = 44 := by
 rcases (show kd = 4 ∨ kd = 5 ∨ kd = 6 by omega) with rfl | rfl | rfl <;> rfl
set_option maxRecDepth 100000 in
set_option maxHeartbeats 32000000 in
theorem bound_as (sv : Int) (gv : Bool) (f : FuncId) (kd col k : Nat) (A : Option Addr) (n c : Nat) (hs : List Hd) (fs : List (List Qu.Cd)) (rows v : Nat) (l : List Qu.Cd) (hf : kfN kd = f) (hk1 : 1 ≤ kd) (hk7 : kd ≤ 7) (hcol : col < 4) (hkk6 : k ≤ 65536) (hrows : rows ≤ 65536) (hv : v < 32) (hl : fs[v / 16]? = some l) (hc4 : ∀ e ∈ l, e.col < 4) (r0 : Nat) (hr0 : Ty.bdN ⟨kd, col, k, fs⟩ rows v = r0) (b : Bool) (hb : decide (r0 < 2 ^ 62) = b) (w : World) (hF : FsR w A n c hs (fs.map (List.map Qu.Cd.ci))) (hG : Gw5 w) :
  Calls Tryd.prog 32 #[.agg #[.int .i64 sv, .bool gv, .func (.func f) #[] #[]], .agg #[.int .i64 (kd : Int), .int .i64 (col : Int), .int .i64 (k : Int), .slice A n c], .int .i64 (rows : Int), .int .i64 (v : Int)] w fun e w' => ∃ z : Int, e = .returned (.tuple #[.int .i64 z, .bool b]) ∧ (b = true → z = (r0 : Int)) ∧ Below w.heap.size w w' := by
 have HFR := zh hF
 have HG := zh hG
 have HBB := zh hb
 have HR0 := zh hr0
 have HLL := zh hl
 have HC4 := zh hc4
 have HKF := zh hf
 have hln := hF.sg.len
 have hlc := hF.sg.cap
 have hlt := hF.sg.top
 have hfl := hF.len
 rw [List.length_map] at hfl
 have hu2 : v / 16 < fs.length := (List.getElem?_eq_some_iff.1 hl).1
 clear hF hG hb hr0 hl hc4 hf
 obtain ⟨u, hu⟩ : ∃ z, v / 16 = z := ⟨_, rfl⟩
 have HU := zh hu
 clear hu
 rw [HU.out] at HLL hu2
 obtain ⟨h, hh⟩ : ∃ h, hs[u]? = some h := ⟨_, List.getElem?_eq_getElem (by omega)⟩
 have HH := zh hh
 clear hh
 have HLM : Hid ((fs.map (List.map Qu.Cd.ci))[u]? = some (l.map Qu.Cd.ci)) := zh (by rw [List.getElem?_map, HLL.out]; rfl)
 go_enter Tryd.func32, Tryd.ntmps32
 go_upto_region 1 with fail
 refine wp_named2 (fun V1 hb g0 g1 hlt => ?_)
 have B0 := zh hb
 have Fv0_4 : Hid (V1.heap[w.heap.size]? = some (.cells #[.int .i64 sv, .bool gv, .func (.func f) #[] #[]] 63 (0, 0))) := zh (g0)
 have Fv1_5 : Hid (V1.heap[(w.heap.size + 1)]? = some (.cells #[.int .i64 (kd : Int), .int .i64 (col : Int), .int .i64 (k : Int), .slice A n c] 24 (0, 0))) := zh (g1)
 have Nb0_1 : Hid (w.heap.size ≠ (w.heap.size + 1)) := zh (by omega)
 have Gb0 : Hid (w.heap.size ≤ w.heap.size) := zh (by omega)
 have Gb1 : Hid (w.heap.size ≤ (w.heap.size + 1)) := zh (by omega)
 clear hb g0 g1 hlt
 have Lt0 : Hid (w.heap.size < V1.heap.size) := zh (xp_lt Fv0_4.out)
 have Lt1 : Hid ((w.heap.size + 1) < V1.heap.size) := zh (xp_lt Fv1_5.out)
 refine wp_region_lit ?_
 refine zr (.pointer (some ⟨(w.heap.size + 1), 3, none⟩)) V1 (xo_fld0 3 (w.heap.size + 1) 3 (by kernel_rfl) rfl rfl) ?_
 simp only [Act.put, zA]
 refine zr (.slice A n c) V1 (xo_load1 ⟨(w.heap.size + 1), 3, none⟩ _ (cells_at Fv1_5.out 3 rfl) Tryd.underlying22 rfl rfl rfl) ?_
 simp only [Act.put, zA]
 refine zr (.int .i64 (v : Int)) V1 rfl ?_
 simp only [Act.put, zA]
 refine zr (.int .i64 (u : Int)) V1 (xo_quoI v 16 u (by omega) HU.out (by omega) rfl rfl rfl) ?_
 simp only [Act.put, zA]
 refine zr (.pointer (some (gad A (u * 1)))) V1 (xg_idx .i64 (HFR.out.keep B0.out).sg HH.out Tryd.underlying22 (by kernel_rfl) rfl rfl rfl) ?_
 simp only [Act.put, zA]
 refine zr (.slice h.A h.n h.c) V1 (xg_load1 (E := hdC) (i := u) (j := 0) (HFR.out.keep B0.out).sg HH.out rfl rfl Tryd.underlying44 rfl rfl rfl) ?_
 simp only [Act.put, zA]
 refine wpList_call (by kernel_rfl) 50 Tryd.func50 (by kernel_rfl) (by kernel_rfl) _ _ #[.slice h.A h.n h.c] rfl (by kernel_rfl) ?_
 refine (spansOf_as h.A h.n h.c l HC4.out V1 ((HFR.out.keep B0.out).row u h (l.map Qu.Cd.ci) HH.out HLM.out) (HG.out.keep B0.out)).mono ?_
 rintro e V2 ⟨lw, up, rfl, hsp, hb⟩
 have B1 := zh hb
 have HSP := zh hsp
 clear hsp
 clear hb 
 refine ⟨_, rfl, ?_⟩
 simp only [Act.put, zA]
 refine wpList_new #[.int .i64 0, .int .i64 0, .int .i64 0, .int .i64 0, .int .i64 0, .int .i64 0, .int .i64 0, .int .i64 0] 84 (by kernel_rfl) (xo_alloc #[.int .i64 0, .int .i64 0, .int .i64 0, .int .i64 0, .int .i64 0, .int .i64 0, .int .i64 0, .int .i64 0] (by kernel_rfl) rfl) ?_
 intro b10 V3 hge h0 hb
 have N2_0 : Hid (w.heap.size ≠ b10) := zh (xp_lt0 (heap_keep Fv0_4.out B1.out) hge)
 have N3_1 : Hid ((w.heap.size + 1) ≠ b10) := zh (xp_lt0 (heap_keep Fv1_5.out B1.out) hge)
 have Ge4 : Hid (V2.heap.size ≤ b10) := zh hge
 have B2 := zh hb
 have Fv5_10 : Hid (V3.heap[b10]? = some (.cells #[.int .i64 0, .int .i64 0, .int .i64 0, .int .i64 0, .int .i64 0, .int .i64 0, .int .i64 0, .int .i64 0] 84 (0, 0))) := zh (h0)
 have Lt6 : Hid (b10 < V3.heap.size) := zh (xp_lt Fv5_10.out)
 clear hge h0 hb
 simp only [ptr, Act.put, zA]
 refine wpList_storeW b10 #[.int .i64 0, .int .i64 0, .int .i64 0, .int .i64 0, .int .i64 0, .int .i64 0, .int .i64 0, .int .i64 0] #[.int .i64 ((lw 0 : Nat) : Int), .int .i64 ((up 0 : Nat) : Int), .int .i64 ((lw 1 : Nat) : Int), .int .i64 ((up 1 : Nat) : Int), .int .i64 ((lw 2 : Nat) : Int), .int .i64 ((up 2 : Nat) : Int), .int .i64 ((lw 3 : Nat) : Int), .int .i64 ((up 3 : Nat) : Int)] 84 (by kernel_rfl) Fv5_10.out (xo_storeW b10 #[.int .i64 0, .int .i64 0, .int .i64 0, .int .i64 0, .int .i64 0, .int .i64 0, .int .i64 0, .int .i64 0] #[.int .i64 ((lw 0 : Nat) : Int), .int .i64 ((up 0 : Nat) : Int), .int .i64 ((lw 1 : Nat) : Int), .int .i64 ((up 1 : Nat) : Int), .int .i64 ((lw 2 : Nat) : Int), .int .i64 ((up 2 : Nat) : Int), .int .i64 ((lw 3 : Nat) : Int), .int .i64 ((up 3 : Nat) : Int)] Fv5_10.out (by kernel_rfl) rfl (by simp [Value.oneCell']) rfl rfl rfl) ?_
 intro X3_7 h1 hfar hbel hsz
 have hbr := hbel _ _ Ge4.out B2.out
 clear B2
 have B2 := zh hbr
 clear hbr
 clear Fv5_10
 have Fv5_10 : Hid (X3_7.heap[b10]? = some (.cells #[.int .i64 ((lw 0 : Nat) : Int), .int .i64 ((up 0 : Nat) : Int), .int .i64 ((lw 1 : Nat) : Int), .int .i64 ((up 1 : Nat) : Int), .int .i64 ((lw 2 : Nat) : Int), .int .i64 ((up 2 : Nat) : Int), .int .i64 ((lw 3 : Nat) : Int), .int .i64 ((up 3 : Nat) : Int)] 84 (0, 0))) := zh (h1)
 have HszX3_7 := zh hsz
 clear h1 hfar hbel hsz
 simp only [ptr, Act.put, zA]
 refine wpList_nil ?_
 cases HST : Ty.satN l with
 | false =>
  go_upto_region 2 with fail
  refine wp_region_lit ?_
  refine zr (.agg #[.int .i64 ((lw 0 : Nat) : Int), .int .i64 ((up 0 : Nat) : Int), .int .i64 ((lw 1 : Nat) : Int), .int .i64 ((up 1 : Nat) : Int), .int .i64 ((lw 2 : Nat) : Int), .int .i64 ((up 2 : Nat) : Int), .int .i64 ((lw 3 : Nat) : Int), .int .i64 ((up 3 : Nat) : Int)]) X3_7 (xo_loadW b10 _ Fv5_10.out Tryd.underlying84 rfl (by kernel_rfl) rfl rfl) ?_
  simp only [Act.put, zA]
  refine wpList_call (by kernel_rfl) 51 Tryd.func51 (by kernel_rfl) (by kernel_rfl) _ _ #[.agg #[.int .i64 ((lw 0 : Nat) : Int), .int .i64 ((up 0 : Nat) : Int), .int .i64 ((lw 1 : Nat) : Int), .int .i64 ((up 1 : Nat) : Int), .int .i64 ((lw 2 : Nat) : Int), .int .i64 ((up 2 : Nat) : Int), .int .i64 ((lw 3 : Nat) : Int), .int .i64 ((up 3 : Nat) : Int)]] rfl (by kernel_rfl) ?_
  refine (satisfiable_sp lw up false (Ty.sat_sp HSP.out HST) X3_7).mono ?_
  rintro e V4 ⟨rfl, hb⟩
  have B3 := zh hb
  clear hb 
  refine ⟨_, rfl, ?_⟩
  simp only [Act.put, zA]
  refine zr (.bool true) V4 rfl ?_
  simp only [Act.put, zA]
  refine wpList_nil ?_
  go_upto_region 3 with fail
  refine wp_region_lit ?_
  refine zr (.int .i64 0) V4 rfl ?_
  simp only [Act.put, zA]
  refine zr (.bool true) V4 rfl ?_
  simp only [Act.put, zA]
  refine wpList_nil ?_
  obtain rfl : r0 = 0 := by rw [← HR0.out]; exact Ty.bd_un rows (by rw [HU.out]; exact HLL.out) HST
  obtain rfl : b = true := by rw [← HBB.out]; rfl
  have C0_2 := zb B0 B1
  have C0_3 := zb C0_2 B2
  have C0_4 := zb C0_3 B3
  have hbf := C0_4.out
  go_wp2_with fail
  go_ret2
  exact ⟨0, rfl, (by simp), hbf⟩
 | true =>
  go_upto_region 2 with fail
  refine wp_region_lit ?_
  refine zr (.agg #[.int .i64 ((lw 0 : Nat) : Int), .int .i64 ((up 0 : Nat) : Int), .int .i64 ((lw 1 : Nat) : Int), .int .i64 ((up 1 : Nat) : Int), .int .i64 ((lw 2 : Nat) : Int), .int .i64 ((up 2 : Nat) : Int), .int .i64 ((lw 3 : Nat) : Int), .int .i64 ((up 3 : Nat) : Int)]) X3_7 (xo_loadW b10 _ Fv5_10.out Tryd.underlying84 rfl (by kernel_rfl) rfl rfl) ?_
  simp only [Act.put, zA]
  refine wpList_call (by kernel_rfl) 51 Tryd.func51 (by kernel_rfl) (by kernel_rfl) _ _ #[.agg #[.int .i64 ((lw 0 : Nat) : Int), .int .i64 ((up 0 : Nat) : Int), .int .i64 ((lw 1 : Nat) : Int), .int .i64 ((up 1 : Nat) : Int), .int .i64 ((lw 2 : Nat) : Int), .int .i64 ((up 2 : Nat) : Int), .int .i64 ((lw 3 : Nat) : Int), .int .i64 ((up 3 : Nat) : Int)]] rfl (by kernel_rfl) ?_
  refine (satisfiable_sp lw up true (Ty.sat_sp HSP.out HST) X3_7).mono ?_
  rintro e V4 ⟨rfl, hb⟩
  have B3 := zh hb
  clear hb 
  refine ⟨_, rfl, ?_⟩
  simp only [Act.put, zA]
  refine zr (.bool false) V4 rfl ?_
  simp only [Act.put, zA]
  refine wpList_nil ?_
  rcases (show kd = 1 ∨ kd = 2 ∨ kd = 3 ∨ (4 ≤ kd ∧ kd ≤ 6) ∨ kd = 7 by omega) with hkk | hkk | hkk | hkk | hkk
  ·obtain rfl : f = 46 := by rw [← HKF.out]; rw [hkk]; rfl
   go_upto_region 4 with fail
   refine wp_region_lit ?_
   refine zr (.pointer (some ⟨w.heap.size, 2, none⟩)) V4 (xo_fld0 2 w.heap.size 2 (by kernel_rfl) rfl rfl) ?_
   simp only [Act.put, zA]
   have C1_3 := zb B1 B2
   have C1_4 := zb C1_3 B3
   refine zr (.func (.func 46) #[] #[]) V4 (xo_load1 ⟨w.heap.size, 2, none⟩ _ (cells_at (heap_keep Fv0_4.out C1_4.out) 2 rfl) Tryd.underlying61 rfl rfl rfl) ?_
   simp only [Act.put, zA]
   refine zr (.agg #[.int .i64 (kd : Int), .int .i64 (col : Int), .int .i64 (k : Int), .slice A n c]) V4 (xo_loadW (w.heap.size + 1) _ (heap_keep Fv1_5.out C1_4.out) Tryd.underlying24 rfl (by kernel_rfl) rfl rfl) ?_
   simp only [Act.put, zA]
   refine zr (.agg #[.int .i64 ((lw 0 : Nat) : Int), .int .i64 ((up 0 : Nat) : Int), .int .i64 ((lw 1 : Nat) : Int), .int .i64 ((up 1 : Nat) : Int), .int .i64 ((lw 2 : Nat) : Int), .int .i64 ((up 2 : Nat) : Int), .int .i64 ((lw 3 : Nat) : Int), .int .i64 ((up 3 : Nat) : Int)]) V4 (xo_loadW b10 _ (heap_keep Fv5_10.out B3.out) Tryd.underlying84 rfl (by kernel_rfl) rfl rfl) ?_
   simp only [Act.put, zA]
   refine zr (.int .i64 (v : Int)) V4 rfl ?_
   simp only [Act.put, zA]
   refine wpList_op (by kernel_rfl) ?_
   refine hOp_callA 46 Tryd.func46 (by kernel_rfl) (by kernel_rfl) 25 _ #[] _ rfl rfl #[.agg #[.int .i64 (kd : Int), .int .i64 (col : Int), .int .i64 (k : Int), .slice A n c], .agg #[.int .i64 ((lw 0 : Nat) : Int), .int .i64 ((up 0 : Nat) : Int), .int .i64 ((lw 1 : Nat) : Int), .int .i64 ((up 1 : Nat) : Int), .int .i64 ((lw 2 : Nat) : Int), .int .i64 ((up 2 : Nat) : Int), .int .i64 ((lw 3 : Nat) : Int), .int .i64 ((up 3 : Nat) : Int)], .int .i64 (v : Int)] (by kernel_rfl) ?_
   try simp only [List.append_toArray, List.append_nil, List.nil_append, List.cons_append]
   refine (kd2_as kd col k A n c lw up v hcol V4).mono ?_
   rintro e V5 ⟨rfl, hb⟩
   have B4 := zh hb
   clear hb 
   refine ⟨_, rfl, ?_⟩
   simp only [ptr, Act.put, zA]
   refine zr (.tuple #[.int .i64 1, .int .i64 1]) V5 rfl ?_
   simp only [Act.put, zA]
   refine zr (.int .i64 1) V5 rfl ?_
   simp only [Act.put, zA]
   refine zr (.int .i64 1) V5 rfl ?_
   simp only [Act.put, zA]
   refine zr (.int .i64 1) V5 rfl ?_
   simp only [Act.put, zA]
   refine zr (.int .i64 1) V5 rfl ?_
   simp only [Act.put, zA]
   refine wpList_nil ?_
   have hm255 : 1 ≤ 255 := by first | decide | exact hm0
   have he0 : 1 ≤ 65536 := by first | decide | omega
   go_upto_region 5 with fail
   refine wp_region_lit ?_
   refine zr (.int .i64 (rows : Int)) V5 rfl ?_
   simp only [Act.put, zA]
   refine zr (.int .i64 1) V5 rfl ?_
   simp only [Act.put, zA]
   refine zr (.int .i64 1) V5 rfl ?_
   simp only [Act.put, zA]
   refine wpList_call (by kernel_rfl) 52 Tryd.func52 (by kernel_rfl) (by kernel_rfl) _ _ #[.int .i64 (rows : Int), .int .i64 1, .int .i64 1] rfl (by kernel_rfl) ?_
   refine (scale_as rows 1 1 r0 (by rw [← HR0.out]; exact (Ty.bd_of (q := ⟨kd, col, k, fs⟩) (m := 1) (e := 1) (by rw [HU.out]; exact HLL.out) HST (Ty.mo_1 l v hkk)).symm) hrows hm255 he0 b HBB.out V5).mono ?_
   rintro e V6 ⟨z, rfl, hz, hb⟩
   have B5 := zh hb
   have HZZ := zh hz
   clear hz
   clear hb 
   refine ⟨_, rfl, ?_⟩
   simp only [Act.put, zA]
   refine zr (.int .i64 z) V6 rfl ?_
   simp only [Act.put, zA]
   refine zr (.bool b) V6 rfl ?_
   simp only [Act.put, zA]
   refine zr (.int .i64 z) V6 rfl ?_
   simp only [Act.put, zA]
   refine zr (.bool b) V6 rfl ?_
   simp only [Act.put, zA]
   refine wpList_nil ?_
   have C0_2 := zb B0 B1
   have C0_3 := zb C0_2 B2
   have C0_4 := zb C0_3 B3
   have C0_5 := zb C0_4 B4
   have C0_6 := zb C0_5 B5
   have hbf := C0_6.out
   go_wp2_with fail
   go_ret2
   exact ⟨z, rfl, HZZ.out, hbf⟩
  ·have hm0 : up col ≤ 255 := by rw [(HSP.out col hcol).2]; exact Nat.le_trans (Ty.hi_le l col) (Ty.maxN_le col)
   obtain rfl : f = 47 := by rw [← HKF.out]; rw [hkk]; rfl
   go_upto_region 4 with fail
   refine wp_region_lit ?_
   refine zr (.pointer (some ⟨w.heap.size, 2, none⟩)) V4 (xo_fld0 2 w.heap.size 2 (by kernel_rfl) rfl rfl) ?_
   simp only [Act.put, zA]
   have C1_3 := zb B1 B2
   have C1_4 := zb C1_3 B3
   refine zr (.func (.func 47) #[] #[]) V4 (xo_load1 ⟨w.heap.size, 2, none⟩ _ (cells_at (heap_keep Fv0_4.out C1_4.out) 2 rfl) Tryd.underlying61 rfl rfl rfl) ?_
   simp only [Act.put, zA]
   refine zr (.agg #[.int .i64 (kd : Int), .int .i64 (col : Int), .int .i64 (k : Int), .slice A n c]) V4 (xo_loadW (w.heap.size + 1) _ (heap_keep Fv1_5.out C1_4.out) Tryd.underlying24 rfl (by kernel_rfl) rfl rfl) ?_
   simp only [Act.put, zA]
   refine zr (.agg #[.int .i64 ((lw 0 : Nat) : Int), .int .i64 ((up 0 : Nat) : Int), .int .i64 ((lw 1 : Nat) : Int), .int .i64 ((up 1 : Nat) : Int), .int .i64 ((lw 2 : Nat) : Int), .int .i64 ((up 2 : Nat) : Int), .int .i64 ((lw 3 : Nat) : Int), .int .i64 ((up 3 : Nat) : Int)]) V4 (xo_loadW b10 _ (heap_keep Fv5_10.out B3.out) Tryd.underlying84 rfl (by kernel_rfl) rfl rfl) ?_
   simp only [Act.put, zA]
   refine zr (.int .i64 (v : Int)) V4 rfl ?_
   simp only [Act.put, zA]
   refine wpList_op (by kernel_rfl) ?_
   refine hOp_callA 47 Tryd.func47 (by kernel_rfl) (by kernel_rfl) 25 _ #[] _ rfl rfl #[.agg #[.int .i64 (kd : Int), .int .i64 (col : Int), .int .i64 (k : Int), .slice A n c], .agg #[.int .i64 ((lw 0 : Nat) : Int), .int .i64 ((up 0 : Nat) : Int), .int .i64 ((lw 1 : Nat) : Int), .int .i64 ((up 1 : Nat) : Int), .int .i64 ((lw 2 : Nat) : Int), .int .i64 ((up 2 : Nat) : Int), .int .i64 ((lw 3 : Nat) : Int), .int .i64 ((up 3 : Nat) : Int)], .int .i64 (v : Int)] (by kernel_rfl) ?_
   try simp only [List.append_toArray, List.append_nil, List.nil_append, List.cons_append]
   refine (kd3_as kd col k A n c lw up v hcol V4).mono ?_
   rintro e V5 ⟨rfl, hb⟩
   have B4 := zh hb
   clear hb 
   refine ⟨_, rfl, ?_⟩
   simp only [ptr, Act.put, zA]
   refine zr (.tuple #[.int .i64 ((up col : Nat) : Int), .int .i64 1]) V5 rfl ?_
   simp only [Act.put, zA]
   refine zr (.int .i64 ((up col : Nat) : Int)) V5 rfl ?_
   simp only [Act.put, zA]
   refine zr (.int .i64 1) V5 rfl ?_
   simp only [Act.put, zA]
   refine zr (.int .i64 ((up col : Nat) : Int)) V5 rfl ?_
   simp only [Act.put, zA]
   refine zr (.int .i64 1) V5 rfl ?_
   simp only [Act.put, zA]
   refine wpList_nil ?_
   have hm255 : (up col) ≤ 255 := by first | decide | exact hm0
   have he0 : 1 ≤ 65536 := by first | decide | omega
   go_upto_region 5 with fail
   refine wp_region_lit ?_
   refine zr (.int .i64 (rows : Int)) V5 rfl ?_
   simp only [Act.put, zA]
   refine zr (.int .i64 ((up col : Nat) : Int)) V5 rfl ?_
   simp only [Act.put, zA]
   refine zr (.int .i64 1) V5 rfl ?_
   simp only [Act.put, zA]
   refine wpList_call (by kernel_rfl) 52 Tryd.func52 (by kernel_rfl) (by kernel_rfl) _ _ #[.int .i64 (rows : Int), .int .i64 ((up col : Nat) : Int), .int .i64 1] rfl (by kernel_rfl) ?_
   refine (scale_as rows (up col) 1 r0 (by rw [← HR0.out]; exact (Ty.bd_of (q := ⟨kd, col, k, fs⟩) (m := (up col)) (e := 1) (by rw [HU.out]; exact HLL.out) HST (by rw [Ty.mo_2 l v hkk]; exact congrArg (·, 1) (HSP.out col hcol).2.symm)).symm) hrows hm255 he0 b HBB.out V5).mono ?_
   rintro e V6 ⟨z, rfl, hz, hb⟩
   have B5 := zh hb
   have HZZ := zh hz
   clear hz
   clear hb 
   refine ⟨_, rfl, ?_⟩
   simp only [Act.put, zA]
   refine zr (.int .i64 z) V6 rfl ?_
   simp only [Act.put, zA]
   refine zr (.bool b) V6 rfl ?_
   simp only [Act.put, zA]
   refine zr (.int .i64 z) V6 rfl ?_
   simp only [Act.put, zA]
   refine zr (.bool b) V6 rfl ?_
   simp only [Act.put, zA]
   refine wpList_nil ?_
   have C0_2 := zb B0 B1
   have C0_3 := zb C0_2 B2
   have C0_4 := zb C0_3 B3
   have C0_5 := zb C0_4 B4
   have C0_6 := zb C0_5 B5
   have hbf := C0_6.out
   go_wp2_with fail
   go_ret2
   exact ⟨z, rfl, HZZ.out, hbf⟩
  ·have hm0 : up col ≤ 255 := by rw [(HSP.out col hcol).2]; exact Nat.le_trans (Ty.hi_le l col) (Ty.maxN_le col)
   obtain rfl : f = 48 := by rw [← HKF.out]; rw [hkk]; rfl
   go_upto_region 4 with fail
   refine wp_region_lit ?_
   refine zr (.pointer (some ⟨w.heap.size, 2, none⟩)) V4 (xo_fld0 2 w.heap.size 2 (by kernel_rfl) rfl rfl) ?_
   simp only [Act.put, zA]
   have C1_3 := zb B1 B2
   have C1_4 := zb C1_3 B3
   refine zr (.func (.func 48) #[] #[]) V4 (xo_load1 ⟨w.heap.size, 2, none⟩ _ (cells_at (heap_keep Fv0_4.out C1_4.out) 2 rfl) Tryd.underlying61 rfl rfl rfl) ?_
   simp only [Act.put, zA]
   refine zr (.agg #[.int .i64 (kd : Int), .int .i64 (col : Int), .int .i64 (k : Int), .slice A n c]) V4 (xo_loadW (w.heap.size + 1) _ (heap_keep Fv1_5.out C1_4.out) Tryd.underlying24 rfl (by kernel_rfl) rfl rfl) ?_
   simp only [Act.put, zA]
   refine zr (.agg #[.int .i64 ((lw 0 : Nat) : Int), .int .i64 ((up 0 : Nat) : Int), .int .i64 ((lw 1 : Nat) : Int), .int .i64 ((up 1 : Nat) : Int), .int .i64 ((lw 2 : Nat) : Int), .int .i64 ((up 2 : Nat) : Int), .int .i64 ((lw 3 : Nat) : Int), .int .i64 ((up 3 : Nat) : Int)]) V4 (xo_loadW b10 _ (heap_keep Fv5_10.out B3.out) Tryd.underlying84 rfl (by kernel_rfl) rfl rfl) ?_
   simp only [Act.put, zA]
   refine zr (.int .i64 (v : Int)) V4 rfl ?_
   simp only [Act.put, zA]
   refine wpList_op (by kernel_rfl) ?_
   refine hOp_callA 48 Tryd.func48 (by kernel_rfl) (by kernel_rfl) 25 _ #[] _ rfl rfl #[.agg #[.int .i64 (kd : Int), .int .i64 (col : Int), .int .i64 (k : Int), .slice A n c], .agg #[.int .i64 ((lw 0 : Nat) : Int), .int .i64 ((up 0 : Nat) : Int), .int .i64 ((lw 1 : Nat) : Int), .int .i64 ((up 1 : Nat) : Int), .int .i64 ((lw 2 : Nat) : Int), .int .i64 ((up 2 : Nat) : Int), .int .i64 ((lw 3 : Nat) : Int), .int .i64 ((up 3 : Nat) : Int)], .int .i64 (v : Int)] (by kernel_rfl) ?_
   try simp only [List.append_toArray, List.append_nil, List.nil_append, List.cons_append]
   refine (kd4_as kd col k A n c lw up v hcol V4).mono ?_
   rintro e V5 ⟨rfl, hb⟩
   have B4 := zh hb
   clear hb 
   refine ⟨_, rfl, ?_⟩
   simp only [ptr, Act.put, zA]
   refine zr (.tuple #[.int .i64 ((up col : Nat) : Int), .int .i64 (k : Int)]) V5 rfl ?_
   simp only [Act.put, zA]
   refine zr (.int .i64 ((up col : Nat) : Int)) V5 rfl ?_
   simp only [Act.put, zA]
   refine zr (.int .i64 (k : Int)) V5 rfl ?_
   simp only [Act.put, zA]
   refine zr (.int .i64 ((up col : Nat) : Int)) V5 rfl ?_
   simp only [Act.put, zA]
   refine zr (.int .i64 (k : Int)) V5 rfl ?_
   simp only [Act.put, zA]
   refine wpList_nil ?_
   have hm255 : (up col) ≤ 255 := by first | decide | exact hm0
   have he0 : k ≤ 65536 := by first | decide | omega
   go_upto_region 5 with fail
   refine wp_region_lit ?_
   refine zr (.int .i64 (rows : Int)) V5 rfl ?_
   simp only [Act.put, zA]
   refine zr (.int .i64 ((up col : Nat) : Int)) V5 rfl ?_
   simp only [Act.put, zA]
   refine zr (.int .i64 (k : Int)) V5 rfl ?_
   simp only [Act.put, zA]
   refine wpList_call (by kernel_rfl) 52 Tryd.func52 (by kernel_rfl) (by kernel_rfl) _ _ #[.int .i64 (rows : Int), .int .i64 ((up col : Nat) : Int), .int .i64 (k : Int)] rfl (by kernel_rfl) ?_
   refine (scale_as rows (up col) k r0 (by rw [← HR0.out]; exact (Ty.bd_of (q := ⟨kd, col, k, fs⟩) (m := (up col)) (e := k) (by rw [HU.out]; exact HLL.out) HST (by rw [Ty.mo_3 l v hkk]; exact congrArg (·, k) (HSP.out col hcol).2.symm)).symm) hrows hm255 he0 b HBB.out V5).mono ?_
   rintro e V6 ⟨z, rfl, hz, hb⟩
   have B5 := zh hb
   have HZZ := zh hz
   clear hz
   clear hb 
   refine ⟨_, rfl, ?_⟩
   simp only [Act.put, zA]
   refine zr (.int .i64 z) V6 rfl ?_
   simp only [Act.put, zA]
   refine zr (.bool b) V6 rfl ?_
   simp only [Act.put, zA]
   refine zr (.int .i64 z) V6 rfl ?_
   simp only [Act.put, zA]
   refine zr (.bool b) V6 rfl ?_
   simp only [Act.put, zA]
   refine wpList_nil ?_
   have C0_2 := zb B0 B1
   have C0_3 := zb C0_2 B2
   have C0_4 := zb C0_3 B3
   have C0_5 := zb C0_4 B4
   have C0_6 := zb C0_5 B5
   have hbf := C0_6.out
   go_wp2_with fail
   go_ret2
   exact ⟨z, rfl, HZZ.out, hbf⟩
  ·obtain ⟨r1, hr1⟩ : ∃ r, Ty.cnN l col v = r := ⟨_, rfl⟩
   have HR1 := zh hr1
   have HR2 := zh ((Ty.cn_sp (HSP.out col hcol)).trans hr1)
   have hm0 : r1 ≤ 255 := by rw [← hr1]; exact Nat.le_trans (Ty.cn_le l col v) (by decide)
   clear hr1
   obtain rfl : f = 44 := by rw [← HKF.out]; exact kf_g hkk.1 hkk.2
   go_upto_region 4 with fail
   refine wp_region_lit ?_
   refine zr (.pointer (some ⟨w.heap.size, 2, none⟩)) V4 (xo_fld0 2 w.heap.size 2 (by kernel_rfl) rfl rfl) ?_
   simp only [Act.put, zA]
   have C1_3 := zb B1 B2
   have C1_4 := zb C1_3 B3
   refine zr (.func (.func 44) #[] #[]) V4 (xo_load1 ⟨w.heap.size, 2, none⟩ _ (cells_at (heap_keep Fv0_4.out C1_4.out) 2 rfl) Tryd.underlying61 rfl rfl rfl) ?_
   simp only [Act.put, zA]
   refine zr (.agg #[.int .i64 (kd : Int), .int .i64 (col : Int), .int .i64 (k : Int), .slice A n c]) V4 (xo_loadW (w.heap.size + 1) _ (heap_keep Fv1_5.out C1_4.out) Tryd.underlying24 rfl (by kernel_rfl) rfl rfl) ?_
   simp only [Act.put, zA]
   refine zr (.agg #[.int .i64 ((lw 0 : Nat) : Int), .int .i64 ((up 0 : Nat) : Int), .int .i64 ((lw 1 : Nat) : Int), .int .i64 ((up 1 : Nat) : Int), .int .i64 ((lw 2 : Nat) : Int), .int .i64 ((up 2 : Nat) : Int), .int .i64 ((lw 3 : Nat) : Int), .int .i64 ((up 3 : Nat) : Int)]) V4 (xo_loadW b10 _ (heap_keep Fv5_10.out B3.out) Tryd.underlying84 rfl (by kernel_rfl) rfl rfl) ?_
   simp only [Act.put, zA]
   refine zr (.int .i64 (v : Int)) V4 rfl ?_
   simp only [Act.put, zA]
   refine wpList_op (by kernel_rfl) ?_
   refine hOp_callA 44 Tryd.func44 (by kernel_rfl) (by kernel_rfl) 25 _ #[] _ rfl rfl #[.agg #[.int .i64 (kd : Int), .int .i64 (col : Int), .int .i64 (k : Int), .slice A n c], .agg #[.int .i64 ((lw 0 : Nat) : Int), .int .i64 ((up 0 : Nat) : Int), .int .i64 ((lw 1 : Nat) : Int), .int .i64 ((up 1 : Nat) : Int), .int .i64 ((lw 2 : Nat) : Int), .int .i64 ((up 2 : Nat) : Int), .int .i64 ((lw 3 : Nat) : Int), .int .i64 ((up 3 : Nat) : Int)], .int .i64 (v : Int)] (by kernel_rfl) ?_
   try simp only [List.append_toArray, List.append_nil, List.nil_append, List.cons_append]
   refine (kd1_as kd col k A n c lw up v hcol r1 HR2.out V4).mono ?_
   rintro e V5 ⟨rfl, hb⟩
   have B4 := zh hb
   clear hb 
   refine ⟨_, rfl, ?_⟩
   simp only [ptr, Act.put, zA]
   refine zr (.tuple #[.int .i64 (r1 : Int), .int .i64 1]) V5 rfl ?_
   simp only [Act.put, zA]
   refine zr (.int .i64 (r1 : Int)) V5 rfl ?_
   simp only [Act.put, zA]
   refine zr (.int .i64 1) V5 rfl ?_
   simp only [Act.put, zA]
   refine zr (.int .i64 (r1 : Int)) V5 rfl ?_
   simp only [Act.put, zA]
   refine zr (.int .i64 1) V5 rfl ?_
   simp only [Act.put, zA]
   refine wpList_nil ?_
   have hm255 : r1 ≤ 255 := by first | decide | exact hm0
   have he0 : 1 ≤ 65536 := by first | decide | omega
   go_upto_region 5 with fail
   refine wp_region_lit ?_
   refine zr (.int .i64 (rows : Int)) V5 rfl ?_
   simp only [Act.put, zA]
   refine zr (.int .i64 (r1 : Int)) V5 rfl ?_
   simp only [Act.put, zA]
   refine zr (.int .i64 1) V5 rfl ?_
   simp only [Act.put, zA]
   refine wpList_call (by kernel_rfl) 52 Tryd.func52 (by kernel_rfl) (by kernel_rfl) _ _ #[.int .i64 (rows : Int), .int .i64 (r1 : Int), .int .i64 1] rfl (by kernel_rfl) ?_
   refine (scale_as rows r1 1 r0 (by rw [← HR0.out]; exact (Ty.bd_of (q := ⟨kd, col, k, fs⟩) (m := r1) (e := 1) (by rw [HU.out]; exact HLL.out) HST (by rw [Ty.mo_g l v hkk.1 hkk.2]; exact congrArg (·, 1) HR1.out)).symm) hrows hm255 he0 b HBB.out V5).mono ?_
   rintro e V6 ⟨z, rfl, hz, hb⟩
   have B5 := zh hb
   have HZZ := zh hz
   clear hz
   clear hb 
   refine ⟨_, rfl, ?_⟩
   simp only [Act.put, zA]
   refine zr (.int .i64 z) V6 rfl ?_
   simp only [Act.put, zA]
   refine zr (.bool b) V6 rfl ?_
   simp only [Act.put, zA]
   refine zr (.int .i64 z) V6 rfl ?_
   simp only [Act.put, zA]
   refine zr (.bool b) V6 rfl ?_
   simp only [Act.put, zA]
   refine wpList_nil ?_
   have C0_2 := zb B0 B1
   have C0_3 := zb C0_2 B2
   have C0_4 := zb C0_3 B3
   have C0_5 := zb C0_4 B4
   have C0_6 := zb C0_5 B5
   have hbf := C0_6.out
   go_wp2_with fail
   go_ret2
   exact ⟨z, rfl, HZZ.out, hbf⟩
  ·obtain ⟨v6, hv6⟩ : ∃ r, v % 16 = r := ⟨_, rfl⟩
   have HV6 := zh hv6
   clear hv6
   obtain ⟨r1, hr1⟩ : ∃ r, Ty.cnN l 0 v6 = r := ⟨_, rfl⟩
   have HR1 := zh hr1
   have HR2 := zh ((Ty.cn_sp (HSP.out 0 (by decide))).trans hr1)
   have hm0 : r1 ≤ 255 := by rw [← hr1]; exact Nat.le_trans (Ty.cn_le l 0 v6) (by decide)
   clear hr1
   obtain rfl : f = 49 := by rw [← HKF.out]; rw [hkk]; rfl
   go_upto_region 4 with fail
   refine wp_region_lit ?_
   refine zr (.pointer (some ⟨w.heap.size, 2, none⟩)) V4 (xo_fld0 2 w.heap.size 2 (by kernel_rfl) rfl rfl) ?_
   simp only [Act.put, zA]
   have C1_3 := zb B1 B2
   have C1_4 := zb C1_3 B3
   refine zr (.func (.func 49) #[] #[]) V4 (xo_load1 ⟨w.heap.size, 2, none⟩ _ (cells_at (heap_keep Fv0_4.out C1_4.out) 2 rfl) Tryd.underlying61 rfl rfl rfl) ?_
   simp only [Act.put, zA]
   refine zr (.agg #[.int .i64 (kd : Int), .int .i64 (col : Int), .int .i64 (k : Int), .slice A n c]) V4 (xo_loadW (w.heap.size + 1) _ (heap_keep Fv1_5.out C1_4.out) Tryd.underlying24 rfl (by kernel_rfl) rfl rfl) ?_
   simp only [Act.put, zA]
   refine zr (.agg #[.int .i64 ((lw 0 : Nat) : Int), .int .i64 ((up 0 : Nat) : Int), .int .i64 ((lw 1 : Nat) : Int), .int .i64 ((up 1 : Nat) : Int), .int .i64 ((lw 2 : Nat) : Int), .int .i64 ((up 2 : Nat) : Int), .int .i64 ((lw 3 : Nat) : Int), .int .i64 ((up 3 : Nat) : Int)]) V4 (xo_loadW b10 _ (heap_keep Fv5_10.out B3.out) Tryd.underlying84 rfl (by kernel_rfl) rfl rfl) ?_
   simp only [Act.put, zA]
   refine zr (.int .i64 (v : Int)) V4 rfl ?_
   simp only [Act.put, zA]
   refine wpList_op (by kernel_rfl) ?_
   refine hOp_callA 49 Tryd.func49 (by kernel_rfl) (by kernel_rfl) 25 _ #[] _ rfl rfl #[.agg #[.int .i64 (kd : Int), .int .i64 (col : Int), .int .i64 (k : Int), .slice A n c], .agg #[.int .i64 ((lw 0 : Nat) : Int), .int .i64 ((up 0 : Nat) : Int), .int .i64 ((lw 1 : Nat) : Int), .int .i64 ((up 1 : Nat) : Int), .int .i64 ((lw 2 : Nat) : Int), .int .i64 ((up 2 : Nat) : Int), .int .i64 ((lw 3 : Nat) : Int), .int .i64 ((up 3 : Nat) : Int)], .int .i64 (v : Int)] (by kernel_rfl) ?_
   try simp only [List.append_toArray, List.append_nil, List.nil_append, List.cons_append]
   refine (kd5_as kd col k A n c lw up v hcol v6 HV6.out r1 HR2.out V4).mono ?_
   rintro e V5 ⟨rfl, hb⟩
   have B4 := zh hb
   clear hb 
   refine ⟨_, rfl, ?_⟩
   simp only [ptr, Act.put, zA]
   refine zr (.tuple #[.int .i64 (r1 : Int), .int .i64 1]) V5 rfl ?_
   simp only [Act.put, zA]
   refine zr (.int .i64 (r1 : Int)) V5 rfl ?_
   simp only [Act.put, zA]
   refine zr (.int .i64 1) V5 rfl ?_
   simp only [Act.put, zA]
   refine zr (.int .i64 (r1 : Int)) V5 rfl ?_
   simp only [Act.put, zA]
   refine zr (.int .i64 1) V5 rfl ?_
   simp only [Act.put, zA]
   refine wpList_nil ?_
   have hm255 : r1 ≤ 255 := by first | decide | exact hm0
   have he0 : 1 ≤ 65536 := by first | decide | omega
   go_upto_region 5 with fail
   refine wp_region_lit ?_
   refine zr (.int .i64 (rows : Int)) V5 rfl ?_
   simp only [Act.put, zA]
   refine zr (.int .i64 (r1 : Int)) V5 rfl ?_
   simp only [Act.put, zA]
   refine zr (.int .i64 1) V5 rfl ?_
   simp only [Act.put, zA]
   refine wpList_call (by kernel_rfl) 52 Tryd.func52 (by kernel_rfl) (by kernel_rfl) _ _ #[.int .i64 (rows : Int), .int .i64 (r1 : Int), .int .i64 1] rfl (by kernel_rfl) ?_
   refine (scale_as rows r1 1 r0 (by rw [← HR0.out]; exact (Ty.bd_of (q := ⟨kd, col, k, fs⟩) (m := r1) (e := 1) (by rw [HU.out]; exact HLL.out) HST (by rw [Ty.mo_7 l v hkk]; exact congrArg (·, 1) (by rw [HV6.out]; exact HR1.out))).symm) hrows hm255 he0 b HBB.out V5).mono ?_
   rintro e V6 ⟨z, rfl, hz, hb⟩
   have B5 := zh hb
   have HZZ := zh hz
   clear hz
   clear hb 
   refine ⟨_, rfl, ?_⟩
   simp only [Act.put, zA]
   refine zr (.int .i64 z) V6 rfl ?_
   simp only [Act.put, zA]
   refine zr (.bool b) V6 rfl ?_
   simp only [Act.put, zA]
   refine zr (.int .i64 z) V6 rfl ?_
   simp only [Act.put, zA]
   refine zr (.bool b) V6 rfl ?_
   simp only [Act.put, zA]
   refine wpList_nil ?_
   have C0_2 := zb B0 B1
   have C0_3 := zb C0_2 B2
   have C0_4 := zb C0_3 B3
   have C0_5 := zb C0_4 B4
   have C0_6 := zb C0_5 B5
   have hbf := C0_6.out
   go_wp2_with fail
   go_ret2
   exact ⟨z, rfl, HZZ.out, hbf⟩
end Go.Proofs.YtbecajihgbbgjaaDoor

namespace Go.Proofs.YtbecajihgbbgjaaDoor
set_option maxRecDepth 8000
def _root_.Qu.Ci.cd (e : Qu.Ci) : Qu.Cd := ⟨e.col.toNat, e.lo.toNat, e.hi.toNat⟩
end Go.Proofs.YtbecajihgbbgjaaDoor

