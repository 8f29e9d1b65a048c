/- Several texts in one: Yaz. -/
import Derived.Test.YtlicfidcfhbmpaaDoorE19
set_option linter.unusedVariables false
set_option linter.unusedSimpArgs false
set_option linter.unusedSectionVars false
namespace Go.Proofs.YtlicfidcfhbmpaaDoor
set_option maxRecDepth 8000
open Go.RowKit Go.Proofs.YtlicfidcfhbmpaaDoor.K
attribute [local irreducible] wpList wpQuiet
set_option maxRecDepth 100000 in
set_option maxHeartbeats 32000000 in
theorem rcond_st (s : List UInt8) (bp : Nat) (x : Qu.X) (A : Option Addr) (n c : Nat) (ts : List Qu.RT) (w : World) (hP : PR w bp s x A n c ts) (hs4 : s.length ≤ 1000) :
  Calls Tryd.prog 64 #[.pointer (some ⟨bp, 0, none⟩)] w fun e w' => e = .returned (.agg #[.int .i64 ((Qu.condT' s x).1.col : Int), .int .i64 ((Qu.condT' s x).1.lo : Int), .int .i64 ((Qu.condT' s x).1.hi : Int)]) ∧ PX w' bp s (Qu.condT' s x).2 ∧ FarC bp bp w w' := by
 obtain ⟨V, hV0, hV⟩ := base_world w
 have B0 := zh hV
 have HVW := zh hV
 clear hV
 have HF := zh (FarH.refl bp bp w)
 have HTS := zh hP.tt
 have HCH := zh hP.ch
 have HTK := zh hP.tk
 have HOK := zh hP.ok
 have hln := hP.tt.sg.len
 have hcp := hP.tt.sg.cap
 have htp := hP.tt.sg.top
 have hps := hP.ch.pos
 have Hpbp : Hid (w.heap[bp]? = some (.cells #[.slice A n c, .int .i64 (x.o : Int), .int .i64 (x.e : Int)] 79 (0, 0))) := zh (hP.row)
 have Gpbp : Hid (V.heap.size ≤ bp) := zh (by omega)
 have Lpbp : Hid (bp < w.heap.size) := zh (xp_lt Hpbp.out)
 have hbp0 := xp_lt hP.row
 clear hP
 go_enter Tryd.func64, Tryd.ntmps64
 go_upto_region 1 with fail
 refine wp_named1 (fun V2 hb g0 hlt => ?_)
 have B1 := zh hb
 have Fx0 : Hid (V2.heap[w.heap.size]? = some (.cells #[.int .i64 0, .int .i64 0, .int .i64 0] 46 (0, 0))) := zh (g0)
 have Gb0 : Hid (w.heap.size ≤ w.heap.size) := zh (by omega)
 have Lx0 : Hid (w.heap.size < V2.heap.size) := zh (xp_lt Fx0.out)
 have Nxbp0 : Hid (bp ≠ w.heap.size) := zh (by have := Lpbp.out; omega)
 clear hb g0 hlt
 have HS4 := zh hs4
 clear hs4
 obtain ⟨⟨cc, y1⟩, h0⟩ : ∃ p, Qu.colT s x = p := ⟨_, rfl⟩
 have HC := zh h0
 clear h0
 have lcc : cc < 4 := by have h1 := colT_lt s x; rw [HC.out] at h1; exact h1
 obtain ⟨m, h0⟩ : ∃ p, Qu.maxN cc = p := ⟨_, rfl⟩
 have HM := zh h0
 clear h0
 have lm : m ≤ 255 := by rw [← HM.out]; exact Qu.maxN_le _
 refine wp_region_lit ?_
 refine zr (.pointer (some ⟨bp, 0, none⟩)) V2 rfl ?_
 simp only [Act.put, zA]
 refine wpList_call (by kernel_rfl) 47 Tryd.func47 (by kernel_rfl) (by kernel_rfl) _ _ #[.pointer (some ⟨bp, 0, none⟩)] rfl (by kernel_rfl) ?_
 refine (rcolumn_eq s bp x A n c ts V2 ⟨(heap_keep Hpbp.out B1.out), (HTS.out.keep B1.out), HCH.out, HTK.out, HOK.out⟩ cc y1 HC.out).mono ?_
 rintro e W2_0 ⟨rfl, ⟨A_0, n_0, c_0, t_0, hpr⟩, hfc⟩
 have YFx0 : W2_0.heap[w.heap.size]? = some (.cells #[.int .i64 0, .int .i64 0, .int .i64 0] 46 (0, 0)) := hfc.far _ _ (Ne.symm Nxbp0.out) (Ne.symm Nxbp0.out) Fx0.out
 have YHF : FarH bp bp w W2_0 := FarH.farC (HF.out.keep B1.out) hfc
 have C0_2 := zb B0 B1
 have hb := farc_bel hV0 C0_2.out hfc
 have hbr := hb
 clear B0
 have B0 := zh hbr
 clear hbr
 clear hb
 clear Fx0
 have Fx0 : Hid (W2_0.heap[w.heap.size]? = some (.cells #[.int .i64 0, .int .i64 0, .int .i64 0] 46 (0, 0))) := zh YFx0
 clear YFx0
 clear HF
 have HF : Hid (FarH bp bp w W2_0) := zh YHF
 clear YHF
 have Gv1 : Hid (V.heap.size ≤ w.heap.size) := zh (by omega)
 have Lt2 : Hid (w.heap.size < W2_0.heap.size) := zh (xp_lt Fx0.out)
 have hln_0 := hpr.tt.sg.len
 have hcp_0 := hpr.tt.sg.cap
 have htp_0 := hpr.tt.sg.top
 have hps_0 := hpr.ch.pos
 try clear HTS
 have HTS := zh hpr.tt 
 try clear HCH
 have HCH := zh hpr.ch 
 try clear HTK
 have HTK := zh hpr.tk 
 try clear HOK
 have HOK := zh hpr.ok 
 clear Hpbp
 have Hpbp : Hid (W2_0.heap[bp]? = some (.cells #[.slice A_0 n_0 c_0, .int .i64 (y1.o : Int), .int .i64 (y1.e : Int)] 79 (0, 0))) := zh (hpr.row)
 clear hfc 
 refine ⟨_, rfl, ?_⟩
 simp only [Act.put, zA]
 refine zr (.agg #[.int .i64 (cc : Int), .int .i64 0, .int .i64 0]) W2_0 (by unfold execOp; go_simp <;> rfl) ?_
 simp only [Act.put, zA]
 refine wpList_new #[.int .i64 0, .int .i64 0, .int .i64 0] 46 (by kernel_rfl) (xo_alloc #[.int .i64 0, .int .i64 0, .int .i64 0] (by kernel_rfl) rfl) ?_
 intro b3 V2 hge h0 hb
 have N3_0 : Hid (bp ≠ b3) := zh (xp_lt0 Hpbp.out hge)
 have N4_1 : Hid (w.heap.size ≠ b3) := zh (xp_lt0 Fx0.out hge)
 have Ge5 : Hid (W2_0.heap.size ≤ b3) := zh hge
 have B1 := zh hb
 have Fv6_3 : Hid (V2.heap[b3]? = some (.cells #[.int .i64 0, .int .i64 0, .int .i64 0] 46 (0, 0))) := zh (h0)
 have Lt7 : Hid (b3 < V2.heap.size) := zh (xp_lt Fv6_3.out)
 have Gw8 : Hid (w.heap.size ≤ b3) := zh (Nat.le_trans HF.out.size Ge5.out)
 clear hge h0 hb
 simp only [ptr, Act.put, zA]
 refine wpList_storeW b3 #[.int .i64 0, .int .i64 0, .int .i64 0] #[.int .i64 (cc : Int), .int .i64 0, .int .i64 0] 46 (by kernel_rfl) Fv6_3.out (xo_storeW b3 #[.int .i64 0, .int .i64 0, .int .i64 0] #[.int .i64 (cc : Int), .int .i64 0, .int .i64 0] Fv6_3.out (by kernel_rfl) rfl (by simp [Value.oneCell']) rfl rfl rfl) ?_
 intro X2_9 h1 hfar hbel hsz
 have hbr := hbel _ _ Ge5.out B1.out
 clear B1
 have B1 := zh hbr
 clear hbr
 clear Fv6_3
 have Fv6_3 : Hid (X2_9.heap[b3]? = some (.cells #[.int .i64 (cc : Int), .int .i64 0, .int .i64 0] 46 (0, 0))) := zh (h1)
 have HszX2_9 := zh hsz
 clear h1 hfar hbel hsz
 simp only [ptr, Act.put, zA]
 refine wpList_nil ?_
 by_cases ha : AccY [61] y1
 ·go_upto_region 2 with fail
  refine wp_region_lit ?_
  refine zr (.pointer (some ⟨bp, 0, none⟩)) X2_9 rfl ?_
  simp only [Act.put, zA]
  refine wpList_call (by kernel_rfl) 45 Tryd.func45 (by kernel_rfl) (by kernel_rfl) _ _ #[.pointer (some ⟨bp, 0, none⟩), .string (sB ([61]))] rfl (by kernel_rfl) ?_
  refine (raccept_yes s bp y1 A_0 n_0 c_0 t_0 X2_9 ⟨(heap_keep Hpbp.out B1.out), (HTS.out.keep B1.out), HCH.out, HTK.out, HOK.out⟩ [61] (List.cons_ne_nil _ _) ha).mono ?_
  rintro e W2_10 ⟨rfl, ⟨A_1, n_1, c_1, t_1, hpr⟩, hfc⟩
  have YFx0 : W2_10.heap[w.heap.size]? = some (.cells #[.int .i64 0, .int .i64 0, .int .i64 0] 46 (0, 0)) := hfc.far _ _ (Ne.symm Nxbp0.out) (Ne.symm Nxbp0.out) (heap_keep Fx0.out B1.out)
  have YFv6_3 : W2_10.heap[b3]? = some (.cells #[.int .i64 (cc : Int), .int .i64 0, .int .i64 0] 46 (0, 0)) := hfc.far _ _ (Ne.symm N3_0.out) (Ne.symm N3_0.out) Fv6_3.out
  have YHF : FarH bp bp w W2_10 := FarH.farC (HF.out.keep B1.out) hfc
  have C0_2 := zb B0 B1
  have hb := farc_bel hV0 C0_2.out hfc
  have hbr := hb
  clear B0
  have B0 := zh hbr
  clear hbr
  clear hb
  clear Fx0
  have Fx0 : Hid (W2_10.heap[w.heap.size]? = some (.cells #[.int .i64 0, .int .i64 0, .int .i64 0] 46 (0, 0))) := zh YFx0
  clear YFx0
  clear Fv6_3
  have Fv6_3 : Hid (W2_10.heap[b3]? = some (.cells #[.int .i64 (cc : Int), .int .i64 0, .int .i64 0] 46 (0, 0))) := zh YFv6_3
  clear YFv6_3
  clear HF
  have HF : Hid (FarH bp bp w W2_10) := zh YHF
  clear YHF
  have Gv11 : Hid (V.heap.size ≤ w.heap.size) := zh (by omega)
  have Lt12 : Hid (w.heap.size < W2_10.heap.size) := zh (xp_lt Fx0.out)
  have Gv13 : Hid (V.heap.size ≤ b3) := zh (by omega)
  have Lt14 : Hid (b3 < W2_10.heap.size) := zh (xp_lt Fv6_3.out)
  have hln_1 := hpr.tt.sg.len
  have hcp_1 := hpr.tt.sg.cap
  have htp_1 := hpr.tt.sg.top
  have hps_1 := hpr.ch.pos
  try clear HTS
  have HTS := zh hpr.tt 
  try clear HCH
  have HCH := zh hpr.ch 
  try clear HTK
  have HTK := zh hpr.tk 
  try clear HOK
  have HOK := zh hpr.ok 
  clear Hpbp
  have Hpbp : Hid (W2_10.heap[bp]? = some (.cells #[.slice A_1 n_1 c_1, .int .i64 ((Qu.advT s y1).o : Int), .int .i64 ((Qu.advT s y1).e : Int)] 79 (0, 0))) := zh (hpr.row)
  clear hfc 
  refine ⟨_, rfl, ?_⟩
  simp only [Act.put, zA]
  refine wpList_nil ?_
  obtain ⟨⟨v, y2⟩, h0⟩ : ∃ p, Qu.numT s 0 m (Qu.advT s y1) = p := ⟨_, rfl⟩
  have HN := zh h0
  clear h0
  have lv : v ≤ 1000000 := by have h1 := numT_le s 0 m (Qu.advT s y1); rw [HN.out] at h1; exact h1
  go_upto_region 3 with fail
  refine wp_region_lit ?_
  refine zr (.pointer (some ⟨bp, 0, none⟩)) W2_10 rfl ?_
  simp only [Act.put, zA]
  refine zr (.pointer (some ⟨b3, 0, none⟩)) W2_10 (xo_fld0 0 b3 0 (by kernel_rfl) rfl rfl) ?_
  simp only [Act.put, zA]
  refine zr (.int .i64 (cc : Int)) W2_10 (xo_load1 ⟨b3, 0, none⟩ _ (cells_at Fv6_3.out 0 rfl) Tryd.underlying3 rfl rfl rfl) ?_
  simp only [Act.put, zA]
  refine wpList_call (by kernel_rfl) 24 Tryd.func24 (by kernel_rfl) (by kernel_rfl) _ _ #[.int .i64 (cc : Int)] rfl (by kernel_rfl) ?_
  refine (max_as cc m lcc HM.out W2_10).mono ?_
  rintro e W1 ⟨rfl, hw1⟩
  rw [hw1]
  clear hw1 W1
  refine ⟨_, rfl, ?_⟩
  simp only [Act.put, zA]
  refine wpList_call (by kernel_rfl) 48 Tryd.func48 (by kernel_rfl) (by kernel_rfl) _ _ #[.pointer (some ⟨bp, 0, none⟩), .int .i64 0, .int .i64 (m : Int)] rfl (by kernel_rfl) ?_
  refine (rnumber_eq s bp (Qu.advT s y1) A_1 n_1 c_1 t_1 W2_10 ⟨Hpbp.out, HTS.out, HCH.out, HTK.out, HOK.out⟩ HS4.out 0 m (by omega) (by omega) v y2 HN.out).mono ?_
  rintro e W1_15 ⟨rfl, ⟨A_2, n_2, c_2, t_2, hpr⟩, hfc⟩
  have YFx0 : W1_15.heap[w.heap.size]? = some (.cells #[.int .i64 0, .int .i64 0, .int .i64 0] 46 (0, 0)) := hfc.far _ _ (Ne.symm Nxbp0.out) (Ne.symm Nxbp0.out) Fx0.out
  have YFv6_3 : W1_15.heap[b3]? = some (.cells #[.int .i64 (cc : Int), .int .i64 0, .int .i64 0] 46 (0, 0)) := hfc.far _ _ (Ne.symm N3_0.out) (Ne.symm N3_0.out) Fv6_3.out
  have YHF : FarH bp bp w W1_15 := FarH.farC HF.out hfc
  have hb := farc_bel hV0 B0.out hfc
  have hbr := hb
  clear B0
  have B0 := zh hbr
  clear hbr
  clear hb
  clear Fx0
  have Fx0 : Hid (W1_15.heap[w.heap.size]? = some (.cells #[.int .i64 0, .int .i64 0, .int .i64 0] 46 (0, 0))) := zh YFx0
  clear YFx0
  clear Fv6_3
  have Fv6_3 : Hid (W1_15.heap[b3]? = some (.cells #[.int .i64 (cc : Int), .int .i64 0, .int .i64 0] 46 (0, 0))) := zh YFv6_3
  clear YFv6_3
  clear HF
  have HF : Hid (FarH bp bp w W1_15) := zh YHF
  clear YHF
  have Gv16 : Hid (V.heap.size ≤ w.heap.size) := zh (by omega)
  have Lt17 : Hid (w.heap.size < W1_15.heap.size) := zh (xp_lt Fx0.out)
  have Gv18 : Hid (V.heap.size ≤ b3) := zh (by omega)
  have Lt19 : Hid (b3 < W1_15.heap.size) := zh (xp_lt Fv6_3.out)
  have hln_2 := hpr.tt.sg.len
  have hcp_2 := hpr.tt.sg.cap
  have htp_2 := hpr.tt.sg.top
  have hps_2 := hpr.ch.pos
  try clear HTS
  have HTS := zh hpr.tt 
  try clear HCH
  have HCH := zh hpr.ch 
  try clear HTK
  have HTK := zh hpr.tk 
  try clear HOK
  have HOK := zh hpr.ok 
  clear Hpbp
  have Hpbp : Hid (W1_15.heap[bp]? = some (.cells #[.slice A_2 n_2 c_2, .int .i64 (y2.o : Int), .int .i64 (y2.e : Int)] 79 (0, 0))) := zh (hpr.row)
  clear hfc 
  refine ⟨_, rfl, ?_⟩
  simp only [Act.put, zA]
  refine zr (.pointer (some ⟨b3, 1, none⟩)) W1_15 (xo_fld0 1 b3 1 (by kernel_rfl) rfl rfl) ?_
  simp only [Act.put, zA]
  refine wpList_store1 b3 1 #[.int .i64 (cc : Int), .int .i64 0, .int .i64 0] (.int .i64 (v : Int)) 46 (by kernel_rfl) Fv6_3.out (xo_store1 b3 1 #[.int .i64 (cc : Int), .int .i64 0, .int .i64 0] _ (.int .i64 (v : Int)) Fv6_3.out rfl (by kernel_rfl) rfl rfl rfl rfl) ?_
  intro X1_20 h1 hfar hbel hsz
  have YHF : FarH bp bp w X1_20 := FarH.store HF.out (.inr (.inr Gw8.out)) hsz hfar
  have YHTS : TS X1_20 A_2 n_2 c_2 t_2 := TS.far HTS.out Fv6_3.out (by decide) hfar
  have YHpbp : X1_20.heap[bp]? = some (.cells #[.slice A_2 n_2 c_2, .int .i64 (y2.o : Int), .int .i64 (y2.e : Int)] 79 (0, 0)) := hfar _ _ N3_0.out Hpbp.out
  have YFx0 : X1_20.heap[w.heap.size]? = some (.cells #[.int .i64 0, .int .i64 0, .int .i64 0] 46 (0, 0)) := hfar _ _ N4_1.out Fx0.out
  -- drops HCH
  -- drops HTK
  -- drops HOK
  have hbr := hbel _ _ Gv18.out B0.out
  clear B0
  have B0 := zh hbr
  clear hbr
  clear Hpbp
  have Hpbp : Hid (X1_20.heap[bp]? = some (.cells #[.slice A_2 n_2 c_2, .int .i64 (y2.o : Int), .int .i64 (y2.e : Int)] 79 (0, 0))) := zh YHpbp
  clear YHpbp
  clear Fx0
  have Fx0 : Hid (X1_20.heap[w.heap.size]? = some (.cells #[.int .i64 0, .int .i64 0, .int .i64 0] 46 (0, 0))) := zh YFx0
  clear YFx0
  clear HF
  have HF := zh YHF
  clear YHF
  clear HTS
  have HTS := zh YHTS
  clear YHTS
  clear Fv6_3
  have Fv6_3 : Hid (X1_20.heap[b3]? = some (.cells #[.int .i64 (cc : Int), .int .i64 (v : Int), .int .i64 0] 46 (0, 0))) := zh (h1)
  have HszX1_20 := zh hsz
  clear h1 hfar hbel hsz
  simp only [ptr, Act.put, zA]
  refine wpList_nil ?_
  go_upto_region 4 with fail
  refine wp_region_lit ?_
  refine zr (.pointer (some ⟨b3, 1, none⟩)) X1_20 (xo_fld0 1 b3 1 (by kernel_rfl) rfl rfl) ?_
  simp only [Act.put, zA]
  refine zr (.int .i64 (v : Int)) X1_20 (xo_load1 ⟨b3, 1, none⟩ _ (cells_at Fv6_3.out 1 rfl) Tryd.underlying3 rfl rfl rfl) ?_
  simp only [Act.put, zA]
  refine zr (.pointer (some ⟨b3, 2, none⟩)) X1_20 (xo_fld0 2 b3 2 (by kernel_rfl) rfl rfl) ?_
  simp only [Act.put, zA]
  refine wpList_store1 b3 2 #[.int .i64 (cc : Int), .int .i64 (v : Int), .int .i64 0] (.int .i64 (v : Int)) 46 (by kernel_rfl) Fv6_3.out (xo_store1 b3 2 #[.int .i64 (cc : Int), .int .i64 (v : Int), .int .i64 0] _ (.int .i64 (v : Int)) Fv6_3.out rfl (by kernel_rfl) rfl rfl rfl rfl) ?_
  intro X1_21 h1 hfar hbel hsz
  have YHF : FarH bp bp w X1_21 := FarH.store HF.out (.inr (.inr Gw8.out)) hsz hfar
  have YHTS : TS X1_21 A_2 n_2 c_2 t_2 := TS.far HTS.out Fv6_3.out (by decide) hfar
  have YHpbp : X1_21.heap[bp]? = some (.cells #[.slice A_2 n_2 c_2, .int .i64 (y2.o : Int), .int .i64 (y2.e : Int)] 79 (0, 0)) := hfar _ _ N3_0.out Hpbp.out
  have YFx0 : X1_21.heap[w.heap.size]? = some (.cells #[.int .i64 0, .int .i64 0, .int .i64 0] 46 (0, 0)) := hfar _ _ N4_1.out Fx0.out
  have hbr := hbel _ _ Gv18.out B0.out
  clear B0
  have B0 := zh hbr
  clear hbr
  clear Hpbp
  have Hpbp : Hid (X1_21.heap[bp]? = some (.cells #[.slice A_2 n_2 c_2, .int .i64 (y2.o : Int), .int .i64 (y2.e : Int)] 79 (0, 0))) := zh YHpbp
  clear YHpbp
  clear Fx0
  have Fx0 : Hid (X1_21.heap[w.heap.size]? = some (.cells #[.int .i64 0, .int .i64 0, .int .i64 0] 46 (0, 0))) := zh YFx0
  clear YFx0
  clear HF
  have HF := zh YHF
  clear YHF
  clear HTS
  have HTS := zh YHTS
  clear YHTS
  clear Fv6_3
  have Fv6_3 : Hid (X1_21.heap[b3]? = some (.cells #[.int .i64 (cc : Int), .int .i64 (v : Int), .int .i64 (v : Int)] 46 (0, 0))) := zh (h1)
  have HszX1_21 := zh hsz
  clear h1 hfar hbel hsz
  simp only [ptr, Act.put, zA]
  refine wpList_nil ?_
  go_upto_region 5 with fail
  refine wp_region_lit ?_
  refine zr (.agg #[.int .i64 (cc : Int), .int .i64 (v : Int), .int .i64 (v : Int)]) X1_21 (xo_loadW b3 _ Fv6_3.out Tryd.underlying46 rfl (by kernel_rfl) rfl rfl) ?_
  simp only [Act.put, zA]
  refine wpList_storeW w.heap.size #[.int .i64 0, .int .i64 0, .int .i64 0] #[.int .i64 (cc : Int), .int .i64 (v : Int), .int .i64 (v : Int)] 46 (by kernel_rfl) Fx0.out (xo_storeW w.heap.size #[.int .i64 0, .int .i64 0, .int .i64 0] #[.int .i64 (cc : Int), .int .i64 (v : Int), .int .i64 (v : Int)] Fx0.out (by kernel_rfl) rfl (by simp [Value.oneCell']) rfl rfl rfl) ?_
  intro X1_22 h1 hfar hbel hsz
  have YHF : FarH bp bp w X1_22 := FarH.store HF.out (.inr (.inr Gb0.out)) hsz hfar
  have YHTS : TS X1_22 A_2 n_2 c_2 t_2 := TS.far HTS.out Fx0.out (by decide) hfar
  have YHpbp : X1_22.heap[bp]? = some (.cells #[.slice A_2 n_2 c_2, .int .i64 (y2.o : Int), .int .i64 (y2.e : Int)] 79 (0, 0)) := hfar _ _ Nxbp0.out Hpbp.out
  have YFv6_3 : X1_22.heap[b3]? = some (.cells #[.int .i64 (cc : Int), .int .i64 (v : Int), .int .i64 (v : Int)] 46 (0, 0)) := hfar _ _ (Ne.symm N4_1.out) Fv6_3.out
  have hbr := hbel _ _ Gv16.out B0.out
  clear B0
  have B0 := zh hbr
  clear hbr
  clear Hpbp
  have Hpbp : Hid (X1_22.heap[bp]? = some (.cells #[.slice A_2 n_2 c_2, .int .i64 (y2.o : Int), .int .i64 (y2.e : Int)] 79 (0, 0))) := zh YHpbp
  clear YHpbp
  clear Fv6_3
  have Fv6_3 : Hid (X1_22.heap[b3]? = some (.cells #[.int .i64 (cc : Int), .int .i64 (v : Int), .int .i64 (v : Int)] 46 (0, 0))) := zh YFv6_3
  clear YFv6_3
  clear HF
  have HF := zh YHF
  clear YHF
  clear HTS
  have HTS := zh YHTS
  clear YHTS
  clear Fx0
  have Fx0 : Hid (X1_22.heap[w.heap.size]? = some (.cells #[.int .i64 (cc : Int), .int .i64 (v : Int), .int .i64 (v : Int)] 46 (0, 0))) := zh (h1)
  have HszX1_22 := zh hsz
  clear h1 hfar hbel hsz
  simp only [ptr, Act.put, zA]
  refine wpList_nil ?_
  have HE : Hid (Qu.condT' s x = (⟨cc, v, v⟩, y2)) := zh (by unfold Qu.condT'; rw [HC.out]; simp only; rw [if_pos ha, HM.out, HN.out])
  have hsf : PX X1_22 bp s (Qu.condT' s x).2 := by rw [HE.out]; exact ⟨_, _, _, _, Hpbp.out, HTS.out, HCH.out, HTK.out, HOK.out⟩
  have hff := farc_mk HF.out HVW.out B0.out
  go_wp2_with fail
  refine bodyPost_ret (v := .agg #[.int .i64 (cc : Int), .int .i64 (v : Int), .int .i64 (v : Int)]) ?_ rfl ⟨by rw [HE.out], hsf, hff⟩
  exact results_cell_row rfl _ _ w.heap.size 46 _ (0, 0) _ rfl Fx0.out Tryd.underlying46 rfl (by kernel_rfl)
 ·go_upto_region 2 with fail
  refine wp_region_lit ?_
  refine zr (.pointer (some ⟨bp, 0, none⟩)) X2_9 rfl ?_
  simp only [Act.put, zA]
  refine wpList_call (by kernel_rfl) 45 Tryd.func45 (by kernel_rfl) (by kernel_rfl) _ _ #[.pointer (some ⟨bp, 0, none⟩), .string (sB ([61]))] rfl (by kernel_rfl) ?_
  refine (raccept_no s bp y1 A_0 n_0 c_0 t_0 X2_9 ⟨(heap_keep Hpbp.out B1.out), (HTS.out.keep B1.out), HCH.out, HTK.out, HOK.out⟩ [61] ha).mono ?_
  rintro e W2_10 ⟨rfl, ⟨A_3, n_3, c_3, t_3, hpr⟩, hfc⟩
  have YFx0 : W2_10.heap[w.heap.size]? = some (.cells #[.int .i64 0, .int .i64 0, .int .i64 0] 46 (0, 0)) := hfc.far _ _ (Ne.symm Nxbp0.out) (Ne.symm Nxbp0.out) (heap_keep Fx0.out B1.out)
  have YFv6_3 : W2_10.heap[b3]? = some (.cells #[.int .i64 (cc : Int), .int .i64 0, .int .i64 0] 46 (0, 0)) := hfc.far _ _ (Ne.symm N3_0.out) (Ne.symm N3_0.out) Fv6_3.out
  have YHF : FarH bp bp w W2_10 := FarH.farC (HF.out.keep B1.out) hfc
  have C0_2 := zb B0 B1
  have hb := farc_bel hV0 C0_2.out hfc
  have hbr := hb
  clear B0
  have B0 := zh hbr
  clear hbr
  clear hb
  clear Fx0
  have Fx0 : Hid (W2_10.heap[w.heap.size]? = some (.cells #[.int .i64 0, .int .i64 0, .int .i64 0] 46 (0, 0))) := zh YFx0
  clear YFx0
  clear Fv6_3
  have Fv6_3 : Hid (W2_10.heap[b3]? = some (.cells #[.int .i64 (cc : Int), .int .i64 0, .int .i64 0] 46 (0, 0))) := zh YFv6_3
  clear YFv6_3
  clear HF
  have HF : Hid (FarH bp bp w W2_10) := zh YHF
  clear YHF
  have Gv11 : Hid (V.heap.size ≤ w.heap.size) := zh (by omega)
  have Lt12 : Hid (w.heap.size < W2_10.heap.size) := zh (xp_lt Fx0.out)
  have Gv13 : Hid (V.heap.size ≤ b3) := zh (by omega)
  have Lt14 : Hid (b3 < W2_10.heap.size) := zh (xp_lt Fv6_3.out)
  have hln_3 := hpr.tt.sg.len
  have hcp_3 := hpr.tt.sg.cap
  have htp_3 := hpr.tt.sg.top
  have hps_3 := hpr.ch.pos
  try clear HTS
  have HTS := zh hpr.tt 
  try clear HCH
  have HCH := zh hpr.ch 
  try clear HTK
  have HTK := zh hpr.tk 
  try clear HOK
  have HOK := zh hpr.ok 
  clear Hpbp
  have Hpbp : Hid (W2_10.heap[bp]? = some (.cells #[.slice A_3 n_3 c_3, .int .i64 (y1.o : Int), .int .i64 (y1.e : Int)] 79 (0, 0))) := zh (hpr.row)
  clear hfc 
  refine ⟨_, rfl, ?_⟩
  simp only [Act.put, zA]
  refine wpList_nil ?_
  obtain ⟨y2, h0⟩ : ∃ p, Qu.expT s [105, 110] y1 = p := ⟨_, rfl⟩
  have HX1 := zh h0
  clear h0
  go_upto_region 6 with fail
  refine wp_region_lit ?_
  refine zr (.pointer (some ⟨bp, 0, none⟩)) W2_10 rfl ?_
  simp only [Act.put, zA]
  refine wpList_call (by kernel_rfl) 50 Tryd.func50 (by kernel_rfl) (by kernel_rfl) _ _ #[.pointer (some ⟨bp, 0, none⟩), .string (sB ([105, 110]))] rfl (by kernel_rfl) ?_
  refine (rexpect_eq s bp y1 A_3 n_3 c_3 t_3 W2_10 ⟨Hpbp.out, HTS.out, HCH.out, HTK.out, HOK.out⟩ [105, 110] (List.cons_ne_nil _ _) y2 HX1.out).mono ?_
  rintro e W1_15 ⟨rfl, ⟨A_4, n_4, c_4, t_4, hpr⟩, hfc⟩
  have YFx0 : W1_15.heap[w.heap.size]? = some (.cells #[.int .i64 0, .int .i64 0, .int .i64 0] 46 (0, 0)) := hfc.far _ _ (Ne.symm Nxbp0.out) (Ne.symm Nxbp0.out) Fx0.out
  have YFv6_3 : W1_15.heap[b3]? = some (.cells #[.int .i64 (cc : Int), .int .i64 0, .int .i64 0] 46 (0, 0)) := hfc.far _ _ (Ne.symm N3_0.out) (Ne.symm N3_0.out) Fv6_3.out
  have YHF : FarH bp bp w W1_15 := FarH.farC HF.out hfc
  have hb := farc_bel hV0 B0.out hfc
  have hbr := hb
  clear B0
  have B0 := zh hbr
  clear hbr
  clear hb
  clear Fx0
  have Fx0 : Hid (W1_15.heap[w.heap.size]? = some (.cells #[.int .i64 0, .int .i64 0, .int .i64 0] 46 (0, 0))) := zh YFx0
  clear YFx0
  clear Fv6_3
  have Fv6_3 : Hid (W1_15.heap[b3]? = some (.cells #[.int .i64 (cc : Int), .int .i64 0, .int .i64 0] 46 (0, 0))) := zh YFv6_3
  clear YFv6_3
  clear HF
  have HF : Hid (FarH bp bp w W1_15) := zh YHF
  clear YHF
  have Gv16 : Hid (V.heap.size ≤ w.heap.size) := zh (by omega)
  have Lt17 : Hid (w.heap.size < W1_15.heap.size) := zh (xp_lt Fx0.out)
  have Gv18 : Hid (V.heap.size ≤ b3) := zh (by omega)
  have Lt19 : Hid (b3 < W1_15.heap.size) := zh (xp_lt Fv6_3.out)
  have hln_4 := hpr.tt.sg.len
  have hcp_4 := hpr.tt.sg.cap
  have htp_4 := hpr.tt.sg.top
  have hps_4 := hpr.ch.pos
  try clear HTS
  have HTS := zh hpr.tt 
  try clear HCH
  have HCH := zh hpr.ch 
  try clear HTK
  have HTK := zh hpr.tk 
  try clear HOK
  have HOK := zh hpr.ok 
  clear Hpbp
  have Hpbp : Hid (W1_15.heap[bp]? = some (.cells #[.slice A_4 n_4 c_4, .int .i64 (y2.o : Int), .int .i64 (y2.e : Int)] 79 (0, 0))) := zh (hpr.row)
  clear hfc 
  refine ⟨_, rfl, ?_⟩
  simp only [Act.put, zA]
  refine wpList_nil ?_
  obtain ⟨⟨lo, y3⟩, h0⟩ : ∃ p, Qu.numT s 0 m y2 = p := ⟨_, rfl⟩
  have HN1 := zh h0
  clear h0
  have llo : lo ≤ 1000000 := by have h1 := numT_le s 0 m y2; rw [HN1.out] at h1; exact h1
  go_upto_region 7 with fail
  refine wp_region_lit ?_
  refine zr (.pointer (some ⟨bp, 0, none⟩)) W1_15 rfl ?_
  simp only [Act.put, zA]
  refine zr (.pointer (some ⟨b3, 0, none⟩)) W1_15 (xo_fld0 0 b3 0 (by kernel_rfl) rfl rfl) ?_
  simp only [Act.put, zA]
  refine zr (.int .i64 (cc : Int)) W1_15 (xo_load1 ⟨b3, 0, none⟩ _ (cells_at Fv6_3.out 0 rfl) Tryd.underlying3 rfl rfl rfl) ?_
  simp only [Act.put, zA]
  refine wpList_call (by kernel_rfl) 24 Tryd.func24 (by kernel_rfl) (by kernel_rfl) _ _ #[.int .i64 (cc : Int)] rfl (by kernel_rfl) ?_
  refine (max_as cc m lcc HM.out W1_15).mono ?_
  rintro e W1 ⟨rfl, hw1⟩
  rw [hw1]
  clear hw1 W1
  refine ⟨_, rfl, ?_⟩
  simp only [Act.put, zA]
  refine wpList_call (by kernel_rfl) 48 Tryd.func48 (by kernel_rfl) (by kernel_rfl) _ _ #[.pointer (some ⟨bp, 0, none⟩), .int .i64 0, .int .i64 (m : Int)] rfl (by kernel_rfl) ?_
  refine (rnumber_eq s bp y2 A_4 n_4 c_4 t_4 W1_15 ⟨Hpbp.out, HTS.out, HCH.out, HTK.out, HOK.out⟩ HS4.out 0 m (by omega) (by omega) lo y3 HN1.out).mono ?_
  rintro e W1_20 ⟨rfl, ⟨A_5, n_5, c_5, t_5, hpr⟩, hfc⟩
  have YFx0 : W1_20.heap[w.heap.size]? = some (.cells #[.int .i64 0, .int .i64 0, .int .i64 0] 46 (0, 0)) := hfc.far _ _ (Ne.symm Nxbp0.out) (Ne.symm Nxbp0.out) Fx0.out
  have YFv6_3 : W1_20.heap[b3]? = some (.cells #[.int .i64 (cc : Int), .int .i64 0, .int .i64 0] 46 (0, 0)) := hfc.far _ _ (Ne.symm N3_0.out) (Ne.symm N3_0.out) Fv6_3.out
  have YHF : FarH bp bp w W1_20 := FarH.farC HF.out hfc
  have hb := farc_bel hV0 B0.out hfc
  have hbr := hb
  clear B0
  have B0 := zh hbr
  clear hbr
  clear hb
  clear Fx0
  have Fx0 : Hid (W1_20.heap[w.heap.size]? = some (.cells #[.int .i64 0, .int .i64 0, .int .i64 0] 46 (0, 0))) := zh YFx0
  clear YFx0
  clear Fv6_3
  have Fv6_3 : Hid (W1_20.heap[b3]? = some (.cells #[.int .i64 (cc : Int), .int .i64 0, .int .i64 0] 46 (0, 0))) := zh YFv6_3
  clear YFv6_3
  clear HF
  have HF : Hid (FarH bp bp w W1_20) := zh YHF
  clear YHF
  have Gv21 : Hid (V.heap.size ≤ w.heap.size) := zh (by omega)
  have Lt22 : Hid (w.heap.size < W1_20.heap.size) := zh (xp_lt Fx0.out)
  have Gv23 : Hid (V.heap.size ≤ b3) := zh (by omega)
  have Lt24 : Hid (b3 < W1_20.heap.size) := zh (xp_lt Fv6_3.out)
  have hln_5 := hpr.tt.sg.len
  have hcp_5 := hpr.tt.sg.cap
  have htp_5 := hpr.tt.sg.top
  have hps_5 := hpr.ch.pos
  try clear HTS
  have HTS := zh hpr.tt 
  try clear HCH
  have HCH := zh hpr.ch 
  try clear HTK
  have HTK := zh hpr.tk 
  try clear HOK
  have HOK := zh hpr.ok 
  clear Hpbp
  have Hpbp : Hid (W1_20.heap[bp]? = some (.cells #[.slice A_5 n_5 c_5, .int .i64 (y3.o : Int), .int .i64 (y3.e : Int)] 79 (0, 0))) := zh (hpr.row)
  clear hfc 
  refine ⟨_, rfl, ?_⟩
  simp only [Act.put, zA]
  refine zr (.pointer (some ⟨b3, 1, none⟩)) W1_20 (xo_fld0 1 b3 1 (by kernel_rfl) rfl rfl) ?_
  simp only [Act.put, zA]
  refine wpList_store1 b3 1 #[.int .i64 (cc : Int), .int .i64 0, .int .i64 0] (.int .i64 (lo : Int)) 46 (by kernel_rfl) Fv6_3.out (xo_store1 b3 1 #[.int .i64 (cc : Int), .int .i64 0, .int .i64 0] _ (.int .i64 (lo : Int)) Fv6_3.out rfl (by kernel_rfl) rfl rfl rfl rfl) ?_
  intro X1_25 h1 hfar hbel hsz
  have YHF : FarH bp bp w X1_25 := FarH.store HF.out (.inr (.inr Gw8.out)) hsz hfar
  have YHTS : TS X1_25 A_5 n_5 c_5 t_5 := TS.far HTS.out Fv6_3.out (by decide) hfar
  have YHpbp : X1_25.heap[bp]? = some (.cells #[.slice A_5 n_5 c_5, .int .i64 (y3.o : Int), .int .i64 (y3.e : Int)] 79 (0, 0)) := hfar _ _ N3_0.out Hpbp.out
  have YFx0 : X1_25.heap[w.heap.size]? = some (.cells #[.int .i64 0, .int .i64 0, .int .i64 0] 46 (0, 0)) := hfar _ _ N4_1.out Fx0.out
  -- drops HCH
  -- drops HTK
  -- drops HOK
  have hbr := hbel _ _ Gv23.out B0.out
  clear B0
  have B0 := zh hbr
  clear hbr
  clear Hpbp
  have Hpbp : Hid (X1_25.heap[bp]? = some (.cells #[.slice A_5 n_5 c_5, .int .i64 (y3.o : Int), .int .i64 (y3.e : Int)] 79 (0, 0))) := zh YHpbp
  clear YHpbp
  clear Fx0
  have Fx0 : Hid (X1_25.heap[w.heap.size]? = some (.cells #[.int .i64 0, .int .i64 0, .int .i64 0] 46 (0, 0))) := zh YFx0
  clear YFx0
  clear HF
  have HF := zh YHF
  clear YHF
  clear HTS
  have HTS := zh YHTS
  clear YHTS
  clear Fv6_3
  have Fv6_3 : Hid (X1_25.heap[b3]? = some (.cells #[.int .i64 (cc : Int), .int .i64 (lo : Int), .int .i64 0] 46 (0, 0))) := zh (h1)
  have HszX1_25 := zh hsz
  clear h1 hfar hbel hsz
  simp only [ptr, Act.put, zA]
  refine wpList_nil ?_
  obtain ⟨y4, h0⟩ : ∃ p, Qu.expT s [46, 46] y3 = p := ⟨_, rfl⟩
  have HX2 := zh h0
  clear h0
  go_upto_region 8 with fail
  refine wp_region_lit ?_
  refine zr (.pointer (some ⟨bp, 0, none⟩)) X1_25 rfl ?_
  simp only [Act.put, zA]
  refine wpList_call (by kernel_rfl) 50 Tryd.func50 (by kernel_rfl) (by kernel_rfl) _ _ #[.pointer (some ⟨bp, 0, none⟩), .string (sB ([46, 46]))] rfl (by kernel_rfl) ?_
  refine (rexpect_eq s bp y3 A_5 n_5 c_5 t_5 X1_25 ⟨Hpbp.out, HTS.out, HCH.out, HTK.out, HOK.out⟩ [46, 46] (List.cons_ne_nil _ _) y4 HX2.out).mono ?_
  rintro e W1_26 ⟨rfl, ⟨A_6, n_6, c_6, t_6, hpr⟩, hfc⟩
  have YFx0 : W1_26.heap[w.heap.size]? = some (.cells #[.int .i64 0, .int .i64 0, .int .i64 0] 46 (0, 0)) := hfc.far _ _ (Ne.symm Nxbp0.out) (Ne.symm Nxbp0.out) Fx0.out
  have YFv6_3 : W1_26.heap[b3]? = some (.cells #[.int .i64 (cc : Int), .int .i64 (lo : Int), .int .i64 0] 46 (0, 0)) := hfc.far _ _ (Ne.symm N3_0.out) (Ne.symm N3_0.out) Fv6_3.out
  have YHF : FarH bp bp w W1_26 := FarH.farC HF.out hfc
  have hb := farc_bel hV0 B0.out hfc
  have hbr := hb
  clear B0
  have B0 := zh hbr
  clear hbr
  clear hb
  clear Fx0
  have Fx0 : Hid (W1_26.heap[w.heap.size]? = some (.cells #[.int .i64 0, .int .i64 0, .int .i64 0] 46 (0, 0))) := zh YFx0
  clear YFx0
  clear Fv6_3
  have Fv6_3 : Hid (W1_26.heap[b3]? = some (.cells #[.int .i64 (cc : Int), .int .i64 (lo : Int), .int .i64 0] 46 (0, 0))) := zh YFv6_3
  clear YFv6_3
  clear HF
  have HF : Hid (FarH bp bp w W1_26) := zh YHF
  clear YHF
  have Gv27 : Hid (V.heap.size ≤ w.heap.size) := zh (by omega)
  have Lt28 : Hid (w.heap.size < W1_26.heap.size) := zh (xp_lt Fx0.out)
  have Gv29 : Hid (V.heap.size ≤ b3) := zh (by omega)
  have Lt30 : Hid (b3 < W1_26.heap.size) := zh (xp_lt Fv6_3.out)
  have hln_6 := hpr.tt.sg.len
  have hcp_6 := hpr.tt.sg.cap
  have htp_6 := hpr.tt.sg.top
  have hps_6 := hpr.ch.pos
  try clear HTS
  have HTS := zh hpr.tt 
  try clear HCH
  have HCH := zh hpr.ch 
  try clear HTK
  have HTK := zh hpr.tk 
  try clear HOK
  have HOK := zh hpr.ok 
  clear Hpbp
  have Hpbp : Hid (W1_26.heap[bp]? = some (.cells #[.slice A_6 n_6 c_6, .int .i64 (y4.o : Int), .int .i64 (y4.e : Int)] 79 (0, 0))) := zh (hpr.row)
  clear hfc 
  refine ⟨_, rfl, ?_⟩
  simp only [Act.put, zA]
  refine wpList_nil ?_
  obtain ⟨⟨hi, y5⟩, h0⟩ : ∃ p, Qu.numT s lo m y4 = p := ⟨_, rfl⟩
  have HN2 := zh h0
  clear h0
  have lhi : hi ≤ 1000000 := by have h1 := numT_le s lo m y4; rw [HN2.out] at h1; exact h1
  have hS0 : W1_26.cell? ⟨b3, 0, none⟩ = some (.int .i64 (cc : Int)) ∧ W1_26.cell? ⟨b3, 1, none⟩ = some (.int .i64 (lo : Int)) := ⟨cells_at Fv6_3.out 0 rfl, cells_at Fv6_3.out 1 rfl⟩
  go_upto_region 9 with fail
  try simp only [List.append_eq, List.cons_append, List.nil_append]
  refine wp_ordT (fun W => W.cell? ⟨b3, 0, none⟩ = some (.int .i64 (cc : Int)) ∧ W.cell? ⟨b3, 1, none⟩ = some (.int .i64 (lo : Int))) (.q 0 (.q 1 (.q 2 (.q 3 (.q 4 (.one 5 (.one 6 (.q 7 (.one 8 .nil))))))))) (by kernel_rfl) (by kernel_rfl) (fun _ _ dt _ _ h => by first | exact h.elim | (cases dt <;> exact h)) (by kernel_rfl) (by kernel_rfl) hS0 ?_
  have hb : Below W1_26.heap.size W1_26 W1_26.drew := (Below.refl _ _).drew
  generalize W1_26.drew = V2 at hb ⊢
  have B1 := zh hb
  clear hb
  refine wpOT_q (.pointer (some ⟨bp, 0, none⟩)) rfl (by kernel_rfl) (fun v hW => rfl) ?_
  simp only [ptr, Act.put, zA]
  refine wpOT_q (.pointer (some ⟨b3, 1, none⟩)) rfl (by kernel_rfl) (fun v hW => (xo_fld0 1 b3 1 (by kernel_rfl) rfl rfl)) ?_
  simp only [ptr, Act.put, zA]
  refine wpOT_q (.int .i64 (lo : Int)) rfl (by kernel_rfl) (fun v hW => (xo_load1 ⟨b3, 1, none⟩ _ hW.2 Tryd.underlying3 rfl rfl rfl)) ?_
  simp only [ptr, Act.put, zA]
  refine wpOT_q (.pointer (some ⟨b3, 0, none⟩)) rfl (by kernel_rfl) (fun v hW => (xo_fld0 0 b3 0 (by kernel_rfl) rfl rfl)) ?_
  simp only [ptr, Act.put, zA]
  refine wpOT_q (.int .i64 (cc : Int)) rfl (by kernel_rfl) (fun v hW => (xo_load1 ⟨b3, 0, none⟩ _ hW.1 Tryd.underlying3 rfl rfl rfl)) ?_
  simp only [ptr, Act.put, zA]
  refine wpOT_one rfl (by kernel_rfl) ?_
  refine hOp_call 24 Tryd.func24 (by kernel_rfl) (by kernel_rfl) _ _ #[.int .i64 (cc : Int)] rfl (by kernel_rfl) ?_
  refine (max_as cc m lcc HM.out V2).mono ?_
  rintro e W1 ⟨rfl, hw1⟩
  rw [hw1]
  clear hw1 W1
  refine ⟨_, rfl, ⟨cells_at (heap_keep Fv6_3.out B1.out) 0 rfl, cells_at (heap_keep Fv6_3.out B1.out) 1 rfl⟩, ?_⟩
  simp only [ptr, Act.put, zA]
  refine wpOT_one rfl (by kernel_rfl) ?_
  refine hOp_call 48 Tryd.func48 (by kernel_rfl) (by kernel_rfl) _ _ #[.pointer (some ⟨bp, 0, none⟩), .int .i64 (lo : Int), .int .i64 (m : Int)] rfl (by kernel_rfl) ?_
  refine (rnumber_eq s bp y4 A_6 n_6 c_6 t_6 V2 ⟨(heap_keep Hpbp.out B1.out), (HTS.out.keep B1.out), HCH.out, HTK.out, HOK.out⟩ HS4.out lo m (by omega) (by omega) hi y5 HN2.out).mono ?_
  rintro e W2_31 ⟨rfl, ⟨A_7, n_7, c_7, t_7, hpr⟩, hfc⟩
  have YFx0 : W2_31.heap[w.heap.size]? = some (.cells #[.int .i64 0, .int .i64 0, .int .i64 0] 46 (0, 0)) := hfc.far _ _ (Ne.symm Nxbp0.out) (Ne.symm Nxbp0.out) (heap_keep Fx0.out B1.out)
  have YFv6_3 : W2_31.heap[b3]? = some (.cells #[.int .i64 (cc : Int), .int .i64 (lo : Int), .int .i64 0] 46 (0, 0)) := hfc.far _ _ (Ne.symm N3_0.out) (Ne.symm N3_0.out) (heap_keep Fv6_3.out B1.out)
  have YHF : FarH bp bp w W2_31 := FarH.farC (HF.out.keep B1.out) hfc
  have C0_2 := zb B0 B1
  have hb := farc_bel hV0 C0_2.out hfc
  have hbr := hb
  clear B0
  have B0 := zh hbr
  clear hbr
  clear hb
  clear Fx0
  have Fx0 : Hid (W2_31.heap[w.heap.size]? = some (.cells #[.int .i64 0, .int .i64 0, .int .i64 0] 46 (0, 0))) := zh YFx0
  clear YFx0
  clear Fv6_3
  have Fv6_3 : Hid (W2_31.heap[b3]? = some (.cells #[.int .i64 (cc : Int), .int .i64 (lo : Int), .int .i64 0] 46 (0, 0))) := zh YFv6_3
  clear YFv6_3
  clear HF
  have HF : Hid (FarH bp bp w W2_31) := zh YHF
  clear YHF
  have Gv32 : Hid (V.heap.size ≤ w.heap.size) := zh (by omega)
  have Lt33 : Hid (w.heap.size < W2_31.heap.size) := zh (xp_lt Fx0.out)
  have Gv34 : Hid (V.heap.size ≤ b3) := zh (by omega)
  have Lt35 : Hid (b3 < W2_31.heap.size) := zh (xp_lt Fv6_3.out)
  have hln_7 := hpr.tt.sg.len
  have hcp_7 := hpr.tt.sg.cap
  have htp_7 := hpr.tt.sg.top
  have hps_7 := hpr.ch.pos
  try clear HTS
  have HTS := zh hpr.tt 
  try clear HCH
  have HCH := zh hpr.ch 
  try clear HTK
  have HTK := zh hpr.tk 
  try clear HOK
  have HOK := zh hpr.ok 
  clear Hpbp
  have Hpbp : Hid (W2_31.heap[bp]? = some (.cells #[.slice A_7 n_7 c_7, .int .i64 (y5.o : Int), .int .i64 (y5.e : Int)] 79 (0, 0))) := zh (hpr.row)
  clear hfc 
  refine ⟨_, rfl, ⟨cells_at Fv6_3.out 0 rfl, cells_at Fv6_3.out 1 rfl⟩, ?_⟩
  simp only [ptr, Act.put, zA]
  refine wpOT_q (.pointer (some ⟨b3, 2, none⟩)) rfl (by kernel_rfl) (fun v hW => (xo_fld0 2 b3 2 (by kernel_rfl) rfl rfl)) ?_
  simp only [ptr, Act.put, zA]
  refine wpOT_one rfl (by kernel_rfl) ?_
  refine hOp_storeW b3 #[.int .i64 (cc : Int), .int .i64 (lo : Int), .int .i64 0] #[.int .i64 (cc : Int), .int .i64 (lo : Int), .int .i64 (hi : Int)] 46 Fv6_3.out (xo_storeM b3 2 #[.int .i64 (cc : Int), .int .i64 (lo : Int), .int .i64 0] #[.int .i64 (cc : Int), .int .i64 (lo : Int), .int .i64 (hi : Int)] [.int .i64 (hi : Int)] Fv6_3.out rfl (by simp) (by kernel_rfl) (by simp [Value.oneCell']) rfl rfl rfl) ?_
  intro X1_36 h1 hfar hbel hsz
  have YHF : FarH bp bp w X1_36 := FarH.store HF.out (.inr (.inr Gw8.out)) hsz hfar
  have YHTS : TS X1_36 A_7 n_7 c_7 t_7 := TS.far HTS.out Fv6_3.out (by decide) hfar
  have YHpbp : X1_36.heap[bp]? = some (.cells #[.slice A_7 n_7 c_7, .int .i64 (y5.o : Int), .int .i64 (y5.e : Int)] 79 (0, 0)) := hfar _ _ N3_0.out Hpbp.out
  have YFx0 : X1_36.heap[w.heap.size]? = some (.cells #[.int .i64 0, .int .i64 0, .int .i64 0] 46 (0, 0)) := hfar _ _ N4_1.out Fx0.out
  -- drops HCH
  -- drops HTK
  -- drops HOK
  have hbr := hbel _ _ Gv34.out B0.out
  clear B0
  have B0 := zh hbr
  clear hbr
  clear Hpbp
  have Hpbp : Hid (X1_36.heap[bp]? = some (.cells #[.slice A_7 n_7 c_7, .int .i64 (y5.o : Int), .int .i64 (y5.e : Int)] 79 (0, 0))) := zh YHpbp
  clear YHpbp
  clear Fx0
  have Fx0 : Hid (X1_36.heap[w.heap.size]? = some (.cells #[.int .i64 0, .int .i64 0, .int .i64 0] 46 (0, 0))) := zh YFx0
  clear YFx0
  clear HF
  have HF := zh YHF
  clear YHF
  clear HTS
  have HTS := zh YHTS
  clear YHTS
  clear Fv6_3
  have Fv6_3 : Hid (X1_36.heap[b3]? = some (.cells #[.int .i64 (cc : Int), .int .i64 (lo : Int), .int .i64 (hi : Int)] 46 (0, 0))) := zh (h1)
  have HszX1_36 := zh hsz
  clear h1 hfar hbel hsz
  simp only [ptr, Act.put, zA]
  refine ⟨⟨cells_at Fv6_3.out 0 rfl, cells_at Fv6_3.out 1 rfl⟩, ?_⟩
  try simp only [ptr, Act.put, zA]
  refine wpOT_nil ?_
  go_upto_region 10 with fail
  refine wp_region_lit ?_
  refine zr (.agg #[.int .i64 (cc : Int), .int .i64 (lo : Int), .int .i64 (hi : Int)]) X1_36 (xo_loadW b3 _ Fv6_3.out Tryd.underlying46 rfl (by kernel_rfl) rfl rfl) ?_
  simp only [Act.put, zA]
  refine wpList_storeW w.heap.size #[.int .i64 0, .int .i64 0, .int .i64 0] #[.int .i64 (cc : Int), .int .i64 (lo : Int), .int .i64 (hi : Int)] 46 (by kernel_rfl) Fx0.out (xo_storeW w.heap.size #[.int .i64 0, .int .i64 0, .int .i64 0] #[.int .i64 (cc : Int), .int .i64 (lo : Int), .int .i64 (hi : Int)] Fx0.out (by kernel_rfl) rfl (by simp [Value.oneCell']) rfl rfl rfl) ?_
  intro X1_37 h1 hfar hbel hsz
  have YHF : FarH bp bp w X1_37 := FarH.store HF.out (.inr (.inr Gb0.out)) hsz hfar
  have YHTS : TS X1_37 A_7 n_7 c_7 t_7 := TS.far HTS.out Fx0.out (by decide) hfar
  have YHpbp : X1_37.heap[bp]? = some (.cells #[.slice A_7 n_7 c_7, .int .i64 (y5.o : Int), .int .i64 (y5.e : Int)] 79 (0, 0)) := hfar _ _ Nxbp0.out Hpbp.out
  have YFv6_3 : X1_37.heap[b3]? = some (.cells #[.int .i64 (cc : Int), .int .i64 (lo : Int), .int .i64 (hi : Int)] 46 (0, 0)) := hfar _ _ (Ne.symm N4_1.out) Fv6_3.out
  have hbr := hbel _ _ Gv32.out B0.out
  clear B0
  have B0 := zh hbr
  clear hbr
  clear Hpbp
  have Hpbp : Hid (X1_37.heap[bp]? = some (.cells #[.slice A_7 n_7 c_7, .int .i64 (y5.o : Int), .int .i64 (y5.e : Int)] 79 (0, 0))) := zh YHpbp
  clear YHpbp
  clear Fv6_3
  have Fv6_3 : Hid (X1_37.heap[b3]? = some (.cells #[.int .i64 (cc : Int), .int .i64 (lo : Int), .int .i64 (hi : Int)] 46 (0, 0))) := zh YFv6_3
  clear YFv6_3
  clear HF
  have HF := zh YHF
  clear YHF
  clear HTS
  have HTS := zh YHTS
  clear YHTS
  clear Fx0
  have Fx0 : Hid (X1_37.heap[w.heap.size]? = some (.cells #[.int .i64 (cc : Int), .int .i64 (lo : Int), .int .i64 (hi : Int)] 46 (0, 0))) := zh (h1)
  have HszX1_37 := zh hsz
  clear h1 hfar hbel hsz
  simp only [ptr, Act.put, zA]
  refine wpList_nil ?_
  have HE : Hid (Qu.condT' s x = (⟨cc, lo, hi⟩, y5)) := zh (by unfold Qu.condT'; rw [HC.out]; simp only; rw [if_neg ha, HM.out, HX1.out, HN1.out]; simp only; rw [HX2.out, HN2.out])
  have hsf : PX X1_37 bp s (Qu.condT' s x).2 := by rw [HE.out]; exact ⟨_, _, _, _, Hpbp.out, HTS.out, HCH.out, HTK.out, HOK.out⟩
  have hff := farc_mk HF.out HVW.out B0.out
  go_wp2_with fail
  refine bodyPost_ret (v := .agg #[.int .i64 (cc : Int), .int .i64 (lo : Int), .int .i64 (hi : Int)]) ?_ rfl ⟨by rw [HE.out], hsf, hff⟩
  exact results_cell_row rfl _ _ w.heap.size 46 _ (0, 0) _ rfl Fx0.out Tryd.underlying46 rfl (by kernel_rfl)
theorem rcond_eq (s : List UInt8) (bp : Nat) (x : Qu.X) (A : Option Addr) (n c : Nat) (ts : List Qu.RT) (w : World) (hP : PR w bp s x A n c ts) (hs4 : s.length ≤ 1000) (v : Qu.Cd) (y : Qu.X) (h : Qu.condT' s x = (v, y)) :
  Calls Tryd.prog 64 #[.pointer (some ⟨bp, 0, none⟩)] w fun e w' => e = .returned (.agg #[.int .i64 (v.col : Int), .int .i64 (v.lo : Int), .int .i64 (v.hi : Int)]) ∧ PX w' bp s y ∧ FarC bp bp w w' := by
 have h0 := rcond_st s bp x A n c ts w hP hs4
 rw [h] at h0
 exact h0
set_option maxRecDepth 100000 in
set_option maxHeartbeats 32000000 in
theorem rfilter_st (s : List UInt8) (bp : Nat) (x : Qu.X) (A : Option Addr) (n c : Nat) (ts : List Qu.RT) (w : World) (hP : PR w bp s x A n c ts) (hs4 : s.length ≤ 1000) :
  Calls Tryd.prog 49 #[.pointer (some ⟨bp, 0, none⟩)] w fun e w' => ∃ v, e = .returned v ∧ w'.ownsRow w.heap.size 46 3 v (Qu.filT s x).1.length (fl cdC (Qu.filT s x).1) ∧ PX w' bp s (Qu.filT s x).2 ∧ FarC bp bp w w' := by
 obtain ⟨V, hV0, hV⟩ := base_world w
 have B0 := zh hV
 have HVW := zh hV
 clear hV
 have HF := zh (FarH.refl bp bp w)
 have HTS := zh hP.tt
 have HCH := zh hP.ch
 have HTK := zh hP.tk
 have HOK := zh hP.ok
 have hln := hP.tt.sg.len
 have hcp := hP.tt.sg.cap
 have htp := hP.tt.sg.top
 have hps := hP.ch.pos
 have Hpbp : Hid (w.heap[bp]? = some (.cells #[.slice A n c, .int .i64 (x.o : Int), .int .i64 (x.e : Int)] 79 (0, 0))) := zh (hP.row)
 have Gpbp : Hid (V.heap.size ≤ bp) := zh (by omega)
 have Lpbp : Hid (bp < w.heap.size) := zh (xp_lt Hpbp.out)
 have hbp0 := xp_lt hP.row
 clear hP
 go_enter Tryd.func49, Tryd.ntmps49
 go_upto_region 0 with fail
 have HS4 := zh hs4
 clear hs4
 refine wp_region_lit ?_
 refine zr (.slice none 0 0) w rfl ?_
 simp only [Act.put, zA]
 refine wpList_nil ?_
 go_upto_region 1 with fail
 refine wp_region_lit ?_
 refine wpList_mk (by kernel_rfl) #[] 46 0 0 (xo_empty (size := 3) Tryd.underlying28 (by kernel_rfl) rfl w) ?_
 intro g4 V2 hge h0 hb
 have hge2 := Nat.le_trans (Below.refl w.heap.size w).size hge
 have B1 := zh hb
 have Ow4 : Hid (V2.ownsRow w.heap.size 46 3 (.slice (some ⟨g4, 0, none⟩) 0 0) 0 (fl cdC [])) := zh (own_new h0 hge2)
 clear hge hge2 h0 hb
 simp only [ptr, Act.put, zA]
 refine zr (.slice (some ⟨g4, 0, none⟩) 0 0) V2 rfl ?_
 simp only [Act.put, zA]
 refine wpList_nil ?_
 by_cases ha : AccY Qu.whereN x
 ·go_upto_region 2 with fail
  refine wp_region_lit ?_
  refine zr (.pointer (some ⟨bp, 0, none⟩)) V2 rfl ?_
  simp only [Act.put, zA]
  refine wpList_call (by kernel_rfl) 45 Tryd.func45 (by kernel_rfl) (by kernel_rfl) _ _ #[.pointer (some ⟨bp, 0, none⟩), .string (sB ([119, 104, 101, 114, 101]))] rfl (by kernel_rfl) ?_
  refine (raccept_yes s bp x A n c ts V2 ⟨(heap_keep Hpbp.out B1.out), (HTS.out.keep B1.out), HCH.out, HTK.out, HOK.out⟩ Qu.whereN (List.cons_ne_nil _ _) ha).mono ?_
  rintro e W2_0 ⟨rfl, ⟨A_8, n_8, c_8, t_8, hpr⟩, hfc⟩
  have YOw4 : W2_0.ownsRow w.heap.size 46 3 (.slice (some ⟨g4, 0, none⟩) 0 0) 0 (fl cdC ([])) := own_farC Ow4.out Lpbp.out Lpbp.out hfc.toFarH
  have YHF : FarH bp bp w W2_0 := FarH.farC (HF.out.keep B1.out) hfc
  have C0_2 := zb B0 B1
  have hb := farc_bel hV0 C0_2.out hfc
  have hbr := hb
  clear B0
  have B0 := zh hbr
  clear hbr
  clear hb
  clear Ow4
  have Ow4 : Hid (W2_0.ownsRow w.heap.size 46 3 (.slice (some ⟨g4, 0, none⟩) 0 0) 0 (fl cdC ([]))) := zh YOw4
  clear YOw4
  clear HF
  have HF : Hid (FarH bp bp w W2_0) := zh YHF
  clear YHF
  have hln_8 := hpr.tt.sg.len
  have hcp_8 := hpr.tt.sg.cap
  have htp_8 := hpr.tt.sg.top
  have hps_8 := hpr.ch.pos
  try clear HTS
  have HTS := zh hpr.tt 
  try clear HCH
  have HCH := zh hpr.ch 
  try clear HTK
  have HTK := zh hpr.tk 
  try clear HOK
  have HOK := zh hpr.ok 
  clear Hpbp
  have Hpbp : Hid (W2_0.heap[bp]? = some (.cells #[.slice A_8 n_8 c_8, .int .i64 ((Qu.advT s x).o : Int), .int .i64 ((Qu.advT s x).e : Int)] 79 (0, 0))) := zh (hpr.row)
  clear hfc 
  refine ⟨_, rfl, ?_⟩
  simp only [Act.put, zA]
  refine zr (.bool false) W2_0 rfl ?_
  simp only [Act.put, zA]
  refine wpList_nil ?_
  obtain ⟨⟨cv, y1⟩, h0⟩ : ∃ p, Qu.condT' s (Qu.advT s x) = p := ⟨_, rfl⟩
  have HC := zh h0
  clear h0
  go_upto_region 4 with fail
  refine wp_region_lit ?_
  refine zr (.slice (some ⟨g4, 0, none⟩) 0 0) W2_0 rfl ?_
  simp only [Act.put, zA]
  refine zr (.pointer (some ⟨bp, 0, none⟩)) W2_0 rfl ?_
  simp only [Act.put, zA]
  refine wpList_call (by kernel_rfl) 64 Tryd.func64 (by kernel_rfl) (by kernel_rfl) _ _ #[.pointer (some ⟨bp, 0, none⟩)] rfl (by kernel_rfl) ?_
  refine (rcond_eq s bp (Qu.advT s x) A_8 n_8 c_8 t_8 W2_0 ⟨Hpbp.out, HTS.out, HCH.out, HTK.out, HOK.out⟩ HS4.out cv y1 HC.out).mono ?_
  rintro e W1_1 ⟨rfl, ⟨A_9, n_9, c_9, t_9, hpr⟩, hfc⟩
  have YOw4 : W1_1.ownsRow w.heap.size 46 3 (.slice (some ⟨g4, 0, none⟩) 0 0) 0 (fl cdC ([])) := own_farC Ow4.out Lpbp.out Lpbp.out hfc.toFarH
  have YHF : FarH bp bp w W1_1 := FarH.farC HF.out hfc
  have hb := farc_bel hV0 B0.out hfc
  have hbr := hb
  clear B0
  have B0 := zh hbr
  clear hbr
  clear hb
  clear Ow4
  have Ow4 : Hid (W1_1.ownsRow w.heap.size 46 3 (.slice (some ⟨g4, 0, none⟩) 0 0) 0 (fl cdC ([]))) := zh YOw4
  clear YOw4
  clear HF
  have HF : Hid (FarH bp bp w W1_1) := zh YHF
  clear YHF
  have hln_9 := hpr.tt.sg.len
  have hcp_9 := hpr.tt.sg.cap
  have htp_9 := hpr.tt.sg.top
  have hps_9 := hpr.ch.pos
  try clear HTS
  have HTS := zh hpr.tt 
  try clear HCH
  have HCH := zh hpr.ch 
  try clear HTK
  have HTK := zh hpr.tk 
  try clear HOK
  have HOK := zh hpr.ok 
  clear Hpbp
  have Hpbp : Hid (W1_1.heap[bp]? = some (.cells #[.slice A_9 n_9 c_9, .int .i64 (y1.o : Int), .int .i64 (y1.e : Int)] 79 (0, 0))) := zh (hpr.row)
  clear hfc 
  refine ⟨_, rfl, ?_⟩
  simp only [Act.put, zA]
  refine wpList_mk (by kernel_rfl) ([cv].flatMap cdC).toArray 46 1 1 (xg_lit (E := cdC) (bytes := 24) (.agg #[.int .i64 0, .int .i64 0, .int .i64 0]) [.tmp 11] [cv] 1 Tryd.underlying28 (by kernel_rfl) rfl (by decide) (by decide) rfl rfl) ?_
  intro g12 V2 hge h0 hb
  have N2_0 : Hid (bp ≠ g12) := zh (xp_lt0 Hpbp.out hge)
  have Ge3 : Hid (W1_1.heap.size ≤ g12) := zh hge
  have B1 := zh hb
  have Fv4_12 : Hid (RowG cdC V2 g12 46 ([cv])) := zh (h0)
  have Lt5 : Hid (g12 < V2.heap.size) := zh (xp_lt Fv4_12.out)
  have Gw6 : Hid (w.heap.size ≤ g12) := zh (Nat.le_trans HF.out.size Ge3.out)
  clear hge h0 hb
  simp only [ptr, Act.put, zA]
  refine wpList_app2 (size := 3) (by kernel_rfl) (.tmp 9) (.tmp 12) 28 rfl (.agg #[.int .i64 0, .int .i64 0, .int .i64 0]) 24 Tryd.underlying28 (by kernel_rfl) rfl (by decide) rfl (own_keep Ow4.out B1.out) (some ⟨g12, 0, none⟩) 1 1 (fl cdC ([cv])) rfl (RowG.sg (n := 1) (c := 1) Fv4_12.out (show ([cv]).length = 1 from rfl) (Nat.le_refl _) (by omega)).src (by unfold maxLen; omega) (by omega) (HF.out.keep B1.out).size ?_
  intro v13 X2_7 ho hb1 hg hloc
  have hox : X2_7.ownsRow w.heap.size 46 3 v13 1 (fl cdC ([cv])) := by first | exact ho | simpa using ho
  have YHpbp : X2_7.heap[bp]? = some (.cells #[.slice A_9 n_9 c_9, .int .i64 (y1.o : Int), .int .i64 (y1.e : Int)] 79 (0, 0)) := keepB (heap_keep Hpbp.out B1.out) hb1 Lpbp.out
  have YHF : FarH bp bp w X2_7 := FarH.belowB (HF.out.keep B1.out) hb1
  have YHTS : TS X2_7 A_9 n_9 c_9 t_9 := TS.grown (HTS.out.keep B1.out) (own_keep Ow4.out B1.out) hg (by decide)
  have C0_2 := zb B0 B1
  have hbV := belV hV0 C0_2.out hb1
  have hbr := hbV
  clear B0
  have B0 := zh hbr
  clear hbr
  clear hbV
  clear Hpbp
  have Hpbp : Hid (X2_7.heap[bp]? = some (.cells #[.slice A_9 n_9 c_9, .int .i64 (y1.o : Int), .int .i64 (y1.e : Int)] 79 (0, 0))) := zh YHpbp
  clear YHpbp
  clear HF
  have HF : Hid (FarH bp bp w X2_7) := zh YHF
  clear YHF
  clear HTS
  have HTS : Hid (TS X2_7 A_9 n_9 c_9 t_9) := zh YHTS
  clear YHTS
  have Ow13_8 := zh hox
  clear ho hox hb1 hg hloc
  simp only [ptr, Act.put, zA]
  refine zr (v13) X2_7 rfl ?_
  simp only [Act.put, zA]
  refine wpList_nil ?_
  obtain ⟨A9, c9, rfl⟩ := own_form Ow13_8.out
  have ow0 := Ow13_8.out
  have r0 : PR X2_7 bp s y1 _ _ _ _ := ⟨Hpbp.out, HTS.out, HCH.out, HTK.out, HOK.out⟩
  have f0 := HF.out
  have bb0 := B0.out
  have d0 : Qu.filT s x = Qu.moreT s (3 - 1) [cv] y1 := by unfold Qu.filT; rw [if_pos ha, HC.out]
  go_wp2_with fail
  go_loopw [3] (fun v wr => ∃ (i : Nat) (A0 : Option Addr) (c0 : Nat) (cs : List Qu.Cd) (y : Qu.X) (A2 : Option Addr) (n2 c2 : Nat) (t2 : List Qu.RT), v = .slice A0 i c0 ∧ 1 ≤ i ∧ i ≤ 3 ∧ cs.length = i ∧ Qu.filT s x = Qu.moreT s (3 - i) cs y ∧ wr.ownsRow w.heap.size 46 3 (.slice A0 i c0) i (fl cdC cs) ∧ PR wr bp s y A2 n2 c2 t2 ∧ FarH bp bp w wr ∧ Below V.heap.size V wr) (fun v _ => 3 - slN v)
  case atStart => exact ⟨1, _, _, [cv], y1, _, _, _, _, rfl, by omega, by omega, rfl, d0, ow0, r0, f0, bb0⟩
  case round =>
   clear ow0 r0 f0 d0 bb0 B0 HF Hpbp HTS HCH HTK HOK Ow13_8
   obtain ⟨wo, rfl⟩ : ∃ wo : World, wo = wr := ⟨_, rfl⟩
   obtain ⟨i, A0, c0, cs, y, A2, n2, c2, t2, rfl, hi1, hi, hcl, hfd, hov, hpr, hfh, hbb⟩ := hrel
   have B0 := zh hbb
   have HF := zh hfh
   have Hpbp := zh hpr.row
   have HTS := zh hpr.tt
   have HCH := zh hpr.ch
   have HTK := zh hpr.tk
   have HOK := zh hpr.ok
   have HFD := zh hfd
   have HOW := zh hov
   have HCL := zh hcl
   have hln2 := hpr.tt.sg.len
   have hcp2 := hpr.tt.sg.cap
   have htp2 := hpr.tt.sg.top
   have hps2 := hpr.ch.pos
   clear hbb hfh hpr hfd hov hcl
   by_cases hi3 : i < 3
   ·have hci10 : ((i : Int) < 3) := by omega
    by_cases hand : AccY [97, 110, 100] y
    ·go_upto_region 5 with fail
     refine wp_region_lit ?_
     refine zr (.slice A0 i c0) wo rfl ?_
     simp only [Act.put, zA]
     refine zr (.int .i64 (i : Int)) wo (xo_len A0 i c0 Tryd.underlying28 rfl rfl) ?_
     simp only [Act.put, zA]
     refine zr (.bool true) wo (xo_lssT .i64 (i : Int) 3 (by omega) rfl rfl rfl) ?_
     simp only [Act.put, zA]
     refine zr (.bool true) wo rfl ?_
     simp only [Act.put, zA]
     refine zr (.pointer (some ⟨bp, 0, none⟩)) wo rfl ?_
     simp only [Act.put, zA]
     refine wpList_call (by kernel_rfl) 45 Tryd.func45 (by kernel_rfl) (by kernel_rfl) _ _ #[.pointer (some ⟨bp, 0, none⟩), .string (sB ([97, 110, 100]))] rfl (by kernel_rfl) ?_
     refine (raccept_yes s bp y A2 n2 c2 t2 wo ⟨Hpbp.out, HTS.out, HCH.out, HTK.out, HOK.out⟩ [97, 110, 100] (List.cons_ne_nil _ _) hand).mono ?_
     rintro e W1_11 ⟨rfl, ⟨A_10, n_10, c_10, t_10, hpr⟩, hfc⟩
     have YHOW : W1_11.ownsRow w.heap.size 46 3 (.slice A0 i c0) i (fl cdC cs) := own_farC HOW.out Lpbp.out Lpbp.out hfc.toFarH
     have YHF : FarH bp bp w W1_11 := FarH.farC HF.out hfc
     have hb := farc_bel hV0 B0.out hfc
     have hbr := hb
     clear B0
     have B0 := zh hbr
     clear hbr
     clear hb
     clear HOW
     have HOW : Hid (W1_11.ownsRow w.heap.size 46 3 (.slice A0 i c0) i (fl cdC cs)) := zh YHOW
     clear YHOW
     clear HF
     have HF : Hid (FarH bp bp w W1_11) := zh YHF
     clear YHF
     have hln_10 := hpr.tt.sg.len
     have hcp_10 := hpr.tt.sg.cap
     have htp_10 := hpr.tt.sg.top
     have hps_10 := hpr.ch.pos
     try clear HTS
     have HTS := zh hpr.tt 
     try clear HCH
     have HCH := zh hpr.ch 
     try clear HTK
     have HTK := zh hpr.tk 
     try clear HOK
     have HOK := zh hpr.ok 
     clear Hpbp
     have Hpbp : Hid (W1_11.heap[bp]? = some (.cells #[.slice A_10 n_10 c_10, .int .i64 ((Qu.advT s y).o : Int), .int .i64 ((Qu.advT s y).e : Int)] 79 (0, 0))) := zh (hpr.row)
     clear hfc 
     refine ⟨_, rfl, ?_⟩
     simp only [Act.put, zA]
     refine zr (.bool true) W1_11 rfl ?_
     simp only [Act.put, zA]
     refine wpList_nil ?_
     obtain ⟨⟨cw, y3⟩, h0⟩ : ∃ p, Qu.condT' s (Qu.advT s y) = p := ⟨_, rfl⟩
     have HC3 := zh h0
     clear h0
     go_upto_region 6 with fail
     refine wp_region_lit ?_
     refine zr (.slice A0 i c0) W1_11 rfl ?_
     simp only [Act.put, zA]
     refine zr (.pointer (some ⟨bp, 0, none⟩)) W1_11 rfl ?_
     simp only [Act.put, zA]
     refine wpList_call (by kernel_rfl) 64 Tryd.func64 (by kernel_rfl) (by kernel_rfl) _ _ #[.pointer (some ⟨bp, 0, none⟩)] rfl (by kernel_rfl) ?_
     refine (rcond_eq s bp (Qu.advT s y) A_10 n_10 c_10 t_10 W1_11 ⟨Hpbp.out, HTS.out, HCH.out, HTK.out, HOK.out⟩ HS4.out cw y3 HC3.out).mono ?_
     rintro e W1_12 ⟨rfl, ⟨A_11, n_11, c_11, t_11, hpr⟩, hfc⟩
     have YHOW : W1_12.ownsRow w.heap.size 46 3 (.slice A0 i c0) i (fl cdC cs) := own_farC HOW.out Lpbp.out Lpbp.out hfc.toFarH
     have YHF : FarH bp bp w W1_12 := FarH.farC HF.out hfc
     have hb := farc_bel hV0 B0.out hfc
     have hbr := hb
     clear B0
     have B0 := zh hbr
     clear hbr
     clear hb
     clear HOW
     have HOW : Hid (W1_12.ownsRow w.heap.size 46 3 (.slice A0 i c0) i (fl cdC cs)) := zh YHOW
     clear YHOW
     clear HF
     have HF : Hid (FarH bp bp w W1_12) := zh YHF
     clear YHF
     have hln_11 := hpr.tt.sg.len
     have hcp_11 := hpr.tt.sg.cap
     have htp_11 := hpr.tt.sg.top
     have hps_11 := hpr.ch.pos
     try clear HTS
     have HTS := zh hpr.tt 
     try clear HCH
     have HCH := zh hpr.ch 
     try clear HTK
     have HTK := zh hpr.tk 
     try clear HOK
     have HOK := zh hpr.ok 
     clear Hpbp
     have Hpbp : Hid (W1_12.heap[bp]? = some (.cells #[.slice A_11 n_11 c_11, .int .i64 (y3.o : Int), .int .i64 (y3.e : Int)] 79 (0, 0))) := zh (hpr.row)
     clear hfc 
     refine ⟨_, rfl, ?_⟩
     simp only [Act.put, zA]
     refine wpList_mk (by kernel_rfl) ([cw].flatMap cdC).toArray 46 1 1 (xg_lit (E := cdC) (bytes := 24) (.agg #[.int .i64 0, .int .i64 0, .int .i64 0]) [.tmp 23] [cw] 1 Tryd.underlying28 (by kernel_rfl) rfl (by decide) (by decide) rfl rfl) ?_
     intro g24 V2 hge h0 hb
     have N13_0 : Hid (bp ≠ g24) := zh (xp_lt0 Hpbp.out hge)
     have Ge14 : Hid (W1_12.heap.size ≤ g24) := zh hge
     have B1 := zh hb
     have Fv15_24 : Hid (RowG cdC V2 g24 46 ([cw])) := zh (h0)
     have Lt16 : Hid (g24 < V2.heap.size) := zh (xp_lt Fv15_24.out)
     have Gw17 : Hid (w.heap.size ≤ g24) := zh (Nat.le_trans HF.out.size Ge14.out)
     clear hge h0 hb
     simp only [ptr, Act.put, zA]
     refine wpList_app2 (size := 3) (by kernel_rfl) (.tmp 21) (.tmp 24) 28 rfl (.agg #[.int .i64 0, .int .i64 0, .int .i64 0]) 24 Tryd.underlying28 (by kernel_rfl) rfl (by decide) rfl (own_keep HOW.out B1.out) (some ⟨g24, 0, none⟩) 1 1 (fl cdC ([cw])) rfl (RowG.sg (n := 1) (c := 1) Fv15_24.out (show ([cw]).length = 1 from rfl) (Nat.le_refl _) (by omega)).src (by unfold maxLen; omega) (by omega) (HF.out.keep B1.out).size ?_
     intro v25 X2_18 ho hb1 hg hloc
     have hox : X2_18.ownsRow w.heap.size 46 3 v25 (i + 1) (fl cdC (cs ++ ([cw]))) := by rw [fl_append]; exact ho
     have YHpbp : X2_18.heap[bp]? = some (.cells #[.slice A_11 n_11 c_11, .int .i64 (y3.o : Int), .int .i64 (y3.e : Int)] 79 (0, 0)) := keepB (heap_keep Hpbp.out B1.out) hb1 Lpbp.out
     have YHF : FarH bp bp w X2_18 := FarH.belowB (HF.out.keep B1.out) hb1
     have YHTS : TS X2_18 A_11 n_11 c_11 t_11 := TS.grown (HTS.out.keep B1.out) (own_keep HOW.out B1.out) hg (by decide)
     have C0_2 := zb B0 B1
     have hbV := belV hV0 C0_2.out hb1
     have hbr := hbV
     clear B0
     have B0 := zh hbr
     clear hbr
     clear hbV
     clear Hpbp
     have Hpbp : Hid (X2_18.heap[bp]? = some (.cells #[.slice A_11 n_11 c_11, .int .i64 (y3.o : Int), .int .i64 (y3.e : Int)] 79 (0, 0))) := zh YHpbp
     clear YHpbp
     clear HF
     have HF : Hid (FarH bp bp w X2_18) := zh YHF
     clear YHF
     clear HTS
     have HTS : Hid (TS X2_18 A_11 n_11 c_11 t_11) := zh YHTS
     clear YHTS
     have Ow25_19 := zh hox
     clear ho hox hb1 hg hloc
     simp only [ptr, Act.put, zA]
     refine zr (v25) X2_18 rfl ?_
     simp only [Act.put, zA]
     refine wpList_nil ?_
     obtain ⟨A20, c20, rfl⟩ := own_form Ow25_19.out
     have ow0 := Ow25_19.out
     have r0 : PR X2_18 bp s y3 _ _ _ _ := ⟨Hpbp.out, HTS.out, HCH.out, HTK.out, HOK.out⟩
     have f0 := HF.out
     have bb0 := B0.out
     have d0 : Qu.filT s x = Qu.moreT s (3 - (i + 1)) (cs ++ [cw]) y3 := by
           rw [HFD.out, show 3 - i = (3 - (i + 1)) + 1 by omega]
           conv => lhs; unfold Qu.moreT
           rw [if_pos hand, HC3.out]
     have hcl := HCL.out
     go_wp2_with fail
     go_roundw
     case rel => exact ⟨i + 1, _, _, cs ++ [cw], y3, _, _, _, _, rfl, by omega, by omega, (by rw [List.length_append, hcl]; rfl), d0, ow0, r0, f0, bb0⟩
     case measure => simp [slN]; omega
    ·go_upto_region 5 with fail
     refine wp_region_lit ?_
     refine zr (.slice A0 i c0) wo rfl ?_
     simp only [Act.put, zA]
     refine zr (.int .i64 (i : Int)) wo (xo_len A0 i c0 Tryd.underlying28 rfl rfl) ?_
     simp only [Act.put, zA]
     refine zr (.bool true) wo (xo_lssT .i64 (i : Int) 3 (by omega) rfl rfl rfl) ?_
     simp only [Act.put, zA]
     refine zr (.bool true) wo rfl ?_
     simp only [Act.put, zA]
     refine zr (.pointer (some ⟨bp, 0, none⟩)) wo rfl ?_
     simp only [Act.put, zA]
     refine wpList_call (by kernel_rfl) 45 Tryd.func45 (by kernel_rfl) (by kernel_rfl) _ _ #[.pointer (some ⟨bp, 0, none⟩), .string (sB ([97, 110, 100]))] rfl (by kernel_rfl) ?_
     refine (raccept_no s bp y A2 n2 c2 t2 wo ⟨Hpbp.out, HTS.out, HCH.out, HTK.out, HOK.out⟩ [97, 110, 100] hand).mono ?_
     rintro e W1_11 ⟨rfl, ⟨A_12, n_12, c_12, t_12, hpr⟩, hfc⟩
     have YHOW : W1_11.ownsRow w.heap.size 46 3 (.slice A0 i c0) i (fl cdC cs) := own_farC HOW.out Lpbp.out Lpbp.out hfc.toFarH
     have YHF : FarH bp bp w W1_11 := FarH.farC HF.out hfc
     have hb := farc_bel hV0 B0.out hfc
     have hbr := hb
     clear B0
     have B0 := zh hbr
     clear hbr
     clear hb
     clear HOW
     have HOW : Hid (W1_11.ownsRow w.heap.size 46 3 (.slice A0 i c0) i (fl cdC cs)) := zh YHOW
     clear YHOW
     clear HF
     have HF : Hid (FarH bp bp w W1_11) := zh YHF
     clear YHF
     have hln_12 := hpr.tt.sg.len
     have hcp_12 := hpr.tt.sg.cap
     have htp_12 := hpr.tt.sg.top
     have hps_12 := hpr.ch.pos
     try clear HTS
     have HTS := zh hpr.tt 
     try clear HCH
     have HCH := zh hpr.ch 
     try clear HTK
     have HTK := zh hpr.tk 
     try clear HOK
     have HOK := zh hpr.ok 
     clear Hpbp
     have Hpbp : Hid (W1_11.heap[bp]? = some (.cells #[.slice A_12 n_12 c_12, .int .i64 (y.o : Int), .int .i64 (y.e : Int)] 79 (0, 0))) := zh (hpr.row)
     clear hfc 
     refine ⟨_, rfl, ?_⟩
     simp only [Act.put, zA]
     refine zr (.bool false) W1_11 rfl ?_
     simp only [Act.put, zA]
     refine wpList_nil ?_
     go_upto_region 7 with fail
     refine wp_region_lit ?_
     refine zr (.slice A0 i c0) W1_11 rfl ?_
     simp only [Act.put, zA]
     refine zr (.slice A0 i c0) W1_11 rfl ?_
     simp only [Act.put, zA]
     refine wpList_nil ?_
     have HE : Hid (Qu.filT s x = (cs, y)) := zh (by
           rw [HFD.out, show 3 - i = (3 - (i + 1)) + 1 by omega]
           unfold Qu.moreT
           rw [if_neg hand])
     have how := HOW.out
     have how2 : W1_11.ownsRow w.heap.size 46 3 (.slice A0 i c0) cs.length (fl cdC cs) := by first | exact how | (rw [HCL.out]; exact how)
     clear how
     have hsf : PX W1_11 bp s (Qu.filT s x).2 := by rw [HE.out]; exact ⟨_, _, _, _, Hpbp.out, HTS.out, HCH.out, HTK.out, HOK.out⟩
     have hff := farc_mk HF.out HVW.out B0.out
     go_wp2_with fail
     go_ret
     exact ⟨_, rfl, by rw [HE.out]; exact how2, hsf, hff⟩
   ·have ei3 : i = 3 := by omega
    subst ei3
    have hci10 : ¬ (3 < 3) := by omega
    go_upto_region 5 with fail
    refine wp_region_lit ?_
    refine zr (.slice A0 3 c0) wo rfl ?_
    simp only [Act.put, zA]
    refine zr (.int .i64 3) wo (xo_len A0 3 c0 Tryd.underlying28 rfl rfl) ?_
    simp only [Act.put, zA]
    refine zr (.bool false) wo (xo_lssF .i64 3 3 (by omega) rfl rfl rfl) ?_
    simp only [Act.put, zA]
    refine zr (.bool false) wo rfl ?_
    simp only [Act.put, zA]
    refine zl ?_
    try simp only [Act.put, zA]
    refine zl ?_
    try simp only [Act.put, zA]
    refine zr (.bool false) wo rfl ?_
    simp only [Act.put, zA]
    refine wpList_nil ?_
    go_upto_region 7 with fail
    refine wp_region_lit ?_
    refine zr (.slice A0 3 c0) wo rfl ?_
    simp only [Act.put, zA]
    refine zr (.slice A0 3 c0) wo rfl ?_
    simp only [Act.put, zA]
    refine wpList_nil ?_
    have HE : Hid (Qu.filT s x = (cs, y)) := zh (HFD.out.trans rfl)
    have HL3 := HCL.out
    have how := HOW.out
    have how2 : wo.ownsRow w.heap.size 46 3 (.slice A0 3 c0) cs.length (fl cdC cs) := by first | exact how | (rw [HCL.out]; exact how)
    clear how
    have hsf : PX wo bp s (Qu.filT s x).2 := by rw [HE.out]; exact ⟨_, _, _, _, Hpbp.out, HTS.out, HCH.out, HTK.out, HOK.out⟩
    have hff := farc_mk HF.out HVW.out B0.out
    go_wp2_with fail
    go_ret
    exact ⟨_, rfl, by rw [HE.out]; exact how2, hsf, hff⟩
 ·go_upto_region 2 with fail
  refine wp_region_lit ?_
  refine zr (.pointer (some ⟨bp, 0, none⟩)) V2 rfl ?_
  simp only [Act.put, zA]
  refine wpList_call (by kernel_rfl) 45 Tryd.func45 (by kernel_rfl) (by kernel_rfl) _ _ #[.pointer (some ⟨bp, 0, none⟩), .string (sB ([119, 104, 101, 114, 101]))] rfl (by kernel_rfl) ?_
  refine (raccept_no s bp x A n c ts V2 ⟨(heap_keep Hpbp.out B1.out), (HTS.out.keep B1.out), HCH.out, HTK.out, HOK.out⟩ Qu.whereN ha).mono ?_
  rintro e W2_0 ⟨rfl, ⟨A_13, n_13, c_13, t_13, hpr⟩, hfc⟩
  have YOw4 : W2_0.ownsRow w.heap.size 46 3 (.slice (some ⟨g4, 0, none⟩) 0 0) 0 (fl cdC ([])) := own_farC Ow4.out Lpbp.out Lpbp.out hfc.toFarH
  have YHF : FarH bp bp w W2_0 := FarH.farC (HF.out.keep B1.out) hfc
  have C0_2 := zb B0 B1
  have hb := farc_bel hV0 C0_2.out hfc
  have hbr := hb
  clear B0
  have B0 := zh hbr
  clear hbr
  clear hb
  clear Ow4
  have Ow4 : Hid (W2_0.ownsRow w.heap.size 46 3 (.slice (some ⟨g4, 0, none⟩) 0 0) 0 (fl cdC ([]))) := zh YOw4
  clear YOw4
  clear HF
  have HF : Hid (FarH bp bp w W2_0) := zh YHF
  clear YHF
  have hln_13 := hpr.tt.sg.len
  have hcp_13 := hpr.tt.sg.cap
  have htp_13 := hpr.tt.sg.top
  have hps_13 := hpr.ch.pos
  try clear HTS
  have HTS := zh hpr.tt 
  try clear HCH
  have HCH := zh hpr.ch 
  try clear HTK
  have HTK := zh hpr.tk 
  try clear HOK
  have HOK := zh hpr.ok 
  clear Hpbp
  have Hpbp : Hid (W2_0.heap[bp]? = some (.cells #[.slice A_13 n_13 c_13, .int .i64 (x.o : Int), .int .i64 (x.e : Int)] 79 (0, 0))) := zh (hpr.row)
  clear hfc 
  refine ⟨_, rfl, ?_⟩
  simp only [Act.put, zA]
  refine zr (.bool true) W2_0 rfl ?_
  simp only [Act.put, zA]
  refine wpList_nil ?_
  go_upto_region 3 with fail
  refine wp_region_lit ?_
  refine zr (.slice (some ⟨g4, 0, none⟩) 0 0) W2_0 rfl ?_
  simp only [Act.put, zA]
  refine zr (.slice (some ⟨g4, 0, none⟩) 0 0) W2_0 rfl ?_
  simp only [Act.put, zA]
  refine wpList_nil ?_
  have HE : Hid (Qu.filT s x = ([], x)) := zh (by unfold Qu.filT; rw [if_neg ha])
  have how := Ow4.out
  have how2 : W2_0.ownsRow w.heap.size 46 3 (.slice (some ⟨g4, 0, none⟩) 0 0) ([] : List Qu.Cd).length (fl cdC ([] : List Qu.Cd)) := by first | exact how | (rw [HCL.out]; exact how)
  clear how
  have hsf : PX W2_0 bp s (Qu.filT s x).2 := by rw [HE.out]; exact ⟨_, _, _, _, Hpbp.out, HTS.out, HCH.out, HTK.out, HOK.out⟩
  have hff := farc_mk HF.out HVW.out B0.out
  go_wp2_with fail
  go_ret
  exact ⟨_, rfl, by rw [HE.out]; exact how2, hsf, hff⟩
theorem rfilter_eq (s : List UInt8) (bp : Nat) (x : Qu.X) (A : Option Addr) (n c : Nat) (ts : List Qu.RT) (w : World) (hP : PR w bp s x A n c ts) (hs4 : s.length ≤ 1000) (l : List Qu.Cd) (y : Qu.X) (h : Qu.filT s x = (l, y)) :
  Calls Tryd.prog 49 #[.pointer (some ⟨bp, 0, none⟩)] w fun e w' => ∃ v, e = .returned v ∧ w'.ownsRow w.heap.size 46 3 v l.length (fl cdC l) ∧ PX w' bp s y ∧ FarC bp bp w w' := by
 have h0 := rfilter_st s bp x A n c ts w hP hs4
 rw [h] at h0
 exact h0
end Go.Proofs.YtlicfidcfhbmpaaDoor

