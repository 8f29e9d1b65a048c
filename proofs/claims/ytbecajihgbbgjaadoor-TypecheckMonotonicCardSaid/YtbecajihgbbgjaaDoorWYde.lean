/- Stage 14: law TypecheckMonotonic. -/
import Derived.Test.YtbecajihgbbgjaaDoorG12
namespace Go.Proofs.YtbecajihgbbgjaaDoor
set_option linter.unusedVariables false
set_option linter.unusedSimpArgs false
set_option linter.unusedSectionVars false
set_option maxRecDepth 8000
open Go.RowKit Go.Proofs.YtbecajihgbbgjaaDoor.K
attribute [local irreducible] wpList wpQuiet
set_option maxRecDepth 100000 in
set_option maxHeartbeats 64000000 in
theorem tMono_any (kind col k : Int) (A : Option Addr) (n c : Nat) (hs : List Hd) (fs : List (List Qu.Ci)) (x1 y1 : Nat) (hx1 : x1 < 65536) (hy1 : y1 < 65536) (ea eb ec : Int) (w : World) (hG : Gw5 w) (hC : Gc w) (hF : FsR w A n c hs fs) :
  Calls Tryd.prog 6 #[.agg #[.int .i64 kind, .int .i64 col, .int .i64 k, .slice A n c], .agg #[.int .u16 (x1 : Int), .int .u16 (y1 : Int)], .agg #[.int .i64 ea, .int .i64 eb, .int .i64 ec]] w fun e w' => e = .returned (.bool true) ∧ Below w.heap.size w w' := by
 have HFR := zh hF
 have HG := zh hG
 have HGC := zh hC
 have hln := hF.sg.len
 have hlc := hF.sg.cap
 have hlt := hF.sg.top
 clear hF hG hC
 obtain ⟨⟨kd, cl, kk, qf⟩, hq0⟩ : ∃ q, Ty.evQ (mdQ kind col k fs) = q := ⟨_, rfl⟩
 have HOK : Hid (OkQ ⟨kd, cl, kk, qf⟩) := zh (by rw [← hq0]; exact evQ_ok (mdQ_ok kind col k fs))
 have hev : ¬ (4 ≤ kd ∧ kd ≤ 6 ∧ cl % 2 = 1) := by have h := evQ_even (mdQ kind col k fs); rw [hq0] at h; exact h
 have HQ0 := zh hq0
 clear hq0
 have hk1 : 1 ≤ kd := HOK.out.k1
 have hk7 : kd ≤ 7 := HOK.out.k7
 have hcl : cl < 4 := okQ_col HOK.out
 have hkk : kk ≤ 65536 := okQ_k HOK.out
 have HNF : Hid (qf.length = Qu.numF kd) := zh HOK.out.nf
 have hnf1 : 0 < qf.length := by rw [HNF.out]; unfold Qu.numF; split <;> decide
 obtain ⟨⟨dc, dl, dh⟩, hd⟩ : ∃ d, Qu.mdC ⟨ea, eb, ec⟩ = d := ⟨_, rfl⟩
 have hdo := Qu.mdC_ok ⟨ea, eb, ec⟩
 rw [hd] at hdo
 have HDO : Hid (OkC ⟨dc, dl, dh⟩) := zh hdo
 have HD := zh hd
 clear hd hdo
 obtain ⟨mm, hmm⟩ : ∃ z, x1 % 1000 = z := ⟨_, rfl⟩
 have HMM := zh hmm
 clear hmm
 obtain ⟨md, hmd⟩ : ∃ z, y1 % 1000 = z := ⟨_, rfl⟩
 have HMD := zh hmd
 clear hmd
 have hmm : mm < 1000 := by rw [← HMM.out]; exact Nat.mod_lt _ (by decide)
 have hmd : md < 1000 := by rw [← HMD.out]; exact Nat.mod_lt _ (by decide)
 obtain ⟨nn, hnn⟩ : ∃ z, mm + md = z := ⟨_, rfl⟩
 have HNN := zh hnn
 clear hnn
 have hnn : mm ≤ nn ∧ nn < 2000 := by rw [← HNN.out]; omega
 obtain ⟨hnn1, hnn2⟩ := hnn
 obtain ⟨l0, hl0⟩ : ∃ l, qf[0]? = some l := ⟨_, List.getElem?_eq_getElem hnf1⟩
 have HL0 := zh hl0
 have HOL := zh (HOK.out.ok l0 (List.mem_of_getElem? hl0))
 clear hl0
 obtain ⟨sm, hsm⟩ : ∃ z, Ty.suN kd = z := ⟨_, rfl⟩
 have HSM := zh hsm
 clear hsm
 have hsm : sm ≤ 32 := by rw [← HSM.out]; exact Ty.su_le kd
 obtain ⟨⟨xsa, coa⟩, hck⟩ : ∃ r, Ty.ckN ⟨kd, cl, kk, qf⟩ mm = r := ⟨_, rfl⟩
 have HCKa := zh hck
 clear hck
 obtain ⟨rla, hrl⟩ : ∃ z, (Ty.zs xsa).length = z := ⟨_, rfl⟩
 have HRLa := zh hrl
 have HRXa : Hid (xsa.length = rla) := zh (by rw [← hrl, Ty.zs_len])
 have hr32a : rla ≤ 32 := by rw [← HRXa.out]; exact Ty.ck_len HCKa.out
 clear hrl
 obtain ⟨⟨xsn, con⟩, hck⟩ : ∃ r, Ty.ckN ⟨kd, cl, kk, qf⟩ nn = r := ⟨_, rfl⟩
 have HCKn := zh hck
 clear hck
 obtain ⟨rln, hrl⟩ : ∃ z, (Ty.zs xsn).length = z := ⟨_, rfl⟩
 have HRLn := zh hrl
 have HRXn : Hid (xsn.length = rln) := zh (by rw [← hrl, Ty.zs_len])
 have hr32n : rln ≤ 32 := by rw [← HRXn.out]; exact Ty.ck_len HCKn.out
 clear hrl
 have hfa := Ty.ck_facts (q := ⟨kd, cl, kk, qf⟩) hev HCKa.out
 rw [show (⟨kd, cl, kk, qf⟩ : Qu.Qy).kind = kd from rfl, HSM.out, HRXa.out] at hfa
 have HFa := zh hfa
 have hcoa := hfa.1
 clear hfa
 have hfn := Ty.ck_facts (q := ⟨kd, cl, kk, qf⟩) hev HCKn.out
 rw [show (⟨kd, cl, kk, qf⟩ : Qu.Qy).kind = kd from rfl, HSM.out, HRXn.out] at hfn
 have HFn := zh hfn
 have hcon := hfn.1
 clear hfn
 have hnf2 : qf.length ≤ 2 := by rw [HNF.out]; unfold Qu.numF; split <;> decide
 have HMN := zh (Ty.ck_mono (q := ⟨kd, cl, kk, qf⟩) hev hnn1 HCKa.out HCKn.out)
 go_enter Tryd.func6, Tryd.ntmps6
 go_upto_region 1 with fail
 refine wp_named3 (fun V1 hb g0 g1 g2 hlt => ?_)
 have B0 := zh hb
 have Fv0_3 : Hid (V1.heap[w.heap.size]? = some (.cells #[.int .i64 kind, .int .i64 col, .int .i64 k, .slice A n c] 24 (0, 0))) := zh (g0)
 have Fv1_4 : Hid (V1.heap[(w.heap.size + 1)]? = some (.cells #[.int .u16 (x1 : Int), .int .u16 (y1 : Int)] 47 (0, 0))) := zh (g1)
 have Fv2_5 : Hid (V1.heap[(w.heap.size + 1 + 1)]? = some (.cells #[.int .i64 ea, .int .i64 eb, .int .i64 ec] 49 (0, 0))) := zh (g2)
 have Nb0_1 : Hid (w.heap.size ≠ (w.heap.size + 1)) := zh (by omega)
 have Nb0_2 : Hid (w.heap.size ≠ (w.heap.size + 1 + 1)) := zh (by omega)
 have Nb1_2 : Hid ((w.heap.size + 1) ≠ (w.heap.size + 1 + 1)) := zh (by omega)
 have Gb0 : Hid (w.heap.size ≤ w.heap.size) := zh (by omega)
 have Gb1 : Hid (w.heap.size ≤ (w.heap.size + 1)) := zh (by omega)
 have Gb2 : Hid (w.heap.size ≤ (w.heap.size + 1 + 1)) := zh (by omega)
 clear hb g0 g1 g2 hlt
 have Lt0 : Hid (w.heap.size < V1.heap.size) := zh (xp_lt Fv0_3.out)
 have Lt1 : Hid ((w.heap.size + 1) < V1.heap.size) := zh (xp_lt Fv1_4.out)
 have Lt2 : Hid ((w.heap.size + 1 + 1) < V1.heap.size) := zh (xp_lt Fv2_5.out)
 refine wp_region_lit ?_
 refine wpList_call (by kernel_rfl) 10 Tryd.func10 (by kernel_rfl) (by kernel_rfl) _ _ #[] rfl (by kernel_rfl) ?_
 refine (sanity14_as V1 (HG.out.keep B0.out) (HGC.out.keep B0.out)).mono ?_
 rintro e V2 ⟨rfl, hb⟩
 have B1 := zh hb
 clear hb 
 refine ⟨_, rfl, ?_⟩
 simp only [Act.put, zA]
 refine zr (.bool true) V2 rfl ?_
 simp only [Act.put, zA]
 refine wpList_nil ?_
 go_upto_region 2 with fail
 refine wp_region_lit ?_
 refine zr (.agg #[.int .i64 kind, .int .i64 col, .int .i64 k, .slice A n c]) V2 (xo_loadW w.heap.size _ (heap_keep Fv0_3.out B1.out) Tryd.underlying24 rfl (by kernel_rfl) rfl rfl) ?_
 simp only [Act.put, zA]
 have C0_2 := zb B0 B1
 refine wpList_call (by kernel_rfl) 19 Tryd.func19 (by kernel_rfl) (by kernel_rfl) _ _ #[.agg #[.int .i64 kind, .int .i64 col, .int .i64 k, .slice A n c]] rfl (by kernel_rfl) ?_
 refine (made14_as kind col k A n c hs fs ⟨kd, cl, kk, qf⟩ HQ0.out V2 (HFR.out.keep C0_2.out)).mono ?_
 rintro e V3 ⟨A2, n2, c2, rfl, hfo0, hb⟩
 have B2 := zh hb
 have hn2 := (FsOwn.fsR hfo0).1
 subst hn2
 have hfo : FsOwn _ w.heap.size (.slice A2 qf.length c2) qf := FsOwn.mono hfo0 C0_2.out.size
 clear hfo0
 have HFO := zh hfo
 clear hb hfo
 refine ⟨_, rfl, ?_⟩
 simp only [Act.put, zA]
 refine wpList_new #[.int .i64 0, .int .i64 0, .int .i64 0, .slice none 0 0] 24 (by kernel_rfl) (xo_alloc #[.int .i64 0, .int .i64 0, .int .i64 0, .slice none 0 0] (by kernel_rfl) rfl) ?_
 intro b8 V4 hge h0 hb
 have C1_3 := zb B1 B2
 have N3_0 : Hid (w.heap.size ≠ b8) := zh (xp_lt0 (heap_keep Fv0_3.out C1_3.out) hge)
 have N4_1 : Hid ((w.heap.size + 1) ≠ b8) := zh (xp_lt0 (heap_keep Fv1_4.out C1_3.out) hge)
 have N5_2 : Hid ((w.heap.size + 1 + 1) ≠ b8) := zh (xp_lt0 (heap_keep Fv2_5.out C1_3.out) hge)
 have Ge6 : Hid (V3.heap.size ≤ b8) := zh hge
 have B3 := zh hb
 have Fv7_8 : Hid (V4.heap[b8]? = some (.cells #[.int .i64 0, .int .i64 0, .int .i64 0, .slice none 0 0] 24 (0, 0))) := zh (h0)
 have Lt8 : Hid (b8 < V4.heap.size) := zh (xp_lt Fv7_8.out)
 clear hge h0 hb
 simp only [ptr, Act.put, zA]
 refine wpList_storeW b8 #[.int .i64 0, .int .i64 0, .int .i64 0, .slice none 0 0] #[.int .i64 (kd : Int), .int .i64 (cl : Int), .int .i64 (kk : Int), .slice A2 qf.length c2] 24 (by kernel_rfl) Fv7_8.out (xo_storeW b8 #[.int .i64 0, .int .i64 0, .int .i64 0, .slice none 0 0] #[.int .i64 (kd : Int), .int .i64 (cl : Int), .int .i64 (kk : Int), .slice A2 qf.length c2] Fv7_8.out (by kernel_rfl) rfl (by simp [Value.oneCell']) rfl rfl rfl) ?_
 intro X4_9 h1 hfar hbel hsz
 have hbr := hbel _ _ Ge6.out B3.out
 clear B3
 have B3 := zh hbr
 clear hbr
 clear Fv7_8
 have Fv7_8 : Hid (X4_9.heap[b8]? = some (.cells #[.int .i64 (kd : Int), .int .i64 (cl : Int), .int .i64 (kk : Int), .slice A2 qf.length c2] 24 (0, 0))) := zh (h1)
 have HszX4_9 := zh hsz
 clear h1 hfar hbel hsz
 simp only [ptr, Act.put, zA]
 refine wpList_nil ?_
 obtain ⟨g2, cur, hs2, rfl, hge2, hrow, hcur, hoc⟩ := FsOwn.raw (HFO.out.keep B3.out) hnf1
 clear HFO
 have Fg2 : Hid (X4_9.heap[g2]? = some (.cells cur 44 (0, 0))) := zh hrow
 have Gg2 := zh hge2
 have HCU := zh hcur
 have HOC : Hid (OwnsC X4_9 49 w.heap.size hs2 qf) := zh hoc
 obtain ⟨h0, hh0⟩ : ∃ h, hs2[0]? = some h := ⟨_, List.getElem?_eq_getElem (by rw [hcur.len]; exact hnf1)⟩
 obtain ⟨hA, hp, hcp⟩ := h0
 have hpl : l0.length = hp := (hoc.row 0 ⟨hA, hp, hcp⟩ l0 hh0 HL0.out).1
 have hsg0 := hoc.sgi hh0 HL0.out
 have hcp2 : hp ≤ hcp := hsg0.cap
 have hcp3 : hcp ≤ 9223372036854775807 := hsg0.top
 have hp3 : hp ≤ 3 := by rw [← hpl]; exact HOL.out.1
 have HPL := zh hpl
 have HH0 := zh hh0
 have hc2 := hcur.cap
 have ht2 := hcur.top
 clear hrow hge2 hcur hoc hpl hsg0 hh0
 have C1_4 := zb C1_3 B3
 have Ng2_0 : Hid (w.heap.size ≠ g2) := zh (ne_types (heap_keep Fv0_3.out C1_4.out) Fg2.out (by decide))
 have Ng2_1 : Hid ((w.heap.size + 1) ≠ g2) := zh (ne_types (heap_keep Fv1_4.out C1_4.out) Fg2.out (by decide))
 have Ng2_2 : Hid ((w.heap.size + 1 + 1) ≠ g2) := zh (ne_types (heap_keep Fv2_5.out C1_4.out) Fg2.out (by decide))
 have Ng2_3 : Hid (b8 ≠ g2) := zh (ne_types Fv7_8.out Fg2.out (by decide))
 go_upto_region 3 with fail
 refine wp_region_lit ?_
 refine zr (.pointer (some ⟨(w.heap.size + 1), 0, none⟩)) X4_9 (by unfold execOp; go_simp) ?_
 simp only [Act.put, zA]
 refine zr (.int .u16 (x1 : Int)) X4_9 (xo_load1 ⟨(w.heap.size + 1), 0, none⟩ _ (cells_at (heap_keep Fv1_4.out C1_4.out) 0 rfl) Tryd.underlying25 rfl rfl rfl) ?_
 simp only [Act.put, zA]
 refine zr (.int .u16 (mm : Int)) X4_9 (xo_remN .u16 x1 1000 mm (by omega) HMM.out rfl rfl rfl) ?_
 simp only [Act.put, zA]
 refine zr (.int .i64 (mm : Int)) X4_9 (xo_cvt .u16 .i64 (mm : Int) (mm : Int) (by rw [IntKind.wrap_i64]; omega) Tryd.underlying3 Tryd.underlying25 rfl rfl) ?_
 simp only [Act.put, zA]
 refine zr (.int .i64 (mm : Int)) X4_9 rfl ?_
 simp only [Act.put, zA]
 refine wpList_nil ?_
 go_upto_region 4 with fail
 refine wp_region_lit ?_
 refine zr (.int .i64 (mm : Int)) X4_9 rfl ?_
 simp only [Act.put, zA]
 refine zr (.pointer (some ⟨(w.heap.size + 1), 1, none⟩)) X4_9 (by unfold execOp; go_simp) ?_
 simp only [Act.put, zA]
 refine zr (.int .u16 (y1 : Int)) X4_9 (xo_load1 ⟨(w.heap.size + 1), 1, none⟩ _ (cells_at (heap_keep Fv1_4.out C1_4.out) 1 rfl) Tryd.underlying25 rfl rfl rfl) ?_
 simp only [Act.put, zA]
 refine zr (.int .u16 (md : Int)) X4_9 (xo_remN .u16 y1 1000 md (by omega) HMD.out rfl rfl rfl) ?_
 simp only [Act.put, zA]
 refine zr (.int .i64 (md : Int)) X4_9 (xo_cvt .u16 .i64 (md : Int) (md : Int) (by rw [IntKind.wrap_i64]; omega) Tryd.underlying3 Tryd.underlying25 rfl rfl) ?_
 simp only [Act.put, zA]
 refine zr (.int .i64 (nn : Int)) X4_9 (xo_addI (mm : Int) (md : Int) (nn : Int) (by rw [← HNN.out]; exact Int.natCast_add mm md) (by omega) (by omega) rfl rfl rfl) ?_
 simp only [Act.put, zA]
 refine zr (.int .i64 (nn : Int)) X4_9 rfl ?_
 simp only [Act.put, zA]
 refine wpList_nil ?_
 go_upto_region 5 with fail
 refine wp_region_lit ?_
 refine zr (.agg #[.int .i64 (kd : Int), .int .i64 (cl : Int), .int .i64 (kk : Int), .slice (some ⟨g2, 0, none⟩) qf.length c2]) X4_9 (xo_loadW b8 _ Fv7_8.out Tryd.underlying24 rfl (by kernel_rfl) rfl rfl) ?_
 simp only [Act.put, zA]
 refine zr (.int .i64 (mm : Int)) X4_9 rfl ?_
 simp only [Act.put, zA]
 have C0_3 := zb C0_2 B2
 have C0_4 := zb C0_3 B3
 refine wpList_call (by kernel_rfl) 11 Tryd.func11 (by kernel_rfl) (by kernel_rfl) _ _ #[.agg #[.int .i64 (kd : Int), .int .i64 (cl : Int), .int .i64 (kk : Int), .slice (some ⟨g2, 0, none⟩) qf.length c2], .int .i64 (mm : Int)] rfl (by kernel_rfl) ?_
 refine (check_own kd cl kk (some ⟨g2, 0, none⟩) qf.length c2 hs2 qf HOK.out mm (by omega) (xsa, coa) HCKa.out X4_9 (fsr_raw Fg2.out HCU.out HOC.out) (HG.out.keep C0_4.out) (HGC.out.keep C0_4.out)).mono ?_
 rintro e V5 ⟨Aa, na, ca, rfl, how, hb⟩
 have B4 := zh hb
 obtain rfl : rla = na := (HRLa.out).symm.trans how.sg.len
 have OWa := zh how
 clear hb how
 refine ⟨_, rfl, ?_⟩
 simp only [Act.put, zA]
 refine zr (.tuple #[.agg #[.slice Aa rla ca], .int .i64 (coa : Int)]) V5 rfl ?_
 simp only [Act.put, zA]
 refine zr (.agg #[.slice Aa rla ca]) V5 rfl ?_
 simp only [Act.put, zA]
 refine zr (.int .i64 (coa : Int)) V5 rfl ?_
 simp only [Act.put, zA]
 refine wpList_new #[.slice none 0 0] 29 (by kernel_rfl) (xo_alloc #[.slice none 0 0] (by kernel_rfl) rfl) ?_
 intro b11 V6 hge h0 hb
 have C1_5 := zb C1_4 B4
 have N10_0 : Hid (w.heap.size ≠ b11) := zh (xp_lt0 (heap_keep Fv0_3.out C1_5.out) hge)
 have N11_1 : Hid ((w.heap.size + 1) ≠ b11) := zh (xp_lt0 (heap_keep Fv1_4.out C1_5.out) hge)
 have N12_2 : Hid ((w.heap.size + 1 + 1) ≠ b11) := zh (xp_lt0 (heap_keep Fv2_5.out C1_5.out) hge)
 have N13_3 : Hid (b8 ≠ b11) := zh (xp_lt0 (heap_keep Fv7_8.out B4.out) hge)
 have N14_4 : Hid (g2 ≠ b11) := zh (xp_lt0 (heap_keep Fg2.out B4.out) hge)
 have Ge15 : Hid (V5.heap.size ≤ b11) := zh hge
 have B5 := zh hb
 have Fv16_11 : Hid (V6.heap[b11]? = some (.cells #[.slice none 0 0] 29 (0, 0))) := zh (h0)
 have Lt17 : Hid (b11 < V6.heap.size) := zh (xp_lt Fv16_11.out)
 clear hge h0 hb
 simp only [ptr, Act.put, zA]
 refine wpList_storeW b11 #[.slice none 0 0] #[.slice Aa rla ca] 29 (by kernel_rfl) Fv16_11.out (xo_storeW b11 #[.slice none 0 0] #[.slice Aa rla ca] Fv16_11.out (by kernel_rfl) rfl (by simp [Value.oneCell']) rfl rfl rfl) ?_
 intro X6_18 h1 hfar hbel hsz
 have hbr := hbel _ _ Ge15.out B5.out
 clear B5
 have B5 := zh hbr
 clear hbr
 clear Fv16_11
 have Fv16_11 : Hid (X6_18.heap[b11]? = some (.cells #[.slice Aa rla ca] 29 (0, 0))) := zh (h1)
 have HszX6_18 := zh hsz
 clear h1 hfar hbel hsz
 simp only [ptr, Act.put, zA]
 refine zr (.int .i64 (coa : Int)) X6_18 rfl ?_
 simp only [Act.put, zA]
 refine wpList_nil ?_
 go_upto_region 6 with fail
 refine wp_region_lit ?_
 have C4_6 := zb B4 B5
 refine zr (.agg #[.int .i64 (kd : Int), .int .i64 (cl : Int), .int .i64 (kk : Int), .slice (some ⟨g2, 0, none⟩) qf.length c2]) X6_18 (xo_loadW b8 _ (heap_keep Fv7_8.out C4_6.out) Tryd.underlying24 rfl (by kernel_rfl) rfl rfl) ?_
 simp only [Act.put, zA]
 refine zr (.int .i64 (nn : Int)) X6_18 rfl ?_
 simp only [Act.put, zA]
 have C0_5 := zb C0_4 B4
 have C0_6 := zb C0_5 B5
 refine wpList_call (by kernel_rfl) 11 Tryd.func11 (by kernel_rfl) (by kernel_rfl) _ _ #[.agg #[.int .i64 (kd : Int), .int .i64 (cl : Int), .int .i64 (kk : Int), .slice (some ⟨g2, 0, none⟩) qf.length c2], .int .i64 (nn : Int)] rfl (by kernel_rfl) ?_
 refine (check_own kd cl kk (some ⟨g2, 0, none⟩) qf.length c2 hs2 qf HOK.out nn (by omega) (xsn, con) HCKn.out X6_18 (fsr_raw (heap_keep Fg2.out C4_6.out) HCU.out (HOC.out.keep C4_6.out)) (HG.out.keep C0_6.out) (HGC.out.keep C0_6.out)).mono ?_
 rintro e V7 ⟨An, nn, cn, rfl, how, hb⟩
 have B6 := zh hb
 obtain rfl : rln = nn := (HRLn.out).symm.trans how.sg.len
 have OWn := zh how
 clear hb how
 refine ⟨_, rfl, ?_⟩
 simp only [Act.put, zA]
 refine zr (.tuple #[.agg #[.slice An rln cn], .int .i64 (con : Int)]) V7 rfl ?_
 simp only [Act.put, zA]
 refine zr (.agg #[.slice An rln cn]) V7 rfl ?_
 simp only [Act.put, zA]
 refine zr (.int .i64 (con : Int)) V7 rfl ?_
 simp only [Act.put, zA]
 refine wpList_new #[.slice none 0 0] 29 (by kernel_rfl) (xo_alloc #[.slice none 0 0] (by kernel_rfl) rfl) ?_
 intro b13 V8 hge h0 hb
 have C1_6 := zb C1_5 B5
 have C1_7 := zb C1_6 B6
 have N19_0 : Hid (w.heap.size ≠ b13) := zh (xp_lt0 (heap_keep Fv0_3.out C1_7.out) hge)
 have N20_1 : Hid ((w.heap.size + 1) ≠ b13) := zh (xp_lt0 (heap_keep Fv1_4.out C1_7.out) hge)
 have N21_2 : Hid ((w.heap.size + 1 + 1) ≠ b13) := zh (xp_lt0 (heap_keep Fv2_5.out C1_7.out) hge)
 have C4_7 := zb C4_6 B6
 have N22_3 : Hid (b8 ≠ b13) := zh (xp_lt0 (heap_keep Fv7_8.out C4_7.out) hge)
 have N23_4 : Hid (g2 ≠ b13) := zh (xp_lt0 (heap_keep Fg2.out C4_7.out) hge)
 have N24_5 : Hid (b11 ≠ b13) := zh (xp_lt0 (heap_keep Fv16_11.out B6.out) hge)
 have Ge25 : Hid (V7.heap.size ≤ b13) := zh hge
 have B7 := zh hb
 have Fv26_13 : Hid (V8.heap[b13]? = some (.cells #[.slice none 0 0] 29 (0, 0))) := zh (h0)
 have Lt27 : Hid (b13 < V8.heap.size) := zh (xp_lt Fv26_13.out)
 clear hge h0 hb
 simp only [ptr, Act.put, zA]
 refine wpList_storeW b13 #[.slice none 0 0] #[.slice An rln cn] 29 (by kernel_rfl) Fv26_13.out (xo_storeW b13 #[.slice none 0 0] #[.slice An rln cn] Fv26_13.out (by kernel_rfl) rfl (by simp [Value.oneCell']) rfl rfl rfl) ?_
 intro X8_28 h1 hfar hbel hsz
 have hbr := hbel _ _ Ge25.out B7.out
 clear B7
 have B7 := zh hbr
 clear hbr
 clear Fv26_13
 have Fv26_13 : Hid (X8_28.heap[b13]? = some (.cells #[.slice An rln cn] 29 (0, 0))) := zh (h1)
 have HszX8_28 := zh hsz
 clear h1 hfar hbel hsz
 simp only [ptr, Act.put, zA]
 refine zr (.int .i64 (con : Int)) X8_28 rfl ?_
 simp only [Act.put, zA]
 refine wpList_nil ?_
 have Gr29 : Hid (w.heap.size ≤ b8) := zh (Nat.le_trans C0_3.out.size Ge6.out)
 have Gr30 : Hid (w.heap.size ≤ b11) := zh (Nat.le_trans C0_5.out.size Ge15.out)
 have C0_7 := zb C0_6 B6
 have Gr31 : Hid (w.heap.size ≤ b13) := zh (Nat.le_trans C0_7.out.size Ge25.out)
 go_upto_region 7 with fail
 go_cut [67] from 46 to 67 (fun s67 wx => s67 = .bool false ∧ OwnsC wx 49 w.heap.size hs2 qf ∧ OwZ wx Aa rla ca (Ty.zs xsa) ∧ OwZ wx An rln cn (Ty.zs xsn) ∧ wx.heap[w.heap.size]? = some (.cells #[.int .i64 kind, .int .i64 col, .int .i64 k, .slice A n c] 24 (0, 0)) ∧ wx.heap[(w.heap.size + 1)]? = some (.cells #[.int .u16 (x1 : Int), .int .u16 (y1 : Int)] 47 (0, 0)) ∧ wx.heap[(w.heap.size + 1 + 1)]? = some (.cells #[.int .i64 ea, .int .i64 eb, .int .i64 ec] 49 (0, 0)) ∧ wx.heap[b8]? = some (.cells #[.int .i64 (kd : Int), .int .i64 (cl : Int), .int .i64 (kk : Int), .slice (some ⟨g2, 0, none⟩) qf.length c2] 24 (0, 0)) ∧ wx.heap[b11]? = some (.cells #[.slice Aa rla ca] 29 (0, 0)) ∧ wx.heap[b13]? = some (.cells #[.slice An rln cn] 29 (0, 0)) ∧ wx.heap[g2]? = some (.cells cur 44 (0, 0)) ∧ Below w.heap.size w wx)
 case first =>
  by_cases hcn0 : con = 0
  ·have hca : coa = 0 := HMN.out hcn0
   have hci32 : ((con : Int) = 0) := by omega
   have hci33 : ¬ ((coa : Int) ≠ 0) := by omega
   have hci34 : ¬ ((con : Int) ≠ 0) := by omega
   refine wp_region_lit ?_
   refine zr (.int .i64 (con : Int)) X8_28 rfl ?_
   simp only [Act.put, zA]
   refine zr (.bool true) X8_28 (xo_eqlT .i64 (con : Int) 0 (by omega) rfl rfl rfl) ?_
   simp only [Act.put, zA]
   refine zr (.bool true) X8_28 rfl ?_
   simp only [Act.put, zA]
   refine zr (.int .i64 (coa : Int)) X8_28 rfl ?_
   simp only [Act.put, zA]
   refine zr (.bool false) X8_28 (xo_neqF .i64 (coa : Int) 0 (by omega) rfl rfl rfl) ?_
   simp only [Act.put, zA]
   refine zr (.bool false) X8_28 rfl ?_
   simp only [Act.put, zA]
   refine zr (.bool false) X8_28 rfl ?_
   simp only [Act.put, zA]
   refine zr (.int .i64 (coa : Int)) X8_28 rfl ?_
   simp only [Act.put, zA]
   refine zr (.bool false) X8_28 (xo_neqF .i64 (coa : Int) 0 (by omega) rfl rfl rfl) ?_
   simp only [Act.put, zA]
   refine zr (.bool false) X8_28 rfl ?_
   simp only [Act.put, zA]
   refine zl ?_
   try simp only [Act.put, zA]
   refine zl ?_
   try simp only [Act.put, zA]
   refine zr (.bool false) X8_28 rfl ?_
   simp only [Act.put, zA]
   refine zr (.bool false) X8_28 rfl ?_
   simp only [Act.put, zA]
   refine zr (.bool false) X8_28 rfl ?_
   simp only [Act.put, zA]
   refine zr (.int .i64 (con : Int)) X8_28 rfl ?_
   simp only [Act.put, zA]
   refine zr (.bool false) X8_28 (xo_neqF .i64 (con : Int) 0 (by omega) rfl rfl rfl) ?_
   simp only [Act.put, zA]
   refine zr (.bool false) X8_28 rfl ?_
   simp only [Act.put, zA]
   refine zl ?_
   try simp only [Act.put, zA]
   refine zl ?_
   try simp only [Act.put, zA]
   refine zr (.bool false) X8_28 rfl ?_
   simp only [Act.put, zA]
   refine zr (.bool false) X8_28 rfl ?_
   simp only [Act.put, zA]
   refine wpList_nil ?_
   try clear hca
   try clear hc141
   try clear ha141
   try clear hca0
   try clear hcn0
   try clear hci0
   try clear hci1
   try clear hci2
   try clear hci3
   try clear hci4
   try clear hci5
   try clear hci6
   try clear hci7
   try clear hci8
   try clear hci9
   try clear hci10
   try clear hci11
   try clear hci12
   try clear hci13
   try clear hci14
   try clear hci15
   try clear hci16
   try clear hci17
   try clear hci18
   try clear hci19
   try clear hci20
   try clear hci21
   try clear hci22
   try clear hci23
   try clear hci24
   try clear hci25
   try clear hci26
   try clear hci27
   try clear hci28
   try clear hci29
   try clear hci30
   try clear hci31
   try clear hci32
   try clear hci33
   try clear hci34
   have C4_8 := zb C4_7 B7
   have mkHOC35 := (HOC.out.keep C4_8.out)
   have C5_7 := zb B5 B6
   have C5_8 := zb C5_7 B7
   have mkOWa36 := (OWa.out.keep C5_8.out)
   have mkOWn37 := (OWn.out.keep B7.out)
   have C1_8 := zb C1_7 B7
   have hm38 := (heap_keep Fv0_3.out C1_8.out)
   have hm39 := (heap_keep Fv1_4.out C1_8.out)
   have hm40 := (heap_keep Fv2_5.out C1_8.out)
   have hm41 := (heap_keep Fv7_8.out C4_8.out)
   have C6_8 := zb B6 B7
   have hm42 := (heap_keep Fv16_11.out C6_8.out)
   have hm43 := Fv26_13.out
   have hm44 := (heap_keep Fg2.out C4_8.out)
   have C0_8 := zb C0_7 B7
   have hm45 := C0_8.out
   go_wp2_with fail
   go_meet
   case rel => exact ⟨rfl, mkHOC35, mkOWa36, mkOWn37, hm38, hm39, hm40, hm41, hm42, hm43, hm44, hm45⟩
  ·have hc141 : con = 141 := by omega
   have hci32 : ¬ ((con : Int) = 0) := by omega
   have hci33 : ((con : Int) ≠ 0) := by omega
   have hci34 : ¬ ((con : Int) ≠ 141) := by omega
   by_cases hca0 : coa = 0
   ·have hci35 : ¬ ((coa : Int) ≠ 0) := by omega
    refine wp_region_lit ?_
    refine zr (.int .i64 (con : Int)) X8_28 rfl ?_
    simp only [Act.put, zA]
    refine zr (.bool false) X8_28 (xo_eqlF .i64 (con : Int) 0 (by omega) rfl rfl rfl) ?_
    simp only [Act.put, zA]
    refine zr (.bool false) X8_28 rfl ?_
    simp only [Act.put, zA]
    refine zl ?_
    try simp only [Act.put, zA]
    refine zl ?_
    try simp only [Act.put, zA]
    refine zr (.bool false) X8_28 rfl ?_
    simp only [Act.put, zA]
    refine zr (.bool false) X8_28 rfl ?_
    simp only [Act.put, zA]
    refine zr (.int .i64 (coa : Int)) X8_28 rfl ?_
    simp only [Act.put, zA]
    refine zr (.bool false) X8_28 (xo_neqF .i64 (coa : Int) 0 (by omega) rfl rfl rfl) ?_
    simp only [Act.put, zA]
    refine zr (.bool false) X8_28 rfl ?_
    simp only [Act.put, zA]
    refine zl ?_
    try simp only [Act.put, zA]
    refine zl ?_
    try simp only [Act.put, zA]
    refine zr (.bool false) X8_28 rfl ?_
    simp only [Act.put, zA]
    refine zr (.bool false) X8_28 rfl ?_
    simp only [Act.put, zA]
    refine zr (.bool false) X8_28 rfl ?_
    simp only [Act.put, zA]
    refine zr (.int .i64 (con : Int)) X8_28 rfl ?_
    simp only [Act.put, zA]
    refine zr (.bool true) X8_28 (xo_neqT .i64 (con : Int) 0 (by omega) rfl rfl rfl) ?_
    simp only [Act.put, zA]
    refine zr (.bool true) X8_28 rfl ?_
    simp only [Act.put, zA]
    refine zr (.int .i64 (con : Int)) X8_28 rfl ?_
    simp only [Act.put, zA]
    refine zr (.bool false) X8_28 (xo_neqF .i64 (con : Int) 141 (by omega) rfl rfl rfl) ?_
    simp only [Act.put, zA]
    refine zr (.bool false) X8_28 rfl ?_
    simp only [Act.put, zA]
    refine zr (.bool false) X8_28 rfl ?_
    simp only [Act.put, zA]
    refine wpList_nil ?_
    try clear hca
    try clear hc141
    try clear ha141
    try clear hca0
    try clear hcn0
    try clear hci0
    try clear hci1
    try clear hci2
    try clear hci3
    try clear hci4
    try clear hci5
    try clear hci6
    try clear hci7
    try clear hci8
    try clear hci9
    try clear hci10
    try clear hci11
    try clear hci12
    try clear hci13
    try clear hci14
    try clear hci15
    try clear hci16
    try clear hci17
    try clear hci18
    try clear hci19
    try clear hci20
    try clear hci21
    try clear hci22
    try clear hci23
    try clear hci24
    try clear hci25
    try clear hci26
    try clear hci27
    try clear hci28
    try clear hci29
    try clear hci30
    try clear hci31
    try clear hci32
    try clear hci33
    try clear hci34
    try clear hci35
    have C4_8 := zb C4_7 B7
    have mkHOC36 := (HOC.out.keep C4_8.out)
    have C5_7 := zb B5 B6
    have C5_8 := zb C5_7 B7
    have mkOWa37 := (OWa.out.keep C5_8.out)
    have mkOWn38 := (OWn.out.keep B7.out)
    have C1_8 := zb C1_7 B7
    have hm39 := (heap_keep Fv0_3.out C1_8.out)
    have hm40 := (heap_keep Fv1_4.out C1_8.out)
    have hm41 := (heap_keep Fv2_5.out C1_8.out)
    have hm42 := (heap_keep Fv7_8.out C4_8.out)
    have C6_8 := zb B6 B7
    have hm43 := (heap_keep Fv16_11.out C6_8.out)
    have hm44 := Fv26_13.out
    have hm45 := (heap_keep Fg2.out C4_8.out)
    have C0_8 := zb C0_7 B7
    have hm46 := C0_8.out
    go_wp2_with fail
    go_meet
    case rel => exact ⟨rfl, mkHOC36, mkOWa37, mkOWn38, hm39, hm40, hm41, hm42, hm43, hm44, hm45, hm46⟩
   ·have ha141 : coa = 141 := by omega
    have hci35 : ((coa : Int) ≠ 0) := by omega
    have hci36 : ¬ ((coa : Int) ≠ 141) := by omega
    refine wp_region_lit ?_
    refine zr (.int .i64 (con : Int)) X8_28 rfl ?_
    simp only [Act.put, zA]
    refine zr (.bool false) X8_28 (xo_eqlF .i64 (con : Int) 0 (by omega) rfl rfl rfl) ?_
    simp only [Act.put, zA]
    refine zr (.bool false) X8_28 rfl ?_
    simp only [Act.put, zA]
    refine zl ?_
    try simp only [Act.put, zA]
    refine zl ?_
    try simp only [Act.put, zA]
    refine zr (.bool false) X8_28 rfl ?_
    simp only [Act.put, zA]
    refine zr (.bool false) X8_28 rfl ?_
    simp only [Act.put, zA]
    refine zr (.int .i64 (coa : Int)) X8_28 rfl ?_
    simp only [Act.put, zA]
    refine zr (.bool true) X8_28 (xo_neqT .i64 (coa : Int) 0 (by omega) rfl rfl rfl) ?_
    simp only [Act.put, zA]
    refine zr (.bool true) X8_28 rfl ?_
    simp only [Act.put, zA]
    refine zr (.int .i64 (coa : Int)) X8_28 rfl ?_
    simp only [Act.put, zA]
    refine zr (.bool false) X8_28 (xo_neqF .i64 (coa : Int) 141 (by omega) rfl rfl rfl) ?_
    simp only [Act.put, zA]
    refine zr (.bool false) X8_28 rfl ?_
    simp only [Act.put, zA]
    refine zr (.bool false) X8_28 rfl ?_
    simp only [Act.put, zA]
    refine zr (.bool false) X8_28 rfl ?_
    simp only [Act.put, zA]
    refine zr (.int .i64 (con : Int)) X8_28 rfl ?_
    simp only [Act.put, zA]
    refine zr (.bool true) X8_28 (xo_neqT .i64 (con : Int) 0 (by omega) rfl rfl rfl) ?_
    simp only [Act.put, zA]
    refine zr (.bool true) X8_28 rfl ?_
    simp only [Act.put, zA]
    refine zr (.int .i64 (con : Int)) X8_28 rfl ?_
    simp only [Act.put, zA]
    refine zr (.bool false) X8_28 (xo_neqF .i64 (con : Int) 141 (by omega) rfl rfl rfl) ?_
    simp only [Act.put, zA]
    refine zr (.bool false) X8_28 rfl ?_
    simp only [Act.put, zA]
    refine zr (.bool false) X8_28 rfl ?_
    simp only [Act.put, zA]
    refine wpList_nil ?_
    try clear hca
    try clear hc141
    try clear ha141
    try clear hca0
    try clear hcn0
    try clear hci0
    try clear hci1
    try clear hci2
    try clear hci3
    try clear hci4
    try clear hci5
    try clear hci6
    try clear hci7
    try clear hci8
    try clear hci9
    try clear hci10
    try clear hci11
    try clear hci12
    try clear hci13
    try clear hci14
    try clear hci15
    try clear hci16
    try clear hci17
    try clear hci18
    try clear hci19
    try clear hci20
    try clear hci21
    try clear hci22
    try clear hci23
    try clear hci24
    try clear hci25
    try clear hci26
    try clear hci27
    try clear hci28
    try clear hci29
    try clear hci30
    try clear hci31
    try clear hci32
    try clear hci33
    try clear hci34
    try clear hci35
    try clear hci36
    have C4_8 := zb C4_7 B7
    have mkHOC37 := (HOC.out.keep C4_8.out)
    have C5_7 := zb B5 B6
    have C5_8 := zb C5_7 B7
    have mkOWa38 := (OWa.out.keep C5_8.out)
    have mkOWn39 := (OWn.out.keep B7.out)
    have C1_8 := zb C1_7 B7
    have hm40 := (heap_keep Fv0_3.out C1_8.out)
    have hm41 := (heap_keep Fv1_4.out C1_8.out)
    have hm42 := (heap_keep Fv2_5.out C1_8.out)
    have hm43 := (heap_keep Fv7_8.out C4_8.out)
    have C6_8 := zb B6 B7
    have hm44 := (heap_keep Fv16_11.out C6_8.out)
    have hm45 := Fv26_13.out
    have hm46 := (heap_keep Fg2.out C4_8.out)
    have C0_8 := zb C0_7 B7
    have hm47 := C0_8.out
    go_wp2_with fail
    go_meet
    case rel => exact ⟨rfl, mkHOC37, mkOWa38, mkOWn39, hm40, hm41, hm42, hm43, hm44, hm45, hm46, hm47⟩
 case rest =>
  obtain ⟨wc32, rfl⟩ : ∃ W, W = wc := ⟨_, rfl⟩
  obtain ⟨hs67, qHOC, qOWa, qOWn, hr0, hr1, hr2, hr3, hr4, hr5, hr6, hb0⟩ := hcut
  have hbr := hb0
  clear B0
  have B0 := zh hbr
  clear hbr
  clear Fv0_3
  have Fv0_3 : Hid (wc32.heap[w.heap.size]? = some (.cells #[.int .i64 kind, .int .i64 col, .int .i64 k, .slice A n c] 24 (0, 0))) := zh (hr0)
  clear Fv1_4
  have Fv1_4 : Hid (wc32.heap[(w.heap.size + 1)]? = some (.cells #[.int .u16 (x1 : Int), .int .u16 (y1 : Int)] 47 (0, 0))) := zh (hr1)
  clear Fv2_5
  have Fv2_5 : Hid (wc32.heap[(w.heap.size + 1 + 1)]? = some (.cells #[.int .i64 ea, .int .i64 eb, .int .i64 ec] 49 (0, 0))) := zh (hr2)
  clear Fv7_8
  have Fv7_8 : Hid (wc32.heap[b8]? = some (.cells #[.int .i64 (kd : Int), .int .i64 (cl : Int), .int .i64 (kk : Int), .slice (some ⟨g2, 0, none⟩) qf.length c2] 24 (0, 0))) := zh (hr3)
  clear Fv16_11
  have Fv16_11 : Hid (wc32.heap[b11]? = some (.cells #[.slice Aa rla ca] 29 (0, 0))) := zh (hr4)
  clear Fv26_13
  have Fv26_13 : Hid (wc32.heap[b13]? = some (.cells #[.slice An rln cn] 29 (0, 0))) := zh (hr5)
  clear Fg2
  have Fg2 : Hid (wc32.heap[g2]? = some (.cells cur 44 (0, 0))) := zh (hr6)
  clear hb0 hr0 hr1 hr2 hr3 hr4 hr5 hr6
  have HOC := zh qHOC
  clear qHOC
  have OWa := zh qOWa
  clear qOWa
  have OWn := zh qOWn
  clear qOWn
  subst hs67
  go_upto_region 9 with fail
  refine wp_region_lit ?_
  refine zr (.agg #[.int .i64 (kd : Int), .int .i64 (cl : Int), .int .i64 (kk : Int), .slice (some ⟨g2, 0, none⟩) qf.length c2]) wc32 (xo_loadW b8 _ Fv7_8.out Tryd.underlying24 rfl (by kernel_rfl) rfl rfl) ?_
  simp only [Act.put, zA]
  refine wpList_new #[.int .i64 0, .int .i64 0, .int .i64 0, .slice none 0 0] 24 (by kernel_rfl) (xo_alloc #[.int .i64 0, .int .i64 0, .int .i64 0, .slice none 0 0] (by kernel_rfl) rfl) ?_
  intro b15 V2 hge h0 hb
  have N34_0 : Hid (w.heap.size ≠ b15) := zh (xp_lt0 Fv0_3.out hge)
  have N35_1 : Hid ((w.heap.size + 1) ≠ b15) := zh (xp_lt0 Fv1_4.out hge)
  have N36_2 : Hid ((w.heap.size + 1 + 1) ≠ b15) := zh (xp_lt0 Fv2_5.out hge)
  have N37_3 : Hid (b8 ≠ b15) := zh (xp_lt0 Fv7_8.out hge)
  have N38_4 : Hid (g2 ≠ b15) := zh (xp_lt0 Fg2.out hge)
  have N39_5 : Hid (b11 ≠ b15) := zh (xp_lt0 Fv16_11.out hge)
  have N40_6 : Hid (b13 ≠ b15) := zh (xp_lt0 Fv26_13.out hge)
  have Ge41 : Hid (wc32.heap.size ≤ b15) := zh hge
  have B1 := zh hb
  have Fv42_15 : Hid (V2.heap[b15]? = some (.cells #[.int .i64 0, .int .i64 0, .int .i64 0, .slice none 0 0] 24 (0, 0))) := zh (h0)
  have Lt43 : Hid (b15 < V2.heap.size) := zh (xp_lt Fv42_15.out)
  clear hge h0 hb
  simp only [ptr, Act.put, zA]
  refine wpList_storeW b15 #[.int .i64 0, .int .i64 0, .int .i64 0, .slice none 0 0] #[.int .i64 (kd : Int), .int .i64 (cl : Int), .int .i64 (kk : Int), .slice (some ⟨g2, 0, none⟩) qf.length c2] 24 (by kernel_rfl) Fv42_15.out (xo_storeW b15 #[.int .i64 0, .int .i64 0, .int .i64 0, .slice none 0 0] #[.int .i64 (kd : Int), .int .i64 (cl : Int), .int .i64 (kk : Int), .slice (some ⟨g2, 0, none⟩) qf.length c2] Fv42_15.out (by kernel_rfl) rfl (by simp [Value.oneCell']) rfl rfl rfl) ?_
  intro X2_44 h1 hfar hbel hsz
  have hbr := hbel _ _ Ge41.out B1.out
  clear B1
  have B1 := zh hbr
  clear hbr
  clear Fv42_15
  have Fv42_15 : Hid (X2_44.heap[b15]? = some (.cells #[.int .i64 (kd : Int), .int .i64 (cl : Int), .int .i64 (kk : Int), .slice (some ⟨g2, 0, none⟩) qf.length c2] 24 (0, 0))) := zh (h1)
  have HszX2_44 := zh hsz
  clear h1 hfar hbel hsz
  simp only [ptr, Act.put, zA]
  refine wpList_nil ?_
  have C0_2 := zb B0 B1
  have LW4 := zh C0_2.out.size
  have L24 : Hid (g2 < X2_44.heap.size) := zh (xp_lt (heap_keep Fg2.out B1.out))
  go_upto_region 10 with fail
  refine wp_region_lit ?_
  refine wpList_mk (by kernel_rfl) #[] 44 0 0 (xo_empty (size := 1) Tryd.underlying22 (by kernel_rfl) rfl X2_44) ?_
  intro g69 V3 hge h0 hb
  have hge2 := Nat.le_trans (Below.refl X2_44.heap.size X2_44).size hge
  have B2 := zh hb
  have Ow69 : Hid (V3.ownsRow X2_44.heap.size 44 1 (.slice (some ⟨g69, 0, none⟩) 0 0) 0 (fl hdC [])) := zh (own_new h0 hge2)
  clear hge hge2 h0 hb
  simp only [ptr, Act.put, zA]
  refine zr (.pointer (some ⟨b8, 3, none⟩)) V3 (xo_fld0 3 b8 3 (by kernel_rfl) rfl rfl) ?_
  simp only [Act.put, zA]
  have C1_3 := zb B1 B2
  refine zr (.slice (some ⟨g2, 0, none⟩) qf.length c2) V3 (xo_load1 ⟨b8, 3, none⟩ _ (cells_at (heap_keep Fv7_8.out C1_3.out) 3 rfl) Tryd.underlying22 rfl rfl rfl) ?_
  simp only [Act.put, zA]
  refine wpList_app2 (size := 1) (by kernel_rfl) (.tmp 69) (.tmp 71) 22 rfl (.slice none 0 0) 24 Tryd.underlying22 (by kernel_rfl) rfl (by decide) rfl Ow69.out (some ⟨g2, 0, none⟩) qf.length c2 (fl hdC hs2) rfl (sg_raw (heap_keep Fg2.out C1_3.out) HCU.out).src (by unfold maxLen; omega) (by omega) B2.out.size ?_
  intro v72 X3_45 ho hb1 hg hloc
  have hox : X3_45.ownsRow X2_44.heap.size 44 1 v72 qf.length (fl hdC hs2) := by first | exact ho | simpa using ho
  have hbr := B2.out.trans hb1
  clear B2
  have B2 := zh hbr
  clear hbr
  have Ow72_46 := zh hox
  clear ho hox hb1 hg hloc
  simp only [ptr, Act.put, zA]
  refine zr (.pointer (some ⟨b15, 3, none⟩)) X3_45 (xo_fld0 3 b15 3 (by kernel_rfl) rfl rfl) ?_
  simp only [Act.put, zA]
  obtain ⟨A47, c47, rfl⟩ := own_form Ow72_46.out
  refine wpList_store1 b15 3 #[.int .i64 (kd : Int), .int .i64 (cl : Int), .int .i64 (kk : Int), .slice (some ⟨g2, 0, none⟩) qf.length c2] (.slice A47 qf.length c47) 24 (by kernel_rfl) (heap_keep Fv42_15.out B2.out) (xo_store1 b15 3 #[.int .i64 (kd : Int), .int .i64 (cl : Int), .int .i64 (kk : Int), .slice (some ⟨g2, 0, none⟩) qf.length c2] _ (.slice A47 qf.length c47) (heap_keep Fv42_15.out B2.out) rfl (by kernel_rfl) rfl rfl rfl rfl) ?_
  intro X3_48 h1 hfar hbel hsz
  have YOw72_46 : X3_48.ownsRow X2_44.heap.size 44 1 (.slice A47 qf.length c47) qf.length (fl hdC hs2) := own_farT Ow72_46.out (heap_keep Fv42_15.out B2.out) (by decide) hfar
  have YOw72_46 : X3_48.ownsRow X2_44.heap.size 44 1 (.slice A47 qf.length c47) qf.length (fl hdC hs2) := own_farT Ow72_46.out (heap_keep Fv42_15.out B2.out) (by decide) hfar
  have C1_3 := zb B1 B2
  have hbr := hbel _ _ Ge41.out C1_3.out
  clear B1
  have B1 := zh hbr
  clear hbr
  clear Ow72_46
  have Ow72_46 := zh YOw72_46
  clear YOw72_46
  clear Ow72_46
  have Ow72_46 := zh YOw72_46
  clear YOw72_46
  clear Fv42_15
  have Fv42_15 : Hid (X3_48.heap[b15]? = some (.cells #[.int .i64 (kd : Int), .int .i64 (cl : Int), .int .i64 (kk : Int), .slice A47 qf.length c47] 24 (0, 0))) := zh (h1)
  have HszX3_48 := zh hsz
  clear h1 hfar hbel hsz
  simp only [ptr, Act.put, zA]
  refine wpList_nil ?_
  obtain ⟨g4, cur4, rfl, hge4, hrow4, hcur4⟩ := own_raw Ow72_46.out hnf1 HCU.out.len
  have hge4w : w.heap.size ≤ g4 := Nat.le_trans LW4.out hge4
  have Gg4 := zh hge4w
  have N24 : Hid (g2 ≠ g4) := zh (by have := L24.out; omega)
  have Fg4 : Hid (X3_48.heap[g4]? = some (.cells cur4 44 (0, 0))) := zh hrow4
  have HCU4 := zh hcur4
  have hs4 : 0 < cur4.size := (Array.getElem?_eq_some_iff.1 (hcur4.at_ 0 _ HH0.out)).1
  have hc4 := hcur4.cap
  have ht4 := hcur4.top
  clear hge4 hge4w hrow4 hcur4
  have Ng4_0 : Hid (w.heap.size ≠ g4) := zh (ne_types (heap_keep Fv0_3.out B1.out) Fg4.out (by decide))
  have Ng4_1 : Hid ((w.heap.size + 1) ≠ g4) := zh (ne_types (heap_keep Fv1_4.out B1.out) Fg4.out (by decide))
  have Ng4_2 : Hid ((w.heap.size + 1 + 1) ≠ g4) := zh (ne_types (heap_keep Fv2_5.out B1.out) Fg4.out (by decide))
  have Ng4_3 : Hid (b8 ≠ g4) := zh (ne_types (heap_keep Fv7_8.out B1.out) Fg4.out (by decide))
  have Ng4_5 : Hid (b11 ≠ g4) := zh (ne_types (heap_keep Fv16_11.out B1.out) Fg4.out (by decide))
  have Ng4_6 : Hid (b13 ≠ g4) := zh (ne_types (heap_keep Fv26_13.out B1.out) Fg4.out (by decide))
  have Ng4_7 : Hid (b15 ≠ g4) := zh (ne_types Fv42_15.out Fg4.out (by decide))
  by_cases h3 : hp = 3
  ·have hp33 : hp = 3 := h3
   have hci49 : ((hp : Int) = 3) := by omega
   go_upto_region 11 with fail
   refine wp_region_lit ?_
   refine zr (.pointer (some ⟨b8, 3, none⟩)) X3_48 (xo_fld0 3 b8 3 (by kernel_rfl) rfl rfl) ?_
   simp only [Act.put, zA]
   refine zr (.slice (some ⟨g2, 0, none⟩) qf.length c2) X3_48 (xo_load1 ⟨b8, 3, none⟩ _ (cells_at (heap_keep Fv7_8.out B1.out) 3 rfl) Tryd.underlying22 rfl rfl rfl) ?_
   simp only [Act.put, zA]
   refine zr (.pointer (some (gad (some ⟨g2, 0, none⟩) (0 * 1)))) X3_48 (xg_idx .i64 (sg_raw (heap_keep Fg2.out B1.out) HCU.out) HH0.out Tryd.underlying22 (by kernel_rfl) rfl rfl rfl) ?_
   simp only [Act.put, zA]
   refine zr (.slice hA hp hcp) X3_48 (xg_load1 (E := hdC) (i := 0) (j := 0) (sg_raw (heap_keep Fg2.out B1.out) HCU.out) HH0.out rfl rfl Tryd.underlying44 rfl rfl rfl) ?_
   simp only [Act.put, zA]
   refine zr (.int .i64 (hp : Int)) X3_48 (xo_len hA hp hcp Tryd.underlying44 rfl rfl) ?_
   simp only [Act.put, zA]
   refine zr (.bool true) X3_48 (xo_eqlT .i64 (hp : Int) 3 (by omega) rfl rfl rfl) ?_
   simp only [Act.put, zA]
   refine wpList_nil ?_
   obtain ⟨e3, he3⟩ := Ty.take_last (show l0.length = 3 by rw [HPL.out]; exact h3)
   have HE3 := zh he3
   clear he3
   have HOKS : Hid (OkQ ⟨kd, cl, kk, (qf.set 0 (l0.take 2))⟩) := zh (HOK.out.set0 ⟨by rw [List.length_take]; omega, fun c hc => HOL.out.2 c (List.mem_of_mem_take hc)⟩)
   obtain ⟨⟨xss, cos⟩, hck⟩ : ∃ r, Ty.ckN ⟨kd, cl, kk, (qf.set 0 (l0.take 2))⟩ mm = r := ⟨_, rfl⟩
   have HCKs := zh hck
   clear hck
   obtain ⟨rls, hrl⟩ : ∃ z, (Ty.zs xss).length = z := ⟨_, rfl⟩
   have HRLs := zh hrl
   have HRXs : Hid (xss.length = rls) := zh (by rw [← hrl, Ty.zs_len])
   have hr32s : rls ≤ 32 := by rw [← HRXs.out]; exact Ty.ck_len HCKs.out
   clear hrl
   have hfs := Ty.ck_facts (q := ⟨kd, cl, kk, (qf.set 0 (l0.take 2))⟩) hev HCKs.out
   rw [show (⟨kd, cl, kk, (qf.set 0 (l0.take 2))⟩ : Qu.Qy).kind = kd from rfl, HSM.out, HRXs.out] at hfs
   have HFs := zh hfs
   have hcos := hfs.1
   clear hfs
   have HLE : Hid (∀ v, Ty.bdN ⟨kd, cl, kk, qf⟩ mm v ≤ Ty.bdN ⟨kd, cl, kk, (qf.set 0 (l0.take 2))⟩ mm v) := zh (fun v => by
       have h := Ty.mono_set (kd := kd) (cl := cl) (kk := kk) (fs := qf.set 0 (l0.take 2)) (l := l0.take 2) (e := e3) (by rw [List.getElem?_set, if_pos rfl, if_pos hnf1]) mm v
       rw [← HE3.out, Ty.set_back HL0.out] at h
       exact h)
   have H12 : Hid (cos = 0 → coa = 0) := zh (fun h => Ty.ck_all_lt (q := ⟨kd, cl, kk, qf⟩) hev HCKa.out (fun v hv => Nat.lt_of_le_of_lt (HLE.out v) ((HFs.out.2.2 h).2 v (by have : v < Ty.suN kd := hv; rw [HSM.out] at this; exact this)).2))
   clear hp33
   go_upto_region 12 with fail
   try simp only [List.append_eq, List.cons_append, List.nil_append]
   refine wp_ordM 8 (.q 0 (.q 1 (.q 2 (.q 3 (.q 4 (.q 5 (.q 6 (.q 7 .nil)))))))) (by kernel_rfl) (by kernel_rfl) (by kernel_rfl) (by kernel_rfl) (by kernel_rfl) (by kernel_rfl) (by kernel_rfl) (fun V3 hb => ?_)
   have B2 := zh hb
   clear hb
   refine wpOT_q (.pointer (some ⟨b15, 3, none⟩)) rfl (by kernel_rfl) (fun v hW => (xo_fld0 3 b15 3 (by kernel_rfl) rfl rfl)) ?_
   simp only [ptr, Act.put, zA]
   refine wpOT_q (.slice (some ⟨g4, 0, none⟩) qf.length c47) rfl (by kernel_rfl) (fun v hW => (xo_load1 ⟨b15, 3, none⟩ _ (cells_at (heap_keep (heap_keep Fv42_15.out B2.out) hW) 3 rfl) Tryd.underlying22 rfl rfl rfl)) ?_
   simp only [ptr, Act.put, zA]
   refine wpOT_q (.pointer (some ⟨b8, 3, none⟩)) rfl (by kernel_rfl) (fun v hW => (xo_fld0 3 b8 3 (by kernel_rfl) rfl rfl)) ?_
   simp only [ptr, Act.put, zA]
   have C1_3 := zb B1 B2
   refine wpOT_q (.slice (some ⟨g2, 0, none⟩) qf.length c2) rfl (by kernel_rfl) (fun v hW => (xo_load1 ⟨b8, 3, none⟩ _ (cells_at (heap_keep (heap_keep Fv7_8.out C1_3.out) hW) 3 rfl) Tryd.underlying22 rfl rfl rfl)) ?_
   simp only [ptr, Act.put, zA]
   refine wpOT_q (.pointer (some (gad (some ⟨g2, 0, none⟩) (0 * 1)))) rfl (by kernel_rfl) (fun v hW => (xo_index .i64 ⟨g2, 0, none⟩ qf.length c2 0 1 (by omega) Tryd.underlying22 (by kernel_rfl) rfl rfl rfl)) ?_
   simp only [ptr, Act.put, zA]
   refine wpOT_q (.slice hA hp hcp) rfl (by kernel_rfl) (fun v hW => (xg_load1 (E := hdC) (i := 0) (j := 0) (sg_raw (heap_keep (heap_keep Fg2.out C1_3.out) hW) HCU.out) HH0.out rfl rfl Tryd.underlying44 rfl rfl rfl)) ?_
   simp only [ptr, Act.put, zA]
   refine wpOT_q (.slice hA 2 hcp) rfl (by kernel_rfl) (fun v hW => (xo_take .i64 hA hp hcp 2 (by omega) Tryd.underlying44 (by kernel_rfl) rfl rfl rfl)) ?_
   simp only [ptr, Act.put, zA]
   refine wpOT_q (.pointer (some (gad (some ⟨g4, 0, none⟩) (0 * 1)))) rfl (by kernel_rfl) (fun v hW => (xo_index .i64 ⟨g4, 0, none⟩ qf.length c47 0 1 (by omega) Tryd.underlying22 (by kernel_rfl) rfl rfl rfl)) ?_
   simp only [ptr, Act.put, zA]
   refine wpOT_nil ?_
   have hfs := (heap_keep Fg4.out B2.out)
   have hgb := Gg4.out
   have C0_2 := zb B0 B1
   have C0_3 := zb C0_2 B2
   have hbs := C0_3.out
   have hfar : ∀ k o, k ≠ g4 → V3.heap[k]? = some o → (V3.setRow g4 (cur4.setIfInBounds 0 (.slice hA 2 hcp))).heap[k]? = some o := fun k o hk h0 => heap_farRow h0 hk _
   have YHOC := OwnsC.farT (HOC.out.keep C1_3.out) (heap_keep Fg4.out B2.out) (by decide) hfar
   have YOWa := OwZ.store (OWa.out.keep C1_3.out) (heap_keep Fg4.out B2.out) (by decide) hfar
   have YOWn := OwZ.store (OWn.out.keep C1_3.out) (heap_keep Fg4.out B2.out) (by decide) hfar
   have YFv0_3 : (V3.setRow g4 (cur4.setIfInBounds 0 (.slice hA 2 hcp))).heap[w.heap.size]? = some (.cells #[.int .i64 kind, .int .i64 col, .int .i64 k, .slice A n c] 24 (0, 0)) := hfar _ _ Ng4_0.out (heap_keep Fv0_3.out C1_3.out)
   have YFv1_4 : (V3.setRow g4 (cur4.setIfInBounds 0 (.slice hA 2 hcp))).heap[(w.heap.size + 1)]? = some (.cells #[.int .u16 (x1 : Int), .int .u16 (y1 : Int)] 47 (0, 0)) := hfar _ _ Ng4_1.out (heap_keep Fv1_4.out C1_3.out)
   have YFv2_5 : (V3.setRow g4 (cur4.setIfInBounds 0 (.slice hA 2 hcp))).heap[(w.heap.size + 1 + 1)]? = some (.cells #[.int .i64 ea, .int .i64 eb, .int .i64 ec] 49 (0, 0)) := hfar _ _ Ng4_2.out (heap_keep Fv2_5.out C1_3.out)
   have YFv7_8 : (V3.setRow g4 (cur4.setIfInBounds 0 (.slice hA 2 hcp))).heap[b8]? = some (.cells #[.int .i64 (kd : Int), .int .i64 (cl : Int), .int .i64 (kk : Int), .slice (some ⟨g2, 0, none⟩) qf.length c2] 24 (0, 0)) := hfar _ _ Ng4_3.out (heap_keep Fv7_8.out C1_3.out)
   have YFg2 : (V3.setRow g4 (cur4.setIfInBounds 0 (.slice hA 2 hcp))).heap[g2]? = some (.cells cur 44 (0, 0)) := hfar _ _ N24.out (heap_keep Fg2.out C1_3.out)
   have YFv16_11 : (V3.setRow g4 (cur4.setIfInBounds 0 (.slice hA 2 hcp))).heap[b11]? = some (.cells #[.slice Aa rla ca] 29 (0, 0)) := hfar _ _ Ng4_5.out (heap_keep Fv16_11.out C1_3.out)
   have YFv26_13 : (V3.setRow g4 (cur4.setIfInBounds 0 (.slice hA 2 hcp))).heap[b13]? = some (.cells #[.slice An rln cn] 29 (0, 0)) := hfar _ _ Ng4_6.out (heap_keep Fv26_13.out C1_3.out)
   have YFv42_15 : (V3.setRow g4 (cur4.setIfInBounds 0 (.slice hA 2 hcp))).heap[b15]? = some (.cells #[.int .i64 (kd : Int), .int .i64 (cl : Int), .int .i64 (kk : Int), .slice (some ⟨g4, 0, none⟩) qf.length c47] 24 (0, 0)) := hfar _ _ Ng4_7.out (heap_keep Fv42_15.out B2.out)
   refine mOp_run0 _ rfl rfl (xo_storeM g4 0 cur4 (cur4.setIfInBounds 0 (.slice hA 2 hcp)) [.slice hA 2 hcp] hfs (raw_new hs4) (by show 0 + 1 ≤ cur4.size; exact hs4) (by kernel_rfl) (by simp [Value.oneCell']) rfl rfl rfl) ?_
   try simp only [List.getElem_toArray, List.getElem_cons_succ, List.getElem_cons_zero, ptr, Act.put, zA]
   have hfn := setRow_heap V3 g4 _ (cur4.setIfInBounds 0 (.slice hA 2 hcp)) _ _ hfs
   have hbn := bel_setRow hbs hgb (cur4.setIfInBounds 0 (.slice hA 2 hcp))
   clear hfar
   generalize V3.setRow g4 (cur4.setIfInBounds 0 (.slice hA 2 hcp)) = X50 at *
   have Gt51 : Hid (w.heap.size ≤ b15) := zh (Nat.le_trans B0.out.size Ge41.out)
   have hbr := hbn
   clear B0
   have B0 := zh hbr
   clear hbr
   clear Fv0_3
   have Fv0_3 := zh YFv0_3
   clear YFv0_3
   clear Fv1_4
   have Fv1_4 := zh YFv1_4
   clear YFv1_4
   clear Fv2_5
   have Fv2_5 := zh YFv2_5
   clear YFv2_5
   clear Fv7_8
   have Fv7_8 := zh YFv7_8
   clear YFv7_8
   clear Fg2
   have Fg2 := zh YFg2
   clear YFg2
   clear Fv16_11
   have Fv16_11 := zh YFv16_11
   clear YFv16_11
   clear Fv26_13
   have Fv26_13 := zh YFv26_13
   clear YFv26_13
   clear Fv42_15
   have Fv42_15 := zh YFv42_15
   clear YFv42_15
   clear Fg4
   have Fg4 : Hid (X50.heap[g4]? = some (.cells (cur4.setIfInBounds 0 (.slice hA 2 hcp)) 44 (0, 0))) := zh hfn
   clear HOC
   have HOC : Hid (OwnsC X50 49 w.heap.size hs2 qf) := zh YHOC
   clear YHOC
   clear OWa
   have OWa : Hid (OwZ X50 Aa rla ca (Ty.zs xsa)) := zh YOWa
   clear YOWa
   clear OWn
   have OWn : Hid (OwZ X50 An rln cn (Ty.zs xsn)) := zh YOWn
   clear YOWn
   clear hfs hgb hbs hfn hbn
   have HCS := zh (HCU4.out.set0 (Hd.mk hA 2 hcp))
   obtain ⟨hs3, hhs⟩ : ∃ z, hs2.set 0 (Hd.mk hA 2 hcp) = z := ⟨_, rfl⟩
   have hh3 : hs3[0]? = some (Hd.mk hA 2 hcp) := by rw [← hhs, List.getElem?_set, if_pos rfl, if_pos (by rw [HCU.out.len]; exact hnf1)]
   have HH3 := zh hh3
   have HHS := zh hhs
   clear hh3 hhs
   go_upto_region 13 with fail
   refine wp_region_lit ?_
   refine zr (.agg #[.int .i64 (kd : Int), .int .i64 (cl : Int), .int .i64 (kk : Int), .slice (some ⟨g2, 0, none⟩) qf.length c2]) X50 (xo_loadW b8 _ Fv7_8.out Tryd.underlying24 rfl (by kernel_rfl) rfl rfl) ?_
   simp only [Act.put, zA]
   refine wpList_new #[.int .i64 0, .int .i64 0, .int .i64 0, .slice none 0 0] 24 (by kernel_rfl) (xo_alloc #[.int .i64 0, .int .i64 0, .int .i64 0, .slice none 0 0] (by kernel_rfl) rfl) ?_
   intro b16 V2 hge h0 hb
   have N52_0 : Hid (w.heap.size ≠ b16) := zh (xp_lt0 Fv0_3.out hge)
   have N53_1 : Hid ((w.heap.size + 1) ≠ b16) := zh (xp_lt0 Fv1_4.out hge)
   have N54_2 : Hid ((w.heap.size + 1 + 1) ≠ b16) := zh (xp_lt0 Fv2_5.out hge)
   have N55_3 : Hid (b8 ≠ b16) := zh (xp_lt0 Fv7_8.out hge)
   have N56_4 : Hid (g2 ≠ b16) := zh (xp_lt0 Fg2.out hge)
   have N57_5 : Hid (b11 ≠ b16) := zh (xp_lt0 Fv16_11.out hge)
   have N58_6 : Hid (b13 ≠ b16) := zh (xp_lt0 Fv26_13.out hge)
   have N59_7 : Hid (b15 ≠ b16) := zh (xp_lt0 Fv42_15.out hge)
   have N60_8 : Hid (g4 ≠ b16) := zh (xp_lt0 Fg4.out hge)
   have Ge61 : Hid (X50.heap.size ≤ b16) := zh hge
   have B1 := zh hb
   have Fv62_16 : Hid (V2.heap[b16]? = some (.cells #[.int .i64 0, .int .i64 0, .int .i64 0, .slice none 0 0] 24 (0, 0))) := zh (h0)
   have Lt63 : Hid (b16 < V2.heap.size) := zh (xp_lt Fv62_16.out)
   clear hge h0 hb
   simp only [ptr, Act.put, zA]
   refine wpList_storeW b16 #[.int .i64 0, .int .i64 0, .int .i64 0, .slice none 0 0] #[.int .i64 (kd : Int), .int .i64 (cl : Int), .int .i64 (kk : Int), .slice (some ⟨g2, 0, none⟩) qf.length c2] 24 (by kernel_rfl) Fv62_16.out (xo_storeW b16 #[.int .i64 0, .int .i64 0, .int .i64 0, .slice none 0 0] #[.int .i64 (kd : Int), .int .i64 (cl : Int), .int .i64 (kk : Int), .slice (some ⟨g2, 0, none⟩) qf.length c2] Fv62_16.out (by kernel_rfl) rfl (by simp [Value.oneCell']) rfl rfl rfl) ?_
   intro X2_64 h1 hfar hbel hsz
   have hbr := hbel _ _ Ge61.out B1.out
   clear B1
   have B1 := zh hbr
   clear hbr
   clear Fv62_16
   have Fv62_16 : Hid (X2_64.heap[b16]? = some (.cells #[.int .i64 (kd : Int), .int .i64 (cl : Int), .int .i64 (kk : Int), .slice (some ⟨g2, 0, none⟩) qf.length c2] 24 (0, 0))) := zh (h1)
   have HszX2_64 := zh hsz
   clear h1 hfar hbel hsz
   simp only [ptr, Act.put, zA]
   refine wpList_nil ?_
   go_upto_region 14 with fail
   refine wp_region_lit ?_
   refine zr (.agg #[.int .i64 (kd : Int), .int .i64 (cl : Int), .int .i64 (kk : Int), .slice (some ⟨g4, 0, none⟩) qf.length c47]) X2_64 (xo_loadW b15 _ (heap_keep Fv42_15.out B1.out) Tryd.underlying24 rfl (by kernel_rfl) rfl rfl) ?_
   simp only [Act.put, zA]
   refine wpList_storeW b8 #[.int .i64 (kd : Int), .int .i64 (cl : Int), .int .i64 (kk : Int), .slice (some ⟨g2, 0, none⟩) qf.length c2] #[.int .i64 (kd : Int), .int .i64 (cl : Int), .int .i64 (kk : Int), .slice (some ⟨g4, 0, none⟩) qf.length c47] 24 (by kernel_rfl) (heap_keep Fv7_8.out B1.out) (xo_storeW b8 #[.int .i64 (kd : Int), .int .i64 (cl : Int), .int .i64 (kk : Int), .slice (some ⟨g2, 0, none⟩) qf.length c2] #[.int .i64 (kd : Int), .int .i64 (cl : Int), .int .i64 (kk : Int), .slice (some ⟨g4, 0, none⟩) qf.length c47] (heap_keep Fv7_8.out B1.out) (by kernel_rfl) rfl (by simp [Value.oneCell']) rfl rfl rfl) ?_
   intro X2_65 h1 hfar hbel hsz
   have YHOC : OwnsC X2_65 49 w.heap.size hs2 qf := OwnsC.farT (HOC.out.keep B1.out) (heap_keep Fv7_8.out B1.out) (by decide) hfar
   have YOWa : OwZ X2_65 Aa rla ca (Ty.zs xsa) := OwZ.store (OWa.out.keep B1.out) (heap_keep Fv7_8.out B1.out) (by decide) hfar
   have YOWn : OwZ X2_65 An rln cn (Ty.zs xsn) := OwZ.store (OWn.out.keep B1.out) (heap_keep Fv7_8.out B1.out) (by decide) hfar
   have YFv0_3 : X2_65.heap[w.heap.size]? = some (.cells #[.int .i64 kind, .int .i64 col, .int .i64 k, .slice A n c] 24 (0, 0)) := hfar _ _ N3_0.out (heap_keep Fv0_3.out B1.out)
   have YFv1_4 : X2_65.heap[(w.heap.size + 1)]? = some (.cells #[.int .u16 (x1 : Int), .int .u16 (y1 : Int)] 47 (0, 0)) := hfar _ _ N4_1.out (heap_keep Fv1_4.out B1.out)
   have YFv2_5 : X2_65.heap[(w.heap.size + 1 + 1)]? = some (.cells #[.int .i64 ea, .int .i64 eb, .int .i64 ec] 49 (0, 0)) := hfar _ _ N5_2.out (heap_keep Fv2_5.out B1.out)
   have YFg2 : X2_65.heap[g2]? = some (.cells cur 44 (0, 0)) := hfar _ _ (Ne.symm Ng2_3.out) (heap_keep Fg2.out B1.out)
   have YFv16_11 : X2_65.heap[b11]? = some (.cells #[.slice Aa rla ca] 29 (0, 0)) := hfar _ _ (Ne.symm N13_3.out) (heap_keep Fv16_11.out B1.out)
   have YFv26_13 : X2_65.heap[b13]? = some (.cells #[.slice An rln cn] 29 (0, 0)) := hfar _ _ (Ne.symm N22_3.out) (heap_keep Fv26_13.out B1.out)
   have YFv42_15 : X2_65.heap[b15]? = some (.cells #[.int .i64 (kd : Int), .int .i64 (cl : Int), .int .i64 (kk : Int), .slice (some ⟨g4, 0, none⟩) qf.length c47] 24 (0, 0)) := hfar _ _ (Ne.symm N37_3.out) (heap_keep Fv42_15.out B1.out)
   have YFg4 : X2_65.heap[g4]? = some (.cells (cur4.setIfInBounds 0 (.slice hA 2 hcp)) 44 (0, 0)) := hfar _ _ (Ne.symm Ng4_3.out) (heap_keep Fg4.out B1.out)
   have YFv62_16 : X2_65.heap[b16]? = some (.cells #[.int .i64 (kd : Int), .int .i64 (cl : Int), .int .i64 (kk : Int), .slice (some ⟨g2, 0, none⟩) qf.length c2] 24 (0, 0)) := hfar _ _ (Ne.symm N55_3.out) Fv62_16.out
   have Gs66 : Hid (w.heap.size ≤ b16) := zh (Nat.le_trans B0.out.size Ge61.out)
   have C0_2 := zb B0 B1
   have hbr := hbel _ _ Gr29.out C0_2.out
   clear B0
   have B0 := zh hbr
   clear hbr
   clear Fv0_3
   have Fv0_3 : Hid (X2_65.heap[w.heap.size]? = some (.cells #[.int .i64 kind, .int .i64 col, .int .i64 k, .slice A n c] 24 (0, 0))) := zh YFv0_3
   clear YFv0_3
   clear Fv1_4
   have Fv1_4 : Hid (X2_65.heap[(w.heap.size + 1)]? = some (.cells #[.int .u16 (x1 : Int), .int .u16 (y1 : Int)] 47 (0, 0))) := zh YFv1_4
   clear YFv1_4
   clear Fv2_5
   have Fv2_5 : Hid (X2_65.heap[(w.heap.size + 1 + 1)]? = some (.cells #[.int .i64 ea, .int .i64 eb, .int .i64 ec] 49 (0, 0))) := zh YFv2_5
   clear YFv2_5
   clear Fg2
   have Fg2 : Hid (X2_65.heap[g2]? = some (.cells cur 44 (0, 0))) := zh YFg2
   clear YFg2
   clear Fv16_11
   have Fv16_11 : Hid (X2_65.heap[b11]? = some (.cells #[.slice Aa rla ca] 29 (0, 0))) := zh YFv16_11
   clear YFv16_11
   clear Fv26_13
   have Fv26_13 : Hid (X2_65.heap[b13]? = some (.cells #[.slice An rln cn] 29 (0, 0))) := zh YFv26_13
   clear YFv26_13
   clear Fv42_15
   have Fv42_15 : Hid (X2_65.heap[b15]? = some (.cells #[.int .i64 (kd : Int), .int .i64 (cl : Int), .int .i64 (kk : Int), .slice (some ⟨g4, 0, none⟩) qf.length c47] 24 (0, 0))) := zh YFv42_15
   clear YFv42_15
   clear Fg4
   have Fg4 : Hid (X2_65.heap[g4]? = some (.cells (cur4.setIfInBounds 0 (.slice hA 2 hcp)) 44 (0, 0))) := zh YFg4
   clear YFg4
   clear Fv62_16
   have Fv62_16 : Hid (X2_65.heap[b16]? = some (.cells #[.int .i64 (kd : Int), .int .i64 (cl : Int), .int .i64 (kk : Int), .slice (some ⟨g2, 0, none⟩) qf.length c2] 24 (0, 0))) := zh YFv62_16
   clear YFv62_16
   clear HOC
   have HOC := zh YHOC
   clear YHOC
   clear OWa
   have OWa := zh YOWa
   clear YOWa
   clear OWn
   have OWn := zh YOWn
   clear YOWn
   clear Fv7_8
   have Fv7_8 : Hid (X2_65.heap[b8]? = some (.cells #[.int .i64 (kd : Int), .int .i64 (cl : Int), .int .i64 (kk : Int), .slice (some ⟨g4, 0, none⟩) qf.length c47] 24 (0, 0))) := zh (h1)
   have HszX2_65 := zh hsz
   clear h1 hfar hbel hsz
   simp only [ptr, Act.put, zA]
   refine wpList_nil ?_
   go_upto_region 15 with fail
   refine wp_region_lit ?_
   refine zr (.agg #[.int .i64 (kd : Int), .int .i64 (cl : Int), .int .i64 (kk : Int), .slice (some ⟨g2, 0, none⟩) qf.length c2]) X2_65 (xo_loadW b16 _ Fv62_16.out Tryd.underlying24 rfl (by kernel_rfl) rfl rfl) ?_
   simp only [Act.put, zA]
   refine wpList_storeW b15 #[.int .i64 (kd : Int), .int .i64 (cl : Int), .int .i64 (kk : Int), .slice (some ⟨g4, 0, none⟩) qf.length c47] #[.int .i64 (kd : Int), .int .i64 (cl : Int), .int .i64 (kk : Int), .slice (some ⟨g2, 0, none⟩) qf.length c2] 24 (by kernel_rfl) Fv42_15.out (xo_storeW b15 #[.int .i64 (kd : Int), .int .i64 (cl : Int), .int .i64 (kk : Int), .slice (some ⟨g4, 0, none⟩) qf.length c47] #[.int .i64 (kd : Int), .int .i64 (cl : Int), .int .i64 (kk : Int), .slice (some ⟨g2, 0, none⟩) qf.length c2] Fv42_15.out (by kernel_rfl) rfl (by simp [Value.oneCell']) rfl rfl rfl) ?_
   intro X1_67 h1 hfar hbel hsz
   have YHOC : OwnsC X1_67 49 w.heap.size hs2 qf := OwnsC.farT HOC.out Fv42_15.out (by decide) hfar
   have YOWa : OwZ X1_67 Aa rla ca (Ty.zs xsa) := OwZ.store OWa.out Fv42_15.out (by decide) hfar
   have YOWn : OwZ X1_67 An rln cn (Ty.zs xsn) := OwZ.store OWn.out Fv42_15.out (by decide) hfar
   have YFv0_3 : X1_67.heap[w.heap.size]? = some (.cells #[.int .i64 kind, .int .i64 col, .int .i64 k, .slice A n c] 24 (0, 0)) := hfar _ _ N34_0.out Fv0_3.out
   have YFv1_4 : X1_67.heap[(w.heap.size + 1)]? = some (.cells #[.int .u16 (x1 : Int), .int .u16 (y1 : Int)] 47 (0, 0)) := hfar _ _ N35_1.out Fv1_4.out
   have YFv2_5 : X1_67.heap[(w.heap.size + 1 + 1)]? = some (.cells #[.int .i64 ea, .int .i64 eb, .int .i64 ec] 49 (0, 0)) := hfar _ _ N36_2.out Fv2_5.out
   have YFv7_8 : X1_67.heap[b8]? = some (.cells #[.int .i64 (kd : Int), .int .i64 (cl : Int), .int .i64 (kk : Int), .slice (some ⟨g4, 0, none⟩) qf.length c47] 24 (0, 0)) := hfar _ _ N37_3.out Fv7_8.out
   have YFg2 : X1_67.heap[g2]? = some (.cells cur 44 (0, 0)) := hfar _ _ N38_4.out Fg2.out
   have YFv16_11 : X1_67.heap[b11]? = some (.cells #[.slice Aa rla ca] 29 (0, 0)) := hfar _ _ N39_5.out Fv16_11.out
   have YFv26_13 : X1_67.heap[b13]? = some (.cells #[.slice An rln cn] 29 (0, 0)) := hfar _ _ N40_6.out Fv26_13.out
   have YFg4 : X1_67.heap[g4]? = some (.cells (cur4.setIfInBounds 0 (.slice hA 2 hcp)) 44 (0, 0)) := hfar _ _ (Ne.symm Ng4_7.out) Fg4.out
   have YFv62_16 : X1_67.heap[b16]? = some (.cells #[.int .i64 (kd : Int), .int .i64 (cl : Int), .int .i64 (kk : Int), .slice (some ⟨g2, 0, none⟩) qf.length c2] 24 (0, 0)) := hfar _ _ (Ne.symm N59_7.out) Fv62_16.out
   have hbr := hbel _ _ Gt51.out B0.out
   clear B0
   have B0 := zh hbr
   clear hbr
   clear Fv0_3
   have Fv0_3 : Hid (X1_67.heap[w.heap.size]? = some (.cells #[.int .i64 kind, .int .i64 col, .int .i64 k, .slice A n c] 24 (0, 0))) := zh YFv0_3
   clear YFv0_3
   clear Fv1_4
   have Fv1_4 : Hid (X1_67.heap[(w.heap.size + 1)]? = some (.cells #[.int .u16 (x1 : Int), .int .u16 (y1 : Int)] 47 (0, 0))) := zh YFv1_4
   clear YFv1_4
   clear Fv2_5
   have Fv2_5 : Hid (X1_67.heap[(w.heap.size + 1 + 1)]? = some (.cells #[.int .i64 ea, .int .i64 eb, .int .i64 ec] 49 (0, 0))) := zh YFv2_5
   clear YFv2_5
   clear Fv7_8
   have Fv7_8 : Hid (X1_67.heap[b8]? = some (.cells #[.int .i64 (kd : Int), .int .i64 (cl : Int), .int .i64 (kk : Int), .slice (some ⟨g4, 0, none⟩) qf.length c47] 24 (0, 0))) := zh YFv7_8
   clear YFv7_8
   clear Fg2
   have Fg2 : Hid (X1_67.heap[g2]? = some (.cells cur 44 (0, 0))) := zh YFg2
   clear YFg2
   clear Fv16_11
   have Fv16_11 : Hid (X1_67.heap[b11]? = some (.cells #[.slice Aa rla ca] 29 (0, 0))) := zh YFv16_11
   clear YFv16_11
   clear Fv26_13
   have Fv26_13 : Hid (X1_67.heap[b13]? = some (.cells #[.slice An rln cn] 29 (0, 0))) := zh YFv26_13
   clear YFv26_13
   clear Fg4
   have Fg4 : Hid (X1_67.heap[g4]? = some (.cells (cur4.setIfInBounds 0 (.slice hA 2 hcp)) 44 (0, 0))) := zh YFg4
   clear YFg4
   clear Fv62_16
   have Fv62_16 : Hid (X1_67.heap[b16]? = some (.cells #[.int .i64 (kd : Int), .int .i64 (cl : Int), .int .i64 (kk : Int), .slice (some ⟨g2, 0, none⟩) qf.length c2] 24 (0, 0))) := zh YFv62_16
   clear YFv62_16
   clear HOC
   have HOC := zh YHOC
   clear YHOC
   clear OWa
   have OWa := zh YOWa
   clear YOWa
   clear OWn
   have OWn := zh YOWn
   clear YOWn
   clear Fv42_15
   have Fv42_15 : Hid (X1_67.heap[b15]? = some (.cells #[.int .i64 (kd : Int), .int .i64 (cl : Int), .int .i64 (kk : Int), .slice (some ⟨g2, 0, none⟩) qf.length c2] 24 (0, 0))) := zh (h1)
   have HszX1_67 := zh hsz
   clear h1 hfar hbel hsz
   simp only [ptr, Act.put, zA]
   refine wpList_nil ?_
   go_upto_region 16 with fail
   refine wp_region_lit ?_
   refine zr (.agg #[.int .i64 (kd : Int), .int .i64 (cl : Int), .int .i64 (kk : Int), .slice (some ⟨g4, 0, none⟩) qf.length c47]) X1_67 (xo_loadW b8 _ Fv7_8.out Tryd.underlying24 rfl (by kernel_rfl) rfl rfl) ?_
   simp only [Act.put, zA]
   refine zr (.int .i64 (mm : Int)) X1_67 rfl ?_
   simp only [Act.put, zA]
   refine wpList_call (by kernel_rfl) 11 Tryd.func11 (by kernel_rfl) (by kernel_rfl) _ _ #[.agg #[.int .i64 (kd : Int), .int .i64 (cl : Int), .int .i64 (kk : Int), .slice (some ⟨g4, 0, none⟩) qf.length c47], .int .i64 (mm : Int)] rfl (by kernel_rfl) ?_
   refine (check_own kd cl kk (some ⟨g4, 0, none⟩) qf.length c47 hs3 (qf.set 0 (l0.take 2)) HOKS.out mm (by omega) (xss, cos) HCKs.out X1_67 (by have hz := fsr_set0 (u := (Hd.mk hA 2 hcp)) (l := l0.take 2) Fg4.out HCS.out HOC.out (by rw [List.map_take]; exact Sg.take (OwnsC.sgi (d := Hd.mk hA hp hcp) HOC.out HH0.out HL0.out) (by show 2 ≤ hp; omega)); rw [HHS.out] at hz; exact hz) (HG.out.keep B0.out) (HGC.out.keep B0.out)).mono ?_
   rintro e V2 ⟨As, ns, cs, rfl, how, hb⟩
   have B1 := zh hb
   obtain rfl : rls = ns := (HRLs.out).symm.trans how.sg.len
   have OWs := zh how
   clear hb how
   refine ⟨_, rfl, ?_⟩
   simp only [Act.put, zA]
   refine zr (.tuple #[.agg #[.slice As rls cs], .int .i64 (cos : Int)]) V2 rfl ?_
   simp only [Act.put, zA]
   refine zr (.agg #[.slice As rls cs]) V2 rfl ?_
   simp only [Act.put, zA]
   refine zr (.int .i64 (cos : Int)) V2 rfl ?_
   simp only [Act.put, zA]
   refine wpList_storeW b11 #[.slice Aa rla ca] #[.slice As rls cs] 29 (by kernel_rfl) (heap_keep Fv16_11.out B1.out) (xo_storeW b11 #[.slice Aa rla ca] #[.slice As rls cs] (heap_keep Fv16_11.out B1.out) (by kernel_rfl) rfl (by simp [Value.oneCell']) rfl rfl rfl) ?_
   intro X2_68 h1 hfar hbel hsz
   have YHOC : OwnsC X2_68 49 w.heap.size hs2 qf := OwnsC.farT (HOC.out.keep B1.out) (heap_keep Fv16_11.out B1.out) (by decide) hfar
   have YOWa : OwZ X2_68 Aa rla ca (Ty.zs xsa) := OwZ.store (OWa.out.keep B1.out) (heap_keep Fv16_11.out B1.out) (by decide) hfar
   have YOWn : OwZ X2_68 An rln cn (Ty.zs xsn) := OwZ.store (OWn.out.keep B1.out) (heap_keep Fv16_11.out B1.out) (by decide) hfar
   have YOWs : OwZ X2_68 As rls cs (Ty.zs xss) := OwZ.store OWs.out (heap_keep Fv16_11.out B1.out) (by decide) hfar
   have YFv0_3 : X2_68.heap[w.heap.size]? = some (.cells #[.int .i64 kind, .int .i64 col, .int .i64 k, .slice A n c] 24 (0, 0)) := hfar _ _ N10_0.out (heap_keep Fv0_3.out B1.out)
   have YFv1_4 : X2_68.heap[(w.heap.size + 1)]? = some (.cells #[.int .u16 (x1 : Int), .int .u16 (y1 : Int)] 47 (0, 0)) := hfar _ _ N11_1.out (heap_keep Fv1_4.out B1.out)
   have YFv2_5 : X2_68.heap[(w.heap.size + 1 + 1)]? = some (.cells #[.int .i64 ea, .int .i64 eb, .int .i64 ec] 49 (0, 0)) := hfar _ _ N12_2.out (heap_keep Fv2_5.out B1.out)
   have YFv7_8 : X2_68.heap[b8]? = some (.cells #[.int .i64 (kd : Int), .int .i64 (cl : Int), .int .i64 (kk : Int), .slice (some ⟨g4, 0, none⟩) qf.length c47] 24 (0, 0)) := hfar _ _ N13_3.out (heap_keep Fv7_8.out B1.out)
   have YFg2 : X2_68.heap[g2]? = some (.cells cur 44 (0, 0)) := hfar _ _ N14_4.out (heap_keep Fg2.out B1.out)
   have YFv26_13 : X2_68.heap[b13]? = some (.cells #[.slice An rln cn] 29 (0, 0)) := hfar _ _ (Ne.symm N24_5.out) (heap_keep Fv26_13.out B1.out)
   have YFv42_15 : X2_68.heap[b15]? = some (.cells #[.int .i64 (kd : Int), .int .i64 (cl : Int), .int .i64 (kk : Int), .slice (some ⟨g2, 0, none⟩) qf.length c2] 24 (0, 0)) := hfar _ _ (Ne.symm N39_5.out) (heap_keep Fv42_15.out B1.out)
   have YFg4 : X2_68.heap[g4]? = some (.cells (cur4.setIfInBounds 0 (.slice hA 2 hcp)) 44 (0, 0)) := hfar _ _ (Ne.symm Ng4_5.out) (heap_keep Fg4.out B1.out)
   have YFv62_16 : X2_68.heap[b16]? = some (.cells #[.int .i64 (kd : Int), .int .i64 (cl : Int), .int .i64 (kk : Int), .slice (some ⟨g2, 0, none⟩) qf.length c2] 24 (0, 0)) := hfar _ _ (Ne.symm N57_5.out) (heap_keep Fv62_16.out B1.out)
   have C0_2 := zb B0 B1
   have hbr := hbel _ _ Gr30.out C0_2.out
   clear B0
   have B0 := zh hbr
   clear hbr
   clear Fv0_3
   have Fv0_3 : Hid (X2_68.heap[w.heap.size]? = some (.cells #[.int .i64 kind, .int .i64 col, .int .i64 k, .slice A n c] 24 (0, 0))) := zh YFv0_3
   clear YFv0_3
   clear Fv1_4
   have Fv1_4 : Hid (X2_68.heap[(w.heap.size + 1)]? = some (.cells #[.int .u16 (x1 : Int), .int .u16 (y1 : Int)] 47 (0, 0))) := zh YFv1_4
   clear YFv1_4
   clear Fv2_5
   have Fv2_5 : Hid (X2_68.heap[(w.heap.size + 1 + 1)]? = some (.cells #[.int .i64 ea, .int .i64 eb, .int .i64 ec] 49 (0, 0))) := zh YFv2_5
   clear YFv2_5
   clear Fv7_8
   have Fv7_8 : Hid (X2_68.heap[b8]? = some (.cells #[.int .i64 (kd : Int), .int .i64 (cl : Int), .int .i64 (kk : Int), .slice (some ⟨g4, 0, none⟩) qf.length c47] 24 (0, 0))) := zh YFv7_8
   clear YFv7_8
   clear Fg2
   have Fg2 : Hid (X2_68.heap[g2]? = some (.cells cur 44 (0, 0))) := zh YFg2
   clear YFg2
   clear Fv26_13
   have Fv26_13 : Hid (X2_68.heap[b13]? = some (.cells #[.slice An rln cn] 29 (0, 0))) := zh YFv26_13
   clear YFv26_13
   clear Fv42_15
   have Fv42_15 : Hid (X2_68.heap[b15]? = some (.cells #[.int .i64 (kd : Int), .int .i64 (cl : Int), .int .i64 (kk : Int), .slice (some ⟨g2, 0, none⟩) qf.length c2] 24 (0, 0))) := zh YFv42_15
   clear YFv42_15
   clear Fg4
   have Fg4 : Hid (X2_68.heap[g4]? = some (.cells (cur4.setIfInBounds 0 (.slice hA 2 hcp)) 44 (0, 0))) := zh YFg4
   clear YFg4
   clear Fv62_16
   have Fv62_16 : Hid (X2_68.heap[b16]? = some (.cells #[.int .i64 (kd : Int), .int .i64 (cl : Int), .int .i64 (kk : Int), .slice (some ⟨g2, 0, none⟩) qf.length c2] 24 (0, 0))) := zh YFv62_16
   clear YFv62_16
   clear HOC
   have HOC := zh YHOC
   clear YHOC
   clear OWa
   have OWa := zh YOWa
   clear YOWa
   clear OWn
   have OWn := zh YOWn
   clear YOWn
   clear OWs
   have OWs := zh YOWs
   clear YOWs
   clear Fv16_11
   have Fv16_11 : Hid (X2_68.heap[b11]? = some (.cells #[.slice As rls cs] 29 (0, 0))) := zh (h1)
   have HszX2_68 := zh hsz
   clear h1 hfar hbel hsz
   simp only [ptr, Act.put, zA]
   refine zr (.int .i64 (cos : Int)) X2_68 rfl ?_
   simp only [Act.put, zA]
   refine wpList_nil ?_
   go_upto_region 19 with fail
   refine wp_region_lit ?_
   refine zr (.agg #[.int .i64 (kd : Int), .int .i64 (cl : Int), .int .i64 (kk : Int), .slice (some ⟨g2, 0, none⟩) qf.length c2]) X2_68 (xo_loadW b15 _ Fv42_15.out Tryd.underlying24 rfl (by kernel_rfl) rfl rfl) ?_
   simp only [Act.put, zA]
   refine zr (.int .i64 (mm : Int)) X2_68 rfl ?_
   simp only [Act.put, zA]
   refine wpList_call (by kernel_rfl) 11 Tryd.func11 (by kernel_rfl) (by kernel_rfl) _ _ #[.agg #[.int .i64 (kd : Int), .int .i64 (cl : Int), .int .i64 (kk : Int), .slice (some ⟨g2, 0, none⟩) qf.length c2], .int .i64 (mm : Int)] rfl (by kernel_rfl) ?_
   refine (check_own kd cl kk (some ⟨g2, 0, none⟩) qf.length c2 hs2 qf HOK.out mm (by omega) (xsa, coa) HCKa.out X2_68 (fsr_raw Fg2.out HCU.out HOC.out) (HG.out.keep B0.out) (HGC.out.keep B0.out)).mono ?_
   rintro e V2 ⟨Ad, nd, cd, rfl, how, hb⟩
   have B1 := zh hb
   obtain rfl : rla = nd := (HRLa.out).symm.trans how.sg.len
   have OWd := zh how
   clear hb how
   refine ⟨_, rfl, ?_⟩
   simp only [Act.put, zA]
   refine zr (.tuple #[.agg #[.slice Ad rla cd], .int .i64 (coa : Int)]) V2 rfl ?_
   simp only [Act.put, zA]
   refine zr (.agg #[.slice Ad rla cd]) V2 rfl ?_
   simp only [Act.put, zA]
   refine zr (.int .i64 (coa : Int)) V2 rfl ?_
   simp only [Act.put, zA]
   refine wpList_new #[.slice none 0 0] 29 (by kernel_rfl) (xo_alloc #[.slice none 0 0] (by kernel_rfl) rfl) ?_
   intro b18 V3 hge h0 hb
   have N69_0 : Hid (w.heap.size ≠ b18) := zh (xp_lt0 (heap_keep Fv0_3.out B1.out) hge)
   have N70_1 : Hid ((w.heap.size + 1) ≠ b18) := zh (xp_lt0 (heap_keep Fv1_4.out B1.out) hge)
   have N71_2 : Hid ((w.heap.size + 1 + 1) ≠ b18) := zh (xp_lt0 (heap_keep Fv2_5.out B1.out) hge)
   have N72_3 : Hid (b8 ≠ b18) := zh (xp_lt0 (heap_keep Fv7_8.out B1.out) hge)
   have N73_4 : Hid (g2 ≠ b18) := zh (xp_lt0 (heap_keep Fg2.out B1.out) hge)
   have N74_5 : Hid (b11 ≠ b18) := zh (xp_lt0 (heap_keep Fv16_11.out B1.out) hge)
   have N75_6 : Hid (b13 ≠ b18) := zh (xp_lt0 (heap_keep Fv26_13.out B1.out) hge)
   have N76_7 : Hid (b15 ≠ b18) := zh (xp_lt0 (heap_keep Fv42_15.out B1.out) hge)
   have N77_8 : Hid (g4 ≠ b18) := zh (xp_lt0 (heap_keep Fg4.out B1.out) hge)
   have N78_9 : Hid (b16 ≠ b18) := zh (xp_lt0 (heap_keep Fv62_16.out B1.out) hge)
   have Ge79 : Hid (V2.heap.size ≤ b18) := zh hge
   have B2 := zh hb
   have Fv80_18 : Hid (V3.heap[b18]? = some (.cells #[.slice none 0 0] 29 (0, 0))) := zh (h0)
   have Lt81 : Hid (b18 < V3.heap.size) := zh (xp_lt Fv80_18.out)
   clear hge h0 hb
   simp only [ptr, Act.put, zA]
   refine wpList_storeW b18 #[.slice none 0 0] #[.slice Ad rla cd] 29 (by kernel_rfl) Fv80_18.out (xo_storeW b18 #[.slice none 0 0] #[.slice Ad rla cd] Fv80_18.out (by kernel_rfl) rfl (by simp [Value.oneCell']) rfl rfl rfl) ?_
   intro X3_82 h1 hfar hbel hsz
   have hbr := hbel _ _ Ge79.out B2.out
   clear B2
   have B2 := zh hbr
   clear hbr
   clear Fv80_18
   have Fv80_18 : Hid (X3_82.heap[b18]? = some (.cells #[.slice Ad rla cd] 29 (0, 0))) := zh (h1)
   have HszX3_82 := zh hsz
   clear h1 hfar hbel hsz
   simp only [ptr, Act.put, zA]
   refine zr (.int .i64 (coa : Int)) X3_82 rfl ?_
   simp only [Act.put, zA]
   refine wpList_nil ?_
   have C1_3 := zb B1 B2
   have hfx : FsR X3_82 (some ⟨g4, 0, none⟩) qf.length c47 hs3 ((qf.set 0 (l0.take 2)).map (List.map Qu.Cd.ci)) := (by have hz := fsr_set0 (u := (Hd.mk hA 2 hcp)) (l := l0.take 2) (heap_keep Fg4.out C1_3.out) HCS.out (HOC.out.keep C1_3.out) (by rw [List.map_take]; exact Sg.take (OwnsC.sgi (d := Hd.mk hA hp hcp) (HOC.out.keep C1_3.out) HH0.out HL0.out) (by show 2 ≤ hp; omega)); rw [HHS.out] at hz; exact hz)
   have HFX := zh hfx
   clear hfx
   have oxs := (OWs.out.keep C1_3.out)
   have OXs := zh oxs
   clear oxs
   have oxd := (OWd.out.keep B2.out)
   have OXd := zh oxd
   clear oxd
   have oxn := (OWn.out.keep C1_3.out)
   have OXn := zh oxn
   clear oxn
   have C0_2 := zb B0 B1
   have C0_3 := zb C0_2 B2
   have HBV83 := zh C0_3.out
   have YOXs := OXs.out
   have YOXd := OXd.out
   have YOXn := OXn.out
   have YHFX := HFX.out
   have YFv7_8 := (heap_keep Fv7_8.out C1_3.out)
   have YFv16_11 := (heap_keep Fv16_11.out C1_3.out)
   have YFv26_13 := (heap_keep Fv26_13.out C1_3.out)
   have YFv80_18 := Fv80_18.out
   clear OXs
   have OXs := zh YOXs
   clear YOXs
   clear OXd
   have OXd := zh YOXd
   clear YOXd
   clear OXn
   have OXn := zh YOXn
   clear YOXn
   clear HFX
   have HFX := zh YHFX
   clear YHFX
   clear Fv7_8
   have Fv7_8 := zh YFv7_8
   clear YFv7_8
   clear Fv16_11
   have Fv16_11 := zh YFv16_11
   clear YFv16_11
   clear Fv26_13
   have Fv26_13 := zh YFv26_13
   clear YFv26_13
   clear Fv80_18
   have Fv80_18 := zh YFv80_18
   clear YFv80_18
   obtain ⟨VB83, rfl⟩ : ∃ VB83 : World, VB83 = X3_82 := ⟨_, rfl⟩
   by_cases hc1z : cos = 0
   ·have hc2z : coa = 0 := H12.out hc1z
    subst hc1z
    subst hc2z
    have HR1 := zh (HFs.out.2.2 rfl)
    have HR2 := zh (HFa.out.2.2 rfl)
    have hr1 := HR1.out.1
    have hr2 := HR2.out.1
    have HRE1 := zh hr1
    have hci84 : ¬ ((rls : Int) ≠ (rla : Int)) := by omega
    go_upto_region 20 with fail
    refine wp_region_lit ?_
    refine zr (.int .i64 0) VB83 rfl ?_
    simp only [Act.put, zA]
    refine zr (.bool true) VB83 (xo_eqlT .i64 0 0 (by omega) rfl rfl rfl) ?_
    simp only [Act.put, zA]
    refine zr (.bool true) VB83 rfl ?_
    simp only [Act.put, zA]
    refine zr (.int .i64 0) VB83 rfl ?_
    simp only [Act.put, zA]
    refine zr (.bool false) VB83 (xo_neqF .i64 0 0 (by omega) rfl rfl rfl) ?_
    simp only [Act.put, zA]
    refine zr (.bool false) VB83 rfl ?_
    simp only [Act.put, zA]
    refine zr (.bool false) VB83 rfl ?_
    simp only [Act.put, zA]
    refine zr (.int .i64 0) VB83 rfl ?_
    simp only [Act.put, zA]
    refine zr (.bool true) VB83 (xo_eqlT .i64 0 0 (by omega) rfl rfl rfl) ?_
    simp only [Act.put, zA]
    refine zr (.bool true) VB83 rfl ?_
    simp only [Act.put, zA]
    refine zr (.pointer (some ⟨b11, 0, none⟩)) VB83 (xo_fld0 0 b11 0 (by kernel_rfl) rfl rfl) ?_
    simp only [Act.put, zA]
    refine zr (.slice As rls cs) VB83 (xo_load1 ⟨b11, 0, none⟩ _ (cells_at Fv16_11.out 0 rfl) Tryd.underlying27 rfl rfl rfl) ?_
    simp only [Act.put, zA]
    refine zr (.int .i64 (rls : Int)) VB83 (xo_len As rls cs Tryd.underlying27 rfl rfl) ?_
    simp only [Act.put, zA]
    refine zr (.pointer (some ⟨b18, 0, none⟩)) VB83 (xo_fld0 0 b18 0 (by kernel_rfl) rfl rfl) ?_
    simp only [Act.put, zA]
    refine zr (.slice Ad rla cd) VB83 (xo_load1 ⟨b18, 0, none⟩ _ (cells_at Fv80_18.out 0 rfl) Tryd.underlying27 rfl rfl rfl) ?_
    simp only [Act.put, zA]
    refine zr (.int .i64 (rla : Int)) VB83 (xo_len Ad rla cd Tryd.underlying27 rfl rfl) ?_
    simp only [Act.put, zA]
    refine zr (.bool false) VB83 (xo_neqF .i64 (rls : Int) (rla : Int) (by omega) rfl rfl rfl) ?_
    simp only [Act.put, zA]
    refine zr (.bool false) VB83 rfl ?_
    simp only [Act.put, zA]
    refine zr (.bool false) VB83 rfl ?_
    simp only [Act.put, zA]
    refine wpList_nil ?_
    clear hr1 hr2 hci84
    go_upto_region 22 with fail
    refine wp_region_lit ?_
    refine zr (.int .i64 0) VB83 rfl ?_
    simp only [Act.put, zA]
    refine wpList_nil ?_
    have O85 := (Below.refl VB83.heap.size VB83)
    have B0 := zh (Below.refl VB83.heap.size VB83)
    go_wp2_with fail
    go_loopw [20] (fun p wr => ∃ i : Nat, i ≤ rls ∧ p = .int .i64 i ∧ Below VB83.heap.size VB83 wr) (fun p _ => rls - (intOf p).toNat)
    case atStart => exact ⟨0, Nat.zero_le _, rfl, O85⟩
    case round =>
     clear O85
     obtain ⟨wo, rfl⟩ : ∃ wo : World, wo = wr := ⟨_, rfl⟩
     obtain ⟨i, hi, rfl, hb0⟩ := hrel
     have hbr := hb0
     clear B0
     have B0 := zh hbr
     clear hbr
     clear hb0 
     by_cases hir : i < rls
     ·have hci87 : ((i : Int) < (rls : Int)) := by omega
      go_upto_region 23 with fail
      refine wp_region_lit ?_
      refine zr (.int .i64 0) wo rfl ?_
      simp only [Act.put, zA]
      refine zr (.bool true) wo (xo_eqlT .i64 0 0 (by omega) rfl rfl rfl) ?_
      simp only [Act.put, zA]
      refine zr (.bool true) wo rfl ?_
      simp only [Act.put, zA]
      refine zr (.int .i64 (i : Int)) wo rfl ?_
      simp only [Act.put, zA]
      refine zr (.pointer (some ⟨b11, 0, none⟩)) wo (xo_fld0 0 b11 0 (by kernel_rfl) rfl rfl) ?_
      simp only [Act.put, zA]
      refine zr (.slice As rls cs) wo (xo_load1 ⟨b11, 0, none⟩ _ (cells_at (heap_keep Fv16_11.out B0.out) 0 rfl) Tryd.underlying27 rfl rfl rfl) ?_
      simp only [Act.put, zA]
      refine zr (.int .i64 (rls : Int)) wo (xo_len As rls cs Tryd.underlying27 rfl rfl) ?_
      simp only [Act.put, zA]
      refine zr (.bool true) wo (xo_lssT .i64 (i : Int) (rls : Int) (by omega) rfl rfl rfl) ?_
      simp only [Act.put, zA]
      refine zr (.bool true) wo rfl ?_
      simp only [Act.put, zA]
      refine wpList_nil ?_
      have hism : i < sm := by have := HRE1.out; omega
      have e1 := HR1.out.2 i hism
      have e2 := HR2.out.2 i hism
      obtain ⟨v1, hv1⟩ : ∃ z, Ty.bdN ⟨kd, cl, kk, (qf.set 0 (l0.take 2))⟩ mm i = z := ⟨_, rfl⟩
      have HV1 := zh hv1
      clear hv1
      obtain ⟨v2, hv2⟩ : ∃ z, Ty.bdN ⟨kd, cl, kk, qf⟩ mm i = z := ⟨_, rfl⟩
      have HV2 := zh hv2
      clear hv2
      rw [HV1.out] at e1
      rw [HV2.out] at e2
      have hv21 : v2 ≤ v1 := by rw [← HV1.out, ← HV2.out]; exact HLE.out i
      have hv62 := e1.2
      have HE1 := zh e1.1
      have HE2 := zh e2.1
      clear e1 e2
      have hi2 : i < rla := by have := HR2.out.1; omega
      have hci88 : ¬ ((v2 : Int) > (v1 : Int)) := by omega
      have hci89 : ¬ ((v2 : Int) < 0) := by omega
      go_upto_region 25 with fail
      refine wp_later_lex (by kernel_rfl) (lexOK_of (by kernel_rfl) (by kernel_rfl)) ?_
      refine zv (.pointer (some ⟨b18, 0, none⟩)) (fun v hv => (xo_fld0 0 b18 0 (by kernel_rfl) rfl rfl)) ?_
      simp only [Act.put, zA]
      refine zv (.slice Ad rla cd) (fun v hv => (xo_load1 ⟨b18, 0, none⟩ _ (cells_at (heap_keep (heap_keep Fv80_18.out B0.out) (later_bel hv)) 0 rfl) Tryd.underlying27 rfl rfl rfl)) ?_
      simp only [Act.put, zA]
      refine zv (.int .i64 (i : Int)) (fun v hv => rfl) ?_
      simp only [Act.put, zA]
      refine zv (.pointer (some (gad Ad (i * 1)))) (fun v hv => (xg_idx .i64 (OwZ.sg ((OXd.out.keep B0.out).keep (later_bel hv))) HE2.out Tryd.underlying27 (by kernel_rfl) rfl rfl rfl)) ?_
      simp only [Act.put, zA]
      refine zv (.int .i64 (v2 : Int)) (fun v hv => (xg_load1 (E := zzC) (i := i) (j := 0) (OwZ.sg ((OXd.out.keep B0.out).keep (later_bel hv))) HE2.out rfl rfl Tryd.underlying2 rfl rfl rfl)) ?_
      simp only [Act.put, zA]
      refine zv (.pointer (some ⟨b11, 0, none⟩)) (fun v hv => (xo_fld0 0 b11 0 (by kernel_rfl) rfl rfl)) ?_
      simp only [Act.put, zA]
      refine zv (.slice As rls cs) (fun v hv => (xo_load1 ⟨b11, 0, none⟩ _ (cells_at (heap_keep (heap_keep Fv16_11.out B0.out) (later_bel hv)) 0 rfl) Tryd.underlying27 rfl rfl rfl)) ?_
      simp only [Act.put, zA]
      refine zv (.int .i64 (i : Int)) (fun v hv => rfl) ?_
      simp only [Act.put, zA]
      refine zv (.pointer (some (gad As (i * 1)))) (fun v hv => (xg_idx .i64 (OwZ.sg ((OXs.out.keep B0.out).keep (later_bel hv))) HE1.out Tryd.underlying27 (by kernel_rfl) rfl rfl rfl)) ?_
      simp only [Act.put, zA]
      refine zv (.int .i64 (v1 : Int)) (fun v hv => (xg_load1 (E := zzC) (i := i) (j := 0) (OwZ.sg ((OXs.out.keep B0.out).keep (later_bel hv))) HE1.out rfl rfl Tryd.underlying2 rfl rfl rfl)) ?_
      simp only [Act.put, zA]
      refine zv (.bool false) (fun v hv => (xo_gtrF .i64 (v2 : Int) (v1 : Int) (by omega) rfl rfl rfl)) ?_
      simp only [Act.put, zA]
      refine zv (.bool false) (fun v hv => rfl) ?_
      simp only [Act.put, zA]
      refine zv (.pointer (some ⟨b18, 0, none⟩)) (fun v hv => (xo_fld0 0 b18 0 (by kernel_rfl) rfl rfl)) ?_
      simp only [Act.put, zA]
      refine zv (.slice Ad rla cd) (fun v hv => (xo_load1 ⟨b18, 0, none⟩ _ (cells_at (heap_keep (heap_keep Fv80_18.out B0.out) (later_bel hv)) 0 rfl) Tryd.underlying27 rfl rfl rfl)) ?_
      simp only [Act.put, zA]
      refine zv (.int .i64 (i : Int)) (fun v hv => rfl) ?_
      simp only [Act.put, zA]
      refine zv (.pointer (some (gad Ad (i * 1)))) (fun v hv => (xg_idx .i64 (OwZ.sg ((OXd.out.keep B0.out).keep (later_bel hv))) HE2.out Tryd.underlying27 (by kernel_rfl) rfl rfl rfl)) ?_
      simp only [Act.put, zA]
      refine zv (.int .i64 (v2 : Int)) (fun v hv => (xg_load1 (E := zzC) (i := i) (j := 0) (OwZ.sg ((OXd.out.keep B0.out).keep (later_bel hv))) HE2.out rfl rfl Tryd.underlying2 rfl rfl rfl)) ?_
      simp only [Act.put, zA]
      refine zv (.bool false) (fun v hv => (xo_lssF .i64 (v2 : Int) 0 (by omega) rfl rfl rfl)) ?_
      simp only [Act.put, zA]
      refine zv (.bool false) (fun v hv => rfl) ?_
      simp only [Act.put, zA]
      refine wpQuiet_nil ?_
      intro X1_90
      have hb := X1_90.below
      generalize X1_90.at = V2 at *
      have B1 := zh hb
      clear hb
      by_cases hcn0 : con = 0
      ·have hci91 : ((con : Int) = 0) := by omega
       have HRn := zh (HFn.out.2.2 hcn0)
       have hrn := HRn.out.1
       have hre := HRE1.out
       have hci92 : ¬ ((rln : Int) ≠ (rls : Int)) := by omega
       have hin : i < rln := by omega
       clear hrn hre
       go_upto_region 27 with fail
       refine wp_later_lex (by kernel_rfl) (lexOK_of (by kernel_rfl) (by kernel_rfl)) ?_
       refine zv (.int .i64 (con : Int)) (fun v hv => rfl) ?_
       simp only [Act.put, zA]
       refine zv (.bool true) (fun v hv => (xo_eqlT .i64 (con : Int) 0 (by omega) rfl rfl rfl)) ?_
       simp only [Act.put, zA]
       refine zv (.bool true) (fun v hv => rfl) ?_
       simp only [Act.put, zA]
       refine zv (.pointer (some ⟨b13, 0, none⟩)) (fun v hv => (xo_fld0 0 b13 0 (by kernel_rfl) rfl rfl)) ?_
       simp only [Act.put, zA]
       have C0_2 := zb B0 B1
       refine zv (.slice An rln cn) (fun v hv => (xo_load1 ⟨b13, 0, none⟩ _ (cells_at (heap_keep (heap_keep Fv26_13.out C0_2.out) (later_bel hv)) 0 rfl) Tryd.underlying27 rfl rfl rfl)) ?_
       simp only [Act.put, zA]
       refine zv (.int .i64 (rln : Int)) (fun v hv => (xo_len An rln cn Tryd.underlying27 rfl rfl)) ?_
       simp only [Act.put, zA]
       refine zv (.pointer (some ⟨b11, 0, none⟩)) (fun v hv => (xo_fld0 0 b11 0 (by kernel_rfl) rfl rfl)) ?_
       simp only [Act.put, zA]
       refine zv (.slice As rls cs) (fun v hv => (xo_load1 ⟨b11, 0, none⟩ _ (cells_at (heap_keep (heap_keep Fv16_11.out C0_2.out) (later_bel hv)) 0 rfl) Tryd.underlying27 rfl rfl rfl)) ?_
       simp only [Act.put, zA]
       refine zv (.int .i64 (rls : Int)) (fun v hv => (xo_len As rls cs Tryd.underlying27 rfl rfl)) ?_
       simp only [Act.put, zA]
       refine zv (.bool false) (fun v hv => (xo_neqF .i64 (rln : Int) (rls : Int) (by omega) rfl rfl rfl)) ?_
       simp only [Act.put, zA]
       refine zv (.bool false) (fun v hv => rfl) ?_
       simp only [Act.put, zA]
       refine zv (.pointer (some ⟨b8, 3, none⟩)) (fun v hv => (xo_fld0 3 b8 3 (by kernel_rfl) rfl rfl)) ?_
       simp only [Act.put, zA]
       refine zv (.slice (some ⟨g4, 0, none⟩) qf.length c47) (fun v hv => (xo_load1 ⟨b8, 3, none⟩ _ (cells_at (heap_keep (heap_keep Fv7_8.out C0_2.out) (later_bel hv)) 3 rfl) Tryd.underlying22 rfl rfl rfl)) ?_
       simp only [Act.put, zA]
       refine zv (.pointer (some (gad (some ⟨g4, 0, none⟩) (0 * 1)))) (fun v hv => (xg_idx .i64 (((HFX.out.keep C0_2.out).keep (later_bel hv)).sg) HH3.out Tryd.underlying22 (by kernel_rfl) rfl rfl rfl)) ?_
       simp only [Act.put, zA]
       refine zv (.slice hA 2 hcp) (fun v hv => (xg_load1 (E := hdC) (i := 0) (j := 0) (((HFX.out.keep C0_2.out).keep (later_bel hv)).sg) HH3.out rfl rfl Tryd.underlying44 rfl rfl rfl)) ?_
       simp only [Act.put, zA]
       refine zv (.int .i64 2) (fun v hv => (xo_len hA 2 hcp Tryd.underlying44 rfl rfl)) ?_
       simp only [Act.put, zA]
       refine zv (.bool false) (fun v hv => (xo_lssF .i64 2 2 (by omega) rfl rfl rfl)) ?_
       simp only [Act.put, zA]
       refine zv (.bool false) (fun v hv => rfl) ?_
       simp only [Act.put, zA]
       refine BigFrame.wpQuiet_skip (by kernel_rfl) ?_
       try simp only [Act.put, zA]
       refine BigFrame.wpQuiet_skip (by kernel_rfl) ?_
       try simp only [Act.put, zA]
       refine BigFrame.wpQuiet_skip (by kernel_rfl) ?_
       try simp only [Act.put, zA]
       refine BigFrame.wpQuiet_skip (by kernel_rfl) ?_
       try simp only [Act.put, zA]
       refine BigFrame.wpQuiet_skip (by kernel_rfl) ?_
       try simp only [Act.put, zA]
       refine BigFrame.wpQuiet_skip (by kernel_rfl) ?_
       try simp only [Act.put, zA]
       refine BigFrame.wpQuiet_skip (by kernel_rfl) ?_
       try simp only [Act.put, zA]
       refine BigFrame.wpQuiet_skip (by kernel_rfl) ?_
       try simp only [Act.put, zA]
       refine BigFrame.wpQuiet_skip (by kernel_rfl) ?_
       try simp only [Act.put, zA]
       refine BigFrame.wpQuiet_skip (by kernel_rfl) ?_
       try simp only [Act.put, zA]
       refine BigFrame.wpQuiet_skip (by kernel_rfl) ?_
       try simp only [Act.put, zA]
       refine zv (.bool false) (fun v hv => rfl) ?_
       simp only [Act.put, zA]
       refine zv (.bool false) (fun v hv => rfl) ?_
       simp only [Act.put, zA]
       refine zv (.bool false) (fun v hv => rfl) ?_
       simp only [Act.put, zA]
       refine wpQuiet_nil ?_
       intro X2_93
       have hb := X2_93.below
       generalize X2_93.at = V3 at *
       have B2 := zh hb
       clear hb
       go_upto_region 24 with fail
       refine wp_region_lit ?_
       refine zr (.int .i64 (i : Int)) V3 rfl ?_
       simp only [Act.put, zA]
       refine zr (.int .i64 ((i + 1 : Nat) : Int)) V3 (xo_addI (i : Int) 1 ((i + 1 : Nat) : Int) (by omega) (by omega) (by omega) rfl rfl rfl) ?_
       simp only [Act.put, zA]
       refine zr (.int .i64 ((i + 1 : Nat) : Int)) V3 rfl ?_
       simp only [Act.put, zA]
       refine wpList_nil ?_
       have C0_3 := zb C0_2 B2
       have hq94 := C0_3.out
       go_wp2_with fail
       go_roundw
       case rel => exact ⟨i + 1, by omega, by go_num, hq94⟩
       case measure => simp [intOf]; omega
      ·have hci91 : ¬ ((con : Int) = 0) := by omega
       go_upto_region 27 with fail
       refine wp_later_lex (by kernel_rfl) (lexOK_of (by kernel_rfl) (by kernel_rfl)) ?_
       refine zv (.int .i64 (con : Int)) (fun v hv => rfl) ?_
       simp only [Act.put, zA]
       refine zv (.bool false) (fun v hv => (xo_eqlF .i64 (con : Int) 0 (by omega) rfl rfl rfl)) ?_
       simp only [Act.put, zA]
       refine zv (.bool false) (fun v hv => rfl) ?_
       simp only [Act.put, zA]
       refine BigFrame.wpQuiet_skip (by kernel_rfl) ?_
       try simp only [Act.put, zA]
       refine BigFrame.wpQuiet_skip (by kernel_rfl) ?_
       try simp only [Act.put, zA]
       refine BigFrame.wpQuiet_skip (by kernel_rfl) ?_
       try simp only [Act.put, zA]
       refine BigFrame.wpQuiet_skip (by kernel_rfl) ?_
       try simp only [Act.put, zA]
       refine BigFrame.wpQuiet_skip (by kernel_rfl) ?_
       try simp only [Act.put, zA]
       refine BigFrame.wpQuiet_skip (by kernel_rfl) ?_
       try simp only [Act.put, zA]
       refine BigFrame.wpQuiet_skip (by kernel_rfl) ?_
       try simp only [Act.put, zA]
       refine BigFrame.wpQuiet_skip (by kernel_rfl) ?_
       try simp only [Act.put, zA]
       refine BigFrame.wpQuiet_skip (by kernel_rfl) ?_
       try simp only [Act.put, zA]
       refine BigFrame.wpQuiet_skip (by kernel_rfl) ?_
       try simp only [Act.put, zA]
       refine BigFrame.wpQuiet_skip (by kernel_rfl) ?_
       try simp only [Act.put, zA]
       refine BigFrame.wpQuiet_skip (by kernel_rfl) ?_
       try simp only [Act.put, zA]
       refine BigFrame.wpQuiet_skip (by kernel_rfl) ?_
       try simp only [Act.put, zA]
       refine BigFrame.wpQuiet_skip (by kernel_rfl) ?_
       try simp only [Act.put, zA]
       refine BigFrame.wpQuiet_skip (by kernel_rfl) ?_
       try simp only [Act.put, zA]
       refine BigFrame.wpQuiet_skip (by kernel_rfl) ?_
       try simp only [Act.put, zA]
       refine BigFrame.wpQuiet_skip (by kernel_rfl) ?_
       try simp only [Act.put, zA]
       refine BigFrame.wpQuiet_skip (by kernel_rfl) ?_
       try simp only [Act.put, zA]
       refine BigFrame.wpQuiet_skip (by kernel_rfl) ?_
       try simp only [Act.put, zA]
       refine BigFrame.wpQuiet_skip (by kernel_rfl) ?_
       try simp only [Act.put, zA]
       refine BigFrame.wpQuiet_skip (by kernel_rfl) ?_
       try simp only [Act.put, zA]
       refine BigFrame.wpQuiet_skip (by kernel_rfl) ?_
       try simp only [Act.put, zA]
       refine BigFrame.wpQuiet_skip (by kernel_rfl) ?_
       try simp only [Act.put, zA]
       refine BigFrame.wpQuiet_skip (by kernel_rfl) ?_
       try simp only [Act.put, zA]
       refine BigFrame.wpQuiet_skip (by kernel_rfl) ?_
       try simp only [Act.put, zA]
       refine BigFrame.wpQuiet_skip (by kernel_rfl) ?_
       try simp only [Act.put, zA]
       refine BigFrame.wpQuiet_skip (by kernel_rfl) ?_
       try simp only [Act.put, zA]
       refine BigFrame.wpQuiet_skip (by kernel_rfl) ?_
       try simp only [Act.put, zA]
       refine zv (.bool false) (fun v hv => rfl) ?_
       simp only [Act.put, zA]
       refine wpQuiet_nil ?_
       intro X2_92
       have hb := X2_92.below
       generalize X2_92.at = V3 at *
       have B2 := zh hb
       clear hb
       go_upto_region 24 with fail
       refine wp_region_lit ?_
       refine zr (.int .i64 (i : Int)) V3 rfl ?_
       simp only [Act.put, zA]
       refine zr (.int .i64 ((i + 1 : Nat) : Int)) V3 (xo_addI (i : Int) 1 ((i + 1 : Nat) : Int) (by omega) (by omega) (by omega) rfl rfl rfl) ?_
       simp only [Act.put, zA]
       refine zr (.int .i64 ((i + 1 : Nat) : Int)) V3 rfl ?_
       simp only [Act.put, zA]
       refine wpList_nil ?_
       have C0_2 := zb B0 B1
       have C0_3 := zb C0_2 B2
       have hq93 := C0_3.out
       go_wp2_with fail
       go_roundw
       case rel => exact ⟨i + 1, by omega, by go_num, hq93⟩
       case measure => simp [intOf]; omega
     ·have hci87 : ¬ ((i : Int) < (rls : Int)) := by omega
      go_upto_region 23 with fail
      refine wp_region_lit ?_
      refine zr (.int .i64 0) wo rfl ?_
      simp only [Act.put, zA]
      refine zr (.bool true) wo (xo_eqlT .i64 0 0 (by omega) rfl rfl rfl) ?_
      simp only [Act.put, zA]
      refine zr (.bool true) wo rfl ?_
      simp only [Act.put, zA]
      refine zr (.int .i64 (i : Int)) wo rfl ?_
      simp only [Act.put, zA]
      refine zr (.pointer (some ⟨b11, 0, none⟩)) wo (xo_fld0 0 b11 0 (by kernel_rfl) rfl rfl) ?_
      simp only [Act.put, zA]
      refine zr (.slice As rls cs) wo (xo_load1 ⟨b11, 0, none⟩ _ (cells_at (heap_keep Fv16_11.out B0.out) 0 rfl) Tryd.underlying27 rfl rfl rfl) ?_
      simp only [Act.put, zA]
      refine zr (.int .i64 (rls : Int)) wo (xo_len As rls cs Tryd.underlying27 rfl rfl) ?_
      simp only [Act.put, zA]
      refine zr (.bool false) wo (xo_lssF .i64 (i : Int) (rls : Int) (by omega) rfl rfl rfl) ?_
      simp only [Act.put, zA]
      refine zr (.bool false) wo rfl ?_
      simp only [Act.put, zA]
      refine wpList_nil ?_
      go_upto_region 29 with fail
      refine wp_region_lit ?_
      refine zr (.bool true) wo rfl ?_
      simp only [Act.put, zA]
      refine zr (.bool true) wo rfl ?_
      simp only [Act.put, zA]
      refine wpList_nil ?_
      have hbf := bel_step HBV83.out B0.out
      go_wp2_with fail
      go_ret
      exact ⟨rfl, hbf⟩
   ·have hci84 : ¬ ((cos : Int) = 0) := by omega
    go_upto_region 20 with fail
    refine wp_region_lit ?_
    refine zr (.int .i64 (cos : Int)) VB83 rfl ?_
    simp only [Act.put, zA]
    refine zr (.bool false) VB83 (xo_eqlF .i64 (cos : Int) 0 (by omega) rfl rfl rfl) ?_
    simp only [Act.put, zA]
    refine zr (.bool false) VB83 rfl ?_
    simp only [Act.put, zA]
    refine zl ?_
    try simp only [Act.put, zA]
    refine zl ?_
    try simp only [Act.put, zA]
    refine zr (.bool false) VB83 rfl ?_
    simp only [Act.put, zA]
    refine zr (.bool false) VB83 rfl ?_
    simp only [Act.put, zA]
    refine zr (.int .i64 (cos : Int)) VB83 rfl ?_
    simp only [Act.put, zA]
    refine zr (.bool false) VB83 (xo_eqlF .i64 (cos : Int) 0 (by omega) rfl rfl rfl) ?_
    simp only [Act.put, zA]
    refine zr (.bool false) VB83 rfl ?_
    simp only [Act.put, zA]
    refine zl ?_
    try simp only [Act.put, zA]
    refine zl ?_
    try simp only [Act.put, zA]
    refine zl ?_
    try simp only [Act.put, zA]
    refine zl ?_
    try simp only [Act.put, zA]
    refine zl ?_
    try simp only [Act.put, zA]
    refine zl ?_
    try simp only [Act.put, zA]
    refine zl ?_
    try simp only [Act.put, zA]
    refine zr (.bool false) VB83 rfl ?_
    simp only [Act.put, zA]
    refine zr (.bool false) VB83 rfl ?_
    simp only [Act.put, zA]
    refine wpList_nil ?_
    go_upto_region 22 with fail
    refine wp_region_lit ?_
    refine zr (.int .i64 0) VB83 rfl ?_
    simp only [Act.put, zA]
    refine wpList_nil ?_
    have O85 := (Below.refl VB83.heap.size VB83)
    have B0 := zh (Below.refl VB83.heap.size VB83)
    go_wp2_with fail
    go_loopw [20] (fun p wr => ∃ i : Nat, i ≤ rls ∧ p = .int .i64 i ∧ Below VB83.heap.size VB83 wr) (fun p _ => rls - (intOf p).toNat)
    case atStart => exact ⟨0, Nat.zero_le _, rfl, O85⟩
    case round =>
     clear O85
     obtain ⟨wo, rfl⟩ : ∃ wo : World, wo = wr := ⟨_, rfl⟩
     obtain ⟨i, hi, rfl, hb0⟩ := hrel
     have hbr := hb0
     clear B0
     have B0 := zh hbr
     clear hbr
     clear hb0 
     go_upto_region 23 with fail
     refine wp_region_lit ?_
     refine zr (.int .i64 (cos : Int)) wo rfl ?_
     simp only [Act.put, zA]
     refine zr (.bool false) wo (xo_eqlF .i64 (cos : Int) 0 (by omega) rfl rfl rfl) ?_
     simp only [Act.put, zA]
     refine zr (.bool false) wo rfl ?_
     simp only [Act.put, zA]
     refine zl ?_
     try simp only [Act.put, zA]
     refine zl ?_
     try simp only [Act.put, zA]
     refine zl ?_
     try simp only [Act.put, zA]
     refine zl ?_
     try simp only [Act.put, zA]
     refine zl ?_
     try simp only [Act.put, zA]
     refine zr (.bool false) wo rfl ?_
     simp only [Act.put, zA]
     refine wpList_nil ?_
     go_upto_region 29 with fail
     refine wp_region_lit ?_
     refine zr (.bool true) wo rfl ?_
     simp only [Act.put, zA]
     refine zr (.bool true) wo rfl ?_
     simp only [Act.put, zA]
     refine wpList_nil ?_
     have hbf := bel_step HBV83.out B0.out
     go_wp2_with fail
     go_ret
     exact ⟨rfl, hbf⟩
  ·have hp32 : hp ≤ 2 := by omega
   have hci49 : ¬ ((hp : Int) = 3) := by omega
   go_upto_region 11 with fail
   refine wp_region_lit ?_
   refine zr (.pointer (some ⟨b8, 3, none⟩)) X3_48 (xo_fld0 3 b8 3 (by kernel_rfl) rfl rfl) ?_
   simp only [Act.put, zA]
   refine zr (.slice (some ⟨g2, 0, none⟩) qf.length c2) X3_48 (xo_load1 ⟨b8, 3, none⟩ _ (cells_at (heap_keep Fv7_8.out B1.out) 3 rfl) Tryd.underlying22 rfl rfl rfl) ?_
   simp only [Act.put, zA]
   refine zr (.pointer (some (gad (some ⟨g2, 0, none⟩) (0 * 1)))) X3_48 (xg_idx .i64 (sg_raw (heap_keep Fg2.out B1.out) HCU.out) HH0.out Tryd.underlying22 (by kernel_rfl) rfl rfl rfl) ?_
   simp only [Act.put, zA]
   refine zr (.slice hA hp hcp) X3_48 (xg_load1 (E := hdC) (i := 0) (j := 0) (sg_raw (heap_keep Fg2.out B1.out) HCU.out) HH0.out rfl rfl Tryd.underlying44 rfl rfl rfl) ?_
   simp only [Act.put, zA]
   refine zr (.int .i64 (hp : Int)) X3_48 (xo_len hA hp hcp Tryd.underlying44 rfl rfl) ?_
   simp only [Act.put, zA]
   refine zr (.bool false) X3_48 (xo_eqlF .i64 (hp : Int) 3 (by omega) rfl rfl rfl) ?_
   simp only [Act.put, zA]
   refine wpList_nil ?_
   have HOKB : Hid (OkQ ⟨kd, cl, kk, (qf.set 0 (l0 ++ [Qu.Cd.mk dc dl dh]))⟩) := zh (HOK.out.set0 ⟨by rw [List.length_append, HPL.out]; show hp + 1 ≤ 3; omega, fun c hc => by
       rcases List.mem_append.1 hc with e | e
       ·exact HOL.out.2 c e
       ·rcases List.mem_cons.1 e with e | e
        ·rw [e]; exact HDO.out
        ·cases e⟩)
   obtain ⟨⟨xsb, cob⟩, hck⟩ : ∃ r, Ty.ckN ⟨kd, cl, kk, (qf.set 0 (l0 ++ [Qu.Cd.mk dc dl dh]))⟩ mm = r := ⟨_, rfl⟩
   have HCKb := zh hck
   clear hck
   obtain ⟨rlb, hrl⟩ : ∃ z, (Ty.zs xsb).length = z := ⟨_, rfl⟩
   have HRLb := zh hrl
   have HRXb : Hid (xsb.length = rlb) := zh (by rw [← hrl, Ty.zs_len])
   have hr32b : rlb ≤ 32 := by rw [← HRXb.out]; exact Ty.ck_len HCKb.out
   clear hrl
   have hfb := Ty.ck_facts (q := ⟨kd, cl, kk, (qf.set 0 (l0 ++ [Qu.Cd.mk dc dl dh]))⟩) hev HCKb.out
   rw [show (⟨kd, cl, kk, (qf.set 0 (l0 ++ [Qu.Cd.mk dc dl dh]))⟩ : Qu.Qy).kind = kd from rfl, HSM.out, HRXb.out] at hfb
   have HFb := zh hfb
   have hcob := hfb.1
   clear hfb
   have HLE : Hid (∀ v, Ty.bdN ⟨kd, cl, kk, (qf.set 0 (l0 ++ [Qu.Cd.mk dc dl dh]))⟩ mm v ≤ Ty.bdN ⟨kd, cl, kk, qf⟩ mm v) := zh (fun v => Ty.mono_set HL0.out mm v)
   have H12 : Hid (coa = 0 → cob = 0) := zh (fun h => Ty.ck_all_lt (q := ⟨kd, cl, kk, (qf.set 0 (l0 ++ [Qu.Cd.mk dc dl dh]))⟩) hev HCKb.out (fun v hv => Nat.lt_of_le_of_lt (HLE.out v) ((HFa.out.2.2 h).2 v (by have : v < Ty.suN kd := hv; rw [HSM.out] at this; exact this)).2))
   go_upto_region 17 with fail
   refine wp_region_lit ?_
   refine wpList_mk (by kernel_rfl) #[] 49 0 0 (xo_empty (size := 3) Tryd.underlying44 (by kernel_rfl) rfl X3_48) ?_
   intro g97 V3 hge h0 hb
   have hge2 := Nat.le_trans (Below.refl X3_48.heap.size X3_48).size hge
   have B2 := zh hb
   have Ow97 : Hid (V3.ownsRow X3_48.heap.size 49 3 (.slice (some ⟨g97, 0, none⟩) 0 0) 0 (fl ciC [])) := zh (own_new h0 hge2)
   clear hge hge2 h0 hb
   simp only [ptr, Act.put, zA]
   refine zr (.pointer (some ⟨b8, 3, none⟩)) V3 (xo_fld0 3 b8 3 (by kernel_rfl) rfl rfl) ?_
   simp only [Act.put, zA]
   have C1_3 := zb B1 B2
   refine zr (.slice (some ⟨g2, 0, none⟩) qf.length c2) V3 (xo_load1 ⟨b8, 3, none⟩ _ (cells_at (heap_keep Fv7_8.out C1_3.out) 3 rfl) Tryd.underlying22 rfl rfl rfl) ?_
   simp only [Act.put, zA]
   refine zr (.pointer (some (gad (some ⟨g2, 0, none⟩) (0 * 1)))) V3 (xg_idx .i64 (sg_raw (heap_keep Fg2.out C1_3.out) HCU.out) HH0.out Tryd.underlying22 (by kernel_rfl) rfl rfl rfl) ?_
   simp only [Act.put, zA]
   refine zr (.slice hA hp hcp) V3 (xg_load1 (E := hdC) (i := 0) (j := 0) (sg_raw (heap_keep Fg2.out C1_3.out) HCU.out) HH0.out rfl rfl Tryd.underlying44 rfl rfl rfl) ?_
   simp only [Act.put, zA]
   refine wpList_app2 (size := 3) (by kernel_rfl) (.tmp 97) (.tmp 101) 44 rfl (.agg #[.int .i64 0, .int .i64 0, .int .i64 0]) 24 Tryd.underlying44 (by kernel_rfl) rfl (by decide) rfl Ow97.out hA hp hcp (fl ciC (l0.map Qu.Cd.ci)) rfl (OwnsC.sgi (d := Hd.mk hA hp hcp) (HOC.out.keep C1_3.out) HH0.out HL0.out).src (by unfold maxLen; omega) (by omega) B2.out.size ?_
   intro v102 X3_50 ho hb1 hg hloc
   have hox : X3_50.ownsRow X3_48.heap.size 49 3 v102 hp (fl ciC (l0.map Qu.Cd.ci)) := by first | exact ho | simpa using ho
   have hbr := B2.out.trans hb1
   clear B2
   have B2 := zh hbr
   clear hbr
   have Ow102_51 := zh hox
   clear ho hox hb1 hg hloc
   simp only [ptr, Act.put, zA]
   refine zr (v102) X3_50 rfl ?_
   simp only [Act.put, zA]
   refine wpList_nil ?_
   have C1_3 := zb B1 B2
   have hS0 : X3_50.heap[b15]? = some (.cells #[.int .i64 (kd : Int), .int .i64 (cl : Int), .int .i64 (kk : Int), .slice (some ⟨g4, 0, none⟩) qf.length c47] 24 (0, 0)) ∧ X3_50.heap[(w.heap.size + 1 + 1)]? = some (.cells #[.int .i64 ea, .int .i64 eb, .int .i64 ec] 49 (0, 0)) := ⟨(heap_keep Fv42_15.out B2.out), (heap_keep Fv2_5.out C1_3.out)⟩
   go_upto_region 18 with fail
   try simp only [List.append_eq, List.cons_append, List.nil_append]
   refine wp_ordMS (fun W => W.heap[b15]? = some (.cells #[.int .i64 (kd : Int), .int .i64 (cl : Int), .int .i64 (kk : Int), .slice (some ⟨g4, 0, none⟩) qf.length c47] 24 (0, 0)) ∧ W.heap[(w.heap.size + 1 + 1)]? = some (.cells #[.int .i64 ea, .int .i64 eb, .int .i64 ec] 49 (0, 0))) 8 (.q 0 (.q 1 (.q 2 (.q 3 (.one 4 (.one 5 (.one 6 (.q 7 .nil)))))))) (by kernel_rfl) (by kernel_rfl) (by kernel_rfl) (by kernel_rfl) (by kernel_rfl) (by kernel_rfl) (by kernel_rfl) ⟨heap_keep hS0.1 (Below.refl _ _).drew, heap_keep hS0.2 (Below.refl _ _).drew⟩ ?_
   have hb : Below X3_50.heap.size X3_50 X3_50.drew := (Below.refl _ _).drew
   generalize X3_50.drew = V4 at hb ⊢
   have B3 := zh hb
   clear hb
   refine wpOT_q (.pointer (some ⟨b15, 3, none⟩)) rfl (by kernel_rfl) (fun v hW => (xo_fld0 3 b15 3 (by kernel_rfl) rfl rfl)) ?_
   simp only [ptr, Act.put, zA]
   refine wpOT_q (.slice (some ⟨g4, 0, none⟩) qf.length c47) rfl (by kernel_rfl) (fun v hW => (xo_load1 ⟨b15, 3, none⟩ _ (cells_at hW.1 3 rfl) Tryd.underlying22 rfl rfl rfl)) ?_
   simp only [ptr, Act.put, zA]
   refine wpOT_q (v102) rfl (by kernel_rfl) (fun v hW => rfl) ?_
   simp only [ptr, Act.put, zA]
   refine wpOT_q (.agg #[.int .i64 ea, .int .i64 eb, .int .i64 ec]) rfl (by kernel_rfl) (fun v hW => (xo_loadW (w.heap.size + 1 + 1) _ hW.2 Tryd.underlying49 rfl (by kernel_rfl) rfl rfl)) ?_
   simp only [ptr, Act.put, zA]
   refine wpOT_one rfl (by kernel_rfl) ?_
   refine hOp_call 23 Tryd.func23 (by kernel_rfl) (by kernel_rfl) _ _ #[.agg #[.int .i64 ea, .int .i64 eb, .int .i64 ec]] rfl (by kernel_rfl) ?_
   refine (madeCond_d ea eb ec dc dl dh HD.out V4).mono ?_
   rintro e V5 ⟨rfl, hb⟩
   have B4 := zh hb
   clear hb 
   have C2_4 := zb B2 B3
   have C2_5 := zb C2_4 B4
   have C1_4 := zb C1_3 B3
   have C1_5 := zb C1_4 B4
   refine ⟨_, rfl, ⟨(heap_keep Fv42_15.out C2_5.out), (heap_keep Fv2_5.out C1_5.out)⟩, ?_⟩
   simp only [ptr, Act.put, zA]
   refine wpOT_one rfl (by kernel_rfl) ?_
   refine hOp_mk ([(Qu.Ci.mk (dc : Int) (dl : Int) (dh : Int))].flatMap ciC).toArray 49 1 1 (xg_lit (E := ciC) (bytes := 24) (.agg #[.int .i64 0, .int .i64 0, .int .i64 0]) [.tmp 107] [(Qu.Ci.mk (dc : Int) (dl : Int) (dh : Int))] 1 Tryd.underlying44 (by kernel_rfl) rfl (by decide) (by decide) rfl rfl) ?_
   intro g108 V6 hge h0 hb
   have N52_0 : Hid (w.heap.size ≠ g108) := zh (xp_lt0 (heap_keep Fv0_3.out C1_5.out) hge)
   have N53_1 : Hid ((w.heap.size + 1) ≠ g108) := zh (xp_lt0 (heap_keep Fv1_4.out C1_5.out) hge)
   have N54_2 : Hid ((w.heap.size + 1 + 1) ≠ g108) := zh (xp_lt0 (heap_keep Fv2_5.out C1_5.out) hge)
   have N55_3 : Hid (b8 ≠ g108) := zh (xp_lt0 (heap_keep Fv7_8.out C1_5.out) hge)
   have N56_4 : Hid (g2 ≠ g108) := zh (xp_lt0 (heap_keep Fg2.out C1_5.out) hge)
   have N57_5 : Hid (b11 ≠ g108) := zh (xp_lt0 (heap_keep Fv16_11.out C1_5.out) hge)
   have N58_6 : Hid (b13 ≠ g108) := zh (xp_lt0 (heap_keep Fv26_13.out C1_5.out) hge)
   have N59_7 : Hid (b15 ≠ g108) := zh (xp_lt0 (heap_keep Fv42_15.out C2_5.out) hge)
   have N60_8 : Hid (g4 ≠ g108) := zh (xp_lt0 (heap_keep Fg4.out C2_5.out) hge)
   have Ge61 : Hid (V5.heap.size ≤ g108) := zh hge
   have B5 := zh hb
   have Fv62_108 : Hid (RowG ciC V6 g108 49 ([(Qu.Ci.mk (dc : Int) (dl : Int) (dh : Int))])) := zh (h0)
   have Lt63 : Hid (g108 < V6.heap.size) := zh (xp_lt Fv62_108.out)
   clear hge h0 hb
   have C2_6 := zb C2_5 B5
   have C1_6 := zb C1_5 B5
   refine ⟨⟨(heap_keep Fv42_15.out C2_6.out), (heap_keep Fv2_5.out C1_6.out)⟩, ?_⟩
   simp only [ptr, Act.put, zA]
   refine wpOT_one rfl (by kernel_rfl) ?_
   have C3_5 := zb B3 B4
   have C3_6 := zb C3_5 B5
   refine hOp_app (size := 3) (.tmp 105) (.tmp 108) 44 rfl (.agg #[.int .i64 0, .int .i64 0, .int .i64 0]) 24 Tryd.underlying44 (by kernel_rfl) rfl (by decide) rfl (own_keep Ow102_51.out C3_6.out) (some ⟨g108, 0, none⟩) 1 1 (fl ciC ([(Qu.Ci.mk (dc : Int) (dl : Int) (dh : Int))])) rfl (RowG.sg (n := 1) (c := 1) Fv62_108.out (show ([(Qu.Ci.mk (dc : Int) (dl : Int) (dh : Int))]).length = 1 from rfl) (Nat.le_refl _) (by omega)).src (by unfold maxLen; omega) (by omega) C2_6.out.size ?_
   intro v109 X6_64 ho hg hloc
   have hb1 := own_below (own_keep Ow102_51.out C3_6.out) hg C2_6.out.size
   have hox : X6_64.ownsRow X3_48.heap.size 49 3 v109 (hp + 1) (fl ciC ((l0.map Qu.Cd.ci) ++ ([(Qu.Ci.mk (dc : Int) (dl : Int) (dh : Int))]))) := by rw [fl_append]; exact ho
   have hbr := C2_6.out.trans hb1
   clear B2
   have B2 := zh hbr
   clear hbr
   have Ow109_65 := zh hox
   clear ho hox hb1 hg hloc
   have C1_3 := zb B1 B2
   refine ⟨⟨(heap_keep Fv42_15.out B2.out), (heap_keep Fv2_5.out C1_3.out)⟩, ?_⟩
   simp only [ptr, Act.put, zA]
   refine wpOT_q (.pointer (some (gad (some ⟨g4, 0, none⟩) (0 * 1)))) rfl (by kernel_rfl) (fun v hW => (xo_index .i64 ⟨g4, 0, none⟩ qf.length c47 0 1 (by omega) Tryd.underlying22 (by kernel_rfl) rfl rfl rfl)) ?_
   simp only [ptr, Act.put, zA]
   refine wpOT_nil ?_
   obtain ⟨A66, c66, rfl⟩ := own_form Ow109_65.out
   have hfs := (heap_keep Fg4.out B2.out)
   have hgb := Gg4.out
   have C0_2 := zb B0 B1
   have C0_3 := zb C0_2 B2
   have hbs := C0_3.out
   have hfar : ∀ k o, k ≠ g4 → X6_64.heap[k]? = some o → (X6_64.setRow g4 (cur4.setIfInBounds 0 (.slice A66 (hp + 1) c66))).heap[k]? = some o := fun k o hk h0 => heap_farRow h0 hk _
   have YHOC := OwnsC.farT (HOC.out.keep C1_3.out) hfs (by decide) hfar
   have YOWa := OwZ.store (OWa.out.keep C1_3.out) hfs (by decide) hfar
   have YOWn := OwZ.store (OWn.out.keep C1_3.out) hfs (by decide) hfar
   have YOw109_65 := own_farT Ow109_65.out hfs (by decide) hfar
   have YFv0_3 : (X6_64.setRow g4 (cur4.setIfInBounds 0 (.slice A66 (hp + 1) c66))).heap[w.heap.size]? = some (.cells #[.int .i64 kind, .int .i64 col, .int .i64 k, .slice A n c] 24 (0, 0)) := hfar _ _ Ng4_0.out (heap_keep Fv0_3.out C1_3.out)
   have YFv1_4 : (X6_64.setRow g4 (cur4.setIfInBounds 0 (.slice A66 (hp + 1) c66))).heap[(w.heap.size + 1)]? = some (.cells #[.int .u16 (x1 : Int), .int .u16 (y1 : Int)] 47 (0, 0)) := hfar _ _ Ng4_1.out (heap_keep Fv1_4.out C1_3.out)
   have YFv2_5 : (X6_64.setRow g4 (cur4.setIfInBounds 0 (.slice A66 (hp + 1) c66))).heap[(w.heap.size + 1 + 1)]? = some (.cells #[.int .i64 ea, .int .i64 eb, .int .i64 ec] 49 (0, 0)) := hfar _ _ Ng4_2.out (heap_keep Fv2_5.out C1_3.out)
   have YFv7_8 : (X6_64.setRow g4 (cur4.setIfInBounds 0 (.slice A66 (hp + 1) c66))).heap[b8]? = some (.cells #[.int .i64 (kd : Int), .int .i64 (cl : Int), .int .i64 (kk : Int), .slice (some ⟨g2, 0, none⟩) qf.length c2] 24 (0, 0)) := hfar _ _ Ng4_3.out (heap_keep Fv7_8.out C1_3.out)
   have YFg2 : (X6_64.setRow g4 (cur4.setIfInBounds 0 (.slice A66 (hp + 1) c66))).heap[g2]? = some (.cells cur 44 (0, 0)) := hfar _ _ N24.out (heap_keep Fg2.out C1_3.out)
   have YFv16_11 : (X6_64.setRow g4 (cur4.setIfInBounds 0 (.slice A66 (hp + 1) c66))).heap[b11]? = some (.cells #[.slice Aa rla ca] 29 (0, 0)) := hfar _ _ Ng4_5.out (heap_keep Fv16_11.out C1_3.out)
   have YFv26_13 : (X6_64.setRow g4 (cur4.setIfInBounds 0 (.slice A66 (hp + 1) c66))).heap[b13]? = some (.cells #[.slice An rln cn] 29 (0, 0)) := hfar _ _ Ng4_6.out (heap_keep Fv26_13.out C1_3.out)
   have YFv42_15 : (X6_64.setRow g4 (cur4.setIfInBounds 0 (.slice A66 (hp + 1) c66))).heap[b15]? = some (.cells #[.int .i64 (kd : Int), .int .i64 (cl : Int), .int .i64 (kk : Int), .slice (some ⟨g4, 0, none⟩) qf.length c47] 24 (0, 0)) := hfar _ _ Ng4_7.out (heap_keep Fv42_15.out B2.out)
   refine mOp_run0 _ rfl rfl (xo_storeM g4 0 cur4 (cur4.setIfInBounds 0 (.slice A66 (hp + 1) c66)) [.slice A66 (hp + 1) c66] hfs (raw_new hs4) (by show 0 + 1 ≤ cur4.size; exact hs4) (by kernel_rfl) (by simp [Value.oneCell']) rfl rfl rfl) ?_
   try simp only [List.getElem_toArray, List.getElem_cons_succ, List.getElem_cons_zero, ptr, Act.put, zA]
   have hfn := setRow_heap X6_64 g4 _ (cur4.setIfInBounds 0 (.slice A66 (hp + 1) c66)) _ _ hfs
   have hbn := bel_setRow hbs hgb (cur4.setIfInBounds 0 (.slice A66 (hp + 1) c66))
   clear hfar
   generalize X6_64.setRow g4 (cur4.setIfInBounds 0 (.slice A66 (hp + 1) c66)) = X67 at *
   have Gt68 : Hid (w.heap.size ≤ b15) := zh (Nat.le_trans B0.out.size Ge41.out)
   have hbr := hbn
   clear B0
   have B0 := zh hbr
   clear hbr
   clear Fv0_3
   have Fv0_3 := zh YFv0_3
   clear YFv0_3
   clear Fv1_4
   have Fv1_4 := zh YFv1_4
   clear YFv1_4
   clear Fv2_5
   have Fv2_5 := zh YFv2_5
   clear YFv2_5
   clear Fv7_8
   have Fv7_8 := zh YFv7_8
   clear YFv7_8
   clear Fg2
   have Fg2 := zh YFg2
   clear YFg2
   clear Fv16_11
   have Fv16_11 := zh YFv16_11
   clear YFv16_11
   clear Fv26_13
   have Fv26_13 := zh YFv26_13
   clear YFv26_13
   clear Fv42_15
   have Fv42_15 := zh YFv42_15
   clear YFv42_15
   clear Fg4
   have Fg4 : Hid (X67.heap[g4]? = some (.cells (cur4.setIfInBounds 0 (.slice A66 (hp + 1) c66)) 44 (0, 0))) := zh hfn
   clear HOC
   have HOC : Hid (OwnsC X67 49 w.heap.size hs2 qf) := zh YHOC
   clear YHOC
   clear OWa
   have OWa : Hid (OwZ X67 Aa rla ca (Ty.zs xsa)) := zh YOWa
   clear YOWa
   clear OWn
   have OWn : Hid (OwZ X67 An rln cn (Ty.zs xsn)) := zh YOWn
   clear YOWn
   clear Ow109_65
   have Ow109_65 : Hid (X67.ownsRow X3_48.heap.size 49 3 (.slice A66 (hp + 1) c66) (hp + 1) (fl ciC ((l0.map Qu.Cd.ci) ++ ([(Qu.Ci.mk (dc : Int) (dl : Int) (dh : Int))])))) := zh YOw109_65
   clear YOw109_65
   clear hfs hgb hbs hfn hbn
   have hmo : OwC X67 A66 (hp + 1) c66 (l0 ++ [Qu.Cd.mk dc dl dh]) := ⟨_, by rw [List.map_append]; exact Ow109_65.out⟩
   have HMO := zh hmo
   clear hmo
   have HCS := zh (HCU4.out.set0 (Hd.mk A66 (hp + 1) c66))
   go_upto_region 19 with fail
   refine wp_region_lit ?_
   refine zr (.agg #[.int .i64 (kd : Int), .int .i64 (cl : Int), .int .i64 (kk : Int), .slice (some ⟨g4, 0, none⟩) qf.length c47]) X67 (xo_loadW b15 _ Fv42_15.out Tryd.underlying24 rfl (by kernel_rfl) rfl rfl) ?_
   simp only [Act.put, zA]
   refine zr (.int .i64 (mm : Int)) X67 rfl ?_
   simp only [Act.put, zA]
   refine wpList_call (by kernel_rfl) 11 Tryd.func11 (by kernel_rfl) (by kernel_rfl) _ _ #[.agg #[.int .i64 (kd : Int), .int .i64 (cl : Int), .int .i64 (kk : Int), .slice (some ⟨g4, 0, none⟩) qf.length c47], .int .i64 (mm : Int)] rfl (by kernel_rfl) ?_
   refine (check_own kd cl kk (some ⟨g4, 0, none⟩) qf.length c47 (hs2.set 0 (Hd.mk A66 (hp + 1) c66)) (qf.set 0 (l0 ++ [Qu.Cd.mk dc dl dh])) HOKB.out mm (by omega) (xsb, cob) HCKb.out X67 (fsr_set0 (u := (Hd.mk A66 (hp + 1) c66)) (l := l0 ++ [Qu.Cd.mk dc dl dh]) Fg4.out HCS.out HOC.out (OwC.sg HMO.out)) (HG.out.keep B0.out) (HGC.out.keep B0.out)).mono ?_
   rintro e V2 ⟨Ab, nb, cb, rfl, how, hb⟩
   have B1 := zh hb
   obtain rfl : rlb = nb := (HRLb.out).symm.trans how.sg.len
   have OWb := zh how
   clear hb how
   refine ⟨_, rfl, ?_⟩
   simp only [Act.put, zA]
   refine zr (.tuple #[.agg #[.slice Ab rlb cb], .int .i64 (cob : Int)]) V2 rfl ?_
   simp only [Act.put, zA]
   refine zr (.agg #[.slice Ab rlb cb]) V2 rfl ?_
   simp only [Act.put, zA]
   refine zr (.int .i64 (cob : Int)) V2 rfl ?_
   simp only [Act.put, zA]
   refine wpList_new #[.slice none 0 0] 29 (by kernel_rfl) (xo_alloc #[.slice none 0 0] (by kernel_rfl) rfl) ?_
   intro b18 V3 hge h0 hb
   have N69_0 : Hid (w.heap.size ≠ b18) := zh (xp_lt0 (heap_keep Fv0_3.out B1.out) hge)
   have N70_1 : Hid ((w.heap.size + 1) ≠ b18) := zh (xp_lt0 (heap_keep Fv1_4.out B1.out) hge)
   have N71_2 : Hid ((w.heap.size + 1 + 1) ≠ b18) := zh (xp_lt0 (heap_keep Fv2_5.out B1.out) hge)
   have N72_3 : Hid (b8 ≠ b18) := zh (xp_lt0 (heap_keep Fv7_8.out B1.out) hge)
   have N73_4 : Hid (g2 ≠ b18) := zh (xp_lt0 (heap_keep Fg2.out B1.out) hge)
   have N74_5 : Hid (b11 ≠ b18) := zh (xp_lt0 (heap_keep Fv16_11.out B1.out) hge)
   have N75_6 : Hid (b13 ≠ b18) := zh (xp_lt0 (heap_keep Fv26_13.out B1.out) hge)
   have N76_7 : Hid (b15 ≠ b18) := zh (xp_lt0 (heap_keep Fv42_15.out B1.out) hge)
   have N77_8 : Hid (g4 ≠ b18) := zh (xp_lt0 (heap_keep Fg4.out B1.out) hge)
   have Ge78 : Hid (V2.heap.size ≤ b18) := zh hge
   have B2 := zh hb
   have Fv79_18 : Hid (V3.heap[b18]? = some (.cells #[.slice none 0 0] 29 (0, 0))) := zh (h0)
   have Lt80 : Hid (b18 < V3.heap.size) := zh (xp_lt Fv79_18.out)
   clear hge h0 hb
   simp only [ptr, Act.put, zA]
   refine wpList_storeW b18 #[.slice none 0 0] #[.slice Ab rlb cb] 29 (by kernel_rfl) Fv79_18.out (xo_storeW b18 #[.slice none 0 0] #[.slice Ab rlb cb] Fv79_18.out (by kernel_rfl) rfl (by simp [Value.oneCell']) rfl rfl rfl) ?_
   intro X3_81 h1 hfar hbel hsz
   have hbr := hbel _ _ Ge78.out B2.out
   clear B2
   have B2 := zh hbr
   clear hbr
   clear Fv79_18
   have Fv79_18 : Hid (X3_81.heap[b18]? = some (.cells #[.slice Ab rlb cb] 29 (0, 0))) := zh (h1)
   have HszX3_81 := zh hsz
   clear h1 hfar hbel hsz
   simp only [ptr, Act.put, zA]
   refine zr (.int .i64 (cob : Int)) X3_81 rfl ?_
   simp only [Act.put, zA]
   refine wpList_nil ?_
   have C1_3 := zb B1 B2
   have hfx : FsR X3_81 (some ⟨g2, 0, none⟩) qf.length c2 hs2 (qf.map (List.map Qu.Cd.ci)) := (fsr_raw (heap_keep Fg2.out C1_3.out) HCU.out (HOC.out.keep C1_3.out))
   have HFX := zh hfx
   clear hfx
   have oxa := (OWa.out.keep C1_3.out)
   have OXa := zh oxa
   clear oxa
   have oxb := (OWb.out.keep B2.out)
   have OXb := zh oxb
   clear oxb
   have oxn := (OWn.out.keep C1_3.out)
   have OXn := zh oxn
   clear oxn
   have C0_2 := zb B0 B1
   have C0_3 := zb C0_2 B2
   have HBV82 := zh C0_3.out
   have YOXa := OXa.out
   have YOXb := OXb.out
   have YOXn := OXn.out
   have YHFX := HFX.out
   have YFv7_8 := (heap_keep Fv7_8.out C1_3.out)
   have YFv16_11 := (heap_keep Fv16_11.out C1_3.out)
   have YFv26_13 := (heap_keep Fv26_13.out C1_3.out)
   have YFv79_18 := Fv79_18.out
   clear OXa
   have OXa := zh YOXa
   clear YOXa
   clear OXb
   have OXb := zh YOXb
   clear YOXb
   clear OXn
   have OXn := zh YOXn
   clear YOXn
   clear HFX
   have HFX := zh YHFX
   clear YHFX
   clear Fv7_8
   have Fv7_8 := zh YFv7_8
   clear YFv7_8
   clear Fv16_11
   have Fv16_11 := zh YFv16_11
   clear YFv16_11
   clear Fv26_13
   have Fv26_13 := zh YFv26_13
   clear YFv26_13
   clear Fv79_18
   have Fv79_18 := zh YFv79_18
   clear YFv79_18
   obtain ⟨VB82, rfl⟩ : ∃ VB82 : World, VB82 = X3_81 := ⟨_, rfl⟩
   by_cases hc1z : coa = 0
   ·have hc2z : cob = 0 := H12.out hc1z
    subst hc1z
    subst hc2z
    have HR1 := zh (HFa.out.2.2 rfl)
    have HR2 := zh (HFb.out.2.2 rfl)
    have hr1 := HR1.out.1
    have hr2 := HR2.out.1
    have HRE1 := zh hr1
    have hci83 : ¬ ((rla : Int) ≠ (rlb : Int)) := by omega
    go_upto_region 20 with fail
    refine wp_region_lit ?_
    refine zr (.int .i64 0) VB82 rfl ?_
    simp only [Act.put, zA]
    refine zr (.bool true) VB82 (xo_eqlT .i64 0 0 (by omega) rfl rfl rfl) ?_
    simp only [Act.put, zA]
    refine zr (.bool true) VB82 rfl ?_
    simp only [Act.put, zA]
    refine zr (.int .i64 0) VB82 rfl ?_
    simp only [Act.put, zA]
    refine zr (.bool false) VB82 (xo_neqF .i64 0 0 (by omega) rfl rfl rfl) ?_
    simp only [Act.put, zA]
    refine zr (.bool false) VB82 rfl ?_
    simp only [Act.put, zA]
    refine zr (.bool false) VB82 rfl ?_
    simp only [Act.put, zA]
    refine zr (.int .i64 0) VB82 rfl ?_
    simp only [Act.put, zA]
    refine zr (.bool true) VB82 (xo_eqlT .i64 0 0 (by omega) rfl rfl rfl) ?_
    simp only [Act.put, zA]
    refine zr (.bool true) VB82 rfl ?_
    simp only [Act.put, zA]
    refine zr (.pointer (some ⟨b11, 0, none⟩)) VB82 (xo_fld0 0 b11 0 (by kernel_rfl) rfl rfl) ?_
    simp only [Act.put, zA]
    refine zr (.slice Aa rla ca) VB82 (xo_load1 ⟨b11, 0, none⟩ _ (cells_at Fv16_11.out 0 rfl) Tryd.underlying27 rfl rfl rfl) ?_
    simp only [Act.put, zA]
    refine zr (.int .i64 (rla : Int)) VB82 (xo_len Aa rla ca Tryd.underlying27 rfl rfl) ?_
    simp only [Act.put, zA]
    refine zr (.pointer (some ⟨b18, 0, none⟩)) VB82 (xo_fld0 0 b18 0 (by kernel_rfl) rfl rfl) ?_
    simp only [Act.put, zA]
    refine zr (.slice Ab rlb cb) VB82 (xo_load1 ⟨b18, 0, none⟩ _ (cells_at Fv79_18.out 0 rfl) Tryd.underlying27 rfl rfl rfl) ?_
    simp only [Act.put, zA]
    refine zr (.int .i64 (rlb : Int)) VB82 (xo_len Ab rlb cb Tryd.underlying27 rfl rfl) ?_
    simp only [Act.put, zA]
    refine zr (.bool false) VB82 (xo_neqF .i64 (rla : Int) (rlb : Int) (by omega) rfl rfl rfl) ?_
    simp only [Act.put, zA]
    refine zr (.bool false) VB82 rfl ?_
    simp only [Act.put, zA]
    refine zr (.bool false) VB82 rfl ?_
    simp only [Act.put, zA]
    refine wpList_nil ?_
    clear hr1 hr2 hci83
    go_upto_region 22 with fail
    refine wp_region_lit ?_
    refine zr (.int .i64 0) VB82 rfl ?_
    simp only [Act.put, zA]
    refine wpList_nil ?_
    have O84 := (Below.refl VB82.heap.size VB82)
    have B0 := zh (Below.refl VB82.heap.size VB82)
    go_wp2_with fail
    go_loopw [20] (fun p wr => ∃ i : Nat, i ≤ rla ∧ p = .int .i64 i ∧ Below VB82.heap.size VB82 wr) (fun p _ => rla - (intOf p).toNat)
    case atStart => exact ⟨0, Nat.zero_le _, rfl, O84⟩
    case round =>
     clear O84
     obtain ⟨wo, rfl⟩ : ∃ wo : World, wo = wr := ⟨_, rfl⟩
     obtain ⟨i, hi, rfl, hb0⟩ := hrel
     have hbr := hb0
     clear B0
     have B0 := zh hbr
     clear hbr
     clear hb0 
     by_cases hir : i < rla
     ·have hci86 : ((i : Int) < (rla : Int)) := by omega
      go_upto_region 23 with fail
      refine wp_region_lit ?_
      refine zr (.int .i64 0) wo rfl ?_
      simp only [Act.put, zA]
      refine zr (.bool true) wo (xo_eqlT .i64 0 0 (by omega) rfl rfl rfl) ?_
      simp only [Act.put, zA]
      refine zr (.bool true) wo rfl ?_
      simp only [Act.put, zA]
      refine zr (.int .i64 (i : Int)) wo rfl ?_
      simp only [Act.put, zA]
      refine zr (.pointer (some ⟨b11, 0, none⟩)) wo (xo_fld0 0 b11 0 (by kernel_rfl) rfl rfl) ?_
      simp only [Act.put, zA]
      refine zr (.slice Aa rla ca) wo (xo_load1 ⟨b11, 0, none⟩ _ (cells_at (heap_keep Fv16_11.out B0.out) 0 rfl) Tryd.underlying27 rfl rfl rfl) ?_
      simp only [Act.put, zA]
      refine zr (.int .i64 (rla : Int)) wo (xo_len Aa rla ca Tryd.underlying27 rfl rfl) ?_
      simp only [Act.put, zA]
      refine zr (.bool true) wo (xo_lssT .i64 (i : Int) (rla : Int) (by omega) rfl rfl rfl) ?_
      simp only [Act.put, zA]
      refine zr (.bool true) wo rfl ?_
      simp only [Act.put, zA]
      refine wpList_nil ?_
      have hism : i < sm := by have := HRE1.out; omega
      have e1 := HR1.out.2 i hism
      have e2 := HR2.out.2 i hism
      obtain ⟨v1, hv1⟩ : ∃ z, Ty.bdN ⟨kd, cl, kk, qf⟩ mm i = z := ⟨_, rfl⟩
      have HV1 := zh hv1
      clear hv1
      obtain ⟨v2, hv2⟩ : ∃ z, Ty.bdN ⟨kd, cl, kk, (qf.set 0 (l0 ++ [Qu.Cd.mk dc dl dh]))⟩ mm i = z := ⟨_, rfl⟩
      have HV2 := zh hv2
      clear hv2
      rw [HV1.out] at e1
      rw [HV2.out] at e2
      have hv21 : v2 ≤ v1 := by rw [← HV1.out, ← HV2.out]; exact HLE.out i
      have hv62 := e1.2
      have HE1 := zh e1.1
      have HE2 := zh e2.1
      clear e1 e2
      have hi2 : i < rlb := by have := HR2.out.1; omega
      have hci87 : ¬ ((v2 : Int) > (v1 : Int)) := by omega
      have hci88 : ¬ ((v2 : Int) < 0) := by omega
      go_upto_region 25 with fail
      refine wp_later_lex (by kernel_rfl) (lexOK_of (by kernel_rfl) (by kernel_rfl)) ?_
      refine zv (.pointer (some ⟨b18, 0, none⟩)) (fun v hv => (xo_fld0 0 b18 0 (by kernel_rfl) rfl rfl)) ?_
      simp only [Act.put, zA]
      refine zv (.slice Ab rlb cb) (fun v hv => (xo_load1 ⟨b18, 0, none⟩ _ (cells_at (heap_keep (heap_keep Fv79_18.out B0.out) (later_bel hv)) 0 rfl) Tryd.underlying27 rfl rfl rfl)) ?_
      simp only [Act.put, zA]
      refine zv (.int .i64 (i : Int)) (fun v hv => rfl) ?_
      simp only [Act.put, zA]
      refine zv (.pointer (some (gad Ab (i * 1)))) (fun v hv => (xg_idx .i64 (OwZ.sg ((OXb.out.keep B0.out).keep (later_bel hv))) HE2.out Tryd.underlying27 (by kernel_rfl) rfl rfl rfl)) ?_
      simp only [Act.put, zA]
      refine zv (.int .i64 (v2 : Int)) (fun v hv => (xg_load1 (E := zzC) (i := i) (j := 0) (OwZ.sg ((OXb.out.keep B0.out).keep (later_bel hv))) HE2.out rfl rfl Tryd.underlying2 rfl rfl rfl)) ?_
      simp only [Act.put, zA]
      refine zv (.pointer (some ⟨b11, 0, none⟩)) (fun v hv => (xo_fld0 0 b11 0 (by kernel_rfl) rfl rfl)) ?_
      simp only [Act.put, zA]
      refine zv (.slice Aa rla ca) (fun v hv => (xo_load1 ⟨b11, 0, none⟩ _ (cells_at (heap_keep (heap_keep Fv16_11.out B0.out) (later_bel hv)) 0 rfl) Tryd.underlying27 rfl rfl rfl)) ?_
      simp only [Act.put, zA]
      refine zv (.int .i64 (i : Int)) (fun v hv => rfl) ?_
      simp only [Act.put, zA]
      refine zv (.pointer (some (gad Aa (i * 1)))) (fun v hv => (xg_idx .i64 (OwZ.sg ((OXa.out.keep B0.out).keep (later_bel hv))) HE1.out Tryd.underlying27 (by kernel_rfl) rfl rfl rfl)) ?_
      simp only [Act.put, zA]
      refine zv (.int .i64 (v1 : Int)) (fun v hv => (xg_load1 (E := zzC) (i := i) (j := 0) (OwZ.sg ((OXa.out.keep B0.out).keep (later_bel hv))) HE1.out rfl rfl Tryd.underlying2 rfl rfl rfl)) ?_
      simp only [Act.put, zA]
      refine zv (.bool false) (fun v hv => (xo_gtrF .i64 (v2 : Int) (v1 : Int) (by omega) rfl rfl rfl)) ?_
      simp only [Act.put, zA]
      refine zv (.bool false) (fun v hv => rfl) ?_
      simp only [Act.put, zA]
      refine zv (.pointer (some ⟨b18, 0, none⟩)) (fun v hv => (xo_fld0 0 b18 0 (by kernel_rfl) rfl rfl)) ?_
      simp only [Act.put, zA]
      refine zv (.slice Ab rlb cb) (fun v hv => (xo_load1 ⟨b18, 0, none⟩ _ (cells_at (heap_keep (heap_keep Fv79_18.out B0.out) (later_bel hv)) 0 rfl) Tryd.underlying27 rfl rfl rfl)) ?_
      simp only [Act.put, zA]
      refine zv (.int .i64 (i : Int)) (fun v hv => rfl) ?_
      simp only [Act.put, zA]
      refine zv (.pointer (some (gad Ab (i * 1)))) (fun v hv => (xg_idx .i64 (OwZ.sg ((OXb.out.keep B0.out).keep (later_bel hv))) HE2.out Tryd.underlying27 (by kernel_rfl) rfl rfl rfl)) ?_
      simp only [Act.put, zA]
      refine zv (.int .i64 (v2 : Int)) (fun v hv => (xg_load1 (E := zzC) (i := i) (j := 0) (OwZ.sg ((OXb.out.keep B0.out).keep (later_bel hv))) HE2.out rfl rfl Tryd.underlying2 rfl rfl rfl)) ?_
      simp only [Act.put, zA]
      refine zv (.bool false) (fun v hv => (xo_lssF .i64 (v2 : Int) 0 (by omega) rfl rfl rfl)) ?_
      simp only [Act.put, zA]
      refine zv (.bool false) (fun v hv => rfl) ?_
      simp only [Act.put, zA]
      refine wpQuiet_nil ?_
      intro X1_89
      have hb := X1_89.below
      generalize X1_89.at = V2 at *
      have B1 := zh hb
      clear hb
      by_cases hcn0 : con = 0
      ·have hci90 : ((con : Int) = 0) := by omega
       have HRn := zh (HFn.out.2.2 hcn0)
       have hrn := HRn.out.1
       have hre := HRE1.out
       have hci91 : ¬ ((rln : Int) ≠ (rla : Int)) := by omega
       have hin : i < rln := by omega
       clear hrn hre
       by_cases hp2 : hp < 2
       ·have hci92 : ((hp : Int) < 2) := by omega
        have en := HRn.out.2 i hism
        obtain ⟨vn, hvn⟩ : ∃ z, Ty.bdN ⟨kd, cl, kk, qf⟩ nn i = z := ⟨_, rfl⟩
        have HVN := zh hvn
        clear hvn
        rw [HVN.out] at en
        have HEn := zh en.1
        clear en
        have hvn : v1 ≤ vn := by rw [← HV1.out, ← HVN.out]; exact Ty.bd_mono ⟨kd, cl, kk, qf⟩ hnn1 i
        have hci93 : ¬ ((vn : Int) < (v1 : Int)) := by omega
        go_upto_region 27 with fail
        refine wp_later_lex (by kernel_rfl) (lexOK_of (by kernel_rfl) (by kernel_rfl)) ?_
        refine zv (.int .i64 (con : Int)) (fun v hv => rfl) ?_
        simp only [Act.put, zA]
        refine zv (.bool true) (fun v hv => (xo_eqlT .i64 (con : Int) 0 (by omega) rfl rfl rfl)) ?_
        simp only [Act.put, zA]
        refine zv (.bool true) (fun v hv => rfl) ?_
        simp only [Act.put, zA]
        refine zv (.pointer (some ⟨b13, 0, none⟩)) (fun v hv => (xo_fld0 0 b13 0 (by kernel_rfl) rfl rfl)) ?_
        simp only [Act.put, zA]
        have C0_2 := zb B0 B1
        refine zv (.slice An rln cn) (fun v hv => (xo_load1 ⟨b13, 0, none⟩ _ (cells_at (heap_keep (heap_keep Fv26_13.out C0_2.out) (later_bel hv)) 0 rfl) Tryd.underlying27 rfl rfl rfl)) ?_
        simp only [Act.put, zA]
        refine zv (.int .i64 (rln : Int)) (fun v hv => (xo_len An rln cn Tryd.underlying27 rfl rfl)) ?_
        simp only [Act.put, zA]
        refine zv (.pointer (some ⟨b11, 0, none⟩)) (fun v hv => (xo_fld0 0 b11 0 (by kernel_rfl) rfl rfl)) ?_
        simp only [Act.put, zA]
        refine zv (.slice Aa rla ca) (fun v hv => (xo_load1 ⟨b11, 0, none⟩ _ (cells_at (heap_keep (heap_keep Fv16_11.out C0_2.out) (later_bel hv)) 0 rfl) Tryd.underlying27 rfl rfl rfl)) ?_
        simp only [Act.put, zA]
        refine zv (.int .i64 (rla : Int)) (fun v hv => (xo_len Aa rla ca Tryd.underlying27 rfl rfl)) ?_
        simp only [Act.put, zA]
        refine zv (.bool false) (fun v hv => (xo_neqF .i64 (rln : Int) (rla : Int) (by omega) rfl rfl rfl)) ?_
        simp only [Act.put, zA]
        refine zv (.bool false) (fun v hv => rfl) ?_
        simp only [Act.put, zA]
        refine zv (.pointer (some ⟨b8, 3, none⟩)) (fun v hv => (xo_fld0 3 b8 3 (by kernel_rfl) rfl rfl)) ?_
        simp only [Act.put, zA]
        refine zv (.slice (some ⟨g2, 0, none⟩) qf.length c2) (fun v hv => (xo_load1 ⟨b8, 3, none⟩ _ (cells_at (heap_keep (heap_keep Fv7_8.out C0_2.out) (later_bel hv)) 3 rfl) Tryd.underlying22 rfl rfl rfl)) ?_
        simp only [Act.put, zA]
        refine zv (.pointer (some (gad (some ⟨g2, 0, none⟩) (0 * 1)))) (fun v hv => (xg_idx .i64 (((HFX.out.keep C0_2.out).keep (later_bel hv)).sg) HH0.out Tryd.underlying22 (by kernel_rfl) rfl rfl rfl)) ?_
        simp only [Act.put, zA]
        refine zv (.slice hA hp hcp) (fun v hv => (xg_load1 (E := hdC) (i := 0) (j := 0) (((HFX.out.keep C0_2.out).keep (later_bel hv)).sg) HH0.out rfl rfl Tryd.underlying44 rfl rfl rfl)) ?_
        simp only [Act.put, zA]
        refine zv (.int .i64 (hp : Int)) (fun v hv => (xo_len hA hp hcp Tryd.underlying44 rfl rfl)) ?_
        simp only [Act.put, zA]
        refine zv (.bool true) (fun v hv => (xo_lssT .i64 (hp : Int) 2 (by omega) rfl rfl rfl)) ?_
        simp only [Act.put, zA]
        refine zv (.bool true) (fun v hv => rfl) ?_
        simp only [Act.put, zA]
        refine zv (.pointer (some ⟨b13, 0, none⟩)) (fun v hv => (xo_fld0 0 b13 0 (by kernel_rfl) rfl rfl)) ?_
        simp only [Act.put, zA]
        refine zv (.slice An rln cn) (fun v hv => (xo_load1 ⟨b13, 0, none⟩ _ (cells_at (heap_keep (heap_keep Fv26_13.out C0_2.out) (later_bel hv)) 0 rfl) Tryd.underlying27 rfl rfl rfl)) ?_
        simp only [Act.put, zA]
        refine zv (.int .i64 (i : Int)) (fun v hv => rfl) ?_
        simp only [Act.put, zA]
        refine zv (.pointer (some (gad An (i * 1)))) (fun v hv => (xg_idx .i64 (OwZ.sg ((OXn.out.keep C0_2.out).keep (later_bel hv))) HEn.out Tryd.underlying27 (by kernel_rfl) rfl rfl rfl)) ?_
        simp only [Act.put, zA]
        refine zv (.int .i64 (vn : Int)) (fun v hv => (xg_load1 (E := zzC) (i := i) (j := 0) (OwZ.sg ((OXn.out.keep C0_2.out).keep (later_bel hv))) HEn.out rfl rfl Tryd.underlying2 rfl rfl rfl)) ?_
        simp only [Act.put, zA]
        refine zv (.pointer (some ⟨b11, 0, none⟩)) (fun v hv => (xo_fld0 0 b11 0 (by kernel_rfl) rfl rfl)) ?_
        simp only [Act.put, zA]
        refine zv (.slice Aa rla ca) (fun v hv => (xo_load1 ⟨b11, 0, none⟩ _ (cells_at (heap_keep (heap_keep Fv16_11.out C0_2.out) (later_bel hv)) 0 rfl) Tryd.underlying27 rfl rfl rfl)) ?_
        simp only [Act.put, zA]
        refine zv (.int .i64 (i : Int)) (fun v hv => rfl) ?_
        simp only [Act.put, zA]
        refine zv (.pointer (some (gad Aa (i * 1)))) (fun v hv => (xg_idx .i64 (OwZ.sg ((OXa.out.keep C0_2.out).keep (later_bel hv))) HE1.out Tryd.underlying27 (by kernel_rfl) rfl rfl rfl)) ?_
        simp only [Act.put, zA]
        refine zv (.int .i64 (v1 : Int)) (fun v hv => (xg_load1 (E := zzC) (i := i) (j := 0) (OwZ.sg ((OXa.out.keep C0_2.out).keep (later_bel hv))) HE1.out rfl rfl Tryd.underlying2 rfl rfl rfl)) ?_
        simp only [Act.put, zA]
        refine zv (.bool false) (fun v hv => (xo_lssF .i64 (vn : Int) (v1 : Int) (by omega) rfl rfl rfl)) ?_
        simp only [Act.put, zA]
        refine zv (.bool false) (fun v hv => rfl) ?_
        simp only [Act.put, zA]
        refine zv (.bool false) (fun v hv => rfl) ?_
        simp only [Act.put, zA]
        refine zv (.bool false) (fun v hv => rfl) ?_
        simp only [Act.put, zA]
        refine wpQuiet_nil ?_
        intro X2_94
        have hb := X2_94.below
        generalize X2_94.at = V3 at *
        have B2 := zh hb
        clear hb
        go_upto_region 24 with fail
        refine wp_region_lit ?_
        refine zr (.int .i64 (i : Int)) V3 rfl ?_
        simp only [Act.put, zA]
        refine zr (.int .i64 ((i + 1 : Nat) : Int)) V3 (xo_addI (i : Int) 1 ((i + 1 : Nat) : Int) (by omega) (by omega) (by omega) rfl rfl rfl) ?_
        simp only [Act.put, zA]
        refine zr (.int .i64 ((i + 1 : Nat) : Int)) V3 rfl ?_
        simp only [Act.put, zA]
        refine wpList_nil ?_
        have C0_3 := zb C0_2 B2
        have hq95 := C0_3.out
        go_wp2_with fail
        go_roundw
        case rel => exact ⟨i + 1, by omega, by go_num, hq95⟩
        case measure => simp [intOf]; omega
       ·have hci92 : ¬ ((hp : Int) < 2) := by omega
        go_upto_region 27 with fail
        refine wp_later_lex (by kernel_rfl) (lexOK_of (by kernel_rfl) (by kernel_rfl)) ?_
        refine zv (.int .i64 (con : Int)) (fun v hv => rfl) ?_
        simp only [Act.put, zA]
        refine zv (.bool true) (fun v hv => (xo_eqlT .i64 (con : Int) 0 (by omega) rfl rfl rfl)) ?_
        simp only [Act.put, zA]
        refine zv (.bool true) (fun v hv => rfl) ?_
        simp only [Act.put, zA]
        refine zv (.pointer (some ⟨b13, 0, none⟩)) (fun v hv => (xo_fld0 0 b13 0 (by kernel_rfl) rfl rfl)) ?_
        simp only [Act.put, zA]
        have C0_2 := zb B0 B1
        refine zv (.slice An rln cn) (fun v hv => (xo_load1 ⟨b13, 0, none⟩ _ (cells_at (heap_keep (heap_keep Fv26_13.out C0_2.out) (later_bel hv)) 0 rfl) Tryd.underlying27 rfl rfl rfl)) ?_
        simp only [Act.put, zA]
        refine zv (.int .i64 (rln : Int)) (fun v hv => (xo_len An rln cn Tryd.underlying27 rfl rfl)) ?_
        simp only [Act.put, zA]
        refine zv (.pointer (some ⟨b11, 0, none⟩)) (fun v hv => (xo_fld0 0 b11 0 (by kernel_rfl) rfl rfl)) ?_
        simp only [Act.put, zA]
        refine zv (.slice Aa rla ca) (fun v hv => (xo_load1 ⟨b11, 0, none⟩ _ (cells_at (heap_keep (heap_keep Fv16_11.out C0_2.out) (later_bel hv)) 0 rfl) Tryd.underlying27 rfl rfl rfl)) ?_
        simp only [Act.put, zA]
        refine zv (.int .i64 (rla : Int)) (fun v hv => (xo_len Aa rla ca Tryd.underlying27 rfl rfl)) ?_
        simp only [Act.put, zA]
        refine zv (.bool false) (fun v hv => (xo_neqF .i64 (rln : Int) (rla : Int) (by omega) rfl rfl rfl)) ?_
        simp only [Act.put, zA]
        refine zv (.bool false) (fun v hv => rfl) ?_
        simp only [Act.put, zA]
        refine zv (.pointer (some ⟨b8, 3, none⟩)) (fun v hv => (xo_fld0 3 b8 3 (by kernel_rfl) rfl rfl)) ?_
        simp only [Act.put, zA]
        refine zv (.slice (some ⟨g2, 0, none⟩) qf.length c2) (fun v hv => (xo_load1 ⟨b8, 3, none⟩ _ (cells_at (heap_keep (heap_keep Fv7_8.out C0_2.out) (later_bel hv)) 3 rfl) Tryd.underlying22 rfl rfl rfl)) ?_
        simp only [Act.put, zA]
        refine zv (.pointer (some (gad (some ⟨g2, 0, none⟩) (0 * 1)))) (fun v hv => (xg_idx .i64 (((HFX.out.keep C0_2.out).keep (later_bel hv)).sg) HH0.out Tryd.underlying22 (by kernel_rfl) rfl rfl rfl)) ?_
        simp only [Act.put, zA]
        refine zv (.slice hA hp hcp) (fun v hv => (xg_load1 (E := hdC) (i := 0) (j := 0) (((HFX.out.keep C0_2.out).keep (later_bel hv)).sg) HH0.out rfl rfl Tryd.underlying44 rfl rfl rfl)) ?_
        simp only [Act.put, zA]
        refine zv (.int .i64 (hp : Int)) (fun v hv => (xo_len hA hp hcp Tryd.underlying44 rfl rfl)) ?_
        simp only [Act.put, zA]
        refine zv (.bool false) (fun v hv => (xo_lssF .i64 (hp : Int) 2 (by omega) rfl rfl rfl)) ?_
        simp only [Act.put, zA]
        refine zv (.bool false) (fun v hv => rfl) ?_
        simp only [Act.put, zA]
        refine BigFrame.wpQuiet_skip (by kernel_rfl) ?_
        try simp only [Act.put, zA]
        refine BigFrame.wpQuiet_skip (by kernel_rfl) ?_
        try simp only [Act.put, zA]
        refine BigFrame.wpQuiet_skip (by kernel_rfl) ?_
        try simp only [Act.put, zA]
        refine BigFrame.wpQuiet_skip (by kernel_rfl) ?_
        try simp only [Act.put, zA]
        refine BigFrame.wpQuiet_skip (by kernel_rfl) ?_
        try simp only [Act.put, zA]
        refine BigFrame.wpQuiet_skip (by kernel_rfl) ?_
        try simp only [Act.put, zA]
        refine BigFrame.wpQuiet_skip (by kernel_rfl) ?_
        try simp only [Act.put, zA]
        refine BigFrame.wpQuiet_skip (by kernel_rfl) ?_
        try simp only [Act.put, zA]
        refine BigFrame.wpQuiet_skip (by kernel_rfl) ?_
        try simp only [Act.put, zA]
        refine BigFrame.wpQuiet_skip (by kernel_rfl) ?_
        try simp only [Act.put, zA]
        refine BigFrame.wpQuiet_skip (by kernel_rfl) ?_
        try simp only [Act.put, zA]
        refine zv (.bool false) (fun v hv => rfl) ?_
        simp only [Act.put, zA]
        refine zv (.bool false) (fun v hv => rfl) ?_
        simp only [Act.put, zA]
        refine zv (.bool false) (fun v hv => rfl) ?_
        simp only [Act.put, zA]
        refine wpQuiet_nil ?_
        intro X2_93
        have hb := X2_93.below
        generalize X2_93.at = V3 at *
        have B2 := zh hb
        clear hb
        go_upto_region 24 with fail
        refine wp_region_lit ?_
        refine zr (.int .i64 (i : Int)) V3 rfl ?_
        simp only [Act.put, zA]
        refine zr (.int .i64 ((i + 1 : Nat) : Int)) V3 (xo_addI (i : Int) 1 ((i + 1 : Nat) : Int) (by omega) (by omega) (by omega) rfl rfl rfl) ?_
        simp only [Act.put, zA]
        refine zr (.int .i64 ((i + 1 : Nat) : Int)) V3 rfl ?_
        simp only [Act.put, zA]
        refine wpList_nil ?_
        have C0_3 := zb C0_2 B2
        have hq94 := C0_3.out
        go_wp2_with fail
        go_roundw
        case rel => exact ⟨i + 1, by omega, by go_num, hq94⟩
        case measure => simp [intOf]; omega
      ·have hci90 : ¬ ((con : Int) = 0) := by omega
       go_upto_region 27 with fail
       refine wp_later_lex (by kernel_rfl) (lexOK_of (by kernel_rfl) (by kernel_rfl)) ?_
       refine zv (.int .i64 (con : Int)) (fun v hv => rfl) ?_
       simp only [Act.put, zA]
       refine zv (.bool false) (fun v hv => (xo_eqlF .i64 (con : Int) 0 (by omega) rfl rfl rfl)) ?_
       simp only [Act.put, zA]
       refine zv (.bool false) (fun v hv => rfl) ?_
       simp only [Act.put, zA]
       refine BigFrame.wpQuiet_skip (by kernel_rfl) ?_
       try simp only [Act.put, zA]
       refine BigFrame.wpQuiet_skip (by kernel_rfl) ?_
       try simp only [Act.put, zA]
       refine BigFrame.wpQuiet_skip (by kernel_rfl) ?_
       try simp only [Act.put, zA]
       refine BigFrame.wpQuiet_skip (by kernel_rfl) ?_
       try simp only [Act.put, zA]
       refine BigFrame.wpQuiet_skip (by kernel_rfl) ?_
       try simp only [Act.put, zA]
       refine BigFrame.wpQuiet_skip (by kernel_rfl) ?_
       try simp only [Act.put, zA]
       refine BigFrame.wpQuiet_skip (by kernel_rfl) ?_
       try simp only [Act.put, zA]
       refine BigFrame.wpQuiet_skip (by kernel_rfl) ?_
       try simp only [Act.put, zA]
       refine BigFrame.wpQuiet_skip (by kernel_rfl) ?_
       try simp only [Act.put, zA]
       refine BigFrame.wpQuiet_skip (by kernel_rfl) ?_
       try simp only [Act.put, zA]
       refine BigFrame.wpQuiet_skip (by kernel_rfl) ?_
       try simp only [Act.put, zA]
       refine BigFrame.wpQuiet_skip (by kernel_rfl) ?_
       try simp only [Act.put, zA]
       refine BigFrame.wpQuiet_skip (by kernel_rfl) ?_
       try simp only [Act.put, zA]
       refine BigFrame.wpQuiet_skip (by kernel_rfl) ?_
       try simp only [Act.put, zA]
       refine BigFrame.wpQuiet_skip (by kernel_rfl) ?_
       try simp only [Act.put, zA]
       refine BigFrame.wpQuiet_skip (by kernel_rfl) ?_
       try simp only [Act.put, zA]
       refine BigFrame.wpQuiet_skip (by kernel_rfl) ?_
       try simp only [Act.put, zA]
       refine BigFrame.wpQuiet_skip (by kernel_rfl) ?_
       try simp only [Act.put, zA]
       refine BigFrame.wpQuiet_skip (by kernel_rfl) ?_
       try simp only [Act.put, zA]
       refine BigFrame.wpQuiet_skip (by kernel_rfl) ?_
       try simp only [Act.put, zA]
       refine BigFrame.wpQuiet_skip (by kernel_rfl) ?_
       try simp only [Act.put, zA]
       refine BigFrame.wpQuiet_skip (by kernel_rfl) ?_
       try simp only [Act.put, zA]
       refine BigFrame.wpQuiet_skip (by kernel_rfl) ?_
       try simp only [Act.put, zA]
       refine BigFrame.wpQuiet_skip (by kernel_rfl) ?_
       try simp only [Act.put, zA]
       refine BigFrame.wpQuiet_skip (by kernel_rfl) ?_
       try simp only [Act.put, zA]
       refine BigFrame.wpQuiet_skip (by kernel_rfl) ?_
       try simp only [Act.put, zA]
       refine BigFrame.wpQuiet_skip (by kernel_rfl) ?_
       try simp only [Act.put, zA]
       refine BigFrame.wpQuiet_skip (by kernel_rfl) ?_
       try simp only [Act.put, zA]
       refine zv (.bool false) (fun v hv => rfl) ?_
       simp only [Act.put, zA]
       refine wpQuiet_nil ?_
       intro X2_91
       have hb := X2_91.below
       generalize X2_91.at = V3 at *
       have B2 := zh hb
       clear hb
       go_upto_region 24 with fail
       refine wp_region_lit ?_
       refine zr (.int .i64 (i : Int)) V3 rfl ?_
       simp only [Act.put, zA]
       refine zr (.int .i64 ((i + 1 : Nat) : Int)) V3 (xo_addI (i : Int) 1 ((i + 1 : Nat) : Int) (by omega) (by omega) (by omega) rfl rfl rfl) ?_
       simp only [Act.put, zA]
       refine zr (.int .i64 ((i + 1 : Nat) : Int)) V3 rfl ?_
       simp only [Act.put, zA]
       refine wpList_nil ?_
       have C0_2 := zb B0 B1
       have C0_3 := zb C0_2 B2
       have hq92 := C0_3.out
       go_wp2_with fail
       go_roundw
       case rel => exact ⟨i + 1, by omega, by go_num, hq92⟩
       case measure => simp [intOf]; omega
     ·have hci86 : ¬ ((i : Int) < (rla : Int)) := by omega
      go_upto_region 23 with fail
      refine wp_region_lit ?_
      refine zr (.int .i64 0) wo rfl ?_
      simp only [Act.put, zA]
      refine zr (.bool true) wo (xo_eqlT .i64 0 0 (by omega) rfl rfl rfl) ?_
      simp only [Act.put, zA]
      refine zr (.bool true) wo rfl ?_
      simp only [Act.put, zA]
      refine zr (.int .i64 (i : Int)) wo rfl ?_
      simp only [Act.put, zA]
      refine zr (.pointer (some ⟨b11, 0, none⟩)) wo (xo_fld0 0 b11 0 (by kernel_rfl) rfl rfl) ?_
      simp only [Act.put, zA]
      refine zr (.slice Aa rla ca) wo (xo_load1 ⟨b11, 0, none⟩ _ (cells_at (heap_keep Fv16_11.out B0.out) 0 rfl) Tryd.underlying27 rfl rfl rfl) ?_
      simp only [Act.put, zA]
      refine zr (.int .i64 (rla : Int)) wo (xo_len Aa rla ca Tryd.underlying27 rfl rfl) ?_
      simp only [Act.put, zA]
      refine zr (.bool false) wo (xo_lssF .i64 (i : Int) (rla : Int) (by omega) rfl rfl rfl) ?_
      simp only [Act.put, zA]
      refine zr (.bool false) wo rfl ?_
      simp only [Act.put, zA]
      refine wpList_nil ?_
      go_upto_region 29 with fail
      refine wp_region_lit ?_
      refine zr (.bool true) wo rfl ?_
      simp only [Act.put, zA]
      refine zr (.bool true) wo rfl ?_
      simp only [Act.put, zA]
      refine wpList_nil ?_
      have hbf := bel_step HBV82.out B0.out
      go_wp2_with fail
      go_ret
      exact ⟨rfl, hbf⟩
   ·have hci83 : ¬ ((coa : Int) = 0) := by omega
    go_upto_region 20 with fail
    refine wp_region_lit ?_
    refine zr (.int .i64 (coa : Int)) VB82 rfl ?_
    simp only [Act.put, zA]
    refine zr (.bool false) VB82 (xo_eqlF .i64 (coa : Int) 0 (by omega) rfl rfl rfl) ?_
    simp only [Act.put, zA]
    refine zr (.bool false) VB82 rfl ?_
    simp only [Act.put, zA]
    refine zl ?_
    try simp only [Act.put, zA]
    refine zl ?_
    try simp only [Act.put, zA]
    refine zr (.bool false) VB82 rfl ?_
    simp only [Act.put, zA]
    refine zr (.bool false) VB82 rfl ?_
    simp only [Act.put, zA]
    refine zr (.int .i64 (coa : Int)) VB82 rfl ?_
    simp only [Act.put, zA]
    refine zr (.bool false) VB82 (xo_eqlF .i64 (coa : Int) 0 (by omega) rfl rfl rfl) ?_
    simp only [Act.put, zA]
    refine zr (.bool false) VB82 rfl ?_
    simp only [Act.put, zA]
    refine zl ?_
    try simp only [Act.put, zA]
    refine zl ?_
    try simp only [Act.put, zA]
    refine zl ?_
    try simp only [Act.put, zA]
    refine zl ?_
    try simp only [Act.put, zA]
    refine zl ?_
    try simp only [Act.put, zA]
    refine zl ?_
    try simp only [Act.put, zA]
    refine zl ?_
    try simp only [Act.put, zA]
    refine zr (.bool false) VB82 rfl ?_
    simp only [Act.put, zA]
    refine zr (.bool false) VB82 rfl ?_
    simp only [Act.put, zA]
    refine wpList_nil ?_
    go_upto_region 22 with fail
    refine wp_region_lit ?_
    refine zr (.int .i64 0) VB82 rfl ?_
    simp only [Act.put, zA]
    refine wpList_nil ?_
    have O84 := (Below.refl VB82.heap.size VB82)
    have B0 := zh (Below.refl VB82.heap.size VB82)
    go_wp2_with fail
    go_loopw [20] (fun p wr => ∃ i : Nat, i ≤ rla ∧ p = .int .i64 i ∧ Below VB82.heap.size VB82 wr) (fun p _ => rla - (intOf p).toNat)
    case atStart => exact ⟨0, Nat.zero_le _, rfl, O84⟩
    case round =>
     clear O84
     obtain ⟨wo, rfl⟩ : ∃ wo : World, wo = wr := ⟨_, rfl⟩
     obtain ⟨i, hi, rfl, hb0⟩ := hrel
     have hbr := hb0
     clear B0
     have B0 := zh hbr
     clear hbr
     clear hb0 
     go_upto_region 23 with fail
     refine wp_region_lit ?_
     refine zr (.int .i64 (coa : Int)) wo rfl ?_
     simp only [Act.put, zA]
     refine zr (.bool false) wo (xo_eqlF .i64 (coa : Int) 0 (by omega) rfl rfl rfl) ?_
     simp only [Act.put, zA]
     refine zr (.bool false) wo rfl ?_
     simp only [Act.put, zA]
     refine zl ?_
     try simp only [Act.put, zA]
     refine zl ?_
     try simp only [Act.put, zA]
     refine zl ?_
     try simp only [Act.put, zA]
     refine zl ?_
     try simp only [Act.put, zA]
     refine zl ?_
     try simp only [Act.put, zA]
     refine zr (.bool false) wo rfl ?_
     simp only [Act.put, zA]
     refine wpList_nil ?_
     go_upto_region 29 with fail
     refine wp_region_lit ?_
     refine zr (.bool true) wo rfl ?_
     simp only [Act.put, zA]
     refine zr (.bool true) wo rfl ?_
     simp only [Act.put, zA]
     refine wpList_nil ?_
     have hbf := bel_step HBV82.out B0.out
     go_wp2_with fail
     go_ret
     exact ⟨rfl, hbf⟩
end Go.Proofs.YtbecajihgbbgjaaDoor
