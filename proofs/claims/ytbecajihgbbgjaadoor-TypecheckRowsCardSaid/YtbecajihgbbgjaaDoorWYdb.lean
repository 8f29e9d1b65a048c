/- Stage 14: law TypecheckRows. -/
import Derived.Test.YtbecajihgbbgjaaDoorN13
namespace Go.Proofs.YtbecajihgbbgjaaDoor
set_option linter.unusedVariables false
set_option linter.unusedSimpArgs false
set_option linter.unusedSectionVars false
set_option maxRecDepth 8000
open Go.RowKit Go.Proofs.YtbecajihgbbgjaaDoor.K
attribute [local irreducible] wpList wpQuiet
set_option maxRecDepth 100000 in
set_option maxHeartbeats 32000000 in
theorem tRows_any (kind col k : Int) (A : Option Addr) (n c : Nat) (hs : List Hd) (fs : List (List Qu.Ci)) (r8 k8 : Nat) (hr8 : r8 < 256) (hk8 : k8 < 256) (w : World) (hG : Gw5 w) (hC : Gc w) (hF : FsR w A n c hs fs) :
  Calls Tryd.prog 9 #[.agg #[.int .i64 kind, .int .i64 col, .int .i64 k, .slice A n c], .int .u8 (r8 : Int), .int .u8 (k8 : Int)] w fun e w' => e = .returned (.bool true) ∧ Below w.heap.size w w' := by
 have HFR := zh hF
 have HG := zh hG
 have HGC := zh hC
 have hln := hF.sg.len
 have hlc := hF.sg.cap
 have hlt := hF.sg.top
 clear hF hG hC
 obtain ⟨⟨kd, cl, kk, qf⟩, hq0⟩ : ∃ q, Ty.evQ (mdQ kind col k fs) = q := ⟨_, rfl⟩
 have HOK : Hid (OkQ ⟨kd, cl, kk, qf⟩) := zh (by rw [← hq0]; exact evQ_ok (mdQ_ok kind col k fs))
 have hev : ¬ (4 ≤ kd ∧ kd ≤ 6 ∧ cl % 2 = 1) := by have h := evQ_even (mdQ kind col k fs); rw [hq0] at h; exact h
 have HQ0 := zh hq0
 clear hq0
 have hk1 : 1 ≤ kd := HOK.out.k1
 have hk7 : kd ≤ 7 := HOK.out.k7
 have hcl : cl < 4 := okQ_col HOK.out
 have hkk : kk ≤ 65536 := okQ_k HOK.out
 have HNF : Hid (qf.length = Qu.numF kd) := zh HOK.out.nf
 have hnf1 : 0 < qf.length := by rw [HNF.out]; unfold Qu.numF; split <;> decide
 obtain ⟨rk, hrk⟩ : ∃ z, r8 * k8 = z := ⟨_, rfl⟩
 have HRK := zh hrk
 clear hrk
 have hrk : rk ≤ 65025 := by rw [← HRK.out]; exact Nat.mul_le_mul (by omega : r8 ≤ 255) (by omega : k8 ≤ 255)
 obtain ⟨sm, hsm⟩ : ∃ z, Ty.suN kd = z := ⟨_, rfl⟩
 have HSM := zh hsm
 clear hsm
 obtain ⟨⟨xsz, coz⟩, hck⟩ : ∃ r, Ty.ckN ⟨kd, cl, kk, qf⟩ 0 = r := ⟨_, rfl⟩
 have HCKz := zh hck
 clear hck
 obtain ⟨rlz, hrl⟩ : ∃ z, (Ty.zs xsz).length = z := ⟨_, rfl⟩
 have HRLz := zh hrl
 have HRXz : Hid (xsz.length = rlz) := zh (by rw [← hrl, Ty.zs_len])
 have hr32z : rlz ≤ 32 := by rw [← HRXz.out]; exact Ty.ck_len HCKz.out
 clear hrl
 obtain ⟨⟨xso, coo⟩, hck⟩ : ∃ r, Ty.ckN ⟨kd, cl, kk, qf⟩ r8 = r := ⟨_, rfl⟩
 have HCKo := zh hck
 clear hck
 obtain ⟨rlo, hrl⟩ : ∃ z, (Ty.zs xso).length = z := ⟨_, rfl⟩
 have HRLo := zh hrl
 have HRXo : Hid (xso.length = rlo) := zh (by rw [← hrl, Ty.zs_len])
 have hr32o : rlo ≤ 32 := by rw [← HRXo.out]; exact Ty.ck_len HCKo.out
 clear hrl
 obtain ⟨⟨xsm, com⟩, hck⟩ : ∃ r, Ty.ckN ⟨kd, cl, kk, qf⟩ rk = r := ⟨_, rfl⟩
 have HCKm := zh hck
 clear hck
 obtain ⟨rlm, hrl⟩ : ∃ z, (Ty.zs xsm).length = z := ⟨_, rfl⟩
 have HRLm := zh hrl
 have HRXm : Hid (xsm.length = rlm) := zh (by rw [← hrl, Ty.zs_len])
 have hr32m : rlm ≤ 32 := by rw [← HRXm.out]; exact Ty.ck_len HCKm.out
 clear hrl
 have hfz := Ty.ck_facts (q := ⟨kd, cl, kk, qf⟩) hev HCKz.out
 rw [show (⟨kd, cl, kk, qf⟩ : Qu.Qy).kind = kd from rfl, HSM.out, HRXz.out] at hfz
 have HFz := zh hfz
 have hcoz := hfz.1
 clear hfz
 have hfo := Ty.ck_facts (q := ⟨kd, cl, kk, qf⟩) hev HCKo.out
 rw [show (⟨kd, cl, kk, qf⟩ : Qu.Qy).kind = kd from rfl, HSM.out, HRXo.out] at hfo
 have HFo := zh hfo
 have hcoo := hfo.1
 clear hfo
 have hfm := Ty.ck_facts (q := ⟨kd, cl, kk, qf⟩) hev HCKm.out
 rw [show (⟨kd, cl, kk, qf⟩ : Qu.Qy).kind = kd from rfl, HSM.out, HRXm.out] at hfm
 have HFm := zh hfm
 have hcom := hfm.1
 clear hfm
 obtain rfl : coz = 0 := Ty.ck_zero (q := ⟨kd, cl, kk, qf⟩) hev HCKz.out
 have HZA := zh (HFz.out.2.2 rfl).2
 have HRZ := zh (show rlz = sm from (HFz.out.2.2 rfl).1)
 clear HFz hcoz
 have hmn : 0 < k8 → com = 0 → coo = 0 := fun hk => Ty.ck_mono (q := ⟨kd, cl, kk, qf⟩) hev (by rw [← HRK.out]; exact Nat.le_mul_of_pos_right r8 hk) HCKo.out HCKm.out
 have HMN := zh hmn
 clear hmn
 go_enter Tryd.func9, Tryd.ntmps9
 go_upto_region 1 with fail
 refine wp_named1 (fun V1 hb g0 hlt => ?_)
 have B0 := zh hb
 have Fv0_3 : Hid (V1.heap[w.heap.size]? = some (.cells #[.int .i64 kind, .int .i64 col, .int .i64 k, .slice A n c] 24 (0, 0))) := zh (g0)
 have Gb0 : Hid (w.heap.size ≤ w.heap.size) := zh (by omega)
 clear hb g0 hlt
 have Lt0 : Hid (w.heap.size < V1.heap.size) := zh (xp_lt Fv0_3.out)
 refine wp_region_lit ?_
 refine wpList_call (by kernel_rfl) 10 Tryd.func10 (by kernel_rfl) (by kernel_rfl) _ _ #[] rfl (by kernel_rfl) ?_
 refine (sanity14_as V1 (HG.out.keep B0.out) (HGC.out.keep B0.out)).mono ?_
 rintro e V2 ⟨rfl, hb⟩
 have B1 := zh hb
 clear hb 
 refine ⟨_, rfl, ?_⟩
 simp only [Act.put, zA]
 refine zr (.bool true) V2 rfl ?_
 simp only [Act.put, zA]
 refine wpList_nil ?_
 go_upto_region 2 with fail
 refine wp_region_lit ?_
 refine zr (.agg #[.int .i64 kind, .int .i64 col, .int .i64 k, .slice A n c]) V2 (xo_loadW w.heap.size _ (heap_keep Fv0_3.out B1.out) Tryd.underlying24 rfl (by kernel_rfl) rfl rfl) ?_
 simp only [Act.put, zA]
 have C0_2 := zb B0 B1
 refine wpList_call (by kernel_rfl) 19 Tryd.func19 (by kernel_rfl) (by kernel_rfl) _ _ #[.agg #[.int .i64 kind, .int .i64 col, .int .i64 k, .slice A n c]] rfl (by kernel_rfl) ?_
 refine (made14_as kind col k A n c hs fs ⟨kd, cl, kk, qf⟩ HQ0.out V2 (HFR.out.keep C0_2.out)).mono ?_
 rintro e V3 ⟨A2, n2, c2, rfl, hfo0, hb⟩
 have B2 := zh hb
 have hn2 := (FsOwn.fsR hfo0).1
 subst hn2
 have hfo := FsOwn.mono hfo0 C0_2.out.size
 clear hfo0
 have HFO := zh hfo
 clear hb hfo
 refine ⟨_, rfl, ?_⟩
 simp only [Act.put, zA]
 refine wpList_new #[.int .i64 0, .int .i64 0, .int .i64 0, .slice none 0 0] 24 (by kernel_rfl) (xo_alloc #[.int .i64 0, .int .i64 0, .int .i64 0, .slice none 0 0] (by kernel_rfl) rfl) ?_
 intro b8 V4 hge h0 hb
 have C1_3 := zb B1 B2
 have N1_0 : Hid (w.heap.size ≠ b8) := zh (xp_lt0 (heap_keep Fv0_3.out C1_3.out) hge)
 have Ge2 : Hid (V3.heap.size ≤ b8) := zh hge
 have B3 := zh hb
 have Fv3_8 : Hid (V4.heap[b8]? = some (.cells #[.int .i64 0, .int .i64 0, .int .i64 0, .slice none 0 0] 24 (0, 0))) := zh (h0)
 have Lt4 : Hid (b8 < V4.heap.size) := zh (xp_lt Fv3_8.out)
 clear hge h0 hb
 simp only [ptr, Act.put, zA]
 refine wpList_storeW b8 #[.int .i64 0, .int .i64 0, .int .i64 0, .slice none 0 0] #[.int .i64 (kd : Int), .int .i64 (cl : Int), .int .i64 (kk : Int), .slice A2 qf.length c2] 24 (by kernel_rfl) Fv3_8.out (xo_storeW b8 #[.int .i64 0, .int .i64 0, .int .i64 0, .slice none 0 0] #[.int .i64 (kd : Int), .int .i64 (cl : Int), .int .i64 (kk : Int), .slice A2 qf.length c2] Fv3_8.out (by kernel_rfl) rfl (by simp [Value.oneCell']) rfl rfl rfl) ?_
 intro X4_5 h1 hfar hbel hsz
 have hbr := hbel _ _ Ge2.out B3.out
 clear B3
 have B3 := zh hbr
 clear hbr
 clear Fv3_8
 have Fv3_8 : Hid (X4_5.heap[b8]? = some (.cells #[.int .i64 (kd : Int), .int .i64 (cl : Int), .int .i64 (kk : Int), .slice A2 qf.length c2] 24 (0, 0))) := zh (h1)
 have HszX4_5 := zh hsz
 clear h1 hfar hbel hsz
 simp only [ptr, Act.put, zA]
 refine wpList_nil ?_
 obtain ⟨_, hs2, hfr⟩ := FsOwn.fsR (HFO.out.keep B3.out)
 have HFR2 := zh hfr
 clear hfr
 clear HFO
 go_upto_region 3 with fail
 refine wp_region_lit ?_
 refine zr (.agg #[.int .i64 (kd : Int), .int .i64 (cl : Int), .int .i64 (kk : Int), .slice A2 qf.length c2]) X4_5 (xo_loadW b8 _ Fv3_8.out Tryd.underlying24 rfl (by kernel_rfl) rfl rfl) ?_
 simp only [Act.put, zA]
 have C0_3 := zb C0_2 B2
 have C0_4 := zb C0_3 B3
 refine wpList_call (by kernel_rfl) 11 Tryd.func11 (by kernel_rfl) (by kernel_rfl) _ _ #[.agg #[.int .i64 (kd : Int), .int .i64 (cl : Int), .int .i64 (kk : Int), .slice A2 qf.length c2], .int .i64 0] rfl (by kernel_rfl) ?_
 refine (check_ok kd cl kk A2 qf.length c2 hs2 qf HOK.out 0 (by omega) (xsz, 0) HCKz.out X4_5 HFR2.out (HG.out.keep C0_4.out) (HGC.out.keep C0_4.out)).mono ?_
 rintro e V5 ⟨Az, nz, cz, rfl, hsg, hb⟩
 have B4 := zh hb
 obtain rfl : rlz = nz := (HRLz.out).symm.trans hsg.len
 have HSz := zh hsg
 clear hb hsg
 refine ⟨_, rfl, ?_⟩
 simp only [Act.put, zA]
 refine zr (.tuple #[.agg #[.slice Az rlz cz], .int .i64 (0 : Int)]) V5 rfl ?_
 simp only [Act.put, zA]
 refine zr (.agg #[.slice Az rlz cz]) V5 rfl ?_
 simp only [Act.put, zA]
 refine zr (.int .i64 (0 : Int)) V5 rfl ?_
 simp only [Act.put, zA]
 refine wpList_new #[.slice none 0 0] 29 (by kernel_rfl) (xo_alloc #[.slice none 0 0] (by kernel_rfl) rfl) ?_
 intro b9 V6 hge h0 hb
 have C1_4 := zb C1_3 B3
 have C1_5 := zb C1_4 B4
 have N6_0 : Hid (w.heap.size ≠ b9) := zh (xp_lt0 (heap_keep Fv0_3.out C1_5.out) hge)
 have N7_1 : Hid (b8 ≠ b9) := zh (xp_lt0 (heap_keep Fv3_8.out B4.out) hge)
 have Ge8 : Hid (V5.heap.size ≤ b9) := zh hge
 have B5 := zh hb
 have Fv9_9 : Hid (V6.heap[b9]? = some (.cells #[.slice none 0 0] 29 (0, 0))) := zh (h0)
 have Lt10 : Hid (b9 < V6.heap.size) := zh (xp_lt Fv9_9.out)
 clear hge h0 hb
 simp only [ptr, Act.put, zA]
 refine wpList_storeW b9 #[.slice none 0 0] #[.slice Az rlz cz] 29 (by kernel_rfl) Fv9_9.out (xo_storeW b9 #[.slice none 0 0] #[.slice Az rlz cz] Fv9_9.out (by kernel_rfl) rfl (by simp [Value.oneCell']) rfl rfl rfl) ?_
 intro X6_11 h1 hfar hbel hsz
 have hbr := hbel _ _ Ge8.out B5.out
 clear B5
 have B5 := zh hbr
 clear hbr
 clear Fv9_9
 have Fv9_9 : Hid (X6_11.heap[b9]? = some (.cells #[.slice Az rlz cz] 29 (0, 0))) := zh (h1)
 have HszX6_11 := zh hsz
 clear h1 hfar hbel hsz
 simp only [ptr, Act.put, zA]
 refine zr (.int .i64 (0 : Int)) X6_11 rfl ?_
 simp only [Act.put, zA]
 refine wpList_nil ?_
 go_upto_region 4 with fail
 refine wp_region_lit ?_
 have C4_6 := zb B4 B5
 refine zr (.agg #[.int .i64 (kd : Int), .int .i64 (cl : Int), .int .i64 (kk : Int), .slice A2 qf.length c2]) X6_11 (xo_loadW b8 _ (heap_keep Fv3_8.out C4_6.out) Tryd.underlying24 rfl (by kernel_rfl) rfl rfl) ?_
 simp only [Act.put, zA]
 refine zr (.int .u8 (r8 : Int)) X6_11 rfl ?_
 simp only [Act.put, zA]
 refine zr (.int .i64 (r8 : Int)) X6_11 (xo_cvt .u8 .i64 (r8 : Int) (r8 : Int) (by rw [IntKind.wrap_i64]; omega) Tryd.underlying3 Tryd.underlying5 rfl rfl) ?_
 simp only [Act.put, zA]
 have C0_5 := zb C0_4 B4
 have C0_6 := zb C0_5 B5
 refine wpList_call (by kernel_rfl) 11 Tryd.func11 (by kernel_rfl) (by kernel_rfl) _ _ #[.agg #[.int .i64 (kd : Int), .int .i64 (cl : Int), .int .i64 (kk : Int), .slice A2 qf.length c2], .int .i64 (r8 : Int)] rfl (by kernel_rfl) ?_
 refine (check_ok kd cl kk A2 qf.length c2 hs2 qf HOK.out r8 (by omega) (xso, coo) HCKo.out X6_11 (HFR2.out.keep C4_6.out) (HG.out.keep C0_6.out) (HGC.out.keep C0_6.out)).mono ?_
 rintro e V7 ⟨Ao, no, co, rfl, hsg, hb⟩
 have B6 := zh hb
 obtain rfl : rlo = no := (HRLo.out).symm.trans hsg.len
 have HSo := zh hsg
 clear hb hsg
 refine ⟨_, rfl, ?_⟩
 simp only [Act.put, zA]
 refine zr (.tuple #[.agg #[.slice Ao rlo co], .int .i64 (coo : Int)]) V7 rfl ?_
 simp only [Act.put, zA]
 refine zr (.agg #[.slice Ao rlo co]) V7 rfl ?_
 simp only [Act.put, zA]
 refine zr (.int .i64 (coo : Int)) V7 rfl ?_
 simp only [Act.put, zA]
 refine wpList_new #[.slice none 0 0] 29 (by kernel_rfl) (xo_alloc #[.slice none 0 0] (by kernel_rfl) rfl) ?_
 intro b11 V8 hge h0 hb
 have C1_6 := zb C1_5 B5
 have C1_7 := zb C1_6 B6
 have N12_0 : Hid (w.heap.size ≠ b11) := zh (xp_lt0 (heap_keep Fv0_3.out C1_7.out) hge)
 have C4_7 := zb C4_6 B6
 have N13_1 : Hid (b8 ≠ b11) := zh (xp_lt0 (heap_keep Fv3_8.out C4_7.out) hge)
 have N14_2 : Hid (b9 ≠ b11) := zh (xp_lt0 (heap_keep Fv9_9.out B6.out) hge)
 have Ge15 : Hid (V7.heap.size ≤ b11) := zh hge
 have B7 := zh hb
 have Fv16_11 : Hid (V8.heap[b11]? = some (.cells #[.slice none 0 0] 29 (0, 0))) := zh (h0)
 have Lt17 : Hid (b11 < V8.heap.size) := zh (xp_lt Fv16_11.out)
 clear hge h0 hb
 simp only [ptr, Act.put, zA]
 refine wpList_storeW b11 #[.slice none 0 0] #[.slice Ao rlo co] 29 (by kernel_rfl) Fv16_11.out (xo_storeW b11 #[.slice none 0 0] #[.slice Ao rlo co] Fv16_11.out (by kernel_rfl) rfl (by simp [Value.oneCell']) rfl rfl rfl) ?_
 intro X8_18 h1 hfar hbel hsz
 have hbr := hbel _ _ Ge15.out B7.out
 clear B7
 have B7 := zh hbr
 clear hbr
 clear Fv16_11
 have Fv16_11 : Hid (X8_18.heap[b11]? = some (.cells #[.slice Ao rlo co] 29 (0, 0))) := zh (h1)
 have HszX8_18 := zh hsz
 clear h1 hfar hbel hsz
 simp only [ptr, Act.put, zA]
 refine zr (.int .i64 (coo : Int)) X8_18 rfl ?_
 simp only [Act.put, zA]
 refine wpList_nil ?_
 go_upto_region 5 with fail
 refine wp_region_lit ?_
 have C4_8 := zb C4_7 B7
 refine zr (.agg #[.int .i64 (kd : Int), .int .i64 (cl : Int), .int .i64 (kk : Int), .slice A2 qf.length c2]) X8_18 (xo_loadW b8 _ (heap_keep Fv3_8.out C4_8.out) Tryd.underlying24 rfl (by kernel_rfl) rfl rfl) ?_
 simp only [Act.put, zA]
 refine zr (.int .u8 (r8 : Int)) X8_18 rfl ?_
 simp only [Act.put, zA]
 refine zr (.int .i64 (r8 : Int)) X8_18 (xo_cvt .u8 .i64 (r8 : Int) (r8 : Int) (by rw [IntKind.wrap_i64]; omega) Tryd.underlying3 Tryd.underlying5 rfl rfl) ?_
 simp only [Act.put, zA]
 refine zr (.int .u8 (k8 : Int)) X8_18 rfl ?_
 simp only [Act.put, zA]
 refine zr (.int .i64 (k8 : Int)) X8_18 (xo_cvt .u8 .i64 (k8 : Int) (k8 : Int) (by rw [IntKind.wrap_i64]; omega) Tryd.underlying3 Tryd.underlying5 rfl rfl) ?_
 simp only [Act.put, zA]
 refine zr (.int .i64 (rk : Int)) X8_18 (xo_mulI (r8 : Int) (k8 : Int) (rk : Int) (by rw [← HRK.out]; exact Int.natCast_mul r8 k8) (by omega) (by omega) rfl rfl rfl) ?_
 simp only [Act.put, zA]
 have C0_7 := zb C0_6 B6
 have C0_8 := zb C0_7 B7
 refine wpList_call (by kernel_rfl) 11 Tryd.func11 (by kernel_rfl) (by kernel_rfl) _ _ #[.agg #[.int .i64 (kd : Int), .int .i64 (cl : Int), .int .i64 (kk : Int), .slice A2 qf.length c2], .int .i64 (rk : Int)] rfl (by kernel_rfl) ?_
 refine (check_ok kd cl kk A2 qf.length c2 hs2 qf HOK.out rk (by omega) (xsm, com) HCKm.out X8_18 (HFR2.out.keep C4_8.out) (HG.out.keep C0_8.out) (HGC.out.keep C0_8.out)).mono ?_
 rintro e V9 ⟨Am, nm, cm, rfl, hsg, hb⟩
 have B8 := zh hb
 obtain rfl : rlm = nm := (HRLm.out).symm.trans hsg.len
 have HSm := zh hsg
 clear hb hsg
 refine ⟨_, rfl, ?_⟩
 simp only [Act.put, zA]
 refine zr (.tuple #[.agg #[.slice Am rlm cm], .int .i64 (com : Int)]) V9 rfl ?_
 simp only [Act.put, zA]
 refine zr (.agg #[.slice Am rlm cm]) V9 rfl ?_
 simp only [Act.put, zA]
 refine zr (.int .i64 (com : Int)) V9 rfl ?_
 simp only [Act.put, zA]
 refine wpList_new #[.slice none 0 0] 29 (by kernel_rfl) (xo_alloc #[.slice none 0 0] (by kernel_rfl) rfl) ?_
 intro b13 V10 hge h0 hb
 have C1_8 := zb C1_7 B7
 have C1_9 := zb C1_8 B8
 have N19_0 : Hid (w.heap.size ≠ b13) := zh (xp_lt0 (heap_keep Fv0_3.out C1_9.out) hge)
 have C4_9 := zb C4_8 B8
 have N20_1 : Hid (b8 ≠ b13) := zh (xp_lt0 (heap_keep Fv3_8.out C4_9.out) hge)
 have C6_8 := zb B6 B7
 have C6_9 := zb C6_8 B8
 have N21_2 : Hid (b9 ≠ b13) := zh (xp_lt0 (heap_keep Fv9_9.out C6_9.out) hge)
 have N22_3 : Hid (b11 ≠ b13) := zh (xp_lt0 (heap_keep Fv16_11.out B8.out) hge)
 have Ge23 : Hid (V9.heap.size ≤ b13) := zh hge
 have B9 := zh hb
 have Fv24_13 : Hid (V10.heap[b13]? = some (.cells #[.slice none 0 0] 29 (0, 0))) := zh (h0)
 have Lt25 : Hid (b13 < V10.heap.size) := zh (xp_lt Fv24_13.out)
 clear hge h0 hb
 simp only [ptr, Act.put, zA]
 refine wpList_storeW b13 #[.slice none 0 0] #[.slice Am rlm cm] 29 (by kernel_rfl) Fv24_13.out (xo_storeW b13 #[.slice none 0 0] #[.slice Am rlm cm] Fv24_13.out (by kernel_rfl) rfl (by simp [Value.oneCell']) rfl rfl rfl) ?_
 intro X10_26 h1 hfar hbel hsz
 have hbr := hbel _ _ Ge23.out B9.out
 clear B9
 have B9 := zh hbr
 clear hbr
 clear Fv24_13
 have Fv24_13 : Hid (X10_26.heap[b13]? = some (.cells #[.slice Am rlm cm] 29 (0, 0))) := zh (h1)
 have HszX10_26 := zh hsz
 clear h1 hfar hbel hsz
 simp only [ptr, Act.put, zA]
 refine zr (.int .i64 (com : Int)) X10_26 rfl ?_
 simp only [Act.put, zA]
 refine wpList_nil ?_
 have Gr27 : Hid (w.heap.size ≤ b8) := zh (Nat.le_trans C0_3.out.size Ge2.out)
 have Gr28 : Hid (w.heap.size ≤ b9) := zh (Nat.le_trans C0_5.out.size Ge8.out)
 have Gr29 : Hid (w.heap.size ≤ b11) := zh (Nat.le_trans C0_7.out.size Ge15.out)
 have C0_9 := zb C0_8 B8
 have Gr30 : Hid (w.heap.size ≤ b13) := zh (Nat.le_trans C0_9.out.size Ge23.out)
 go_upto_region 6 with fail
 go_cut [63] from 42 to 63 (fun s63 wx => s63 = .bool false ∧ FsR wx A2 qf.length c2 hs2 (qf.map (List.map Qu.Cd.ci)) ∧ Sg zzC 1 wx Az rlz cz (Ty.zs xsz) ∧ Sg zzC 1 wx Ao rlo co (Ty.zs xso) ∧ Sg zzC 1 wx Am rlm cm (Ty.zs xsm) ∧ wx.heap[w.heap.size]? = some (.cells #[.int .i64 kind, .int .i64 col, .int .i64 k, .slice A n c] 24 (0, 0)) ∧ wx.heap[b8]? = some (.cells #[.int .i64 (kd : Int), .int .i64 (cl : Int), .int .i64 (kk : Int), .slice A2 qf.length c2] 24 (0, 0)) ∧ wx.heap[b9]? = some (.cells #[.slice Az rlz cz] 29 (0, 0)) ∧ wx.heap[b11]? = some (.cells #[.slice Ao rlo co] 29 (0, 0)) ∧ wx.heap[b13]? = some (.cells #[.slice Am rlm cm] 29 (0, 0)) ∧ Below w.heap.size w wx)
 case first =>
  have hrz := HRZ.out
  have hci31 : ¬ ((rlz : Int) ≠ (sm : Int)) := by omega
  by_cases hk0 : k8 = 0
  ·have hci32 : ¬ ((k8 : Int) > 0) := by omega
   refine wp_floatP [0, 1, 2, 3, 4, 5, 6, 7, 8, 9, 10, 11, 12, 13, 14, 15, 16, 17, 18, 19, 20, 21] (l' := [_, _, _, _, _, _, _, _, _, _, _, _, _, _, _, _, _, _, _, _, _, _]) (by kernel_rfl) (lexOK_of (by kernel_rfl) (by kernel_rfl)) (ordOK_of (by kernel_rfl) (by kernel_rfl)) rfl rfl ?_
   simp only [List.getElem_toArray, List.getElem_cons_succ, List.getElem_cons_zero]
   intro V11 hb hSW
   have B10 := zh hb
   have HF11 := zh hSW
   clear hb hSW
   refine wpF_seg 7 (by kernel_rfl) ?_
   simp only [List.take_succ_cons, List.take_zero, List.drop_succ_cons, List.drop_zero]
   refine zv (.int .i64 (0 : Int)) (fun v hv => rfl) ?_
   simp only [Act.put, zA]
   refine zv (.bool false) (fun v hv => (xo_neqF .i64 (0 : Int) 0 (by omega) rfl rfl rfl)) ?_
   simp only [Act.put, zA]
   refine zv (.bool false) (fun v hv => rfl) ?_
   simp only [Act.put, zA]
   refine zv (.pointer (some ⟨b9, 0, none⟩)) (fun v hv => (xo_fld0 0 b9 0 (by kernel_rfl) rfl rfl)) ?_
   simp only [Act.put, zA]
   have C6_10 := zb C6_9 B9
   refine zv (.slice Az rlz cz) (fun v hv => (xo_load1 ⟨b9, 0, none⟩ _ (cells_at (heap_keep (heap_keep Fv9_9.out C6_10.out) (laterF hv)) 0 rfl) Tryd.underlying27 rfl rfl rfl)) ?_
   simp only [Act.put, zA]
   refine zv (.int .i64 (rlz : Int)) (fun v hv => (xo_len Az rlz cz Tryd.underlying27 rfl rfl)) ?_
   simp only [Act.put, zA]
   have C4_10 := zb C4_9 B9
   refine zv (.agg #[.int .i64 (kd : Int), .int .i64 (cl : Int), .int .i64 (kk : Int), .slice A2 qf.length c2]) (fun v hv => (xo_loadW b8 _ (heap_keep (heap_keep Fv3_8.out C4_10.out) (laterF hv)) Tryd.underlying24 rfl (by kernel_rfl) rfl rfl)) ?_
   simp only [Act.put, zA]
   refine wpQuiet_nil ?_
   refine wpF_call 15 Tryd.func15 (by kernel_rfl) (by kernel_rfl) _ _ #[.agg #[.int .i64 (kd : Int), .int .i64 (cl : Int), .int .i64 (kk : Int), .slice A2 qf.length c2]] rfl (by kernel_rfl) (by kernel_rfl) HF11.out (fun V12 hb => ?_)
   have B11 := zh hb
   have HF12 := zh (HF11.out.ext hb)
   clear hb
   refine (sums_as (kd : Int) (cl : Int) (kk : Int) A2 qf.length c2 sm (by rw [Ty.suZ_nat hk1 hk7]; exact HSM.out) V12).mono ?_
   rintro e V13 ⟨rfl, hb⟩
   have B12 := zh hb
   have HF13 := zh (HF12.out.ext hb)
   refine ⟨_, rfl, hb, ?_⟩
   clear hb 
   simp only [Act.put, zA]
   refine wpF_seg 14 (by kernel_rfl) ?_
   simp only [List.take_succ_cons, List.take_zero, List.drop_succ_cons, List.drop_zero]
   refine zv (.bool false) (fun v hv => (xo_neqF .i64 (rlz : Int) (sm : Int) (by omega) rfl rfl rfl)) ?_
   simp only [Act.put, zA]
   refine zv (.bool false) (fun v hv => rfl) ?_
   simp only [Act.put, zA]
   refine zv (.bool false) (fun v hv => rfl) ?_
   simp only [Act.put, zA]
   refine zv (.int .u8 (k8 : Int)) (fun v hv => rfl) ?_
   simp only [Act.put, zA]
   refine zv (.bool false) (fun v hv => (xo_gtrF .u8 (k8 : Int) 0 (by omega) rfl rfl rfl)) ?_
   simp only [Act.put, zA]
   refine zv (.bool false) (fun v hv => rfl) ?_
   simp only [Act.put, zA]
   refine BigFrame.wpQuiet_skip (by kernel_rfl) ?_
   try simp only [Act.put, zA]
   refine BigFrame.wpQuiet_skip (by kernel_rfl) ?_
   try simp only [Act.put, zA]
   refine zv (.bool false) (fun v hv => rfl) ?_
   simp only [Act.put, zA]
   refine zv (.bool false) (fun v hv => rfl) ?_
   simp only [Act.put, zA]
   refine BigFrame.wpQuiet_skip (by kernel_rfl) ?_
   try simp only [Act.put, zA]
   refine BigFrame.wpQuiet_skip (by kernel_rfl) ?_
   try simp only [Act.put, zA]
   refine zv (.bool false) (fun v hv => rfl) ?_
   simp only [Act.put, zA]
   refine zv (.bool false) (fun v hv => rfl) ?_
   simp only [Act.put, zA]
   refine wpQuiet_nil ?_
   refine wpF_nil (fun V14 hb => ?_)
   have B13 := zh hb
   clear hb
   clear HF11
   clear HF12
   clear HF13
   try clear hrz
   try clear hk0
   try clear hcm0
   try clear hc1
   try clear hci0
   try clear hci1
   try clear hci2
   try clear hci3
   try clear hci4
   try clear hci5
   try clear hci6
   try clear hci7
   try clear hci8
   try clear hci9
   try clear hci10
   try clear hci11
   try clear hci12
   try clear hci13
   try clear hci14
   try clear hci15
   try clear hci16
   try clear hci17
   try clear hci18
   try clear hci19
   try clear hci20
   try clear hci21
   try clear hci22
   try clear hci23
   try clear hci24
   try clear hci25
   try clear hci26
   try clear hci27
   try clear hci28
   try clear hci29
   try clear hci30
   try clear hci31
   try clear hci32
   have C4_11 := zb C4_10 B10
   have C4_12 := zb C4_11 B11
   have C4_13 := zb C4_12 B12
   have C4_14 := zb C4_13 B13
   have mkHFR233 := (HFR2.out.keep C4_14.out)
   have C5_7 := zb B5 B6
   have C5_8 := zb C5_7 B7
   have C5_9 := zb C5_8 B8
   have C5_10 := zb C5_9 B9
   have C5_11 := zb C5_10 B10
   have C5_12 := zb C5_11 B11
   have C5_13 := zb C5_12 B12
   have C5_14 := zb C5_13 B13
   have mkHSz34 := (HSz.out.keep C5_14.out)
   have C7_9 := zb B7 B8
   have C7_10 := zb C7_9 B9
   have C7_11 := zb C7_10 B10
   have C7_12 := zb C7_11 B11
   have C7_13 := zb C7_12 B12
   have C7_14 := zb C7_13 B13
   have mkHSo35 := (HSo.out.keep C7_14.out)
   have C9_11 := zb B9 B10
   have C9_12 := zb C9_11 B11
   have C9_13 := zb C9_12 B12
   have C9_14 := zb C9_13 B13
   have mkHSm36 := (HSm.out.keep C9_14.out)
   have C1_10 := zb C1_9 B9
   have C1_11 := zb C1_10 B10
   have C1_12 := zb C1_11 B11
   have C1_13 := zb C1_12 B12
   have C1_14 := zb C1_13 B13
   have hm37 := (heap_keep Fv0_3.out C1_14.out)
   have hm38 := (heap_keep Fv3_8.out C4_14.out)
   have C6_11 := zb C6_10 B10
   have C6_12 := zb C6_11 B11
   have C6_13 := zb C6_12 B12
   have C6_14 := zb C6_13 B13
   have hm39 := (heap_keep Fv9_9.out C6_14.out)
   have C8_10 := zb B8 B9
   have C8_11 := zb C8_10 B10
   have C8_12 := zb C8_11 B11
   have C8_13 := zb C8_12 B12
   have C8_14 := zb C8_13 B13
   have hm40 := (heap_keep Fv16_11.out C8_14.out)
   have C10_12 := zb B10 B11
   have C10_13 := zb C10_12 B12
   have C10_14 := zb C10_13 B13
   have hm41 := (heap_keep Fv24_13.out C10_14.out)
   have C0_10 := zb C0_9 B9
   have C0_11 := zb C0_10 B10
   have C0_12 := zb C0_11 B11
   have C0_13 := zb C0_12 B12
   have C0_14 := zb C0_13 B13
   have hm42 := C0_14.out
   go_wp2_with fail
   go_meet
   case rel => exact ⟨rfl, mkHFR233, mkHSz34, mkHSo35, mkHSm36, hm37, hm38, hm39, hm40, hm41, hm42⟩
  ·have hci32 : ((k8 : Int) > 0) := by omega
   by_cases hcm0 : com = 0
   ·have hci33 : ((com : Int) = 0) := by omega
    have hc1 : coo = 0 := HMN.out (by omega) hcm0
    have hci34 : ¬ ((coo : Int) ≠ 0) := by omega
    refine wp_floatP [0, 1, 2, 3, 4, 5, 6, 7, 8, 9, 10, 11, 12, 13, 14, 15, 16, 17, 18, 19, 20, 21] (l' := [_, _, _, _, _, _, _, _, _, _, _, _, _, _, _, _, _, _, _, _, _, _]) (by kernel_rfl) (lexOK_of (by kernel_rfl) (by kernel_rfl)) (ordOK_of (by kernel_rfl) (by kernel_rfl)) rfl rfl ?_
    simp only [List.getElem_toArray, List.getElem_cons_succ, List.getElem_cons_zero]
    intro V11 hb hSW
    have B10 := zh hb
    have HF11 := zh hSW
    clear hb hSW
    refine wpF_seg 7 (by kernel_rfl) ?_
    simp only [List.take_succ_cons, List.take_zero, List.drop_succ_cons, List.drop_zero]
    refine zv (.int .i64 (0 : Int)) (fun v hv => rfl) ?_
    simp only [Act.put, zA]
    refine zv (.bool false) (fun v hv => (xo_neqF .i64 (0 : Int) 0 (by omega) rfl rfl rfl)) ?_
    simp only [Act.put, zA]
    refine zv (.bool false) (fun v hv => rfl) ?_
    simp only [Act.put, zA]
    refine zv (.pointer (some ⟨b9, 0, none⟩)) (fun v hv => (xo_fld0 0 b9 0 (by kernel_rfl) rfl rfl)) ?_
    simp only [Act.put, zA]
    have C6_10 := zb C6_9 B9
    refine zv (.slice Az rlz cz) (fun v hv => (xo_load1 ⟨b9, 0, none⟩ _ (cells_at (heap_keep (heap_keep Fv9_9.out C6_10.out) (laterF hv)) 0 rfl) Tryd.underlying27 rfl rfl rfl)) ?_
    simp only [Act.put, zA]
    refine zv (.int .i64 (rlz : Int)) (fun v hv => (xo_len Az rlz cz Tryd.underlying27 rfl rfl)) ?_
    simp only [Act.put, zA]
    have C4_10 := zb C4_9 B9
    refine zv (.agg #[.int .i64 (kd : Int), .int .i64 (cl : Int), .int .i64 (kk : Int), .slice A2 qf.length c2]) (fun v hv => (xo_loadW b8 _ (heap_keep (heap_keep Fv3_8.out C4_10.out) (laterF hv)) Tryd.underlying24 rfl (by kernel_rfl) rfl rfl)) ?_
    simp only [Act.put, zA]
    refine wpQuiet_nil ?_
    refine wpF_call 15 Tryd.func15 (by kernel_rfl) (by kernel_rfl) _ _ #[.agg #[.int .i64 (kd : Int), .int .i64 (cl : Int), .int .i64 (kk : Int), .slice A2 qf.length c2]] rfl (by kernel_rfl) (by kernel_rfl) HF11.out (fun V12 hb => ?_)
    have B11 := zh hb
    have HF12 := zh (HF11.out.ext hb)
    clear hb
    refine (sums_as (kd : Int) (cl : Int) (kk : Int) A2 qf.length c2 sm (by rw [Ty.suZ_nat hk1 hk7]; exact HSM.out) V12).mono ?_
    rintro e V13 ⟨rfl, hb⟩
    have B12 := zh hb
    have HF13 := zh (HF12.out.ext hb)
    refine ⟨_, rfl, hb, ?_⟩
    clear hb 
    simp only [Act.put, zA]
    refine wpF_seg 14 (by kernel_rfl) ?_
    simp only [List.take_succ_cons, List.take_zero, List.drop_succ_cons, List.drop_zero]
    refine zv (.bool false) (fun v hv => (xo_neqF .i64 (rlz : Int) (sm : Int) (by omega) rfl rfl rfl)) ?_
    simp only [Act.put, zA]
    refine zv (.bool false) (fun v hv => rfl) ?_
    simp only [Act.put, zA]
    refine zv (.bool false) (fun v hv => rfl) ?_
    simp only [Act.put, zA]
    refine zv (.int .u8 (k8 : Int)) (fun v hv => rfl) ?_
    simp only [Act.put, zA]
    refine zv (.bool true) (fun v hv => (xo_gtrT .u8 (k8 : Int) 0 (by omega) rfl rfl rfl)) ?_
    simp only [Act.put, zA]
    refine zv (.bool true) (fun v hv => rfl) ?_
    simp only [Act.put, zA]
    refine zv (.int .i64 (com : Int)) (fun v hv => rfl) ?_
    simp only [Act.put, zA]
    refine zv (.bool true) (fun v hv => (xo_eqlT .i64 (com : Int) 0 (by omega) rfl rfl rfl)) ?_
    simp only [Act.put, zA]
    refine zv (.bool true) (fun v hv => rfl) ?_
    simp only [Act.put, zA]
    refine zv (.bool true) (fun v hv => rfl) ?_
    simp only [Act.put, zA]
    refine zv (.int .i64 (coo : Int)) (fun v hv => rfl) ?_
    simp only [Act.put, zA]
    refine zv (.bool false) (fun v hv => (xo_neqF .i64 (coo : Int) 0 (by omega) rfl rfl rfl)) ?_
    simp only [Act.put, zA]
    refine zv (.bool false) (fun v hv => rfl) ?_
    simp only [Act.put, zA]
    refine zv (.bool false) (fun v hv => rfl) ?_
    simp only [Act.put, zA]
    refine wpQuiet_nil ?_
    refine wpF_nil (fun V14 hb => ?_)
    have B13 := zh hb
    clear hb
    clear HF11
    clear HF12
    clear HF13
    try clear hrz
    try clear hk0
    try clear hcm0
    try clear hc1
    try clear hci0
    try clear hci1
    try clear hci2
    try clear hci3
    try clear hci4
    try clear hci5
    try clear hci6
    try clear hci7
    try clear hci8
    try clear hci9
    try clear hci10
    try clear hci11
    try clear hci12
    try clear hci13
    try clear hci14
    try clear hci15
    try clear hci16
    try clear hci17
    try clear hci18
    try clear hci19
    try clear hci20
    try clear hci21
    try clear hci22
    try clear hci23
    try clear hci24
    try clear hci25
    try clear hci26
    try clear hci27
    try clear hci28
    try clear hci29
    try clear hci30
    try clear hci31
    try clear hci32
    try clear hci33
    try clear hci34
    have C4_11 := zb C4_10 B10
    have C4_12 := zb C4_11 B11
    have C4_13 := zb C4_12 B12
    have C4_14 := zb C4_13 B13
    have mkHFR235 := (HFR2.out.keep C4_14.out)
    have C5_7 := zb B5 B6
    have C5_8 := zb C5_7 B7
    have C5_9 := zb C5_8 B8
    have C5_10 := zb C5_9 B9
    have C5_11 := zb C5_10 B10
    have C5_12 := zb C5_11 B11
    have C5_13 := zb C5_12 B12
    have C5_14 := zb C5_13 B13
    have mkHSz36 := (HSz.out.keep C5_14.out)
    have C7_9 := zb B7 B8
    have C7_10 := zb C7_9 B9
    have C7_11 := zb C7_10 B10
    have C7_12 := zb C7_11 B11
    have C7_13 := zb C7_12 B12
    have C7_14 := zb C7_13 B13
    have mkHSo37 := (HSo.out.keep C7_14.out)
    have C9_11 := zb B9 B10
    have C9_12 := zb C9_11 B11
    have C9_13 := zb C9_12 B12
    have C9_14 := zb C9_13 B13
    have mkHSm38 := (HSm.out.keep C9_14.out)
    have C1_10 := zb C1_9 B9
    have C1_11 := zb C1_10 B10
    have C1_12 := zb C1_11 B11
    have C1_13 := zb C1_12 B12
    have C1_14 := zb C1_13 B13
    have hm39 := (heap_keep Fv0_3.out C1_14.out)
    have hm40 := (heap_keep Fv3_8.out C4_14.out)
    have C6_11 := zb C6_10 B10
    have C6_12 := zb C6_11 B11
    have C6_13 := zb C6_12 B12
    have C6_14 := zb C6_13 B13
    have hm41 := (heap_keep Fv9_9.out C6_14.out)
    have C8_10 := zb B8 B9
    have C8_11 := zb C8_10 B10
    have C8_12 := zb C8_11 B11
    have C8_13 := zb C8_12 B12
    have C8_14 := zb C8_13 B13
    have hm42 := (heap_keep Fv16_11.out C8_14.out)
    have C10_12 := zb B10 B11
    have C10_13 := zb C10_12 B12
    have C10_14 := zb C10_13 B13
    have hm43 := (heap_keep Fv24_13.out C10_14.out)
    have C0_10 := zb C0_9 B9
    have C0_11 := zb C0_10 B10
    have C0_12 := zb C0_11 B11
    have C0_13 := zb C0_12 B12
    have C0_14 := zb C0_13 B13
    have hm44 := C0_14.out
    go_wp2_with fail
    go_meet
    case rel => exact ⟨rfl, mkHFR235, mkHSz36, mkHSo37, mkHSm38, hm39, hm40, hm41, hm42, hm43, hm44⟩
   ·have hci33 : ¬ ((com : Int) = 0) := by omega
    refine wp_floatP [0, 1, 2, 3, 4, 5, 6, 7, 8, 9, 10, 11, 12, 13, 14, 15, 16, 17, 18, 19, 20, 21] (l' := [_, _, _, _, _, _, _, _, _, _, _, _, _, _, _, _, _, _, _, _, _, _]) (by kernel_rfl) (lexOK_of (by kernel_rfl) (by kernel_rfl)) (ordOK_of (by kernel_rfl) (by kernel_rfl)) rfl rfl ?_
    simp only [List.getElem_toArray, List.getElem_cons_succ, List.getElem_cons_zero]
    intro V11 hb hSW
    have B10 := zh hb
    have HF11 := zh hSW
    clear hb hSW
    refine wpF_seg 7 (by kernel_rfl) ?_
    simp only [List.take_succ_cons, List.take_zero, List.drop_succ_cons, List.drop_zero]
    refine zv (.int .i64 (0 : Int)) (fun v hv => rfl) ?_
    simp only [Act.put, zA]
    refine zv (.bool false) (fun v hv => (xo_neqF .i64 (0 : Int) 0 (by omega) rfl rfl rfl)) ?_
    simp only [Act.put, zA]
    refine zv (.bool false) (fun v hv => rfl) ?_
    simp only [Act.put, zA]
    refine zv (.pointer (some ⟨b9, 0, none⟩)) (fun v hv => (xo_fld0 0 b9 0 (by kernel_rfl) rfl rfl)) ?_
    simp only [Act.put, zA]
    have C6_10 := zb C6_9 B9
    refine zv (.slice Az rlz cz) (fun v hv => (xo_load1 ⟨b9, 0, none⟩ _ (cells_at (heap_keep (heap_keep Fv9_9.out C6_10.out) (laterF hv)) 0 rfl) Tryd.underlying27 rfl rfl rfl)) ?_
    simp only [Act.put, zA]
    refine zv (.int .i64 (rlz : Int)) (fun v hv => (xo_len Az rlz cz Tryd.underlying27 rfl rfl)) ?_
    simp only [Act.put, zA]
    have C4_10 := zb C4_9 B9
    refine zv (.agg #[.int .i64 (kd : Int), .int .i64 (cl : Int), .int .i64 (kk : Int), .slice A2 qf.length c2]) (fun v hv => (xo_loadW b8 _ (heap_keep (heap_keep Fv3_8.out C4_10.out) (laterF hv)) Tryd.underlying24 rfl (by kernel_rfl) rfl rfl)) ?_
    simp only [Act.put, zA]
    refine wpQuiet_nil ?_
    refine wpF_call 15 Tryd.func15 (by kernel_rfl) (by kernel_rfl) _ _ #[.agg #[.int .i64 (kd : Int), .int .i64 (cl : Int), .int .i64 (kk : Int), .slice A2 qf.length c2]] rfl (by kernel_rfl) (by kernel_rfl) HF11.out (fun V12 hb => ?_)
    have B11 := zh hb
    have HF12 := zh (HF11.out.ext hb)
    clear hb
    refine (sums_as (kd : Int) (cl : Int) (kk : Int) A2 qf.length c2 sm (by rw [Ty.suZ_nat hk1 hk7]; exact HSM.out) V12).mono ?_
    rintro e V13 ⟨rfl, hb⟩
    have B12 := zh hb
    have HF13 := zh (HF12.out.ext hb)
    refine ⟨_, rfl, hb, ?_⟩
    clear hb 
    simp only [Act.put, zA]
    refine wpF_seg 14 (by kernel_rfl) ?_
    simp only [List.take_succ_cons, List.take_zero, List.drop_succ_cons, List.drop_zero]
    refine zv (.bool false) (fun v hv => (xo_neqF .i64 (rlz : Int) (sm : Int) (by omega) rfl rfl rfl)) ?_
    simp only [Act.put, zA]
    refine zv (.bool false) (fun v hv => rfl) ?_
    simp only [Act.put, zA]
    refine zv (.bool false) (fun v hv => rfl) ?_
    simp only [Act.put, zA]
    refine zv (.int .u8 (k8 : Int)) (fun v hv => rfl) ?_
    simp only [Act.put, zA]
    refine zv (.bool true) (fun v hv => (xo_gtrT .u8 (k8 : Int) 0 (by omega) rfl rfl rfl)) ?_
    simp only [Act.put, zA]
    refine zv (.bool true) (fun v hv => rfl) ?_
    simp only [Act.put, zA]
    refine zv (.int .i64 (com : Int)) (fun v hv => rfl) ?_
    simp only [Act.put, zA]
    refine zv (.bool false) (fun v hv => (xo_eqlF .i64 (com : Int) 0 (by omega) rfl rfl rfl)) ?_
    simp only [Act.put, zA]
    refine zv (.bool false) (fun v hv => rfl) ?_
    simp only [Act.put, zA]
    refine zv (.bool false) (fun v hv => rfl) ?_
    simp only [Act.put, zA]
    refine BigFrame.wpQuiet_skip (by kernel_rfl) ?_
    try simp only [Act.put, zA]
    refine BigFrame.wpQuiet_skip (by kernel_rfl) ?_
    try simp only [Act.put, zA]
    refine zv (.bool false) (fun v hv => rfl) ?_
    simp only [Act.put, zA]
    refine zv (.bool false) (fun v hv => rfl) ?_
    simp only [Act.put, zA]
    refine wpQuiet_nil ?_
    refine wpF_nil (fun V14 hb => ?_)
    have B13 := zh hb
    clear hb
    clear HF11
    clear HF12
    clear HF13
    try clear hrz
    try clear hk0
    try clear hcm0
    try clear hc1
    try clear hci0
    try clear hci1
    try clear hci2
    try clear hci3
    try clear hci4
    try clear hci5
    try clear hci6
    try clear hci7
    try clear hci8
    try clear hci9
    try clear hci10
    try clear hci11
    try clear hci12
    try clear hci13
    try clear hci14
    try clear hci15
    try clear hci16
    try clear hci17
    try clear hci18
    try clear hci19
    try clear hci20
    try clear hci21
    try clear hci22
    try clear hci23
    try clear hci24
    try clear hci25
    try clear hci26
    try clear hci27
    try clear hci28
    try clear hci29
    try clear hci30
    try clear hci31
    try clear hci32
    try clear hci33
    have C4_11 := zb C4_10 B10
    have C4_12 := zb C4_11 B11
    have C4_13 := zb C4_12 B12
    have C4_14 := zb C4_13 B13
    have mkHFR234 := (HFR2.out.keep C4_14.out)
    have C5_7 := zb B5 B6
    have C5_8 := zb C5_7 B7
    have C5_9 := zb C5_8 B8
    have C5_10 := zb C5_9 B9
    have C5_11 := zb C5_10 B10
    have C5_12 := zb C5_11 B11
    have C5_13 := zb C5_12 B12
    have C5_14 := zb C5_13 B13
    have mkHSz35 := (HSz.out.keep C5_14.out)
    have C7_9 := zb B7 B8
    have C7_10 := zb C7_9 B9
    have C7_11 := zb C7_10 B10
    have C7_12 := zb C7_11 B11
    have C7_13 := zb C7_12 B12
    have C7_14 := zb C7_13 B13
    have mkHSo36 := (HSo.out.keep C7_14.out)
    have C9_11 := zb B9 B10
    have C9_12 := zb C9_11 B11
    have C9_13 := zb C9_12 B12
    have C9_14 := zb C9_13 B13
    have mkHSm37 := (HSm.out.keep C9_14.out)
    have C1_10 := zb C1_9 B9
    have C1_11 := zb C1_10 B10
    have C1_12 := zb C1_11 B11
    have C1_13 := zb C1_12 B12
    have C1_14 := zb C1_13 B13
    have hm38 := (heap_keep Fv0_3.out C1_14.out)
    have hm39 := (heap_keep Fv3_8.out C4_14.out)
    have C6_11 := zb C6_10 B10
    have C6_12 := zb C6_11 B11
    have C6_13 := zb C6_12 B12
    have C6_14 := zb C6_13 B13
    have hm40 := (heap_keep Fv9_9.out C6_14.out)
    have C8_10 := zb B8 B9
    have C8_11 := zb C8_10 B10
    have C8_12 := zb C8_11 B11
    have C8_13 := zb C8_12 B12
    have C8_14 := zb C8_13 B13
    have hm41 := (heap_keep Fv16_11.out C8_14.out)
    have C10_12 := zb B10 B11
    have C10_13 := zb C10_12 B12
    have C10_14 := zb C10_13 B13
    have hm42 := (heap_keep Fv24_13.out C10_14.out)
    have C0_10 := zb C0_9 B9
    have C0_11 := zb C0_10 B10
    have C0_12 := zb C0_11 B11
    have C0_13 := zb C0_12 B12
    have C0_14 := zb C0_13 B13
    have hm43 := C0_14.out
    go_wp2_with fail
    go_meet
    case rel => exact ⟨rfl, mkHFR234, mkHSz35, mkHSo36, mkHSm37, hm38, hm39, hm40, hm41, hm42, hm43⟩
 case rest =>
  obtain ⟨wc32, rfl⟩ : ∃ W, W = wc := ⟨_, rfl⟩
  obtain ⟨hs63, qHFR2, qHSz, qHSo, qHSm, hr0, hr1, hr2, hr3, hr4, hb0⟩ := hcut
  have hbr := hb0
  clear B0
  have B0 := zh hbr
  clear hbr
  clear Fv0_3
  have Fv0_3 : Hid (wc32.heap[w.heap.size]? = some (.cells #[.int .i64 kind, .int .i64 col, .int .i64 k, .slice A n c] 24 (0, 0))) := zh (hr0)
  clear Fv3_8
  have Fv3_8 : Hid (wc32.heap[b8]? = some (.cells #[.int .i64 (kd : Int), .int .i64 (cl : Int), .int .i64 (kk : Int), .slice A2 qf.length c2] 24 (0, 0))) := zh (hr1)
  clear Fv9_9
  have Fv9_9 : Hid (wc32.heap[b9]? = some (.cells #[.slice Az rlz cz] 29 (0, 0))) := zh (hr2)
  clear Fv16_11
  have Fv16_11 : Hid (wc32.heap[b11]? = some (.cells #[.slice Ao rlo co] 29 (0, 0))) := zh (hr3)
  clear Fv24_13
  have Fv24_13 : Hid (wc32.heap[b13]? = some (.cells #[.slice Am rlm cm] 29 (0, 0))) := zh (hr4)
  clear hb0 hr0 hr1 hr2 hr3 hr4
  have HFR2 := zh qHFR2
  clear qHFR2
  have HSz := zh qHSz
  clear qHSz
  have HSo := zh qHSo
  clear qHSo
  have HSm := zh qHSm
  clear qHSm
  subst hs63
  go_upto_region 8 with fail
  refine wp_region_lit ?_
  refine zr (.int .i64 0) wc32 rfl ?_
  simp only [Act.put, zA]
  refine wpList_nil ?_
  have O34 := Fv0_3.out
  have O35 := Fv3_8.out
  have O36 := Fv9_9.out
  have O37 := Fv16_11.out
  have O38 := Fv24_13.out
  have O39 := HFR2.out
  have O40 := HSz.out
  have O41 := HSo.out
  have O42 := HSm.out
  have O43 := B0.out
  go_wp2_with fail
  go_loopw [15] (fun p wr => ∃ i : Nat, i ≤ rlz ∧ p = .int .i64 i ∧ FsR wr A2 qf.length c2 hs2 (qf.map (List.map Qu.Cd.ci)) ∧ Sg zzC 1 wr Az rlz cz (Ty.zs xsz) ∧ Sg zzC 1 wr Ao rlo co (Ty.zs xso) ∧ Sg zzC 1 wr Am rlm cm (Ty.zs xsm) ∧ wr.heap[w.heap.size]? = some (.cells #[.int .i64 kind, .int .i64 col, .int .i64 k, .slice A n c] 24 (0, 0)) ∧ wr.heap[b8]? = some (.cells #[.int .i64 (kd : Int), .int .i64 (cl : Int), .int .i64 (kk : Int), .slice A2 qf.length c2] 24 (0, 0)) ∧ wr.heap[b9]? = some (.cells #[.slice Az rlz cz] 29 (0, 0)) ∧ wr.heap[b11]? = some (.cells #[.slice Ao rlo co] 29 (0, 0)) ∧ wr.heap[b13]? = some (.cells #[.slice Am rlm cm] 29 (0, 0)) ∧ Below w.heap.size w wr) (fun p _ => rlz - (intOf p).toNat)
  case atStart => exact ⟨0, Nat.zero_le _, rfl, O39, O40, O41, O42, O34, O35, O36, O37, O38, O43⟩
  case round =>
   clear O34 O35 O36 O37 O38 O43 O39 O40 O41 O42
   obtain ⟨wo, rfl⟩ : ∃ wo : World, wo = wr := ⟨_, rfl⟩
   obtain ⟨i, hi, rfl, hHFR2, hHSz, hHSo, hHSm, hr0, hr1, hr2, hr3, hr4, hb0⟩ := hrel
   have hbr := hb0
   clear B0
   have B0 := zh hbr
   clear hbr
   clear Fv0_3
   have Fv0_3 : Hid (wo.heap[w.heap.size]? = some (.cells #[.int .i64 kind, .int .i64 col, .int .i64 k, .slice A n c] 24 (0, 0))) := zh (hr0)
   clear Fv3_8
   have Fv3_8 : Hid (wo.heap[b8]? = some (.cells #[.int .i64 (kd : Int), .int .i64 (cl : Int), .int .i64 (kk : Int), .slice A2 qf.length c2] 24 (0, 0))) := zh (hr1)
   clear Fv9_9
   have Fv9_9 : Hid (wo.heap[b9]? = some (.cells #[.slice Az rlz cz] 29 (0, 0))) := zh (hr2)
   clear Fv16_11
   have Fv16_11 : Hid (wo.heap[b11]? = some (.cells #[.slice Ao rlo co] 29 (0, 0))) := zh (hr3)
   clear Fv24_13
   have Fv24_13 : Hid (wo.heap[b13]? = some (.cells #[.slice Am rlm cm] 29 (0, 0))) := zh (hr4)
   have HFR2 := zh hHFR2
   have HSz := zh hHSz
   have HSo := zh hHSo
   have HSm := zh hHSm
   clear hb0 hr0 hr1 hr2 hr3 hr4 hHFR2 hHSz hHSo hHSm
   by_cases hiz : i < rlz
   ·have hci45 : ((i : Int) < (rlz : Int)) := by omega
    go_upto_region 9 with fail
    refine wp_region_lit ?_
    refine zr (.int .i64 (i : Int)) wo rfl ?_
    simp only [Act.put, zA]
    refine zr (.pointer (some ⟨b9, 0, none⟩)) wo (xo_fld0 0 b9 0 (by kernel_rfl) rfl rfl) ?_
    simp only [Act.put, zA]
    refine zr (.slice Az rlz cz) wo (xo_load1 ⟨b9, 0, none⟩ _ (cells_at Fv9_9.out 0 rfl) Tryd.underlying27 rfl rfl rfl) ?_
    simp only [Act.put, zA]
    refine zr (.int .i64 (rlz : Int)) wo (xo_len Az rlz cz Tryd.underlying27 rfl rfl) ?_
    simp only [Act.put, zA]
    refine zr (.bool true) wo (xo_lssT .i64 (i : Int) (rlz : Int) (by omega) rfl rfl rfl) ?_
    simp only [Act.put, zA]
    refine wpList_nil ?_
    have hism : i < sm := by have := HRZ.out; omega
    have hz0 : (Ty.zs xsz)[i]? = some ((0 : Nat) : Int) := by have h := (HZA.out i hism).1; rw [Ty.bd_zero] at h; exact h
    have HZ0 := zh hz0
    clear hz0
    go_upto_region 11 with fail
    refine wp_region_lit ?_
    refine zr (.pointer (some ⟨b9, 0, none⟩)) wo (xo_fld0 0 b9 0 (by kernel_rfl) rfl rfl) ?_
    simp only [Act.put, zA]
    refine zr (.slice Az rlz cz) wo (xo_load1 ⟨b9, 0, none⟩ _ (cells_at Fv9_9.out 0 rfl) Tryd.underlying27 rfl rfl rfl) ?_
    simp only [Act.put, zA]
    refine zr (.int .i64 (i : Int)) wo rfl ?_
    simp only [Act.put, zA]
    refine zr (.pointer (some (gad Az (i * 1)))) wo (xg_idx .i64 HSz.out HZ0.out Tryd.underlying27 (by kernel_rfl) rfl rfl rfl) ?_
    simp only [Act.put, zA]
    refine zr (.int .i64 0) wo (xg_load1 (E := zzC) (i := i) (j := 0) HSz.out HZ0.out rfl rfl Tryd.underlying2 rfl rfl rfl) ?_
    simp only [Act.put, zA]
    refine zr (.bool false) wo (xo_neqF .i64 0 0 (by omega) rfl rfl rfl) ?_
    simp only [Act.put, zA]
    refine wpList_nil ?_
    go_upto_region 10 with fail
    refine wp_region_lit ?_
    refine zr (.int .i64 (i : Int)) wo rfl ?_
    simp only [Act.put, zA]
    refine zr (.int .i64 ((i + 1 : Nat) : Int)) wo (xo_addI (i : Int) 1 ((i + 1 : Nat) : Int) (by omega) (by omega) (by omega) rfl rfl rfl) ?_
    simp only [Act.put, zA]
    refine zr (.int .i64 ((i + 1 : Nat) : Int)) wo rfl ?_
    simp only [Act.put, zA]
    refine wpList_nil ?_
    have kpHFR2 := HFR2.out
    have kpHSz := HSz.out
    have kpHSo := HSo.out
    have kpHSm := HSm.out
    have hq46 := Fv0_3.out
    have hq47 := Fv3_8.out
    have hq48 := Fv9_9.out
    have hq49 := Fv16_11.out
    have hq50 := Fv24_13.out
    have hq51 := B0.out
    go_wp2_with fail
    go_roundw
    case rel => exact ⟨i + 1, by omega, by go_num, kpHFR2, kpHSz, kpHSo, kpHSm, hq46, hq47, hq48, hq49, hq50, hq51⟩
    case measure => simp [intOf]; omega
   ·have hci45 : ¬ ((i : Int) < (rlz : Int)) := by omega
    go_upto_region 9 with fail
    refine wp_region_lit ?_
    refine zr (.int .i64 (i : Int)) wo rfl ?_
    simp only [Act.put, zA]
    refine zr (.pointer (some ⟨b9, 0, none⟩)) wo (xo_fld0 0 b9 0 (by kernel_rfl) rfl rfl) ?_
    simp only [Act.put, zA]
    refine zr (.slice Az rlz cz) wo (xo_load1 ⟨b9, 0, none⟩ _ (cells_at Fv9_9.out 0 rfl) Tryd.underlying27 rfl rfl rfl) ?_
    simp only [Act.put, zA]
    refine zr (.int .i64 (rlz : Int)) wo (xo_len Az rlz cz Tryd.underlying27 rfl rfl) ?_
    simp only [Act.put, zA]
    refine zr (.bool false) wo (xo_lssF .i64 (i : Int) (rlz : Int) (by omega) rfl rfl rfl) ?_
    simp only [Act.put, zA]
    refine wpList_nil ?_
    go_upto_region 13 with fail
    refine wp_region_lit ?_
    refine zr (.int .i64 0) wo rfl ?_
    simp only [Act.put, zA]
    refine wpList_nil ?_
    have O46 := Fv0_3.out
    have O47 := Fv3_8.out
    have O48 := Fv9_9.out
    have O49 := Fv16_11.out
    have O50 := Fv24_13.out
    have O51 := HFR2.out
    have O52 := HSz.out
    have O53 := HSo.out
    have O54 := HSm.out
    have O55 := B0.out
    go_wp2_with fail
    go_loopw [16] (fun p wr => ∃ j : Nat, j ≤ rlo ∧ p = .int .i64 j ∧ FsR wr A2 qf.length c2 hs2 (qf.map (List.map Qu.Cd.ci)) ∧ Sg zzC 1 wr Az rlz cz (Ty.zs xsz) ∧ Sg zzC 1 wr Ao rlo co (Ty.zs xso) ∧ Sg zzC 1 wr Am rlm cm (Ty.zs xsm) ∧ wr.heap[w.heap.size]? = some (.cells #[.int .i64 kind, .int .i64 col, .int .i64 k, .slice A n c] 24 (0, 0)) ∧ wr.heap[b8]? = some (.cells #[.int .i64 (kd : Int), .int .i64 (cl : Int), .int .i64 (kk : Int), .slice A2 qf.length c2] 24 (0, 0)) ∧ wr.heap[b9]? = some (.cells #[.slice Az rlz cz] 29 (0, 0)) ∧ wr.heap[b11]? = some (.cells #[.slice Ao rlo co] 29 (0, 0)) ∧ wr.heap[b13]? = some (.cells #[.slice Am rlm cm] 29 (0, 0)) ∧ Below w.heap.size w wr) (fun p _ => rlo - (intOf p).toNat)
    case atStart => exact ⟨0, Nat.zero_le _, rfl, O51, O52, O53, O54, O46, O47, O48, O49, O50, O55⟩
    case round =>
     clear O46 O47 O48 O49 O50 O55 O51 O52 O53 O54
     obtain ⟨wq, rfl⟩ : ∃ wq : World, wq = wr := ⟨_, rfl⟩
     obtain ⟨j, hi, rfl, hHFR2, hHSz, hHSo, hHSm, hr0, hr1, hr2, hr3, hr4, hb0⟩ := hrel
     have hbr := hb0
     clear B0
     have B0 := zh hbr
     clear hbr
     clear Fv0_3
     have Fv0_3 : Hid (wq.heap[w.heap.size]? = some (.cells #[.int .i64 kind, .int .i64 col, .int .i64 k, .slice A n c] 24 (0, 0))) := zh (hr0)
     clear Fv3_8
     have Fv3_8 : Hid (wq.heap[b8]? = some (.cells #[.int .i64 (kd : Int), .int .i64 (cl : Int), .int .i64 (kk : Int), .slice A2 qf.length c2] 24 (0, 0))) := zh (hr1)
     clear Fv9_9
     have Fv9_9 : Hid (wq.heap[b9]? = some (.cells #[.slice Az rlz cz] 29 (0, 0))) := zh (hr2)
     clear Fv16_11
     have Fv16_11 : Hid (wq.heap[b11]? = some (.cells #[.slice Ao rlo co] 29 (0, 0))) := zh (hr3)
     clear Fv24_13
     have Fv24_13 : Hid (wq.heap[b13]? = some (.cells #[.slice Am rlm cm] 29 (0, 0))) := zh (hr4)
     have HFR2 := zh hHFR2
     have HSz := zh hHSz
     have HSo := zh hHSo
     have HSm := zh hHSm
     clear hb0 hr0 hr1 hr2 hr3 hr4 hHFR2 hHSz hHSo hHSm
     by_cases hco0 : coo = 0
     ·have hci57 : ((coo : Int) = 0) := by omega
      by_cases hcm0 : com = 0
      ·have hci58 : ((com : Int) = 0) := by omega
       by_cases hjo : j < rlo
       ·have hci59 : ((j : Int) < (rlo : Int)) := by omega
        go_upto_region 14 with fail
        refine wp_region_lit ?_
        refine zr (.int .i64 (coo : Int)) wq rfl ?_
        simp only [Act.put, zA]
        refine zr (.bool true) wq (xo_eqlT .i64 (coo : Int) 0 (by omega) rfl rfl rfl) ?_
        simp only [Act.put, zA]
        refine zr (.bool true) wq rfl ?_
        simp only [Act.put, zA]
        refine zr (.int .i64 (com : Int)) wq rfl ?_
        simp only [Act.put, zA]
        refine zr (.bool true) wq (xo_eqlT .i64 (com : Int) 0 (by omega) rfl rfl rfl) ?_
        simp only [Act.put, zA]
        refine zr (.bool true) wq rfl ?_
        simp only [Act.put, zA]
        refine zr (.bool true) wq rfl ?_
        simp only [Act.put, zA]
        refine zr (.int .i64 (j : Int)) wq rfl ?_
        simp only [Act.put, zA]
        refine zr (.pointer (some ⟨b11, 0, none⟩)) wq (xo_fld0 0 b11 0 (by kernel_rfl) rfl rfl) ?_
        simp only [Act.put, zA]
        refine zr (.slice Ao rlo co) wq (xo_load1 ⟨b11, 0, none⟩ _ (cells_at Fv16_11.out 0 rfl) Tryd.underlying27 rfl rfl rfl) ?_
        simp only [Act.put, zA]
        refine zr (.int .i64 (rlo : Int)) wq (xo_len Ao rlo co Tryd.underlying27 rfl rfl) ?_
        simp only [Act.put, zA]
        refine zr (.bool true) wq (xo_lssT .i64 (j : Int) (rlo : Int) (by omega) rfl rfl rfl) ?_
        simp only [Act.put, zA]
        refine zr (.bool true) wq rfl ?_
        simp only [Act.put, zA]
        refine wpList_nil ?_
        have h1 := HFo.out.2.2 hco0
        have h2 := HFm.out.2.2 hcm0
        have hjs : j < sm := by omega
        obtain ⟨a, ha⟩ : ∃ z, Ty.bdN ⟨kd, cl, kk, qf⟩ r8 j = z := ⟨_, rfl⟩
        obtain ⟨b, hb0⟩ : ∃ z, a * k8 = z := ⟨_, rfl⟩
        have hbm : Ty.bdN ⟨kd, cl, kk, qf⟩ rk j = b := by rw [← HRK.out, Ty.bd_mul, ha, hb0]
        have hjm : j < rlm := by omega
        have e1 := h1.2 j hjs
        have e2 := h2.2 j hjs
        rw [ha] at e1
        rw [hbm] at e2
        have ha62 := e1.2
        have hb62 := e2.2
        have HE1 := zh e1.1
        have HE2 := zh e2.1
        have HAB := zh hb0
        clear h1 h2 e1 e2 ha hb0 hbm
        have hci60 : ¬ ((j : Int) ≥ (rlm : Int)) := by omega
        have hci61 : ¬ ((b : Int) ≠ (b : Int)) := by omega
        go_upto_region 16 with fail
        refine wp_later_lex (by kernel_rfl) (lexOK_of (by kernel_rfl) (by kernel_rfl)) ?_
        refine zv (.int .i64 (j : Int)) (fun v hv => rfl) ?_
        simp only [Act.put, zA]
        refine zv (.pointer (some ⟨b13, 0, none⟩)) (fun v hv => (xo_fld0 0 b13 0 (by kernel_rfl) rfl rfl)) ?_
        simp only [Act.put, zA]
        refine zv (.slice Am rlm cm) (fun v hv => (xo_load1 ⟨b13, 0, none⟩ _ (cells_at (heap_keep Fv24_13.out (later_bel hv)) 0 rfl) Tryd.underlying27 rfl rfl rfl)) ?_
        simp only [Act.put, zA]
        refine zv (.int .i64 (rlm : Int)) (fun v hv => (xo_len Am rlm cm Tryd.underlying27 rfl rfl)) ?_
        simp only [Act.put, zA]
        refine zv (.bool false) (fun v hv => (xo_geqF .i64 (j : Int) (rlm : Int) (by omega) rfl rfl rfl)) ?_
        simp only [Act.put, zA]
        refine zv (.bool false) (fun v hv => rfl) ?_
        simp only [Act.put, zA]
        refine zv (.pointer (some ⟨b13, 0, none⟩)) (fun v hv => (xo_fld0 0 b13 0 (by kernel_rfl) rfl rfl)) ?_
        simp only [Act.put, zA]
        refine zv (.slice Am rlm cm) (fun v hv => (xo_load1 ⟨b13, 0, none⟩ _ (cells_at (heap_keep Fv24_13.out (later_bel hv)) 0 rfl) Tryd.underlying27 rfl rfl rfl)) ?_
        simp only [Act.put, zA]
        refine zv (.int .i64 (j : Int)) (fun v hv => rfl) ?_
        simp only [Act.put, zA]
        refine zv (.pointer (some (gad Am (j * 1)))) (fun v hv => (xg_idx .i64 (HSm.out.keep (later_bel hv)) HE2.out Tryd.underlying27 (by kernel_rfl) rfl rfl rfl)) ?_
        simp only [Act.put, zA]
        refine zv (.int .i64 (b : Int)) (fun v hv => (xg_load1 (E := zzC) (i := j) (j := 0) (HSm.out.keep (later_bel hv)) HE2.out rfl rfl Tryd.underlying2 rfl rfl rfl)) ?_
        simp only [Act.put, zA]
        refine zv (.pointer (some ⟨b11, 0, none⟩)) (fun v hv => (xo_fld0 0 b11 0 (by kernel_rfl) rfl rfl)) ?_
        simp only [Act.put, zA]
        refine zv (.slice Ao rlo co) (fun v hv => (xo_load1 ⟨b11, 0, none⟩ _ (cells_at (heap_keep Fv16_11.out (later_bel hv)) 0 rfl) Tryd.underlying27 rfl rfl rfl)) ?_
        simp only [Act.put, zA]
        refine zv (.int .i64 (j : Int)) (fun v hv => rfl) ?_
        simp only [Act.put, zA]
        refine zv (.pointer (some (gad Ao (j * 1)))) (fun v hv => (xg_idx .i64 (HSo.out.keep (later_bel hv)) HE1.out Tryd.underlying27 (by kernel_rfl) rfl rfl rfl)) ?_
        simp only [Act.put, zA]
        refine zv (.int .i64 (a : Int)) (fun v hv => (xg_load1 (E := zzC) (i := j) (j := 0) (HSo.out.keep (later_bel hv)) HE1.out rfl rfl Tryd.underlying2 rfl rfl rfl)) ?_
        simp only [Act.put, zA]
        refine zv (.int .u8 (k8 : Int)) (fun v hv => rfl) ?_
        simp only [Act.put, zA]
        refine zv (.int .i64 (k8 : Int)) (fun v hv => (xo_cvt .u8 .i64 (k8 : Int) (k8 : Int) (by rw [IntKind.wrap_i64]; omega) Tryd.underlying2 Tryd.underlying5 rfl rfl)) ?_
        simp only [Act.put, zA]
        refine zv (.int .i64 (b : Int)) (fun v hv => (xo_mulI (a : Int) (k8 : Int) (b : Int) (by rw [← HAB.out]; exact Int.natCast_mul a k8) (by omega) (by omega) rfl rfl rfl)) ?_
        simp only [Act.put, zA]
        refine zv (.bool false) (fun v hv => (xo_neqF .i64 (b : Int) (b : Int) (by omega) rfl rfl rfl)) ?_
        simp only [Act.put, zA]
        refine zv (.bool false) (fun v hv => rfl) ?_
        simp only [Act.put, zA]
        refine wpQuiet_nil ?_
        intro X1_62
        have hb := X1_62.below
        generalize X1_62.at = V2 at *
        have B1 := zh hb
        clear hb
        go_upto_region 15 with fail
        refine wp_region_lit ?_
        refine zr (.int .i64 (j : Int)) V2 rfl ?_
        simp only [Act.put, zA]
        refine zr (.int .i64 ((j + 1 : Nat) : Int)) V2 (xo_addI (j : Int) 1 ((j + 1 : Nat) : Int) (by omega) (by omega) (by omega) rfl rfl rfl) ?_
        simp only [Act.put, zA]
        refine zr (.int .i64 ((j + 1 : Nat) : Int)) V2 rfl ?_
        simp only [Act.put, zA]
        refine wpList_nil ?_
        have kpHFR2 := (HFR2.out.keep B1.out)
        have kpHSz := (HSz.out.keep B1.out)
        have kpHSo := (HSo.out.keep B1.out)
        have kpHSm := (HSm.out.keep B1.out)
        have hq63 := (heap_keep Fv0_3.out B1.out)
        have hq64 := (heap_keep Fv3_8.out B1.out)
        have hq65 := (heap_keep Fv9_9.out B1.out)
        have hq66 := (heap_keep Fv16_11.out B1.out)
        have hq67 := (heap_keep Fv24_13.out B1.out)
        have C0_2 := zb B0 B1
        have hq68 := C0_2.out
        go_wp2_with fail
        go_roundw
        case rel => exact ⟨j + 1, by omega, by go_num, kpHFR2, kpHSz, kpHSo, kpHSm, hq63, hq64, hq65, hq66, hq67, hq68⟩
        case measure => simp [intOf]; omega
       ·have hci59 : ¬ ((j : Int) < (rlo : Int)) := by omega
        go_upto_region 14 with fail
        refine wp_region_lit ?_
        refine zr (.int .i64 (coo : Int)) wq rfl ?_
        simp only [Act.put, zA]
        refine zr (.bool true) wq (xo_eqlT .i64 (coo : Int) 0 (by omega) rfl rfl rfl) ?_
        simp only [Act.put, zA]
        refine zr (.bool true) wq rfl ?_
        simp only [Act.put, zA]
        refine zr (.int .i64 (com : Int)) wq rfl ?_
        simp only [Act.put, zA]
        refine zr (.bool true) wq (xo_eqlT .i64 (com : Int) 0 (by omega) rfl rfl rfl) ?_
        simp only [Act.put, zA]
        refine zr (.bool true) wq rfl ?_
        simp only [Act.put, zA]
        refine zr (.bool true) wq rfl ?_
        simp only [Act.put, zA]
        refine zr (.int .i64 (j : Int)) wq rfl ?_
        simp only [Act.put, zA]
        refine zr (.pointer (some ⟨b11, 0, none⟩)) wq (xo_fld0 0 b11 0 (by kernel_rfl) rfl rfl) ?_
        simp only [Act.put, zA]
        refine zr (.slice Ao rlo co) wq (xo_load1 ⟨b11, 0, none⟩ _ (cells_at Fv16_11.out 0 rfl) Tryd.underlying27 rfl rfl rfl) ?_
        simp only [Act.put, zA]
        refine zr (.int .i64 (rlo : Int)) wq (xo_len Ao rlo co Tryd.underlying27 rfl rfl) ?_
        simp only [Act.put, zA]
        refine zr (.bool false) wq (xo_lssF .i64 (j : Int) (rlo : Int) (by omega) rfl rfl rfl) ?_
        simp only [Act.put, zA]
        refine zr (.bool false) wq rfl ?_
        simp only [Act.put, zA]
        refine wpList_nil ?_
        go_upto_region 18 with fail
        refine wp_region_lit ?_
        refine zr (.bool true) wq rfl ?_
        simp only [Act.put, zA]
        refine zr (.bool true) wq rfl ?_
        simp only [Act.put, zA]
        refine wpList_nil ?_
        have hbf := B0.out
        go_wp2_with fail
        go_ret
        exact ⟨rfl, hbf⟩
      ·have hci58 : ¬ ((com : Int) = 0) := by omega
       go_upto_region 14 with fail
       refine wp_region_lit ?_
       refine zr (.int .i64 (coo : Int)) wq rfl ?_
       simp only [Act.put, zA]
       refine zr (.bool true) wq (xo_eqlT .i64 (coo : Int) 0 (by omega) rfl rfl rfl) ?_
       simp only [Act.put, zA]
       refine zr (.bool true) wq rfl ?_
       simp only [Act.put, zA]
       refine zr (.int .i64 (com : Int)) wq rfl ?_
       simp only [Act.put, zA]
       refine zr (.bool false) wq (xo_eqlF .i64 (com : Int) 0 (by omega) rfl rfl rfl) ?_
       simp only [Act.put, zA]
       refine zr (.bool false) wq rfl ?_
       simp only [Act.put, zA]
       refine zr (.bool false) wq rfl ?_
       simp only [Act.put, zA]
       refine zl ?_
       try simp only [Act.put, zA]
       refine zl ?_
       try simp only [Act.put, zA]
       refine zl ?_
       try simp only [Act.put, zA]
       refine zl ?_
       try simp only [Act.put, zA]
       refine zl ?_
       try simp only [Act.put, zA]
       refine zr (.bool false) wq rfl ?_
       simp only [Act.put, zA]
       refine wpList_nil ?_
       go_upto_region 18 with fail
       refine wp_region_lit ?_
       refine zr (.bool true) wq rfl ?_
       simp only [Act.put, zA]
       refine zr (.bool true) wq rfl ?_
       simp only [Act.put, zA]
       refine wpList_nil ?_
       have hbf := B0.out
       go_wp2_with fail
       go_ret
       exact ⟨rfl, hbf⟩
     ·have hci57 : ¬ ((coo : Int) = 0) := by omega
      go_upto_region 14 with fail
      refine wp_region_lit ?_
      refine zr (.int .i64 (coo : Int)) wq rfl ?_
      simp only [Act.put, zA]
      refine zr (.bool false) wq (xo_eqlF .i64 (coo : Int) 0 (by omega) rfl rfl rfl) ?_
      simp only [Act.put, zA]
      refine zr (.bool false) wq rfl ?_
      simp only [Act.put, zA]
      refine zl ?_
      try simp only [Act.put, zA]
      refine zl ?_
      try simp only [Act.put, zA]
      refine zr (.bool false) wq rfl ?_
      simp only [Act.put, zA]
      refine zr (.bool false) wq rfl ?_
      simp only [Act.put, zA]
      refine zl ?_
      try simp only [Act.put, zA]
      refine zl ?_
      try simp only [Act.put, zA]
      refine zl ?_
      try simp only [Act.put, zA]
      refine zl ?_
      try simp only [Act.put, zA]
      refine zl ?_
      try simp only [Act.put, zA]
      refine zr (.bool false) wq rfl ?_
      simp only [Act.put, zA]
      refine wpList_nil ?_
      go_upto_region 18 with fail
      refine wp_region_lit ?_
      refine zr (.bool true) wq rfl ?_
      simp only [Act.put, zA]
      refine zr (.bool true) wq rfl ?_
      simp only [Act.put, zA]
      refine wpList_nil ?_
      have hbf := B0.out
      go_wp2_with fail
      go_ret
      exact ⟨rfl, hbf⟩
end Go.Proofs.YtbecajihgbbgjaaDoor
