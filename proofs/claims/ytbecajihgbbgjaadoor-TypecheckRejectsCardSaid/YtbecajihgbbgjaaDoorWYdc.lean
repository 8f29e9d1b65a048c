/- Stage 14: law TypecheckRejects. -/
import Derived.Test.YtbecajihgbbgjaaDoorO14
namespace Go.Proofs.YtbecajihgbbgjaaDoor
set_option linter.unusedVariables false
set_option linter.unusedSimpArgs false
set_option linter.unusedSectionVars false
set_option maxRecDepth 8000
open Go.RowKit Go.Proofs.YtbecajihgbbgjaaDoor.K
attribute [local irreducible] wpList wpQuiet
namespace Ty
set_option linter.unusedVariables false
set_option linter.unusedSimpArgs false
set_option linter.unusedSectionVars false
theorem rj_hi {q : Qu.Qy} {l : List Qu.Cd} {m n co : Nat} {xs : List Nat} (h : ckN q n = (xs, co)) (h3 : q.kind = 3) (hl : q.fs[0]? = some l) (hs : satN l = true) (hm : (spC l q.col).2 = m) (hm0 : 0 < m) (hro : 4611686018427387903 / m ^ q.k < n) : co = 141 := by
 have hb : bdN q n 0 = n * m ^ q.k := by rw [bd_of (q := q) (l := l) (m := m) (e := q.k) hl hs (by rw [mo_3 l 0 h3, hm])]
 rw [ck_big h3 hb (by have := (Nat.div_lt_iff_lt_mul (Nat.pow_pos hm0)).1 hro; omega)] at h
 injection h with _ h2
 exact h2.symm
theorem rj_lo {q : Qu.Qy} {l : List Qu.Cd} {m n co : Nat} {xs : List Nat} (h : ckN q n = (xs, co)) (h3 : q.kind = 3) (hl : q.fs[0]? = some l) (hs : satN l = true) (hm : (spC l q.col).2 = m) (hm0 : 0 < m) (hro : ¬ 4611686018427387903 / m ^ q.k < n) : co = 0 := by
 have hb : bdN q n 0 = n * m ^ q.k := by rw [bd_of (q := q) (l := l) (m := m) (e := q.k) hl hs (by rw [mo_3 l 0 h3, hm])]
 rw [ck_one (by omega) (by omega) hb (by
  have h4 : ¬ 4611686018427387903 < n * m ^ q.k := fun e => hro ((Nat.div_lt_iff_lt_mul (Nat.pow_pos hm0)).2 e)
  omega)] at h
 injection h with _ h2
 exact h2.symm
theorem rj_un {q : Qu.Qy} {l : List Qu.Cd} {n co : Nat} {xs : List Nat} (h : ckN q n = (xs, co)) (h3 : q.kind = 3) (hl : q.fs[0]? = some l) (hs : satN l = false) : co = 0 := by
 rw [ck_one (p := 0) (by omega) (by omega) (bd_un n hl hs) (by decide)] at h
 injection h with _ h2
 exact h2.symm
theorem rj_z {q : Qu.Qy} {l : List Qu.Cd} {n co : Nat} {xs : List Nat} (h : ckN q n = (xs, co)) (h3 : q.kind = 3) (hl : q.fs[0]? = some l) (hs : satN l = true) (hm : (spC l q.col).2 = 0) (hk : 0 < q.k) : co = 0 := by
 rw [ck_one (p := 0) (by omega) (by omega) (by rw [bd_of (q := q) (l := l) (m := 0) (e := q.k) hl hs (by rw [mo_3 l 0 h3, hm]), Nat.zero_pow hk, Nat.mul_zero]) (by decide)] at h
 injection h with _ h2
 exact h2.symm
theorem rj_ok {q : Qu.Qy} {n co : Nat} {xs : List Nat} (h : ckN q n = (xs, co)) (ht : ¬ (4 ≤ q.kind ∧ q.kind ≤ 6 ∧ q.col % 2 = 1)) (h3 : q.kind ≠ 3) (hn : n ≤ 65536) : co = 0 := by
 rw [ck_all ht h3 hn] at h
 injection h with _ h2
 exact h2.symm
theorem rj_ty {q : Qu.Qy} {n co : Nat} {xs : List Nat} (h : ckN q n = (xs, co)) (ht : 4 ≤ q.kind ∧ q.kind ≤ 6 ∧ q.col % 2 = 1) : co = 140 ∧ xs.length = 0 := by
 rw [ck_type ht] at h
 injection h with h1 h2
 exact ⟨h2.symm, by rw [← h1]; rfl⟩
end Ty
set_option maxRecDepth 100000 in
set_option maxHeartbeats 32000000 in
theorem tRejects_any (kind col k : Int) (A : Option Addr) (n c : Nat) (hs : List Hd) (fs : List (List Qu.Ci)) (r16 : Nat) (hr16 : r16 < 65536) (w : World) (hG : Gw5 w) (hC : Gc w) (hF : FsR w A n c hs fs) :
  Calls Tryd.prog 7 #[.agg #[.int .i64 kind, .int .i64 col, .int .i64 k, .slice A n c], .int .u16 (r16 : Int)] w fun e w' => e = .returned (.bool true) ∧ Below w.heap.size w w' := by
 have HFR := zh hF
 have HG := zh hG
 have HGC := zh hC
 have hln := hF.sg.len
 have hlc := hF.sg.cap
 have hlt := hF.sg.top
 clear hF hG hC
 obtain ⟨⟨kd, cl, kk, qf⟩, hq0⟩ : ∃ q, mdQ kind col k fs = q := ⟨_, rfl⟩
 have HOK : Hid (OkQ ⟨kd, cl, kk, qf⟩) := zh (by rw [← hq0]; exact mdQ_ok kind col k fs)
 have HQ0 := zh hq0
 clear hq0
 have hk1 : 1 ≤ kd := HOK.out.k1
 have hk7 : kd ≤ 7 := HOK.out.k7
 have hcl : cl < 4 := okQ_col HOK.out
 have hkk : kk ≤ 65536 := okQ_k HOK.out
 have HNF : Hid (qf.length = Qu.numF kd) := zh HOK.out.nf
 have hnf1 : 0 < qf.length := by rw [HNF.out]; unfold Qu.numF; split <;> decide
 obtain ⟨⟨xsd, cod⟩, hck⟩ : ∃ r, Ty.ckN ⟨kd, cl, kk, qf⟩ r16 = r := ⟨_, rfl⟩
 have HCKd := zh hck
 clear hck
 obtain ⟨rld, hrl⟩ : ∃ z, (Ty.zs xsd).length = z := ⟨_, rfl⟩
 have HRLd := zh hrl
 have HRXd : Hid (xsd.length = rld) := zh (by rw [← hrl, Ty.zs_len])
 have hr32d : rld ≤ 32 := by rw [← HRXd.out]; exact Ty.ck_len HCKd.out
 clear hrl
 obtain ⟨l0, hl0⟩ : ∃ l, qf[0]? = some l := ⟨_, List.getElem?_eq_getElem hnf1⟩
 have HL0 := zh hl0
 clear hl0
 have HLM0 : Hid ((qf.map (List.map Qu.Cd.ci))[0]? = some (l0.map Qu.Cd.ci)) := zh (by rw [List.getElem?_map, HL0.out]; rfl)
 go_enter Tryd.func7, Tryd.ntmps7
 go_upto_region 1 with fail
 refine wp_named1 (fun V1 hb g0 hlt => ?_)
 have B0 := zh hb
 have Fv0_2 : Hid (V1.heap[w.heap.size]? = some (.cells #[.int .i64 kind, .int .i64 col, .int .i64 k, .slice A n c] 24 (0, 0))) := zh (g0)
 have Gb0 : Hid (w.heap.size ≤ w.heap.size) := zh (by omega)
 clear hb g0 hlt
 have Lt0 : Hid (w.heap.size < V1.heap.size) := zh (xp_lt Fv0_2.out)
 refine wp_region_lit ?_
 refine wpList_call (by kernel_rfl) 10 Tryd.func10 (by kernel_rfl) (by kernel_rfl) _ _ #[] rfl (by kernel_rfl) ?_
 refine (sanity14_as V1 (HG.out.keep B0.out) (HGC.out.keep B0.out)).mono ?_
 rintro e V2 ⟨rfl, hb⟩
 have B1 := zh hb
 clear hb 
 refine ⟨_, rfl, ?_⟩
 simp only [Act.put, zA]
 refine zr (.bool true) V2 rfl ?_
 simp only [Act.put, zA]
 refine wpList_nil ?_
 go_upto_region 2 with fail
 refine wp_region_lit ?_
 refine zr (.agg #[.int .i64 kind, .int .i64 col, .int .i64 k, .slice A n c]) V2 (xo_loadW w.heap.size _ (heap_keep Fv0_2.out B1.out) Tryd.underlying24 rfl (by kernel_rfl) rfl rfl) ?_
 simp only [Act.put, zA]
 have C0_2 := zb B0 B1
 refine wpList_call (by kernel_rfl) 13 Tryd.func13 (by kernel_rfl) (by kernel_rfl) _ _ #[.agg #[.int .i64 kind, .int .i64 col, .int .i64 k, .slice A n c]] rfl (by kernel_rfl) ?_
 refine (made_as kind col k A n c hs fs ⟨kd, cl, kk, qf⟩ HQ0.out V2 (HFR.out.keep C0_2.out)).mono ?_
 rintro e V3 ⟨A2, n2, c2, rfl, hfo0, hb⟩
 have B2 := zh hb
 have hn2 := (FsOwn.fsR hfo0).1
 subst hn2
 have hfo := FsOwn.mono hfo0 C0_2.out.size
 clear hfo0
 have HFO := zh hfo
 clear hb hfo
 refine ⟨_, rfl, ?_⟩
 simp only [Act.put, zA]
 refine zr (.int .u16 (r16 : Int)) V3 rfl ?_
 simp only [Act.put, zA]
 refine zr (.int .i64 (r16 : Int)) V3 (xo_cvt .u16 .i64 (r16 : Int) (r16 : Int) (by rw [IntKind.wrap_i64]; omega) Tryd.underlying3 Tryd.underlying25 rfl rfl) ?_
 simp only [Act.put, zA]
 refine wpList_new #[.int .i64 0, .int .i64 0, .int .i64 0, .slice none 0 0] 24 (by kernel_rfl) (xo_alloc #[.int .i64 0, .int .i64 0, .int .i64 0, .slice none 0 0] (by kernel_rfl) rfl) ?_
 intro b6 V4 hge h0 hb
 have C1_3 := zb B1 B2
 have N1_0 : Hid (w.heap.size ≠ b6) := zh (xp_lt0 (heap_keep Fv0_2.out C1_3.out) hge)
 have Ge2 : Hid (V3.heap.size ≤ b6) := zh hge
 have B3 := zh hb
 have Fv3_6 : Hid (V4.heap[b6]? = some (.cells #[.int .i64 0, .int .i64 0, .int .i64 0, .slice none 0 0] 24 (0, 0))) := zh (h0)
 have Lt4 : Hid (b6 < V4.heap.size) := zh (xp_lt Fv3_6.out)
 clear hge h0 hb
 simp only [ptr, Act.put, zA]
 refine wpList_storeW b6 #[.int .i64 0, .int .i64 0, .int .i64 0, .slice none 0 0] #[.int .i64 (kd : Int), .int .i64 (cl : Int), .int .i64 (kk : Int), .slice A2 qf.length c2] 24 (by kernel_rfl) Fv3_6.out (xo_storeW b6 #[.int .i64 0, .int .i64 0, .int .i64 0, .slice none 0 0] #[.int .i64 (kd : Int), .int .i64 (cl : Int), .int .i64 (kk : Int), .slice A2 qf.length c2] Fv3_6.out (by kernel_rfl) rfl (by simp [Value.oneCell']) rfl rfl rfl) ?_
 intro X4_5 h1 hfar hbel hsz
 have hbr := hbel _ _ Ge2.out B3.out
 clear B3
 have B3 := zh hbr
 clear hbr
 clear Fv3_6
 have Fv3_6 : Hid (X4_5.heap[b6]? = some (.cells #[.int .i64 (kd : Int), .int .i64 (cl : Int), .int .i64 (kk : Int), .slice A2 qf.length c2] 24 (0, 0))) := zh (h1)
 have HszX4_5 := zh hsz
 clear h1 hfar hbel hsz
 simp only [ptr, Act.put, zA]
 refine zr (.int .i64 (r16 : Int)) X4_5 rfl ?_
 simp only [Act.put, zA]
 refine wpList_nil ?_
 obtain ⟨_, hs2, hfr⟩ := FsOwn.fsR (HFO.out.keep B3.out)
 have HFR2 : Hid (FsR X4_5 A2 qf.length c2 hs2 (qf.map (List.map Qu.Cd.ci))) := zh hfr
 clear hfr
 clear HFO
 have hl2 := HFR2.out.sg.len
 have hc2 := HFR2.out.sg.cap
 have ht2 := HFR2.out.sg.top
 have hf2 := HFR2.out.len
 rw [List.length_map] at hf2
 obtain ⟨h0, hh0⟩ : ∃ h, hs2[0]? = some h := ⟨_, List.getElem?_eq_getElem (by omega)⟩
 have HH0 := zh hh0
 clear hh0
 go_upto_region 3 with fail
 refine wp_region_lit ?_
 refine zr (.agg #[.int .i64 (kd : Int), .int .i64 (cl : Int), .int .i64 (kk : Int), .slice A2 qf.length c2]) X4_5 (xo_loadW b6 _ Fv3_6.out Tryd.underlying24 rfl (by kernel_rfl) rfl rfl) ?_
 simp only [Act.put, zA]
 refine zr (.int .i64 (r16 : Int)) X4_5 rfl ?_
 simp only [Act.put, zA]
 have C0_3 := zb C0_2 B2
 have C0_4 := zb C0_3 B3
 refine wpList_call (by kernel_rfl) 11 Tryd.func11 (by kernel_rfl) (by kernel_rfl) _ _ #[.agg #[.int .i64 (kd : Int), .int .i64 (cl : Int), .int .i64 (kk : Int), .slice A2 qf.length c2], .int .i64 (r16 : Int)] rfl (by kernel_rfl) ?_
 refine (check_ok kd cl kk A2 qf.length c2 hs2 qf HOK.out r16 (by omega) (xsd, cod) HCKd.out X4_5 HFR2.out (HG.out.keep C0_4.out) (HGC.out.keep C0_4.out)).mono ?_
 rintro e V5 ⟨Ad, nd, cd, rfl, hsg, hb⟩
 have B4 := zh hb
 obtain rfl : rld = nd := (HRLd.out).symm.trans hsg.len
 have HSd := zh hsg
 clear hb hsg
 refine ⟨_, rfl, ?_⟩
 simp only [Act.put, zA]
 refine zr (.tuple #[.agg #[.slice Ad rld cd], .int .i64 (cod : Int)]) V5 rfl ?_
 simp only [Act.put, zA]
 refine zr (.agg #[.slice Ad rld cd]) V5 rfl ?_
 simp only [Act.put, zA]
 refine zr (.int .i64 (cod : Int)) V5 rfl ?_
 simp only [Act.put, zA]
 refine wpList_new #[.slice none 0 0] 29 (by kernel_rfl) (xo_alloc #[.slice none 0 0] (by kernel_rfl) rfl) ?_
 intro b8 V6 hge h0 hb
 have C1_4 := zb C1_3 B3
 have C1_5 := zb C1_4 B4
 have N6_0 : Hid (w.heap.size ≠ b8) := zh (xp_lt0 (heap_keep Fv0_2.out C1_5.out) hge)
 have N7_1 : Hid (b6 ≠ b8) := zh (xp_lt0 (heap_keep Fv3_6.out B4.out) hge)
 have Ge8 : Hid (V5.heap.size ≤ b8) := zh hge
 have B5 := zh hb
 have Fv9_8 : Hid (V6.heap[b8]? = some (.cells #[.slice none 0 0] 29 (0, 0))) := zh (h0)
 have Lt10 : Hid (b8 < V6.heap.size) := zh (xp_lt Fv9_8.out)
 clear hge h0 hb
 simp only [ptr, Act.put, zA]
 refine wpList_storeW b8 #[.slice none 0 0] #[.slice Ad rld cd] 29 (by kernel_rfl) Fv9_8.out (xo_storeW b8 #[.slice none 0 0] #[.slice Ad rld cd] Fv9_8.out (by kernel_rfl) rfl (by simp [Value.oneCell']) rfl rfl rfl) ?_
 intro X6_11 h1 hfar hbel hsz
 have hbr := hbel _ _ Ge8.out B5.out
 clear B5
 have B5 := zh hbr
 clear hbr
 clear Fv9_8
 have Fv9_8 : Hid (X6_11.heap[b8]? = some (.cells #[.slice Ad rld cd] 29 (0, 0))) := zh (h1)
 have HszX6_11 := zh hsz
 clear h1 hfar hbel hsz
 simp only [ptr, Act.put, zA]
 refine zr (.int .i64 (cod : Int)) X6_11 rfl ?_
 simp only [Act.put, zA]
 refine wpList_nil ?_
 obtain ⟨c2r, hc2r⟩ : ∃ z, cl % 2 = z := ⟨_, rfl⟩
 have HC2R := zh hc2r
 clear hc2r
 by_cases ht : 4 ≤ kd ∧ kd ≤ 6 ∧ cl % 2 = 1
 ·have hc2e : c2r = 1 := by rw [← HC2R.out]; exact ht.2.2
  have hci12 : ((kd : Int) ≥ 4) := by omega
  have hci13 : ((kd : Int) ≤ 6) := by omega
  have hci14 : ((c2r : Int) = 1) := by omega
  go_upto_region 4 with fail
  refine wp_region_lit ?_
  refine zr (.pointer (some ⟨b6, 0, none⟩)) X6_11 (xo_fld0 0 b6 0 (by kernel_rfl) rfl rfl) ?_
  simp only [Act.put, zA]
  have C4_6 := zb B4 B5
  refine zr (.int .i64 (kd : Int)) X6_11 (xo_load1 ⟨b6, 0, none⟩ _ (cells_at (heap_keep Fv3_6.out C4_6.out) 0 rfl) Tryd.underlying3 rfl rfl rfl) ?_
  simp only [Act.put, zA]
  refine zr (.bool true) X6_11 (xo_geqT .i64 (kd : Int) 4 (by omega) rfl rfl rfl) ?_
  simp only [Act.put, zA]
  refine zr (.bool true) X6_11 rfl ?_
  simp only [Act.put, zA]
  refine zr (.pointer (some ⟨b6, 0, none⟩)) X6_11 (xo_fld0 0 b6 0 (by kernel_rfl) rfl rfl) ?_
  simp only [Act.put, zA]
  refine zr (.int .i64 (kd : Int)) X6_11 (xo_load1 ⟨b6, 0, none⟩ _ (cells_at (heap_keep Fv3_6.out C4_6.out) 0 rfl) Tryd.underlying3 rfl rfl rfl) ?_
  simp only [Act.put, zA]
  refine zr (.bool true) X6_11 (xo_leqT .i64 (kd : Int) 6 (by omega) rfl rfl rfl) ?_
  simp only [Act.put, zA]
  refine zr (.bool true) X6_11 rfl ?_
  simp only [Act.put, zA]
  refine zr (.bool true) X6_11 rfl ?_
  simp only [Act.put, zA]
  refine zr (.pointer (some ⟨b6, 1, none⟩)) X6_11 (xo_fld0 1 b6 1 (by kernel_rfl) rfl rfl) ?_
  simp only [Act.put, zA]
  refine zr (.int .i64 (cl : Int)) X6_11 (xo_load1 ⟨b6, 1, none⟩ _ (cells_at (heap_keep Fv3_6.out C4_6.out) 1 rfl) Tryd.underlying3 rfl rfl rfl) ?_
  simp only [Act.put, zA]
  refine zr (.int .i64 (c2r : Int)) X6_11 (xo_remN .i64 cl 2 c2r (by omega) HC2R.out rfl rfl rfl) ?_
  simp only [Act.put, zA]
  refine zr (.bool true) X6_11 (xo_eqlT .i64 (c2r : Int) 1 (by omega) rfl rfl rfl) ?_
  simp only [Act.put, zA]
  refine zr (.bool true) X6_11 rfl ?_
  simp only [Act.put, zA]
  refine wpList_nil ?_
  obtain ⟨e1, e2⟩ := Ty.rj_ty (q := ⟨kd, cl, kk, qf⟩) HCKd.out ht
  subst e1
  have hr0 : rld = 0 := by rw [← HRXd.out]; exact e2
  have hci15 : ((rld : Int) = 0) := by omega
  go_upto_region 5 with fail
  refine wp_region_lit ?_
  refine zr (.int .i64 140) X6_11 rfl ?_
  simp only [Act.put, zA]
  refine zr (.bool true) X6_11 (xo_eqlT .i64 140 140 (by omega) rfl rfl rfl) ?_
  simp only [Act.put, zA]
  refine zr (.bool true) X6_11 rfl ?_
  simp only [Act.put, zA]
  refine zr (.pointer (some ⟨b8, 0, none⟩)) X6_11 (xo_fld0 0 b8 0 (by kernel_rfl) rfl rfl) ?_
  simp only [Act.put, zA]
  refine zr (.slice Ad rld cd) X6_11 (xo_load1 ⟨b8, 0, none⟩ _ (cells_at Fv9_8.out 0 rfl) Tryd.underlying27 rfl rfl rfl) ?_
  simp only [Act.put, zA]
  refine zr (.int .i64 (rld : Int)) X6_11 (xo_len Ad rld cd Tryd.underlying27 rfl rfl) ?_
  simp only [Act.put, zA]
  refine zr (.bool true) X6_11 (xo_eqlT .i64 (rld : Int) 0 (by omega) rfl rfl rfl) ?_
  simp only [Act.put, zA]
  refine zr (.bool true) X6_11 rfl ?_
  simp only [Act.put, zA]
  refine zr (.bool true) X6_11 rfl ?_
  simp only [Act.put, zA]
  refine zr (.bool true) X6_11 rfl ?_
  simp only [Act.put, zA]
  refine zr (.bool true) X6_11 rfl ?_
  simp only [Act.put, zA]
  refine zr (.bool true) X6_11 rfl ?_
  simp only [Act.put, zA]
  refine wpList_nil ?_
  have C0_5 := zb C0_4 B4
  have C0_6 := zb C0_5 B5
  have hbf := C0_6.out
  go_wp2_with fail
  go_ret
  exact ⟨rfl, hbf⟩
 ·by_cases hg4 : 4 ≤ kd
  ·have hci12 : ((kd : Int) ≥ 4) := by omega
   by_cases hg6 : kd ≤ 6
   ·have hc2e : ¬ c2r = 1 := by rw [HC2R.out.symm]; exact fun e => ht ⟨hg4, hg6, e⟩
    have hci13 : ((kd : Int) ≤ 6) := by omega
    have hci14 : ¬ ((c2r : Int) = 1) := by omega
    go_upto_region 4 with fail
    refine wp_region_lit ?_
    refine zr (.pointer (some ⟨b6, 0, none⟩)) X6_11 (xo_fld0 0 b6 0 (by kernel_rfl) rfl rfl) ?_
    simp only [Act.put, zA]
    have C4_6 := zb B4 B5
    refine zr (.int .i64 (kd : Int)) X6_11 (xo_load1 ⟨b6, 0, none⟩ _ (cells_at (heap_keep Fv3_6.out C4_6.out) 0 rfl) Tryd.underlying3 rfl rfl rfl) ?_
    simp only [Act.put, zA]
    refine zr (.bool true) X6_11 (xo_geqT .i64 (kd : Int) 4 (by omega) rfl rfl rfl) ?_
    simp only [Act.put, zA]
    refine zr (.bool true) X6_11 rfl ?_
    simp only [Act.put, zA]
    refine zr (.pointer (some ⟨b6, 0, none⟩)) X6_11 (xo_fld0 0 b6 0 (by kernel_rfl) rfl rfl) ?_
    simp only [Act.put, zA]
    refine zr (.int .i64 (kd : Int)) X6_11 (xo_load1 ⟨b6, 0, none⟩ _ (cells_at (heap_keep Fv3_6.out C4_6.out) 0 rfl) Tryd.underlying3 rfl rfl rfl) ?_
    simp only [Act.put, zA]
    refine zr (.bool true) X6_11 (xo_leqT .i64 (kd : Int) 6 (by omega) rfl rfl rfl) ?_
    simp only [Act.put, zA]
    refine zr (.bool true) X6_11 rfl ?_
    simp only [Act.put, zA]
    refine zr (.bool true) X6_11 rfl ?_
    simp only [Act.put, zA]
    refine zr (.pointer (some ⟨b6, 1, none⟩)) X6_11 (xo_fld0 1 b6 1 (by kernel_rfl) rfl rfl) ?_
    simp only [Act.put, zA]
    refine zr (.int .i64 (cl : Int)) X6_11 (xo_load1 ⟨b6, 1, none⟩ _ (cells_at (heap_keep Fv3_6.out C4_6.out) 1 rfl) Tryd.underlying3 rfl rfl rfl) ?_
    simp only [Act.put, zA]
    refine zr (.int .i64 (c2r : Int)) X6_11 (xo_remN .i64 cl 2 c2r (by omega) HC2R.out rfl rfl rfl) ?_
    simp only [Act.put, zA]
    refine zr (.bool false) X6_11 (xo_eqlF .i64 (c2r : Int) 1 (by omega) rfl rfl rfl) ?_
    simp only [Act.put, zA]
    refine zr (.bool false) X6_11 rfl ?_
    simp only [Act.put, zA]
    refine wpList_nil ?_
    have hk3 : ¬ kd = 3 := by omega
    have hci15 : ((kd : Int) ≠ 3) := by omega
    go_upto_region 6 with fail
    refine wp_region_lit ?_
    refine zr (.pointer (some ⟨b6, 0, none⟩)) X6_11 (xo_fld0 0 b6 0 (by kernel_rfl) rfl rfl) ?_
    simp only [Act.put, zA]
    refine zr (.int .i64 (kd : Int)) X6_11 (xo_load1 ⟨b6, 0, none⟩ _ (cells_at (heap_keep Fv3_6.out C4_6.out) 0 rfl) Tryd.underlying3 rfl rfl rfl) ?_
    simp only [Act.put, zA]
    refine zr (.bool true) X6_11 (xo_neqT .i64 (kd : Int) 3 (by omega) rfl rfl rfl) ?_
    simp only [Act.put, zA]
    refine wpList_nil ?_
    obtain rfl : cod = 0 := Ty.rj_ok (q := ⟨kd, cl, kk, qf⟩) HCKd.out ht hk3 (by omega)
    go_upto_region 7 with fail
    refine wp_region_lit ?_
    refine zr (.int .i64 0) X6_11 rfl ?_
    simp only [Act.put, zA]
    refine zr (.bool true) X6_11 (xo_eqlT .i64 0 0 (by omega) rfl rfl rfl) ?_
    simp only [Act.put, zA]
    refine zr (.bool true) X6_11 rfl ?_
    simp only [Act.put, zA]
    refine zr (.bool true) X6_11 rfl ?_
    simp only [Act.put, zA]
    refine zr (.bool true) X6_11 rfl ?_
    simp only [Act.put, zA]
    refine zr (.bool true) X6_11 rfl ?_
    simp only [Act.put, zA]
    refine wpList_nil ?_
    have C0_5 := zb C0_4 B4
    have C0_6 := zb C0_5 B5
    have hbf := C0_6.out
    go_wp2_with fail
    go_ret
    exact ⟨rfl, hbf⟩
   ·have hci13 : ¬ ((kd : Int) ≤ 6) := by omega
    go_upto_region 4 with fail
    refine wp_region_lit ?_
    refine zr (.pointer (some ⟨b6, 0, none⟩)) X6_11 (xo_fld0 0 b6 0 (by kernel_rfl) rfl rfl) ?_
    simp only [Act.put, zA]
    have C4_6 := zb B4 B5
    refine zr (.int .i64 (kd : Int)) X6_11 (xo_load1 ⟨b6, 0, none⟩ _ (cells_at (heap_keep Fv3_6.out C4_6.out) 0 rfl) Tryd.underlying3 rfl rfl rfl) ?_
    simp only [Act.put, zA]
    refine zr (.bool true) X6_11 (xo_geqT .i64 (kd : Int) 4 (by omega) rfl rfl rfl) ?_
    simp only [Act.put, zA]
    refine zr (.bool true) X6_11 rfl ?_
    simp only [Act.put, zA]
    refine zr (.pointer (some ⟨b6, 0, none⟩)) X6_11 (xo_fld0 0 b6 0 (by kernel_rfl) rfl rfl) ?_
    simp only [Act.put, zA]
    refine zr (.int .i64 (kd : Int)) X6_11 (xo_load1 ⟨b6, 0, none⟩ _ (cells_at (heap_keep Fv3_6.out C4_6.out) 0 rfl) Tryd.underlying3 rfl rfl rfl) ?_
    simp only [Act.put, zA]
    refine zr (.bool false) X6_11 (xo_leqF .i64 (kd : Int) 6 (by omega) rfl rfl rfl) ?_
    simp only [Act.put, zA]
    refine zr (.bool false) X6_11 rfl ?_
    simp only [Act.put, zA]
    refine zr (.bool false) X6_11 rfl ?_
    simp only [Act.put, zA]
    refine zl ?_
    try simp only [Act.put, zA]
    refine zl ?_
    try simp only [Act.put, zA]
    refine zl ?_
    try simp only [Act.put, zA]
    refine zl ?_
    try simp only [Act.put, zA]
    refine zr (.bool false) X6_11 rfl ?_
    simp only [Act.put, zA]
    refine wpList_nil ?_
    have hk3 : ¬ kd = 3 := by omega
    have hci14 : ((kd : Int) ≠ 3) := by omega
    go_upto_region 6 with fail
    refine wp_region_lit ?_
    refine zr (.pointer (some ⟨b6, 0, none⟩)) X6_11 (xo_fld0 0 b6 0 (by kernel_rfl) rfl rfl) ?_
    simp only [Act.put, zA]
    refine zr (.int .i64 (kd : Int)) X6_11 (xo_load1 ⟨b6, 0, none⟩ _ (cells_at (heap_keep Fv3_6.out C4_6.out) 0 rfl) Tryd.underlying3 rfl rfl rfl) ?_
    simp only [Act.put, zA]
    refine zr (.bool true) X6_11 (xo_neqT .i64 (kd : Int) 3 (by omega) rfl rfl rfl) ?_
    simp only [Act.put, zA]
    refine wpList_nil ?_
    obtain rfl : cod = 0 := Ty.rj_ok (q := ⟨kd, cl, kk, qf⟩) HCKd.out ht hk3 (by omega)
    go_upto_region 7 with fail
    refine wp_region_lit ?_
    refine zr (.int .i64 0) X6_11 rfl ?_
    simp only [Act.put, zA]
    refine zr (.bool true) X6_11 (xo_eqlT .i64 0 0 (by omega) rfl rfl rfl) ?_
    simp only [Act.put, zA]
    refine zr (.bool true) X6_11 rfl ?_
    simp only [Act.put, zA]
    refine zr (.bool true) X6_11 rfl ?_
    simp only [Act.put, zA]
    refine zr (.bool true) X6_11 rfl ?_
    simp only [Act.put, zA]
    refine zr (.bool true) X6_11 rfl ?_
    simp only [Act.put, zA]
    refine wpList_nil ?_
    have C0_5 := zb C0_4 B4
    have C0_6 := zb C0_5 B5
    have hbf := C0_6.out
    go_wp2_with fail
    go_ret
    exact ⟨rfl, hbf⟩
  ·have hci12 : ¬ ((kd : Int) ≥ 4) := by omega
   go_upto_region 4 with fail
   refine wp_region_lit ?_
   refine zr (.pointer (some ⟨b6, 0, none⟩)) X6_11 (xo_fld0 0 b6 0 (by kernel_rfl) rfl rfl) ?_
   simp only [Act.put, zA]
   have C4_6 := zb B4 B5
   refine zr (.int .i64 (kd : Int)) X6_11 (xo_load1 ⟨b6, 0, none⟩ _ (cells_at (heap_keep Fv3_6.out C4_6.out) 0 rfl) Tryd.underlying3 rfl rfl rfl) ?_
   simp only [Act.put, zA]
   refine zr (.bool false) X6_11 (xo_geqF .i64 (kd : Int) 4 (by omega) rfl rfl rfl) ?_
   simp only [Act.put, zA]
   refine zr (.bool false) X6_11 rfl ?_
   simp only [Act.put, zA]
   refine zl ?_
   try simp only [Act.put, zA]
   refine zl ?_
   try simp only [Act.put, zA]
   refine zl ?_
   try simp only [Act.put, zA]
   refine zr (.bool false) X6_11 rfl ?_
   simp only [Act.put, zA]
   refine zr (.bool false) X6_11 rfl ?_
   simp only [Act.put, zA]
   refine zl ?_
   try simp only [Act.put, zA]
   refine zl ?_
   try simp only [Act.put, zA]
   refine zl ?_
   try simp only [Act.put, zA]
   refine zl ?_
   try simp only [Act.put, zA]
   refine zr (.bool false) X6_11 rfl ?_
   simp only [Act.put, zA]
   refine wpList_nil ?_
   by_cases hk3 : kd = 3
   ·have hci13 : ¬ ((kd : Int) ≠ 3) := by omega
    go_upto_region 6 with fail
    refine wp_region_lit ?_
    refine zr (.pointer (some ⟨b6, 0, none⟩)) X6_11 (xo_fld0 0 b6 0 (by kernel_rfl) rfl rfl) ?_
    simp only [Act.put, zA]
    refine zr (.int .i64 (kd : Int)) X6_11 (xo_load1 ⟨b6, 0, none⟩ _ (cells_at (heap_keep Fv3_6.out C4_6.out) 0 rfl) Tryd.underlying3 rfl rfl rfl) ?_
    simp only [Act.put, zA]
    refine zr (.bool false) X6_11 (xo_neqF .i64 (kd : Int) 3 (by omega) rfl rfl rfl) ?_
    simp only [Act.put, zA]
    refine wpList_nil ?_
    have hkk1 : 1 ≤ kk := (HOK.out.m1 (by show 0 < Qu.maxK kd; rw [hk3]; decide)).1
    obtain ⟨g, hg⟩ : ∃ z, Ty.lgN l0 cl = z := ⟨_, rfl⟩
    have HGL := zh hg
    clear hg
    by_cases hgp : 0 < g
    ·obtain ⟨m, rfl⟩ : ∃ m : Nat, g = (m : Int) := ⟨g.toNat, by omega⟩
     have hm0 : 0 < m := by omega
     go_upto_region 8 with fail
     refine wp_floatP [0, 1, 2, 3, 4, 5, 6, 7, 8] (l' := [_, _, _, _, _, _, _, _, _]) (by kernel_rfl) (lexOK_of (by kernel_rfl) (by kernel_rfl)) (ordOK_of (by kernel_rfl) (by kernel_rfl)) rfl rfl ?_
     simp only [List.getElem_toArray, List.getElem_cons_succ, List.getElem_cons_zero]
     intro V7 hb hSW
     have B6 := zh hb
     have HF7 := zh hSW
     clear hb hSW
     refine wpF_seg 6 (by kernel_rfl) ?_
     simp only [List.take_succ_cons, List.take_zero, List.drop_succ_cons, List.drop_zero]
     refine zv (.pointer (some ⟨b6, 3, none⟩)) (fun v hv => (xo_fld0 3 b6 3 (by kernel_rfl) rfl rfl)) ?_
     simp only [Act.put, zA]
     refine zv (.slice A2 qf.length c2) (fun v hv => (xo_load1 ⟨b6, 3, none⟩ _ (cells_at (heap_keep (heap_keep Fv3_6.out C4_6.out) (laterF hv)) 3 rfl) Tryd.underlying22 rfl rfl rfl)) ?_
     simp only [Act.put, zA]
     refine zv (.pointer (some (gad A2 (0 * 1)))) (fun v hv => (xg_idx .i64 ((HFR2.out.keep C4_6.out).keep (laterF hv)).sg HH0.out Tryd.underlying22 (by kernel_rfl) rfl rfl rfl)) ?_
     simp only [Act.put, zA]
     refine zv (.slice h0.A h0.n h0.c) (fun v hv => (xg_load1 (E := hdC) (i := 0) (j := 0) ((HFR2.out.keep C4_6.out).keep (laterF hv)).sg HH0.out rfl rfl Tryd.underlying44 rfl rfl rfl)) ?_
     simp only [Act.put, zA]
     refine zv (.pointer (some ⟨b6, 1, none⟩)) (fun v hv => (xo_fld0 1 b6 1 (by kernel_rfl) rfl rfl)) ?_
     simp only [Act.put, zA]
     refine zv (.int .i64 (cl : Int)) (fun v hv => (xo_load1 ⟨b6, 1, none⟩ _ (cells_at (heap_keep (heap_keep Fv3_6.out C4_6.out) (laterF hv)) 1 rfl) Tryd.underlying3 rfl rfl rfl)) ?_
     simp only [Act.put, zA]
     refine wpQuiet_nil ?_
     refine wpF_call 24 Tryd.func24 (by kernel_rfl) (by kernel_rfl) _ _ #[.slice h0.A h0.n h0.c, .int .i64 (cl : Int)] rfl (by kernel_rfl) (by kernel_rfl) HF7.out (fun V8 hb => ?_)
     have B7 := zh hb
     have HF8 := zh (HF7.out.ext hb)
     clear hb
     have C4_7 := zb C4_6 B6
     have C4_8 := zb C4_7 B7
     refine (largest_as h0.A h0.n h0.c l0 cl hcl (m : Int) HGL.out V8 ((HFR2.out.keep C4_8.out).row 0 h0 (l0.map Qu.Cd.ci) HH0.out HLM0.out)).mono ?_
     rintro e V9 ⟨rfl, hb⟩
     have B8 := zh hb
     have HF9 := zh (HF8.out.ext hb)
     refine ⟨_, rfl, hb, ?_⟩
     clear hb 
     simp only [Act.put, zA]
     refine wpF_seg 2 (by kernel_rfl) ?_
     simp only [List.take_succ_cons, List.take_zero, List.drop_succ_cons, List.drop_zero]
     refine zv (.int .i64 4611686018427387903) (fun v hv => rfl) ?_
     simp only [Act.put, zA]
     refine zv (.int .i64 (m : Int)) (fun v hv => rfl) ?_
     simp only [Act.put, zA]
     refine wpQuiet_nil ?_
     refine wpF_nil (fun V10 hb => ?_)
     have B9 := zh hb
     clear hb
     clear HF7
     clear HF8
     clear HF9
     go_upto_region 9 with fail
     refine wp_region_lit ?_
     refine zr (.int .i64 0) V10 rfl ?_
     simp only [Act.put, zA]
     refine wpList_nil ?_
     have C4_9 := zb C4_8 B8
     have C4_10 := zb C4_9 B9
     have O14 := (heap_keep Fv3_6.out C4_10.out)
     have C6_8 := zb B6 B7
     have C6_9 := zb C6_8 B8
     have C6_10 := zb C6_9 B9
     have O15 := (heap_keep Fv9_8.out C6_10.out)
     have C1_6 := zb C1_5 B5
     have C1_7 := zb C1_6 B6
     have C1_8 := zb C1_7 B7
     have C1_9 := zb C1_8 B8
     have C1_10 := zb C1_9 B9
     have O16 := (heap_keep Fv0_2.out C1_10.out)
     have O17 := (HFR2.out.keep C4_10.out)
     have C0_5 := zb C0_4 B4
     have C0_6 := zb C0_5 B5
     have C0_7 := zb C0_6 B6
     have C0_8 := zb C0_7 B7
     have C0_9 := zb C0_8 B8
     have C0_10 := zb C0_9 B9
     have O18 := C0_10.out
     have Gr19 : Hid (w.heap.size ≤ b6) := zh (Nat.le_trans C0_3.out.size Ge2.out)
     have Gr20 : Hid (w.heap.size ≤ b8) := zh (Nat.le_trans C0_5.out.size Ge8.out)
     go_wp2_with fail
     go_loopw [10, 12] (fun a p wr => ∃ j : Nat, ∃ (ro : Nat), j ≤ kk ∧ p = .int .i64 j ∧ a = .int .i64 (ro : Int) ∧ 4611686018427387903 / m ^ j = ro ∧ FsR wr A2 qf.length c2 hs2 (qf.map (List.map Qu.Cd.ci)) ∧ wr.heap[b6]? = some (.cells #[.int .i64 (kd : Int), .int .i64 (cl : Int), .int .i64 (kk : Int), .slice A2 qf.length c2] 24 (0, 0)) ∧ wr.heap[b8]? = some (.cells #[.slice Ad rld cd] 29 (0, 0)) ∧ wr.heap[w.heap.size]? = some (.cells #[.int .i64 kind, .int .i64 col, .int .i64 k, .slice A n c] 24 (0, 0)) ∧ Below w.heap.size w wr) (fun _ p _ => kk - (intOf p).toNat)
     case atStart => exact ⟨0, 4611686018427387903, Nat.zero_le _, rfl, rfl, (by rw [Nat.pow_zero, Nat.div_one]), O17, O14, O15, O16, O18⟩
     case round =>
      clear O14 O15 O16 O18 O17
      obtain ⟨wo, rfl⟩ : ∃ wo : World, wo = wr := ⟨_, rfl⟩
      obtain ⟨j, ro, hi, rfl, hHA, hHRO, hHFR2, hr0, hr1, hr2, hb0⟩ := hrel
      have hbr := hb0
      clear B0
      have B0 := zh hbr
      clear hbr
      clear Fv3_6
      have Fv3_6 : Hid (wo.heap[b6]? = some (.cells #[.int .i64 (kd : Int), .int .i64 (cl : Int), .int .i64 (kk : Int), .slice A2 qf.length c2] 24 (0, 0))) := zh (hr0)
      clear Fv9_8
      have Fv9_8 : Hid (wo.heap[b8]? = some (.cells #[.slice Ad rld cd] 29 (0, 0))) := zh (hr1)
      clear Fv0_2
      have Fv0_2 : Hid (wo.heap[w.heap.size]? = some (.cells #[.int .i64 kind, .int .i64 col, .int .i64 k, .slice A n c] 24 (0, 0))) := zh (hr2)
      have HA := zh hHA
      have HRO := zh hHRO
      have HFR2 := zh hHFR2
      clear hb0 hr0 hr1 hr2 hHA hHRO hHFR2
      have ea := HA.out
      subst ea
      clear HA
      have hrl : ro ≤ 4611686018427387903 := by rw [← HRO.out]; exact Nat.div_le_self _ _
      have hci22 : ((m : Int) > 0) := by omega
      by_cases hjk : j < kk
      ·have hci23 : ((j : Int) < (kk : Int)) := by omega
       go_upto_region 10 with fail
       refine wp_region_lit ?_
       refine zr (.int .i64 (j : Int)) wo rfl ?_
       simp only [Act.put, zA]
       refine zr (.pointer (some ⟨b6, 2, none⟩)) wo (xo_fld0 2 b6 2 (by kernel_rfl) rfl rfl) ?_
       simp only [Act.put, zA]
       refine zr (.int .i64 (kk : Int)) wo (xo_load1 ⟨b6, 2, none⟩ _ (cells_at Fv3_6.out 2 rfl) Tryd.underlying3 rfl rfl rfl) ?_
       simp only [Act.put, zA]
       refine zr (.bool true) wo (xo_lssT .i64 (j : Int) (kk : Int) (by omega) rfl rfl rfl) ?_
       simp only [Act.put, zA]
       refine zr (.bool true) wo rfl ?_
       simp only [Act.put, zA]
       refine zr (.int .i64 (m : Int)) wo rfl ?_
       simp only [Act.put, zA]
       refine zr (.bool true) wo (xo_gtrT .i64 (m : Int) 0 (by omega) rfl rfl rfl) ?_
       simp only [Act.put, zA]
       refine zr (.bool true) wo rfl ?_
       simp only [Act.put, zA]
       refine wpList_nil ?_
       obtain ⟨ro2, hro2⟩ : ∃ z, ro / m = z := ⟨_, rfl⟩
       have HRO2 := zh hro2
       clear hro2
       go_upto_region 12 with fail
       refine wp_region_lit ?_
       refine zr (.int .i64 (ro : Int)) wo rfl ?_
       simp only [Act.put, zA]
       refine zr (.int .i64 (m : Int)) wo rfl ?_
       simp only [Act.put, zA]
       refine zr (.int .i64 (ro2 : Int)) wo (xo_quoI ro m ro2 (by omega) HRO2.out (by omega) rfl rfl rfl) ?_
       simp only [Act.put, zA]
       refine zr (.int .i64 (ro2 : Int)) wo rfl ?_
       simp only [Act.put, zA]
       refine wpList_nil ?_
       go_upto_region 11 with fail
       refine wp_region_lit ?_
       refine zr (.int .i64 (j : Int)) wo rfl ?_
       simp only [Act.put, zA]
       refine zr (.int .i64 ((j + 1 : Nat) : Int)) wo (xo_addI (j : Int) 1 ((j + 1 : Nat) : Int) (by omega) (by omega) (by omega) rfl rfl rfl) ?_
       simp only [Act.put, zA]
       refine zr (.int .i64 ((j + 1 : Nat) : Int)) wo rfl ?_
       simp only [Act.put, zA]
       refine wpList_nil ?_
       have hrn : 4611686018427387903 / m ^ (j + 1) = ro2 := by rw [Nat.pow_succ, ← Nat.div_div_eq_div_mul, HRO.out, HRO2.out]
       have HRN := zh hrn
       clear hrn
       have kp := HFR2.out
       have hq24 := Fv3_6.out
       have hq25 := Fv9_8.out
       have hq26 := Fv0_2.out
       have hq27 := B0.out
       go_wp2_with fail
       go_roundw
       case rel => exact ⟨j + 1, ro2, by omega, by go_num, rfl, HRN.out, kp, hq24, hq25, hq26, hq27⟩
       case measure => simp [intOf]; omega
      ·have hci23 : ¬ ((j : Int) < (kk : Int)) := by omega
       go_upto_region 10 with fail
       refine wp_region_lit ?_
       refine zr (.int .i64 (j : Int)) wo rfl ?_
       simp only [Act.put, zA]
       refine zr (.pointer (some ⟨b6, 2, none⟩)) wo (xo_fld0 2 b6 2 (by kernel_rfl) rfl rfl) ?_
       simp only [Act.put, zA]
       refine zr (.int .i64 (kk : Int)) wo (xo_load1 ⟨b6, 2, none⟩ _ (cells_at Fv3_6.out 2 rfl) Tryd.underlying3 rfl rfl rfl) ?_
       simp only [Act.put, zA]
       refine zr (.bool false) wo (xo_lssF .i64 (j : Int) (kk : Int) (by omega) rfl rfl rfl) ?_
       simp only [Act.put, zA]
       refine zr (.bool false) wo rfl ?_
       simp only [Act.put, zA]
       refine zl ?_
       try simp only [Act.put, zA]
       refine zl ?_
       try simp only [Act.put, zA]
       refine zr (.bool false) wo rfl ?_
       simp only [Act.put, zA]
       refine wpList_nil ?_
       obtain rfl : kk = j := by omega
       by_cases hro : ro < r16
       ·have hci24 : ((r16 : Int) > (ro : Int)) := by omega
        cases HST : Ty.satN l0 with
        | false =>
         obtain rfl : cod = 0 := Ty.rj_un (q := ⟨kd, cl, kk, qf⟩) HCKd.out hk3 HL0.out HST
         go_upto_region 13 with fail
         refine wp_region_lit ?_
         refine zr (.int .i64 (m : Int)) wo rfl ?_
         simp only [Act.put, zA]
         refine zr (.bool true) wo (xo_gtrT .i64 (m : Int) 0 (by omega) rfl rfl rfl) ?_
         simp only [Act.put, zA]
         refine zr (.bool true) wo rfl ?_
         simp only [Act.put, zA]
         refine zr (.int .i64 (r16 : Int)) wo rfl ?_
         simp only [Act.put, zA]
         refine zr (.int .i64 (ro : Int)) wo rfl ?_
         simp only [Act.put, zA]
         refine zr (.bool true) wo (xo_gtrT .i64 (r16 : Int) (ro : Int) (by omega) rfl rfl rfl) ?_
         simp only [Act.put, zA]
         refine zr (.bool true) wo rfl ?_
         simp only [Act.put, zA]
         refine zr (.bool true) wo rfl ?_
         simp only [Act.put, zA]
         refine zr (.pointer (some ⟨b6, 3, none⟩)) wo (xo_fld0 3 b6 3 (by kernel_rfl) rfl rfl) ?_
         simp only [Act.put, zA]
         refine zr (.slice A2 qf.length c2) wo (xo_load1 ⟨b6, 3, none⟩ _ (cells_at Fv3_6.out 3 rfl) Tryd.underlying22 rfl rfl rfl) ?_
         simp only [Act.put, zA]
         refine zr (.pointer (some (gad A2 (0 * 1)))) wo (xg_idx .i64 HFR2.out.sg HH0.out Tryd.underlying22 (by kernel_rfl) rfl rfl rfl) ?_
         simp only [Act.put, zA]
         refine zr (.slice h0.A h0.n h0.c) wo (xg_load1 (E := hdC) (i := 0) (j := 0) HFR2.out.sg HH0.out rfl rfl Tryd.underlying44 rfl rfl rfl) ?_
         simp only [Act.put, zA]
         refine wpList_call (by kernel_rfl) 25 Tryd.func25 (by kernel_rfl) (by kernel_rfl) _ _ #[.slice h0.A h0.n h0.c] rfl (by kernel_rfl) ?_
         refine (satisfiable_as h0.A h0.n h0.c l0 false HST wo (HFR2.out.row 0 h0 (l0.map Qu.Cd.ci) HH0.out HLM0.out)).mono ?_
         rintro e V2 ⟨rfl, hb⟩
         have B1 := zh hb
         clear hb 
         refine ⟨_, rfl, ?_⟩
         simp only [Act.put, zA]
         refine zr (.bool false) V2 rfl ?_
         simp only [Act.put, zA]
         refine zr (.bool false) V2 rfl ?_
         simp only [Act.put, zA]
         refine wpList_nil ?_
         go_upto_region 14 with fail
         refine wp_region_lit ?_
         refine zr (.int .i64 0) V2 rfl ?_
         simp only [Act.put, zA]
         refine zr (.bool false) V2 (xo_eqlF .i64 0 141 (by omega) rfl rfl rfl) ?_
         simp only [Act.put, zA]
         refine zr (.bool false) V2 rfl ?_
         simp only [Act.put, zA]
         refine zr (.bool true) V2 (by unfold execOp; go_simp) ?_
         simp only [Act.put, zA]
         refine zr (.bool true) V2 rfl ?_
         simp only [Act.put, zA]
         refine zr (.bool false) V2 rfl ?_
         simp only [Act.put, zA]
         refine zr (.bool false) V2 rfl ?_
         simp only [Act.put, zA]
         refine zr (.int .i64 0) V2 rfl ?_
         simp only [Act.put, zA]
         refine zr (.bool true) V2 (xo_eqlT .i64 0 0 (by omega) rfl rfl rfl) ?_
         simp only [Act.put, zA]
         refine zr (.bool true) V2 rfl ?_
         simp only [Act.put, zA]
         refine zr (.bool true) V2 rfl ?_
         simp only [Act.put, zA]
         refine zr (.bool true) V2 rfl ?_
         simp only [Act.put, zA]
         refine zr (.bool true) V2 rfl ?_
         simp only [Act.put, zA]
         refine zr (.bool true) V2 rfl ?_
         simp only [Act.put, zA]
         refine zr (.bool true) V2 rfl ?_
         simp only [Act.put, zA]
         refine wpList_nil ?_
         have C0_2 := zb B0 B1
         have hbf := C0_2.out
         go_wp2_with fail
         go_ret
         exact ⟨rfl, hbf⟩
        | true =>
         obtain rfl : cod = 141 := Ty.rj_hi (q := ⟨kd, cl, kk, qf⟩) HCKd.out hk3 HL0.out HST (by have h := Ty.lg_sat HST hcl; rw [HGL.out] at h; show (Ty.spC l0 cl).2 = m; omega) hm0 (by have h := HRO.out; show 4611686018427387903 / m ^ kk < r16; rw [h]; exact hro)
         go_upto_region 13 with fail
         refine wp_region_lit ?_
         refine zr (.int .i64 (m : Int)) wo rfl ?_
         simp only [Act.put, zA]
         refine zr (.bool true) wo (xo_gtrT .i64 (m : Int) 0 (by omega) rfl rfl rfl) ?_
         simp only [Act.put, zA]
         refine zr (.bool true) wo rfl ?_
         simp only [Act.put, zA]
         refine zr (.int .i64 (r16 : Int)) wo rfl ?_
         simp only [Act.put, zA]
         refine zr (.int .i64 (ro : Int)) wo rfl ?_
         simp only [Act.put, zA]
         refine zr (.bool true) wo (xo_gtrT .i64 (r16 : Int) (ro : Int) (by omega) rfl rfl rfl) ?_
         simp only [Act.put, zA]
         refine zr (.bool true) wo rfl ?_
         simp only [Act.put, zA]
         refine zr (.bool true) wo rfl ?_
         simp only [Act.put, zA]
         refine zr (.pointer (some ⟨b6, 3, none⟩)) wo (xo_fld0 3 b6 3 (by kernel_rfl) rfl rfl) ?_
         simp only [Act.put, zA]
         refine zr (.slice A2 qf.length c2) wo (xo_load1 ⟨b6, 3, none⟩ _ (cells_at Fv3_6.out 3 rfl) Tryd.underlying22 rfl rfl rfl) ?_
         simp only [Act.put, zA]
         refine zr (.pointer (some (gad A2 (0 * 1)))) wo (xg_idx .i64 HFR2.out.sg HH0.out Tryd.underlying22 (by kernel_rfl) rfl rfl rfl) ?_
         simp only [Act.put, zA]
         refine zr (.slice h0.A h0.n h0.c) wo (xg_load1 (E := hdC) (i := 0) (j := 0) HFR2.out.sg HH0.out rfl rfl Tryd.underlying44 rfl rfl rfl) ?_
         simp only [Act.put, zA]
         refine wpList_call (by kernel_rfl) 25 Tryd.func25 (by kernel_rfl) (by kernel_rfl) _ _ #[.slice h0.A h0.n h0.c] rfl (by kernel_rfl) ?_
         refine (satisfiable_as h0.A h0.n h0.c l0 true HST wo (HFR2.out.row 0 h0 (l0.map Qu.Cd.ci) HH0.out HLM0.out)).mono ?_
         rintro e V2 ⟨rfl, hb⟩
         have B1 := zh hb
         clear hb 
         refine ⟨_, rfl, ?_⟩
         simp only [Act.put, zA]
         refine zr (.bool true) V2 rfl ?_
         simp only [Act.put, zA]
         refine zr (.bool true) V2 rfl ?_
         simp only [Act.put, zA]
         refine wpList_nil ?_
         go_upto_region 14 with fail
         refine wp_region_lit ?_
         refine zr (.int .i64 141) V2 rfl ?_
         simp only [Act.put, zA]
         refine zr (.bool true) V2 (xo_eqlT .i64 141 141 (by omega) rfl rfl rfl) ?_
         simp only [Act.put, zA]
         refine zr (.bool true) V2 rfl ?_
         simp only [Act.put, zA]
         refine zr (.bool true) V2 (by unfold execOp; go_simp) ?_
         simp only [Act.put, zA]
         refine zr (.bool true) V2 rfl ?_
         simp only [Act.put, zA]
         refine zr (.bool true) V2 rfl ?_
         simp only [Act.put, zA]
         refine zr (.bool true) V2 rfl ?_
         simp only [Act.put, zA]
         refine zl ?_
         try simp only [Act.put, zA]
         refine zl ?_
         try simp only [Act.put, zA]
         refine zr (.bool true) V2 rfl ?_
         simp only [Act.put, zA]
         refine zr (.bool true) V2 rfl ?_
         simp only [Act.put, zA]
         refine zr (.bool true) V2 rfl ?_
         simp only [Act.put, zA]
         refine zr (.bool true) V2 rfl ?_
         simp only [Act.put, zA]
         refine zr (.bool true) V2 rfl ?_
         simp only [Act.put, zA]
         refine zr (.bool true) V2 rfl ?_
         simp only [Act.put, zA]
         refine wpList_nil ?_
         have C0_2 := zb B0 B1
         have hbf := C0_2.out
         go_wp2_with fail
         go_ret
         exact ⟨rfl, hbf⟩
       ·have hci24 : ¬ ((r16 : Int) > (ro : Int)) := by omega
        have hc0 : cod = 0 := by
                 cases HST : Ty.satN l0 with
                 | false => exact Ty.rj_un (q := ⟨kd, cl, kk, qf⟩) HCKd.out hk3 HL0.out HST
                 | true => exact Ty.rj_lo (q := ⟨kd, cl, kk, qf⟩) HCKd.out hk3 HL0.out HST (by have h := Ty.lg_sat HST hcl; rw [HGL.out] at h; show (Ty.spC l0 cl).2 = m; omega) hm0 (by have h := HRO.out; show ¬ 4611686018427387903 / m ^ kk < r16; rw [h]; exact hro)
        subst hc0
        go_upto_region 13 with fail
        refine wp_region_lit ?_
        refine zr (.int .i64 (m : Int)) wo rfl ?_
        simp only [Act.put, zA]
        refine zr (.bool true) wo (xo_gtrT .i64 (m : Int) 0 (by omega) rfl rfl rfl) ?_
        simp only [Act.put, zA]
        refine zr (.bool true) wo rfl ?_
        simp only [Act.put, zA]
        refine zr (.int .i64 (r16 : Int)) wo rfl ?_
        simp only [Act.put, zA]
        refine zr (.int .i64 (ro : Int)) wo rfl ?_
        simp only [Act.put, zA]
        refine zr (.bool false) wo (xo_gtrF .i64 (r16 : Int) (ro : Int) (by omega) rfl rfl rfl) ?_
        simp only [Act.put, zA]
        refine zr (.bool false) wo rfl ?_
        simp only [Act.put, zA]
        refine zr (.bool false) wo rfl ?_
        simp only [Act.put, zA]
        refine zl ?_
        try simp only [Act.put, zA]
        refine zl ?_
        try simp only [Act.put, zA]
        refine zl ?_
        try simp only [Act.put, zA]
        refine zl ?_
        try simp only [Act.put, zA]
        refine zl ?_
        try simp only [Act.put, zA]
        refine zr (.bool false) wo rfl ?_
        simp only [Act.put, zA]
        refine zr (.bool false) wo rfl ?_
        simp only [Act.put, zA]
        refine wpList_nil ?_
        go_upto_region 14 with fail
        refine wp_region_lit ?_
        refine zr (.int .i64 0) wo rfl ?_
        simp only [Act.put, zA]
        refine zr (.bool false) wo (xo_eqlF .i64 0 141 (by omega) rfl rfl rfl) ?_
        simp only [Act.put, zA]
        refine zr (.bool false) wo rfl ?_
        simp only [Act.put, zA]
        refine zr (.bool true) wo (by unfold execOp; go_simp) ?_
        simp only [Act.put, zA]
        refine zr (.bool true) wo rfl ?_
        simp only [Act.put, zA]
        refine zr (.bool false) wo rfl ?_
        simp only [Act.put, zA]
        refine zr (.bool false) wo rfl ?_
        simp only [Act.put, zA]
        refine zr (.int .i64 0) wo rfl ?_
        simp only [Act.put, zA]
        refine zr (.bool true) wo (xo_eqlT .i64 0 0 (by omega) rfl rfl rfl) ?_
        simp only [Act.put, zA]
        refine zr (.bool true) wo rfl ?_
        simp only [Act.put, zA]
        refine zr (.bool true) wo rfl ?_
        simp only [Act.put, zA]
        refine zr (.bool true) wo rfl ?_
        simp only [Act.put, zA]
        refine zr (.bool true) wo rfl ?_
        simp only [Act.put, zA]
        refine zr (.bool true) wo rfl ?_
        simp only [Act.put, zA]
        refine zr (.bool true) wo rfl ?_
        simp only [Act.put, zA]
        refine wpList_nil ?_
        have hbf := B0.out
        go_wp2_with fail
        go_ret
        exact ⟨rfl, hbf⟩
    ·go_upto_region 8 with fail
     refine wp_floatP [0, 1, 2, 3, 4, 5, 6, 7, 8] (l' := [_, _, _, _, _, _, _, _, _]) (by kernel_rfl) (lexOK_of (by kernel_rfl) (by kernel_rfl)) (ordOK_of (by kernel_rfl) (by kernel_rfl)) rfl rfl ?_
     simp only [List.getElem_toArray, List.getElem_cons_succ, List.getElem_cons_zero]
     intro V7 hb hSW
     have B6 := zh hb
     have HF7 := zh hSW
     clear hb hSW
     refine wpF_seg 6 (by kernel_rfl) ?_
     simp only [List.take_succ_cons, List.take_zero, List.drop_succ_cons, List.drop_zero]
     refine zv (.pointer (some ⟨b6, 3, none⟩)) (fun v hv => (xo_fld0 3 b6 3 (by kernel_rfl) rfl rfl)) ?_
     simp only [Act.put, zA]
     refine zv (.slice A2 qf.length c2) (fun v hv => (xo_load1 ⟨b6, 3, none⟩ _ (cells_at (heap_keep (heap_keep Fv3_6.out C4_6.out) (laterF hv)) 3 rfl) Tryd.underlying22 rfl rfl rfl)) ?_
     simp only [Act.put, zA]
     refine zv (.pointer (some (gad A2 (0 * 1)))) (fun v hv => (xg_idx .i64 ((HFR2.out.keep C4_6.out).keep (laterF hv)).sg HH0.out Tryd.underlying22 (by kernel_rfl) rfl rfl rfl)) ?_
     simp only [Act.put, zA]
     refine zv (.slice h0.A h0.n h0.c) (fun v hv => (xg_load1 (E := hdC) (i := 0) (j := 0) ((HFR2.out.keep C4_6.out).keep (laterF hv)).sg HH0.out rfl rfl Tryd.underlying44 rfl rfl rfl)) ?_
     simp only [Act.put, zA]
     refine zv (.pointer (some ⟨b6, 1, none⟩)) (fun v hv => (xo_fld0 1 b6 1 (by kernel_rfl) rfl rfl)) ?_
     simp only [Act.put, zA]
     refine zv (.int .i64 (cl : Int)) (fun v hv => (xo_load1 ⟨b6, 1, none⟩ _ (cells_at (heap_keep (heap_keep Fv3_6.out C4_6.out) (laterF hv)) 1 rfl) Tryd.underlying3 rfl rfl rfl)) ?_
     simp only [Act.put, zA]
     refine wpQuiet_nil ?_
     refine wpF_call 24 Tryd.func24 (by kernel_rfl) (by kernel_rfl) _ _ #[.slice h0.A h0.n h0.c, .int .i64 (cl : Int)] rfl (by kernel_rfl) (by kernel_rfl) HF7.out (fun V8 hb => ?_)
     have B7 := zh hb
     have HF8 := zh (HF7.out.ext hb)
     clear hb
     have C4_7 := zb C4_6 B6
     have C4_8 := zb C4_7 B7
     refine (largest_as h0.A h0.n h0.c l0 cl hcl g HGL.out V8 ((HFR2.out.keep C4_8.out).row 0 h0 (l0.map Qu.Cd.ci) HH0.out HLM0.out)).mono ?_
     rintro e V9 ⟨rfl, hb⟩
     have B8 := zh hb
     have HF9 := zh (HF8.out.ext hb)
     refine ⟨_, rfl, hb, ?_⟩
     clear hb 
     simp only [Act.put, zA]
     refine wpF_seg 2 (by kernel_rfl) ?_
     simp only [List.take_succ_cons, List.take_zero, List.drop_succ_cons, List.drop_zero]
     refine zv (.int .i64 4611686018427387903) (fun v hv => rfl) ?_
     simp only [Act.put, zA]
     refine zv (.int .i64 g) (fun v hv => rfl) ?_
     simp only [Act.put, zA]
     refine wpQuiet_nil ?_
     refine wpF_nil (fun V10 hb => ?_)
     have B9 := zh hb
     clear hb
     clear HF7
     clear HF8
     clear HF9
     go_upto_region 9 with fail
     refine wp_region_lit ?_
     refine zr (.int .i64 0) V10 rfl ?_
     simp only [Act.put, zA]
     refine wpList_nil ?_
     have hc0 : cod = 0 := by
           cases HST : Ty.satN l0 with
           | false => exact Ty.rj_un (q := ⟨kd, cl, kk, qf⟩) HCKd.out hk3 HL0.out HST
           | true => exact Ty.rj_z (q := ⟨kd, cl, kk, qf⟩) HCKd.out hk3 HL0.out HST (by have h := Ty.lg_sat HST hcl; rw [HGL.out] at h; show (Ty.spC l0 cl).2 = 0; omega) hkk1
     subst hc0
     have C4_9 := zb C4_8 B8
     have C4_10 := zb C4_9 B9
     have O14 := (heap_keep Fv3_6.out C4_10.out)
     have C6_8 := zb B6 B7
     have C6_9 := zb C6_8 B8
     have C6_10 := zb C6_9 B9
     have O15 := (heap_keep Fv9_8.out C6_10.out)
     have C1_6 := zb C1_5 B5
     have C1_7 := zb C1_6 B6
     have C1_8 := zb C1_7 B7
     have C1_9 := zb C1_8 B8
     have C1_10 := zb C1_9 B9
     have O16 := (heap_keep Fv0_2.out C1_10.out)
     have C0_5 := zb C0_4 B4
     have C0_6 := zb C0_5 B5
     have C0_7 := zb C0_6 B6
     have C0_8 := zb C0_7 B7
     have C0_9 := zb C0_8 B8
     have C0_10 := zb C0_9 B9
     have O17 := C0_10.out
     have Gr18 : Hid (w.heap.size ≤ b6) := zh (Nat.le_trans C0_3.out.size Ge2.out)
     have Gr19 : Hid (w.heap.size ≤ b8) := zh (Nat.le_trans C0_5.out.size Ge8.out)
     go_wp2_with fail
     go_loopw [12] (fun p wr => ∃ j : Nat, j ≤ kk ∧ p = .int .i64 j ∧ wr.heap[b6]? = some (.cells #[.int .i64 (kd : Int), .int .i64 (cl : Int), .int .i64 (kk : Int), .slice A2 qf.length c2] 24 (0, 0)) ∧ wr.heap[b8]? = some (.cells #[.slice Ad rld cd] 29 (0, 0)) ∧ wr.heap[w.heap.size]? = some (.cells #[.int .i64 kind, .int .i64 col, .int .i64 k, .slice A n c] 24 (0, 0)) ∧ Below w.heap.size w wr) (fun p _ => kk - (intOf p).toNat)
     case atStart => exact ⟨0, Nat.zero_le _, rfl, O14, O15, O16, O17⟩
     case round =>
      clear O14 O15 O16 O17
      obtain ⟨wo, rfl⟩ : ∃ wo : World, wo = wr := ⟨_, rfl⟩
      obtain ⟨j, hi, rfl, hr0, hr1, hr2, hb0⟩ := hrel
      have hbr := hb0
      clear B0
      have B0 := zh hbr
      clear hbr
      clear Fv3_6
      have Fv3_6 : Hid (wo.heap[b6]? = some (.cells #[.int .i64 (kd : Int), .int .i64 (cl : Int), .int .i64 (kk : Int), .slice A2 qf.length c2] 24 (0, 0))) := zh (hr0)
      clear Fv9_8
      have Fv9_8 : Hid (wo.heap[b8]? = some (.cells #[.slice Ad rld cd] 29 (0, 0))) := zh (hr1)
      clear Fv0_2
      have Fv0_2 : Hid (wo.heap[w.heap.size]? = some (.cells #[.int .i64 kind, .int .i64 col, .int .i64 k, .slice A n c] 24 (0, 0))) := zh (hr2)
      clear hb0 hr0 hr1 hr2
      by_cases hjk : j < kk
      ·have hci21 : ((j : Int) < (kk : Int)) := by omega
       go_upto_region 10 with fail
       refine wp_region_lit ?_
       refine zr (.int .i64 (j : Int)) wo rfl ?_
       simp only [Act.put, zA]
       refine zr (.pointer (some ⟨b6, 2, none⟩)) wo (xo_fld0 2 b6 2 (by kernel_rfl) rfl rfl) ?_
       simp only [Act.put, zA]
       refine zr (.int .i64 (kk : Int)) wo (xo_load1 ⟨b6, 2, none⟩ _ (cells_at Fv3_6.out 2 rfl) Tryd.underlying3 rfl rfl rfl) ?_
       simp only [Act.put, zA]
       refine zr (.bool true) wo (xo_lssT .i64 (j : Int) (kk : Int) (by omega) rfl rfl rfl) ?_
       simp only [Act.put, zA]
       refine zr (.bool true) wo rfl ?_
       simp only [Act.put, zA]
       refine zr (.int .i64 g) wo rfl ?_
       simp only [Act.put, zA]
       refine zr (.bool false) wo (xo_gtrF .i64 g 0 (by omega) rfl rfl rfl) ?_
       simp only [Act.put, zA]
       refine zr (.bool false) wo rfl ?_
       simp only [Act.put, zA]
       refine wpList_nil ?_
       go_upto_region 13 with fail
       refine wp_region_lit ?_
       refine zr (.int .i64 g) wo rfl ?_
       simp only [Act.put, zA]
       refine zr (.bool false) wo (xo_gtrF .i64 g 0 (by omega) rfl rfl rfl) ?_
       simp only [Act.put, zA]
       refine zr (.bool false) wo rfl ?_
       simp only [Act.put, zA]
       refine zl ?_
       try simp only [Act.put, zA]
       refine zl ?_
       try simp only [Act.put, zA]
       refine zl ?_
       try simp only [Act.put, zA]
       refine zr (.bool false) wo rfl ?_
       simp only [Act.put, zA]
       refine zr (.bool false) wo rfl ?_
       simp only [Act.put, zA]
       refine zl ?_
       try simp only [Act.put, zA]
       refine zl ?_
       try simp only [Act.put, zA]
       refine zl ?_
       try simp only [Act.put, zA]
       refine zl ?_
       try simp only [Act.put, zA]
       refine zl ?_
       try simp only [Act.put, zA]
       refine zr (.bool false) wo rfl ?_
       simp only [Act.put, zA]
       refine zr (.bool false) wo rfl ?_
       simp only [Act.put, zA]
       refine wpList_nil ?_
       go_upto_region 14 with fail
       refine wp_region_lit ?_
       refine zr (.int .i64 0) wo rfl ?_
       simp only [Act.put, zA]
       refine zr (.bool false) wo (xo_eqlF .i64 0 141 (by omega) rfl rfl rfl) ?_
       simp only [Act.put, zA]
       refine zr (.bool false) wo rfl ?_
       simp only [Act.put, zA]
       refine zr (.bool true) wo (by unfold execOp; go_simp) ?_
       simp only [Act.put, zA]
       refine zr (.bool true) wo rfl ?_
       simp only [Act.put, zA]
       refine zr (.bool false) wo rfl ?_
       simp only [Act.put, zA]
       refine zr (.bool false) wo rfl ?_
       simp only [Act.put, zA]
       refine zr (.int .i64 0) wo rfl ?_
       simp only [Act.put, zA]
       refine zr (.bool true) wo (xo_eqlT .i64 0 0 (by omega) rfl rfl rfl) ?_
       simp only [Act.put, zA]
       refine zr (.bool true) wo rfl ?_
       simp only [Act.put, zA]
       refine zr (.bool true) wo rfl ?_
       simp only [Act.put, zA]
       refine zr (.bool true) wo rfl ?_
       simp only [Act.put, zA]
       refine zr (.bool true) wo rfl ?_
       simp only [Act.put, zA]
       refine zr (.bool true) wo rfl ?_
       simp only [Act.put, zA]
       refine zr (.bool true) wo rfl ?_
       simp only [Act.put, zA]
       refine wpList_nil ?_
       have hbf := B0.out
       go_wp2_with fail
       go_ret
       exact ⟨rfl, hbf⟩
      ·have hci21 : ¬ ((j : Int) < (kk : Int)) := by omega
       go_upto_region 10 with fail
       refine wp_region_lit ?_
       refine zr (.int .i64 (j : Int)) wo rfl ?_
       simp only [Act.put, zA]
       refine zr (.pointer (some ⟨b6, 2, none⟩)) wo (xo_fld0 2 b6 2 (by kernel_rfl) rfl rfl) ?_
       simp only [Act.put, zA]
       refine zr (.int .i64 (kk : Int)) wo (xo_load1 ⟨b6, 2, none⟩ _ (cells_at Fv3_6.out 2 rfl) Tryd.underlying3 rfl rfl rfl) ?_
       simp only [Act.put, zA]
       refine zr (.bool false) wo (xo_lssF .i64 (j : Int) (kk : Int) (by omega) rfl rfl rfl) ?_
       simp only [Act.put, zA]
       refine zr (.bool false) wo rfl ?_
       simp only [Act.put, zA]
       refine zl ?_
       try simp only [Act.put, zA]
       refine zl ?_
       try simp only [Act.put, zA]
       refine zr (.bool false) wo rfl ?_
       simp only [Act.put, zA]
       refine wpList_nil ?_
       go_upto_region 13 with fail
       refine wp_region_lit ?_
       refine zr (.int .i64 g) wo rfl ?_
       simp only [Act.put, zA]
       refine zr (.bool false) wo (xo_gtrF .i64 g 0 (by omega) rfl rfl rfl) ?_
       simp only [Act.put, zA]
       refine zr (.bool false) wo rfl ?_
       simp only [Act.put, zA]
       refine zl ?_
       try simp only [Act.put, zA]
       refine zl ?_
       try simp only [Act.put, zA]
       refine zl ?_
       try simp only [Act.put, zA]
       refine zr (.bool false) wo rfl ?_
       simp only [Act.put, zA]
       refine zr (.bool false) wo rfl ?_
       simp only [Act.put, zA]
       refine zl ?_
       try simp only [Act.put, zA]
       refine zl ?_
       try simp only [Act.put, zA]
       refine zl ?_
       try simp only [Act.put, zA]
       refine zl ?_
       try simp only [Act.put, zA]
       refine zl ?_
       try simp only [Act.put, zA]
       refine zr (.bool false) wo rfl ?_
       simp only [Act.put, zA]
       refine zr (.bool false) wo rfl ?_
       simp only [Act.put, zA]
       refine wpList_nil ?_
       go_upto_region 14 with fail
       refine wp_region_lit ?_
       refine zr (.int .i64 0) wo rfl ?_
       simp only [Act.put, zA]
       refine zr (.bool false) wo (xo_eqlF .i64 0 141 (by omega) rfl rfl rfl) ?_
       simp only [Act.put, zA]
       refine zr (.bool false) wo rfl ?_
       simp only [Act.put, zA]
       refine zr (.bool true) wo (by unfold execOp; go_simp) ?_
       simp only [Act.put, zA]
       refine zr (.bool true) wo rfl ?_
       simp only [Act.put, zA]
       refine zr (.bool false) wo rfl ?_
       simp only [Act.put, zA]
       refine zr (.bool false) wo rfl ?_
       simp only [Act.put, zA]
       refine zr (.int .i64 0) wo rfl ?_
       simp only [Act.put, zA]
       refine zr (.bool true) wo (xo_eqlT .i64 0 0 (by omega) rfl rfl rfl) ?_
       simp only [Act.put, zA]
       refine zr (.bool true) wo rfl ?_
       simp only [Act.put, zA]
       refine zr (.bool true) wo rfl ?_
       simp only [Act.put, zA]
       refine zr (.bool true) wo rfl ?_
       simp only [Act.put, zA]
       refine zr (.bool true) wo rfl ?_
       simp only [Act.put, zA]
       refine zr (.bool true) wo rfl ?_
       simp only [Act.put, zA]
       refine zr (.bool true) wo rfl ?_
       simp only [Act.put, zA]
       refine wpList_nil ?_
       have hbf := B0.out
       go_wp2_with fail
       go_ret
       exact ⟨rfl, hbf⟩
   ·have hci13 : ((kd : Int) ≠ 3) := by omega
    go_upto_region 6 with fail
    refine wp_region_lit ?_
    refine zr (.pointer (some ⟨b6, 0, none⟩)) X6_11 (xo_fld0 0 b6 0 (by kernel_rfl) rfl rfl) ?_
    simp only [Act.put, zA]
    refine zr (.int .i64 (kd : Int)) X6_11 (xo_load1 ⟨b6, 0, none⟩ _ (cells_at (heap_keep Fv3_6.out C4_6.out) 0 rfl) Tryd.underlying3 rfl rfl rfl) ?_
    simp only [Act.put, zA]
    refine zr (.bool true) X6_11 (xo_neqT .i64 (kd : Int) 3 (by omega) rfl rfl rfl) ?_
    simp only [Act.put, zA]
    refine wpList_nil ?_
    obtain rfl : cod = 0 := Ty.rj_ok (q := ⟨kd, cl, kk, qf⟩) HCKd.out ht hk3 (by omega)
    go_upto_region 7 with fail
    refine wp_region_lit ?_
    refine zr (.int .i64 0) X6_11 rfl ?_
    simp only [Act.put, zA]
    refine zr (.bool true) X6_11 (xo_eqlT .i64 0 0 (by omega) rfl rfl rfl) ?_
    simp only [Act.put, zA]
    refine zr (.bool true) X6_11 rfl ?_
    simp only [Act.put, zA]
    refine zr (.bool true) X6_11 rfl ?_
    simp only [Act.put, zA]
    refine zr (.bool true) X6_11 rfl ?_
    simp only [Act.put, zA]
    refine zr (.bool true) X6_11 rfl ?_
    simp only [Act.put, zA]
    refine wpList_nil ?_
    have C0_5 := zb C0_4 B4
    have C0_6 := zb C0_5 B5
    have hbf := C0_6.out
    go_wp2_with fail
    go_ret
    exact ⟨rfl, hbf⟩
end Go.Proofs.YtbecajihgbbgjaaDoor
