/- Stage 14: law TypecheckTight. -/
import Derived.Test.YtbecajihgbbgjaaDoorU06
import Derived.Test.YtbecajihgbbgjaaDoorU15
namespace Go.Proofs.YtbecajihgbbgjaaDoor
set_option linter.unusedVariables false
set_option linter.unusedSimpArgs false
set_option linter.unusedSectionVars false
set_option maxRecDepth 8000
open Go.RowKit Go.Proofs.YtbecajihgbbgjaaDoor.K
attribute [local irreducible] wpList wpQuiet
namespace Ty
set_option linter.unusedVariables false
set_option linter.unusedSimpArgs false
set_option linter.unusedSectionVars false
theorem one_small {q : Qu.Qy} (hq : OkQ q) (v : Nat) : oneN q v ≤ 255 ^ 6 := by
 by_cases h3 : q.kind = 3
 ·have hk : q.k ≤ 6 := by
   have := (hq.m1 (by rw [h3]; decide)).2
   rw [h3] at this
   exact this
  unfold oneN
  split
  ·rw [mo_3 _ v h3]
   exact Nat.le_trans (Nat.pow_le_pow_left (Nat.le_trans (hi_le _ _) (maxN_le _)) q.k) (Nat.pow_le_pow_right (by decide) hk)
  ·exact Nat.zero_le _
 ·exact Nat.le_trans (one_le h3 v) (by decide)
theorem ck_small {q : Qu.Qy} {n co : Nat} {xs : List Nat} (hq : OkQ q) (hev : ¬ (4 ≤ q.kind ∧ q.kind ≤ 6 ∧ q.col % 2 = 1)) (hn : n ≤ 40) (h : ckN q n = (xs, co)) : co = 0 :=
 ck_all_lt hev h fun v _ => by
  rw [bd_eq]
  have h2 := Nat.mul_le_mul hn (one_small hq v)
  have h3 : (40 : Nat) * 255 ^ 6 < 2 ^ 62 := by decide
  omega
theorem to_rep (q : Qu.Qy) (y : Nat → Nat) (v : Nat) : ∀ n, toN q (List.replicate n y) v = n * adN q y v
 | 0 => by simp [toN]
 | n + 1 => by
  have h := to_rep q y v n
  unfold toN at h ⊢
  rw [List.replicate_succ, List.map_cons, List.sum_cons, h, Nat.succ_mul, Nat.add_comm]
end Ty
theorem xo_geqB {P : Program} {ev : Operand → Value} {o : Oper} {w : World} {x y : Operand} {ty t : TypeId} (k : IntKind) (u v : Int) (b : Bool) (hb : decide (u ≥ v) = b) (ho : o.op = .binOp .geq ty x y t) (hx : ev x = .int k u) (hy : ev y = .int k v) : (execOp ev o).run P w = .ok (.value (.bool b)) w := by
 by_cases h : u ≥ v
 ·rw [decide_eq_true h] at hb
  subst hb
  exact xo_geqT k u v h ho hx hy
 ·rw [decide_eq_false h] at hb
  subst hb
  exact xo_geqF k u v h ho hx hy
theorem extreme_any (A : Option Addr) (n c : Nat) (l : List Qu.Cd) (hs : Ty.satN l = true) (col : Nat) (hc : col < 4) (wz : Int) (want : Option Nat) (hw : (wz = -1 ∧ want = none) ∨ ∃ u : Nat, wz = (u : Int) ∧ want = some u) (y : Nat → Nat) (hy : Ty.exN l col want = y) (w : World) (hL : Sg ciC 3 w A n c (l.map Qu.Cd.ci)) :
  Calls Tryd.prog 22 #[.slice A n c, .int .i64 (col : Int), .int .i64 wz] w fun e w' => e = .returned (.agg #[.int .i64 (y 0 : Int), .int .i64 (y 1 : Int), .int .i64 (y 2 : Int), .int .i64 (y 3 : Int)]) ∧ Below w.heap.size w w' := by
 rcases hw with ⟨rfl, rfl⟩ | ⟨u, rfl, rfl⟩
 ·exact extreme_none A n c l hs col hc y hy w hL
 ·exact extreme_some A n c l hs col hc u y hy w hL
set_option maxRecDepth 100000 in
set_option maxHeartbeats 64000000 in
theorem tTight_any (kind col k : Int) (A : Option Addr) (n c : Nat) (hs : List Hd) (fs : List (List Qu.Ci)) (n8 : Nat) (hn8 : n8 < 256) (w : World) (hG : Gw5 w) (hC : Gc w) (hF : FsR w A n c hs fs) :
  Calls Tryd.prog 5 #[.agg #[.int .i64 kind, .int .i64 col, .int .i64 k, .slice A n c], .int .u8 (n8 : Int)] w fun e w' => e = .returned (.bool true) ∧ Below w.heap.size w w' := by
 have HFR := zh hF
 have HG := zh hG
 have HGC := zh hC
 have hln := hF.sg.len
 have hlc := hF.sg.cap
 have hlt := hF.sg.top
 clear hF hG hC
 obtain ⟨⟨kd, cl, kk, qf⟩, hq0⟩ : ∃ q, Ty.evQ (mdQ kind col k fs) = q := ⟨_, rfl⟩
 have HOK : Hid (OkQ ⟨kd, cl, kk, qf⟩) := zh (by rw [← hq0]; exact evQ_ok (mdQ_ok kind col k fs))
 have hev : ¬ (4 ≤ kd ∧ kd ≤ 6 ∧ cl % 2 = 1) := by have h := evQ_even (mdQ kind col k fs); rw [hq0] at h; exact h
 have HQ0 := zh hq0
 clear hq0
 have hk1 : 1 ≤ kd := HOK.out.k1
 have hk7 : kd ≤ 7 := HOK.out.k7
 have hcl : cl < 4 := okQ_col HOK.out
 have hkk : kk ≤ 65536 := okQ_k HOK.out
 have HNF : Hid (qf.length = Qu.numF kd) := zh HOK.out.nf
 have hnf1 : 0 < qf.length := by rw [HNF.out]; unfold Qu.numF; split <;> decide
 obtain ⟨nr, hnr⟩ : ∃ z, n8 % 41 = z := ⟨_, rfl⟩
 have HNR := zh hnr
 clear hnr
 have hnr : nr ≤ 40 := by rw [← HNR.out]; have := Nat.mod_lt n8 (by decide : 0 < 41); omega
 obtain ⟨sm, hsm⟩ : ∃ z, Ty.suN kd = z := ⟨_, rfl⟩
 have HSM := zh hsm
 clear hsm
 obtain ⟨⟨xsd, cod⟩, hck⟩ : ∃ r, Ty.ckN ⟨kd, cl, kk, qf⟩ nr = r := ⟨_, rfl⟩
 have HCKd := zh hck
 clear hck
 obtain ⟨rld, hrl⟩ : ∃ z, (Ty.zs xsd).length = z := ⟨_, rfl⟩
 have HRLd := zh hrl
 have HRXd : Hid (xsd.length = rld) := zh (by rw [← hrl, Ty.zs_len])
 have hr32d : rld ≤ 32 := by rw [← HRXd.out]; exact Ty.ck_len HCKd.out
 clear hrl
 obtain rfl : cod = 0 := Ty.ck_small (q := ⟨kd, cl, kk, qf⟩) HOK.out hev hnr HCKd.out
 have hf := (Ty.ck_facts (q := ⟨kd, cl, kk, qf⟩) hev HCKd.out).2.2 rfl
 rw [show (⟨kd, cl, kk, qf⟩ : Qu.Qy).kind = kd from rfl, HSM.out, HRXd.out] at hf
 have HF := zh hf.2
 have HRS := zh hf.1
 clear hf
 have hsm : sm ≤ 32 := by rw [← HSM.out]; exact Ty.su_le kd
 go_enter Tryd.func5, Tryd.ntmps5
 go_upto_region 1 with fail
 refine wp_named1 (fun V1 hb g0 hlt => ?_)
 have B0 := zh hb
 have Fv0_2 : Hid (V1.heap[w.heap.size]? = some (.cells #[.int .i64 kind, .int .i64 col, .int .i64 k, .slice A n c] 24 (0, 0))) := zh (g0)
 have Gb0 : Hid (w.heap.size ≤ w.heap.size) := zh (by omega)
 clear hb g0 hlt
 have Lt0 : Hid (w.heap.size < V1.heap.size) := zh (xp_lt Fv0_2.out)
 refine wp_region_lit ?_
 refine wpList_call (by kernel_rfl) 10 Tryd.func10 (by kernel_rfl) (by kernel_rfl) _ _ #[] rfl (by kernel_rfl) ?_
 refine (sanity14_as V1 (HG.out.keep B0.out) (HGC.out.keep B0.out)).mono ?_
 rintro e V2 ⟨rfl, hb⟩
 have B1 := zh hb
 clear hb 
 refine ⟨_, rfl, ?_⟩
 simp only [Act.put, zA]
 refine zr (.bool true) V2 rfl ?_
 simp only [Act.put, zA]
 refine wpList_nil ?_
 go_upto_region 2 with fail
 refine wp_region_lit ?_
 refine zr (.agg #[.int .i64 kind, .int .i64 col, .int .i64 k, .slice A n c]) V2 (xo_loadW w.heap.size _ (heap_keep Fv0_2.out B1.out) Tryd.underlying24 rfl (by kernel_rfl) rfl rfl) ?_
 simp only [Act.put, zA]
 have C0_2 := zb B0 B1
 refine wpList_call (by kernel_rfl) 19 Tryd.func19 (by kernel_rfl) (by kernel_rfl) _ _ #[.agg #[.int .i64 kind, .int .i64 col, .int .i64 k, .slice A n c]] rfl (by kernel_rfl) ?_
 refine (made14_as kind col k A n c hs fs ⟨kd, cl, kk, qf⟩ HQ0.out V2 (HFR.out.keep C0_2.out)).mono ?_
 rintro e V3 ⟨A2, n2, c2, rfl, hfo0, hb⟩
 have B2 := zh hb
 have hn2 := (FsOwn.fsR hfo0).1
 subst hn2
 have hfo : FsOwn _ w.heap.size (.slice A2 qf.length c2) qf := FsOwn.mono hfo0 C0_2.out.size
 clear hfo0
 have HFO := zh hfo
 clear hb hfo
 refine ⟨_, rfl, ?_⟩
 simp only [Act.put, zA]
 refine zr (.int .u8 (n8 : Int)) V3 rfl ?_
 simp only [Act.put, zA]
 refine zr (.int .u8 (nr : Int)) V3 (xo_remN .u8 n8 41 nr (by omega) HNR.out rfl rfl rfl) ?_
 simp only [Act.put, zA]
 refine zr (.int .i64 (nr : Int)) V3 (xo_cvt .u8 .i64 (nr : Int) (nr : Int) (by rw [IntKind.wrap_i64]; omega) Tryd.underlying3 Tryd.underlying5 rfl rfl) ?_
 simp only [Act.put, zA]
 refine wpList_new #[.int .i64 0, .int .i64 0, .int .i64 0, .slice none 0 0] 24 (by kernel_rfl) (xo_alloc #[.int .i64 0, .int .i64 0, .int .i64 0, .slice none 0 0] (by kernel_rfl) rfl) ?_
 intro b6 V4 hge h0 hb
 have C1_3 := zb B1 B2
 have N1_0 : Hid (w.heap.size ≠ b6) := zh (xp_lt0 (heap_keep Fv0_2.out C1_3.out) hge)
 have Ge2 : Hid (V3.heap.size ≤ b6) := zh hge
 have B3 := zh hb
 have Fv3_6 : Hid (V4.heap[b6]? = some (.cells #[.int .i64 0, .int .i64 0, .int .i64 0, .slice none 0 0] 24 (0, 0))) := zh (h0)
 have Lt4 : Hid (b6 < V4.heap.size) := zh (xp_lt Fv3_6.out)
 clear hge h0 hb
 simp only [ptr, Act.put, zA]
 refine wpList_storeW b6 #[.int .i64 0, .int .i64 0, .int .i64 0, .slice none 0 0] #[.int .i64 (kd : Int), .int .i64 (cl : Int), .int .i64 (kk : Int), .slice A2 qf.length c2] 24 (by kernel_rfl) Fv3_6.out (xo_storeW b6 #[.int .i64 0, .int .i64 0, .int .i64 0, .slice none 0 0] #[.int .i64 (kd : Int), .int .i64 (cl : Int), .int .i64 (kk : Int), .slice A2 qf.length c2] Fv3_6.out (by kernel_rfl) rfl (by simp [Value.oneCell']) rfl rfl rfl) ?_
 intro X4_5 h1 hfar hbel hsz
 have hbr := hbel _ _ Ge2.out B3.out
 clear B3
 have B3 := zh hbr
 clear hbr
 clear Fv3_6
 have Fv3_6 : Hid (X4_5.heap[b6]? = some (.cells #[.int .i64 (kd : Int), .int .i64 (cl : Int), .int .i64 (kk : Int), .slice A2 qf.length c2] 24 (0, 0))) := zh (h1)
 have HszX4_5 := zh hsz
 clear h1 hfar hbel hsz
 simp only [ptr, Act.put, zA]
 refine zr (.int .i64 (nr : Int)) X4_5 rfl ?_
 simp only [Act.put, zA]
 refine wpList_nil ?_
 obtain ⟨_, hs2, hfr⟩ := FsOwn.fsR (HFO.out.keep B3.out)
 have HFR2 : Hid (FsR X4_5 A2 qf.length c2 hs2 (qf.map (List.map Qu.Cd.ci))) := zh hfr
 clear hfr
 clear HFO
 have hl2 := HFR2.out.sg.len
 have hc2 := HFR2.out.sg.cap
 have ht2 := HFR2.out.sg.top
 have hf2 := HFR2.out.len
 rw [List.length_map] at hf2
 have HL2 := zh hl2
 clear hl2 hf2
 go_upto_region 3 with fail
 refine wp_region_lit ?_
 refine zr (.agg #[.int .i64 (kd : Int), .int .i64 (cl : Int), .int .i64 (kk : Int), .slice A2 qf.length c2]) X4_5 (xo_loadW b6 _ Fv3_6.out Tryd.underlying24 rfl (by kernel_rfl) rfl rfl) ?_
 simp only [Act.put, zA]
 refine zr (.int .i64 (nr : Int)) X4_5 rfl ?_
 simp only [Act.put, zA]
 have C0_3 := zb C0_2 B2
 have C0_4 := zb C0_3 B3
 refine wpList_call (by kernel_rfl) 11 Tryd.func11 (by kernel_rfl) (by kernel_rfl) _ _ #[.agg #[.int .i64 (kd : Int), .int .i64 (cl : Int), .int .i64 (kk : Int), .slice A2 qf.length c2], .int .i64 (nr : Int)] rfl (by kernel_rfl) ?_
 refine (check_ok kd cl kk A2 qf.length c2 hs2 qf HOK.out nr (by omega) (xsd, 0) HCKd.out X4_5 HFR2.out (HG.out.keep C0_4.out) (HGC.out.keep C0_4.out)).mono ?_
 rintro e V5 ⟨Ad, nd, cd, rfl, hsg, hb⟩
 have B4 := zh hb
 obtain rfl : rld = nd := (HRLd.out).symm.trans hsg.len
 have HSd := zh hsg
 clear hb hsg
 refine ⟨_, rfl, ?_⟩
 simp only [Act.put, zA]
 refine zr (.tuple #[.agg #[.slice Ad rld cd], .int .i64 (0 : Int)]) V5 rfl ?_
 simp only [Act.put, zA]
 refine zr (.agg #[.slice Ad rld cd]) V5 rfl ?_
 simp only [Act.put, zA]
 refine zr (.int .i64 (0 : Int)) V5 rfl ?_
 simp only [Act.put, zA]
 refine wpList_new #[.slice none 0 0] 29 (by kernel_rfl) (xo_alloc #[.slice none 0 0] (by kernel_rfl) rfl) ?_
 intro b8 V6 hge h0 hb
 have C1_4 := zb C1_3 B3
 have C1_5 := zb C1_4 B4
 have N6_0 : Hid (w.heap.size ≠ b8) := zh (xp_lt0 (heap_keep Fv0_2.out C1_5.out) hge)
 have N7_1 : Hid (b6 ≠ b8) := zh (xp_lt0 (heap_keep Fv3_6.out B4.out) hge)
 have Ge8 : Hid (V5.heap.size ≤ b8) := zh hge
 have B5 := zh hb
 have Fv9_8 : Hid (V6.heap[b8]? = some (.cells #[.slice none 0 0] 29 (0, 0))) := zh (h0)
 have Lt10 : Hid (b8 < V6.heap.size) := zh (xp_lt Fv9_8.out)
 clear hge h0 hb
 simp only [ptr, Act.put, zA]
 refine wpList_storeW b8 #[.slice none 0 0] #[.slice Ad rld cd] 29 (by kernel_rfl) Fv9_8.out (xo_storeW b8 #[.slice none 0 0] #[.slice Ad rld cd] Fv9_8.out (by kernel_rfl) rfl (by simp [Value.oneCell']) rfl rfl rfl) ?_
 intro X6_11 h1 hfar hbel hsz
 have hbr := hbel _ _ Ge8.out B5.out
 clear B5
 have B5 := zh hbr
 clear hbr
 clear Fv9_8
 have Fv9_8 : Hid (X6_11.heap[b8]? = some (.cells #[.slice Ad rld cd] 29 (0, 0))) := zh (h1)
 have HszX6_11 := zh hsz
 clear h1 hfar hbel hsz
 simp only [ptr, Act.put, zA]
 refine zr (.int .i64 (0 : Int)) X6_11 rfl ?_
 simp only [Act.put, zA]
 refine wpList_nil ?_
 go_upto_region 4 with fail
 refine wp_region_lit ?_
 refine zr (.int .i64 (0 : Int)) X6_11 rfl ?_
 simp only [Act.put, zA]
 refine zr (.bool false) X6_11 (xo_neqF .i64 (0 : Int) 0 (by omega) rfl rfl rfl) ?_
 simp only [Act.put, zA]
 refine wpList_nil ?_
 have C0_5 := zb C0_4 B4
 have C0_6 := zb C0_5 B5
 have HBV12 := zh C0_6.out
 have C4_6 := zb B4 B5
 have YHFR2 := (HFR2.out.keep C4_6.out)
 have YHSd := (HSd.out.keep B5.out)
 have C1_6 := zb C1_5 B5
 have YFv0_2 := (heap_keep Fv0_2.out C1_6.out)
 have YFv3_6 := (heap_keep Fv3_6.out C4_6.out)
 have YFv9_8 := Fv9_8.out
 clear HFR2
 have HFR2 := zh YHFR2
 clear YHFR2
 clear HSd
 have HSd := zh YHSd
 clear YHSd
 clear Fv0_2
 have Fv0_2 := zh YFv0_2
 clear YFv0_2
 clear Fv3_6
 have Fv3_6 := zh YFv3_6
 clear YFv3_6
 clear Fv9_8
 have Fv9_8 := zh YFv9_8
 clear YFv9_8
 obtain ⟨VB12, rfl⟩ : ∃ VB12 : World, VB12 = X6_11 := ⟨_, rfl⟩
 go_upto_region 6 with fail
 refine wp_region_lit ?_
 refine zr (.int .i64 0) VB12 rfl ?_
 simp only [Act.put, zA]
 refine wpList_nil ?_
 have O13 := (Below.refl VB12.heap.size VB12)
 have B0 := zh (Below.refl VB12.heap.size VB12)
 go_wp2_with fail
 go_loopw [10] (fun p wr => ∃ i : Nat, i ≤ rld ∧ p = .int .i64 i ∧ Below VB12.heap.size VB12 wr) (fun p _ => rld - (intOf p).toNat)
 case atStart => exact ⟨0, Nat.zero_le _, rfl, O13⟩
 case round =>
  clear O13
  obtain ⟨wo, rfl⟩ : ∃ wo : World, wo = wr := ⟨_, rfl⟩
  obtain ⟨i, hi, rfl, hb0⟩ := hrel
  have hbr := hb0
  clear B0
  have B0 := zh hbr
  clear hbr
  clear hb0 
  by_cases hir : i < rld
  ·have hci15 : ((i : Int) < (rld : Int)) := by omega
   have hism : i < sm := by have := HRS.out; omega
   have e1 := HF.out i hism
   obtain ⟨bv, hbv⟩ : ∃ z, Ty.bdN ⟨kd, cl, kk, qf⟩ nr i = z := ⟨_, rfl⟩
   have HBV := zh hbv
   clear hbv
   rw [HBV.out] at e1
   have hb62 := e1.2
   have HE1 := zh e1.1
   clear e1
   go_upto_region 7 with fail
   refine wp_region_lit ?_
   refine zr (.int .i64 (i : Int)) wo rfl ?_
   simp only [Act.put, zA]
   refine zr (.pointer (some ⟨b8, 0, none⟩)) wo (xo_fld0 0 b8 0 (by kernel_rfl) rfl rfl) ?_
   simp only [Act.put, zA]
   refine zr (.slice Ad rld cd) wo (xo_load1 ⟨b8, 0, none⟩ _ (cells_at (heap_keep Fv9_8.out B0.out) 0 rfl) Tryd.underlying27 rfl rfl rfl) ?_
   simp only [Act.put, zA]
   refine zr (.int .i64 (rld : Int)) wo (xo_len Ad rld cd Tryd.underlying27 rfl rfl) ?_
   simp only [Act.put, zA]
   refine zr (.bool true) wo (xo_lssT .i64 (i : Int) (rld : Int) (by omega) rfl rfl rfl) ?_
   simp only [Act.put, zA]
   refine wpList_nil ?_
   by_cases hbv : bv = 0
   ·have hci16 : ((bv : Int) = 0) := by omega
    go_upto_region 9 with fail
    refine wp_region_lit ?_
    refine zr (.pointer (some ⟨b8, 0, none⟩)) wo (xo_fld0 0 b8 0 (by kernel_rfl) rfl rfl) ?_
    simp only [Act.put, zA]
    refine zr (.slice Ad rld cd) wo (xo_load1 ⟨b8, 0, none⟩ _ (cells_at (heap_keep Fv9_8.out B0.out) 0 rfl) Tryd.underlying27 rfl rfl rfl) ?_
    simp only [Act.put, zA]
    refine zr (.int .i64 (i : Int)) wo rfl ?_
    simp only [Act.put, zA]
    refine zr (.pointer (some (gad Ad (i * 1)))) wo (xg_idx .i64 (HSd.out.keep B0.out) HE1.out Tryd.underlying27 (by kernel_rfl) rfl rfl rfl) ?_
    simp only [Act.put, zA]
    refine zr (.int .i64 (bv : Int)) wo (xg_load1 (E := zzC) (i := i) (j := 0) (HSd.out.keep B0.out) HE1.out rfl rfl Tryd.underlying2 rfl rfl rfl) ?_
    simp only [Act.put, zA]
    refine zr (.bool true) wo (xo_eqlT .i64 (bv : Int) 0 (by omega) rfl rfl rfl) ?_
    simp only [Act.put, zA]
    refine wpList_nil ?_
    go_upto_region 8 with fail
    refine wp_region_lit ?_
    refine zr (.int .i64 (i : Int)) wo rfl ?_
    simp only [Act.put, zA]
    refine zr (.int .i64 ((i + 1 : Nat) : Int)) wo (xo_addI (i : Int) 1 ((i + 1 : Nat) : Int) (by omega) (by omega) (by omega) rfl rfl rfl) ?_
    simp only [Act.put, zA]
    refine zr (.int .i64 ((i + 1 : Nat) : Int)) wo rfl ?_
    simp only [Act.put, zA]
    refine wpList_nil ?_
    have hq17 := B0.out
    go_wp2_with fail
    go_roundw
    case rel => exact ⟨i + 1, by omega, by go_num, hq17⟩
    case measure => simp [intOf]; omega
   ·have hci16 : ¬ ((bv : Int) = 0) := by omega
    go_upto_region 9 with fail
    refine wp_region_lit ?_
    refine zr (.pointer (some ⟨b8, 0, none⟩)) wo (xo_fld0 0 b8 0 (by kernel_rfl) rfl rfl) ?_
    simp only [Act.put, zA]
    refine zr (.slice Ad rld cd) wo (xo_load1 ⟨b8, 0, none⟩ _ (cells_at (heap_keep Fv9_8.out B0.out) 0 rfl) Tryd.underlying27 rfl rfl rfl) ?_
    simp only [Act.put, zA]
    refine zr (.int .i64 (i : Int)) wo rfl ?_
    simp only [Act.put, zA]
    refine zr (.pointer (some (gad Ad (i * 1)))) wo (xg_idx .i64 (HSd.out.keep B0.out) HE1.out Tryd.underlying27 (by kernel_rfl) rfl rfl rfl) ?_
    simp only [Act.put, zA]
    refine zr (.int .i64 (bv : Int)) wo (xg_load1 (E := zzC) (i := i) (j := 0) (HSd.out.keep B0.out) HE1.out rfl rfl Tryd.underlying2 rfl rfl rfl) ?_
    simp only [Act.put, zA]
    refine zr (.bool false) wo (xo_eqlF .i64 (bv : Int) 0 (by omega) rfl rfl rfl) ?_
    simp only [Act.put, zA]
    refine wpList_nil ?_
    obtain ⟨u, hu⟩ : ∃ z, i / 16 = z := ⟨_, rfl⟩
    have HU := zh hu
    clear hu
    obtain ⟨vm, hvm⟩ : ∃ z, i % 16 = z := ⟨_, rfl⟩
    have HVM := zh hvm
    clear hvm
    have hu2 : u < qf.length := by rw [HNF.out, ← HU.out]; exact Ty.su_num (by rw [HSM.out]; exact hism)
    have h16 : kd ≠ 7 → u = 0 := fun h => by have := Ty.su_16 h (by rw [HSM.out]; exact hism); have := HU.out; omega
    obtain ⟨l, hl⟩ : ∃ l, qf[u]? = some l := ⟨_, List.getElem?_eq_getElem hu2⟩
    obtain ⟨h, hh⟩ : ∃ h, hs2[u]? = some h := ⟨_, List.getElem?_eq_getElem (by have := HL2.out; omega)⟩
    obtain ⟨hz0, hhz⟩ : ∃ h, hs2[0]? = some h := ⟨_, List.getElem?_eq_getElem (by have := HL2.out; omega)⟩
    have HLL := zh hl
    have HH := zh hh
    have HZ0 := zh hhz
    have HLM : Hid ((qf.map (List.map Qu.Cd.ci))[u]? = some (l.map Qu.Cd.ci)) := zh (by rw [List.getElem?_map, hl]; rfl)
    have HC4 : Hid (∀ e ∈ l, e.col < 4) := zh (fun e he => ((HOK.out.ok l (List.mem_of_getElem? hl)).2 e he).1)
    have HLV : Hid ((⟨kd, cl, kk, qf⟩ : Qu.Qy).fs[i / 16]? = some l) := zh (by rw [HU.out]; exact hl)
    clear hl hh hhz
    obtain ⟨cc, hcc⟩ : ∃ z, (if kd = 7 then 0 else cl) = z := ⟨_, rfl⟩
    have hcc4 : cc < 4 := by rw [← hcc]; split <;> omega
    have HCC := zh hcc
    clear hcc
    obtain ⟨wz, hwz⟩ : ∃ z : Int, (if 4 ≤ kd then (vm : Int) else -1) = z := ⟨_, rfl⟩
    obtain ⟨want, hwa⟩ : ∃ z : Option Nat, (if 4 ≤ kd then some vm else none) = z := ⟨_, rfl⟩
    have HWZ := zh hwz
    have HWA := zh hwa
    have HWW : Hid ((wz = -1 ∧ want = none) ∨ ∃ u : Nat, wz = (u : Int) ∧ want = some u) := zh (by
         by_cases h4 : 4 ≤ kd
         ·rw [if_pos h4] at hwz hwa; exact .inr ⟨vm, hwz.symm, hwa.symm⟩
         ·rw [if_neg h4] at hwz hwa; exact .inl ⟨hwz.symm, hwa.symm⟩)
    clear hwz hwa
    have HST : Hid (Ty.satN l = true) := zh (by
         cases h : Ty.satN l with
         | true => rfl
         | false => exact absurd (HBV.out.symm.trans (Ty.bd_un (q := ⟨kd, cl, kk, qf⟩) nr HLV.out h)) hbv)
    go_upto_region 10 with fail
    refine wp_later_lex (by kernel_rfl) (lexOK_of (by kernel_rfl) (by kernel_rfl)) ?_
    refine zv (.pointer (some ⟨b6, 3, none⟩)) (fun v hv => (xo_fld0 3 b6 3 (by kernel_rfl) rfl rfl)) ?_
    simp only [Act.put, zA]
    refine zv (.slice A2 qf.length c2) (fun v hv => (xo_load1 ⟨b6, 3, none⟩ _ (cells_at (heap_keep (heap_keep Fv3_6.out B0.out) (later_bel hv)) 3 rfl) Tryd.underlying22 rfl rfl rfl)) ?_
    simp only [Act.put, zA]
    refine zv (.pointer (some (gad A2 (0 * 1)))) (fun v hv => (xg_idx .i64 ((HFR2.out.keep B0.out).keep (later_bel hv)).sg HZ0.out Tryd.underlying22 (by kernel_rfl) rfl rfl rfl)) ?_
    simp only [Act.put, zA]
    refine zv (.slice hz0.A hz0.n hz0.c) (fun v hv => (xg_load1 (E := hdC) (i := 0) (j := 0) ((HFR2.out.keep B0.out).keep (later_bel hv)).sg HZ0.out rfl rfl Tryd.underlying44 rfl rfl rfl)) ?_
    simp only [Act.put, zA]
    refine zv (.pointer (some ⟨b6, 1, none⟩)) (fun v hv => (xo_fld0 1 b6 1 (by kernel_rfl) rfl rfl)) ?_
    simp only [Act.put, zA]
    refine zv (.int .i64 (cl : Int)) (fun v hv => (xo_load1 ⟨b6, 1, none⟩ _ (cells_at (heap_keep (heap_keep Fv3_6.out B0.out) (later_bel hv)) 1 rfl) Tryd.underlying3 rfl rfl rfl)) ?_
    simp only [Act.put, zA]
    refine zv (.slice hz0.A hz0.n hz0.c) (fun v hv => rfl) ?_
    simp only [Act.put, zA]
    refine zv (.int .i64 (cl : Int)) (fun v hv => rfl) ?_
    simp only [Act.put, zA]
    refine zv (.int .i64 (-1)) (fun v hv => rfl) ?_
    simp only [Act.put, zA]
    refine wpQuiet_nil ?_
    intro X1_17
    have hb := X1_17.below
    generalize X1_17.at = V2 at *
    have B1 := zh hb
    clear hb
    obtain ⟨g4, hg4⟩ : ∃ z, decide ((kd : Int) ≥ 4) = z := ⟨_, rfl⟩
    have HG4 := zh hg4
    clear hg4
    obtain ⟨g7, hg7⟩ : ∃ z, decide ((kd : Int) = 7) = z := ⟨_, rfl⟩
    have HG7 := zh hg7
    clear hg7
    go_upto_region 11 with fail
    refine wp_region_lit ?_
    refine zr (.pointer (some ⟨b6, 0, none⟩)) V2 (xo_fld0 0 b6 0 (by kernel_rfl) rfl rfl) ?_
    simp only [Act.put, zA]
    have C0_2 := zb B0 B1
    refine zr (.int .i64 (kd : Int)) V2 (xo_load1 ⟨b6, 0, none⟩ _ (cells_at (heap_keep Fv3_6.out C0_2.out) 0 rfl) Tryd.underlying3 rfl rfl rfl) ?_
    simp only [Act.put, zA]
    refine zr (.bool g4) V2 (xo_geqB .i64 (kd : Int) 4 g4 HG4.out rfl rfl rfl) ?_
    simp only [Act.put, zA]
    refine wpList_nil ?_
    go_upto_if 51 with fail
    go_cut [13] from 30 to 85 (fun s13 wx => s13 = .int .i64 wz ∧ Below VB12.heap.size VB12 wx)
    case first =>
     by_cases h4 : 4 ≤ kd
     ·obtain rfl : g4 = true := by rw [← HG4.out]; exact decide_eq_true (by omega)
      go_upto_region 12 with fail
      refine wp_region_lit ?_
      refine zr (.int .i64 (i : Int)) V2 rfl ?_
      simp only [Act.put, zA]
      refine zr (.int .i64 (vm : Int)) V2 (xo_remN .i64 i 16 vm (by omega) HVM.out rfl rfl rfl) ?_
      simp only [Act.put, zA]
      refine zr (.int .i64 (vm : Int)) V2 rfl ?_
      simp only [Act.put, zA]
      refine wpList_nil ?_
      have hw : wz = (vm : Int) := by rw [← HWZ.out]; exact if_pos h4
      have hm18 := C0_2.out
      go_wp2_with fail
      go_meet
      case rel => exact ⟨(by rw [hw]), hm18⟩
     ·obtain rfl : g4 = false := by rw [← HG4.out]; exact decide_eq_false (by omega)
      have hw : wz = -1 := by rw [← HWZ.out]; exact if_neg h4
      have hm18 := C0_2.out
      go_wp2_with fail
      go_meet
      case rel => exact ⟨(by rw [hw]), hm18⟩
    case rest =>
     obtain ⟨wc18, rfl⟩ : ∃ W, W = wc := ⟨_, rfl⟩
     obtain ⟨hs13, hb0⟩ := hcut
     have hbr := hb0
     clear B0
     have B0 := zh hbr
     clear hbr
     clear hb0 
     subst hs13
     go_upto_region 13 with fail
     refine wp_region_lit ?_
     refine zr (.pointer (some ⟨b6, 0, none⟩)) wc18 (xo_fld0 0 b6 0 (by kernel_rfl) rfl rfl) ?_
     simp only [Act.put, zA]
     refine zr (.int .i64 (kd : Int)) wc18 (xo_load1 ⟨b6, 0, none⟩ _ (cells_at (heap_keep Fv3_6.out B0.out) 0 rfl) Tryd.underlying3 rfl rfl rfl) ?_
     simp only [Act.put, zA]
     refine zr (.bool g7) wc18 (xo_eqlB .i64 (kd : Int) 7 g7 HG7.out rfl rfl rfl) ?_
     simp only [Act.put, zA]
     refine wpList_nil ?_
     go_upto_if 56 with fail
     go_cut [11, 12] from 30 to 85 (fun s11 s12 wx => s11 = .slice h.A h.n h.c ∧ s12 = .int .i64 (cc : Int) ∧ Below VB12.heap.size VB12 wx)
     case first =>
      by_cases h7 : kd = 7
      ·obtain rfl : g7 = true := by rw [← HG7.out]; exact decide_eq_true (by omega)
       go_upto_region 14 with fail
       refine wp_region_lit ?_
       refine zr (.pointer (some ⟨b6, 3, none⟩)) wc18 (xo_fld0 3 b6 3 (by kernel_rfl) rfl rfl) ?_
       simp only [Act.put, zA]
       refine zr (.slice A2 qf.length c2) wc18 (xo_load1 ⟨b6, 3, none⟩ _ (cells_at (heap_keep Fv3_6.out B0.out) 3 rfl) Tryd.underlying22 rfl rfl rfl) ?_
       simp only [Act.put, zA]
       refine zr (.int .i64 (i : Int)) wc18 rfl ?_
       simp only [Act.put, zA]
       refine zr (.int .i64 (u : Int)) wc18 (xo_quoI i 16 u (by omega) HU.out (by omega) rfl rfl rfl) ?_
       simp only [Act.put, zA]
       refine zr (.pointer (some (gad A2 (u * 1)))) wc18 (xg_idx .i64 (HFR2.out.keep B0.out).sg HH.out Tryd.underlying22 (by kernel_rfl) rfl rfl rfl) ?_
       simp only [Act.put, zA]
       refine zr (.slice h.A h.n h.c) wc18 (xg_load1 (E := hdC) (i := u) (j := 0) (HFR2.out.keep B0.out).sg HH.out rfl rfl Tryd.underlying44 rfl rfl rfl) ?_
       simp only [Act.put, zA]
       refine zr (.slice h.A h.n h.c) wc18 rfl ?_
       simp only [Act.put, zA]
       refine wpList_nil ?_
       go_upto_region 15 with fail
       refine wp_region_lit ?_
       refine zr (.int .i64 0) wc18 rfl ?_
       simp only [Act.put, zA]
       refine wpList_nil ?_
       have hc0 : cc = 0 := by rw [← HCC.out]; exact if_pos h7
       clear h7
       have hm20 := B0.out
       go_wp2_with fail
       go_meet
       case rel => exact ⟨rfl, (by rw [hc0]; rfl), hm20⟩
      ·obtain rfl : g7 = false := by rw [← HG7.out]; exact decide_eq_false (by omega)
       have hu0 : u = 0 := h16 h7
       obtain rfl : hz0 = h := by have h1 := HH.out; rw [hu0, HZ0.out] at h1; exact Option.some.inj h1
       have hc0 : cc = cl := by rw [← HCC.out]; exact if_neg h7
       have hm20 := B0.out
       go_wp2_with fail
       go_meet
       case rel => exact ⟨rfl, (by rw [hc0]), hm20⟩
     case rest =>
      obtain ⟨wc20, rfl⟩ : ∃ W, W = wc := ⟨_, rfl⟩
      obtain ⟨hs11, hs12, hb0⟩ := hcut
      have hbr := hb0
      clear B0
      have B0 := zh hbr
      clear hbr
      clear hb0 
      subst hs11 hs12
      obtain ⟨y, hy⟩ : ∃ y, Ty.exN l cc want = y := ⟨_, rfl⟩
      have HYE := zh hy
      clear hy
      go_upto_region 16 with fail
      refine wp_region_lit ?_
      refine wpList_mk (by kernel_rfl) #[] 40 0 0 (xo_empty (size := 4) Tryd.underlying38 (by kernel_rfl) rfl wc20) ?_
      intro g63 V2 hge h0 hb
      have hge2 := Nat.le_trans B0.out.size hge
      have B1 := zh hb
      have Ow63 : Hid (V2.ownsRow VB12.heap.size 40 4 (.slice (some ⟨g63, 0, none⟩) 0 0) 0 (fl rdC [])) := zh (own_new h0 hge2)
      clear hge hge2 h0 hb
      simp only [ptr, Act.put, zA]
      refine zr (.slice (some ⟨g63, 0, none⟩) 0 0) V2 rfl ?_
      simp only [Act.put, zA]
      refine wpList_nil ?_
      go_upto_region 17 with fail
      refine wp_region_lit ?_
      refine zr (.int .i64 0) V2 rfl ?_
      simp only [Act.put, zA]
      refine wpList_nil ?_
      have O22 := Ow63.out
      have C0_2 := zb B0 B1
      have O23 := C0_2.out
      go_wp2_with fail
      go_loopw [14, 15] (fun v p wr => ∃ j : Nat, j ≤ nr ∧ p = .int .i64 j ∧ wr.ownsRow VB12.heap.size 40 4 v j (fl rdC ((List.replicate j y).map Ty.rdX)) ∧ Below VB12.heap.size VB12 wr) (fun _ p _ => nr - (intOf p).toNat)
      case atStart => exact ⟨0, Nat.zero_le _, rfl, O22, O23⟩
      case round =>
       clear O23 O22
       obtain ⟨wq, rfl⟩ : ∃ wq : World, wq = wr := ⟨_, rfl⟩
       obtain ⟨j, hi, rfl, hOW, hb0⟩ := hrel
       have hbr := hb0
       clear B0
       have B0 := zh hbr
       clear hbr
       have OW := zh hOW
       clear hb0 hOW
       by_cases hjn : j < nr
       ·have hci25 : ((j : Int) < (nr : Int)) := by omega
        go_upto_region 18 with fail
        refine wp_region_lit ?_
        refine zr (.int .i64 (j : Int)) wq rfl ?_
        simp only [Act.put, zA]
        refine zr (.int .i64 (nr : Int)) wq rfl ?_
        simp only [Act.put, zA]
        refine zr (.bool true) wq (xo_lssT .i64 (j : Int) (nr : Int) (by omega) rfl rfl rfl) ?_
        simp only [Act.put, zA]
        refine wpList_nil ?_
        go_upto_region 20 with fail
        refine wp_region_lit ?_
        refine zr (u14) wq rfl ?_
        simp only [Act.put, zA]
        refine zr (.slice h.A h.n h.c) wq rfl ?_
        simp only [Act.put, zA]
        refine zr (.int .i64 (cc : Int)) wq rfl ?_
        simp only [Act.put, zA]
        refine zr (.int .i64 wz) wq rfl ?_
        simp only [Act.put, zA]
        refine wpList_call (by kernel_rfl) 22 Tryd.func22 (by kernel_rfl) (by kernel_rfl) _ _ #[.slice h.A h.n h.c, .int .i64 (cc : Int), .int .i64 wz] rfl (by kernel_rfl) ?_
        refine (extreme_any h.A h.n h.c l HST.out cc hcc4 wz want HWW.out y HYE.out wq ((HFR2.out.keep B0.out).row u h (l.map Qu.Cd.ci) HH.out HLM.out)).mono ?_
        rintro e V2 ⟨rfl, hb⟩
        have B1 := zh hb
        clear hb 
        refine ⟨_, rfl, ?_⟩
        simp only [Act.put, zA]
        refine wpList_mk (by kernel_rfl) ([(Ty.rdX y)].flatMap rdC).toArray 40 1 1 (xg_lit (E := rdC) (bytes := 32) (.agg #[.int .i64 0, .int .i64 0, .int .i64 0, .int .i64 0]) [.tmp 73] [(Ty.rdX y)] 1 Tryd.underlying38 (by kernel_rfl) rfl (by decide) (by decide) rfl rfl) ?_
        intro g74 V3 hge h0 hb
        have C0_2 := zb B0 B1
        have N26_0 : Hid (w.heap.size ≠ g74) := zh (xp_lt0 (heap_keep Fv0_2.out C0_2.out) hge)
        have N27_1 : Hid (b6 ≠ g74) := zh (xp_lt0 (heap_keep Fv3_6.out C0_2.out) hge)
        have N28_2 : Hid (b8 ≠ g74) := zh (xp_lt0 (heap_keep Fv9_8.out C0_2.out) hge)
        have Ge29 : Hid (V2.heap.size ≤ g74) := zh hge
        have B2 := zh hb
        have Fv30_74 : Hid (RowG rdC V3 g74 40 ([(Ty.rdX y)])) := zh (h0)
        have Lt31 : Hid (g74 < V3.heap.size) := zh (xp_lt Fv30_74.out)
        clear hge h0 hb
        simp only [ptr, Act.put, zA]
        have C1_3 := zb B1 B2
        have C0_3 := zb C0_2 B2
        refine wpList_app2 (size := 4) (by kernel_rfl) (.tmp 69) (.tmp 74) 38 rfl (.agg #[.int .i64 0, .int .i64 0, .int .i64 0, .int .i64 0]) 32 Tryd.underlying38 (by kernel_rfl) rfl (by decide) rfl (own_keep OW.out C1_3.out) (some ⟨g74, 0, none⟩) 1 1 (fl rdC ([(Ty.rdX y)])) rfl (RowG.sg (n := 1) (c := 1) Fv30_74.out (show ([(Ty.rdX y)]).length = 1 from rfl) (Nat.le_refl _) (by omega)).src (by unfold maxLen; omega) (by omega) C0_3.out.size ?_
        intro v75 X3_32 ho hb1 hg hloc
        have hox : X3_32.ownsRow VB12.heap.size 40 4 v75 (j + 1) (fl rdC (((List.replicate j y).map Ty.rdX) ++ ([(Ty.rdX y)]))) := by rw [fl_append]; exact ho
        have hbr := C0_3.out.trans hb1
        clear B0
        have B0 := zh hbr
        clear hbr
        have Ow75_33 := zh hox
        clear ho hox hb1 hg hloc
        simp only [ptr, Act.put, zA]
        refine zr (v75) X3_32 rfl ?_
        simp only [Act.put, zA]
        refine wpList_nil ?_
        have hown : X3_32.ownsRow VB12.heap.size 40 4 v75 (j + 1) (fl rdC ((List.replicate (j + 1) y).map Ty.rdX)) := by
         rw [List.replicate_succ', List.map_append]
         exact Ow75_33.out
        go_upto_region 19 with fail
        refine wp_region_lit ?_
        refine zr (.int .i64 (j : Int)) X3_32 rfl ?_
        simp only [Act.put, zA]
        refine zr (.int .i64 ((j + 1 : Nat) : Int)) X3_32 (xo_addI (j : Int) 1 ((j + 1 : Nat) : Int) (by omega) (by omega) (by omega) rfl rfl rfl) ?_
        simp only [Act.put, zA]
        refine zr (.int .i64 ((j + 1 : Nat) : Int)) X3_32 rfl ?_
        simp only [Act.put, zA]
        refine wpList_nil ?_
        have hq34 := B0.out
        go_wp2_with fail
        go_roundw
        case rel => exact ⟨j + 1, by omega, by go_num, hown, hq34⟩
        case measure => simp [intOf]; omega
       ·have hci25 : ¬ ((j : Int) < (nr : Int)) := by omega
        go_upto_region 18 with fail
        refine wp_region_lit ?_
        refine zr (.int .i64 (j : Int)) wq rfl ?_
        simp only [Act.put, zA]
        refine zr (.int .i64 (nr : Int)) wq rfl ?_
        simp only [Act.put, zA]
        refine zr (.bool false) wq (xo_lssF .i64 (j : Int) (nr : Int) (by omega) rfl rfl rfl) ?_
        simp only [Act.put, zA]
        refine wpList_nil ?_
        obtain rfl : nr = j := by omega
        have ho := OW.out
        obtain ⟨A3, c3, hav, hsr⟩ := Sg.own ho
        have HSR := zh hsr
        subst hav
        clear ho hsr
        have hte : Ty.toN ⟨kd, cl, kk, qf⟩ (List.replicate nr y) i = bv := by
                 have h1 : Ty.oneN ⟨kd, cl, kk, qf⟩ i ≠ 0 := fun e => hbv (by rw [← HBV.out, Ty.bd_eq, e, Nat.mul_zero])
                 have h2 := Ty.tight_one (q := ⟨kd, cl, kk, qf⟩) ⟨hk1, hk7⟩ (by show i < Ty.suN kd; rw [HSM.out]; exact hism) (by rw [Ty.ru_of HLV.out]; exact HC4.out) h1
                 rw [Ty.ru_of HLV.out, show (if (⟨kd, cl, kk, qf⟩ : Qu.Qy).kind = 7 then 0 else (⟨kd, cl, kk, qf⟩ : Qu.Qy).col) = cc from HCC.out, HVM.out, show (if 4 ≤ (⟨kd, cl, kk, qf⟩ : Qu.Qy).kind then some vm else none) = want from HWA.out, HYE.out] at h2
                 rw [Ty.to_rep, h2, ← Ty.bd_eq, HBV.out]
        have HTE := zh hte
        clear hte
        have hci26 : ¬ ((bv : Int) ≠ (bv : Int)) := by omega
        go_upto_region 21 with fail
        refine wp_floatP [0, 1, 2, 3, 4, 5, 6, 7, 8, 9] (l' := [_, _, _, _, _, _, _, _, _, _]) (by kernel_rfl) (lexOK_of (by kernel_rfl) (by kernel_rfl)) (ordOK_of (by kernel_rfl) (by kernel_rfl)) rfl rfl ?_
        simp only [List.getElem_toArray, List.getElem_cons_succ, List.getElem_cons_zero]
        intro V2 hb hSW
        have B1 := zh hb
        have HF2 := zh hSW
        clear hb hSW
        refine wpF_seg 3 (by kernel_rfl) ?_
        simp only [List.take_succ_cons, List.take_zero, List.drop_succ_cons, List.drop_zero]
        refine zv (.agg #[.int .i64 (kd : Int), .int .i64 (cl : Int), .int .i64 (kk : Int), .slice A2 qf.length c2]) (fun v hv => (xo_loadW b6 _ (heap_keep (heap_keep Fv3_6.out B0.out) (laterF hv)) Tryd.underlying24 rfl (by kernel_rfl) rfl rfl)) ?_
        simp only [Act.put, zA]
        refine zv (.slice A3 nr c3) (fun v hv => rfl) ?_
        simp only [Act.put, zA]
        refine zv (.int .i64 (i : Int)) (fun v hv => rfl) ?_
        simp only [Act.put, zA]
        refine wpQuiet_nil ?_
        refine wpF_call 21 Tryd.func21 (by kernel_rfl) (by kernel_rfl) _ _ #[.agg #[.int .i64 (kd : Int), .int .i64 (cl : Int), .int .i64 (kk : Int), .slice A2 qf.length c2], .slice A3 nr c3, .int .i64 (i : Int)] rfl (by kernel_rfl) (by kernel_rfl) HF2.out (fun V3 hb => ?_)
        have B2 := zh hb
        have HF3 := zh (HF2.out.ext hb)
        clear hb
        have C0_2 := zb B0 B1
        have C0_3 := zb C0_2 B2
        have C1_3 := zb B1 B2
        refine (total_as kd cl kk A2 qf.length c2 hs2 qf HOK.out A3 nr c3 (List.replicate nr y) i (by rw [HSM.out]; exact hism) bv HTE.out hb62 V3 (HFR2.out.keep C0_3.out) (HSR.out.keep C1_3.out)).mono ?_
        rintro e V4 ⟨rfl, hb⟩
        have B3 := zh hb
        have HF4 := zh (HF3.out.ext hb)
        refine ⟨_, rfl, hb, ?_⟩
        clear hb 
        simp only [Act.put, zA]
        refine wpF_seg 6 (by kernel_rfl) ?_
        simp only [List.take_succ_cons, List.take_zero, List.drop_succ_cons, List.drop_zero]
        refine zv (.pointer (some ⟨b8, 0, none⟩)) (fun v hv => (xo_fld0 0 b8 0 (by kernel_rfl) rfl rfl)) ?_
        simp only [Act.put, zA]
        refine zv (.slice Ad rld cd) (fun v hv => (xo_load1 ⟨b8, 0, none⟩ _ (cells_at (heap_keep (heap_keep Fv9_8.out B0.out) (laterF hv)) 0 rfl) Tryd.underlying27 rfl rfl rfl)) ?_
        simp only [Act.put, zA]
        refine zv (.int .i64 (i : Int)) (fun v hv => rfl) ?_
        simp only [Act.put, zA]
        refine zv (.pointer (some (gad Ad (i * 1)))) (fun v hv => (xg_idx .i64 ((HSd.out.keep B0.out).keep (laterF hv)) HE1.out Tryd.underlying27 (by kernel_rfl) rfl rfl rfl)) ?_
        simp only [Act.put, zA]
        refine zv (.int .i64 (bv : Int)) (fun v hv => (xg_load1 (E := zzC) (i := i) (j := 0) ((HSd.out.keep B0.out).keep (laterF hv)) HE1.out rfl rfl Tryd.underlying2 rfl rfl rfl)) ?_
        simp only [Act.put, zA]
        refine zv (.bool false) (fun v hv => (xo_neqF .i64 (bv : Int) (bv : Int) (by omega) rfl rfl rfl)) ?_
        simp only [Act.put, zA]
        refine wpQuiet_nil ?_
        refine wpF_nil (fun V5 hb => ?_)
        have B4 := zh hb
        clear hb
        clear HF2
        clear HF3
        clear HF4
        go_upto_region 8 with fail
        refine wp_region_lit ?_
        refine zr (.int .i64 (i : Int)) V5 rfl ?_
        simp only [Act.put, zA]
        refine zr (.int .i64 ((i + 1 : Nat) : Int)) V5 (xo_addI (i : Int) 1 ((i + 1 : Nat) : Int) (by omega) (by omega) (by omega) rfl rfl rfl) ?_
        simp only [Act.put, zA]
        refine zr (.int .i64 ((i + 1 : Nat) : Int)) V5 rfl ?_
        simp only [Act.put, zA]
        refine wpList_nil ?_
        have C0_4 := zb C0_3 B3
        have C0_5 := zb C0_4 B4
        have hq27 := C0_5.out
        go_wp2_with fail
        go_roundw
        case rel => exact ⟨i + 1, by omega, by go_num, hq27⟩
        case measure => simp [intOf]; omega
  ·have hci15 : ¬ ((i : Int) < (rld : Int)) := by omega
   go_upto_region 7 with fail
   refine wp_region_lit ?_
   refine zr (.int .i64 (i : Int)) wo rfl ?_
   simp only [Act.put, zA]
   refine zr (.pointer (some ⟨b8, 0, none⟩)) wo (xo_fld0 0 b8 0 (by kernel_rfl) rfl rfl) ?_
   simp only [Act.put, zA]
   refine zr (.slice Ad rld cd) wo (xo_load1 ⟨b8, 0, none⟩ _ (cells_at (heap_keep Fv9_8.out B0.out) 0 rfl) Tryd.underlying27 rfl rfl rfl) ?_
   simp only [Act.put, zA]
   refine zr (.int .i64 (rld : Int)) wo (xo_len Ad rld cd Tryd.underlying27 rfl rfl) ?_
   simp only [Act.put, zA]
   refine zr (.bool false) wo (xo_lssF .i64 (i : Int) (rld : Int) (by omega) rfl rfl rfl) ?_
   simp only [Act.put, zA]
   refine wpList_nil ?_
   have hrs := HRS.out
   have hci16 : ((rld : Int) = (sm : Int)) := by omega
   go_upto_region 23 with fail
   refine wp_floatP [0, 1, 2, 3, 4, 5, 6, 7, 8, 9] (l' := [_, _, _, _, _, _, _, _, _, _]) (by kernel_rfl) (lexOK_of (by kernel_rfl) (by kernel_rfl)) (ordOK_of (by kernel_rfl) (by kernel_rfl)) rfl rfl ?_
   simp only [List.getElem_toArray, List.getElem_cons_succ, List.getElem_cons_zero]
   intro V2 hb hSW
   have B1 := zh hb
   have HF2 := zh hSW
   clear hb hSW
   refine wpF_seg 4 (by kernel_rfl) ?_
   simp only [List.take_succ_cons, List.take_zero, List.drop_succ_cons, List.drop_zero]
   refine zv (.pointer (some ⟨b8, 0, none⟩)) (fun v hv => (xo_fld0 0 b8 0 (by kernel_rfl) rfl rfl)) ?_
   simp only [Act.put, zA]
   refine zv (.slice Ad rld cd) (fun v hv => (xo_load1 ⟨b8, 0, none⟩ _ (cells_at (heap_keep (heap_keep Fv9_8.out B0.out) (laterF hv)) 0 rfl) Tryd.underlying27 rfl rfl rfl)) ?_
   simp only [Act.put, zA]
   refine zv (.int .i64 (rld : Int)) (fun v hv => (xo_len Ad rld cd Tryd.underlying27 rfl rfl)) ?_
   simp only [Act.put, zA]
   refine zv (.agg #[.int .i64 (kd : Int), .int .i64 (cl : Int), .int .i64 (kk : Int), .slice A2 qf.length c2]) (fun v hv => (xo_loadW b6 _ (heap_keep (heap_keep Fv3_6.out B0.out) (laterF hv)) Tryd.underlying24 rfl (by kernel_rfl) rfl rfl)) ?_
   simp only [Act.put, zA]
   refine wpQuiet_nil ?_
   refine wpF_call 15 Tryd.func15 (by kernel_rfl) (by kernel_rfl) _ _ #[.agg #[.int .i64 (kd : Int), .int .i64 (cl : Int), .int .i64 (kk : Int), .slice A2 qf.length c2]] rfl (by kernel_rfl) (by kernel_rfl) HF2.out (fun V3 hb => ?_)
   have B2 := zh hb
   have HF3 := zh (HF2.out.ext hb)
   clear hb
   refine (sums_as (kd : Int) (cl : Int) (kk : Int) A2 qf.length c2 sm (by rw [Ty.suZ_nat hk1 hk7]; exact HSM.out) V3).mono ?_
   rintro e V4 ⟨rfl, hb⟩
   have B3 := zh hb
   have HF4 := zh (HF3.out.ext hb)
   refine ⟨_, rfl, hb, ?_⟩
   clear hb 
   simp only [Act.put, zA]
   refine wpF_seg 5 (by kernel_rfl) ?_
   simp only [List.take_succ_cons, List.take_zero, List.drop_succ_cons, List.drop_zero]
   refine zv (.bool true) (fun v hv => (xo_eqlT .i64 (rld : Int) (sm : Int) (by omega) rfl rfl rfl)) ?_
   simp only [Act.put, zA]
   refine zv (.bool true) (fun v hv => rfl) ?_
   simp only [Act.put, zA]
   refine zv (.bool true) (fun v hv => rfl) ?_
   simp only [Act.put, zA]
   refine zv (.bool true) (fun v hv => rfl) ?_
   simp only [Act.put, zA]
   refine zv (.bool true) (fun v hv => rfl) ?_
   simp only [Act.put, zA]
   refine wpQuiet_nil ?_
   refine wpF_nil (fun V5 hb => ?_)
   have B4 := zh hb
   clear hb
   clear HF2
   clear HF3
   clear HF4
   clear hrs
   have C0_2 := zb B0 B1
   have C0_3 := zb C0_2 B2
   have C0_4 := zb C0_3 B3
   have C0_5 := zb C0_4 B4
   have hbf := bel_step HBV12.out C0_5.out
   go_wp2_with fail
   go_ret
   exact ⟨rfl, hbf⟩
end Go.Proofs.YtbecajihgbbgjaaDoor
