/- Stage 14: law TypecheckSound. -/
import Derived.Test.YtbecajihgbbgjaaDoorP06
import Derived.Test.YtbecajihgbbgjaaDoorP14
namespace Go.Proofs.YtbecajihgbbgjaaDoor
set_option linter.unusedVariables false
set_option linter.unusedSimpArgs false
set_option linter.unusedSectionVars false
set_option maxRecDepth 8000
open Go.RowKit Go.Proofs.YtbecajihgbbgjaaDoor.K
attribute [local irreducible] wpList wpQuiet
namespace Ty
set_option linter.unusedVariables false
set_option linter.unusedSimpArgs false
set_option linter.unusedSectionVars false
def x4 (a b c d : Nat) : Nat → Nat
 | 0 => a
 | 1 => b
 | 2 => c
 | _ => d
/-- a reading's columns, put into their ranges -/
def xN (r : Rd) : Nat → Nat := x4 (andN r.who 15) (andN r.when_ 255) (andN r.kind 15) (andN r.value 255)
def mR (r : Rd) : Rd := rdX (xN r)
theorem ys_map (l : List Rd) : (l.map xN).map rdX = l.map mR := by rw [List.map_map]; rfl
theorem xN_le (r : Rd) (c : Nat) : xN r c ≤ Qu.maxN c := by
 unfold xN
 rcases (show c = 0 ∨ c = 1 ∨ c = 2 ∨ 3 ≤ c by omega) with rfl | rfl | rfl | h
 ·exact andN_le _ _ (by decide)
 ·exact andN_le _ _ (by decide)
 ·exact andN_le _ _ (by decide)
 ·have e1 : x4 (andN r.who 15) (andN r.when_ 255) (andN r.kind 15) (andN r.value 255) c = andN r.value 255 := by
   obtain ⟨d, rfl⟩ : ∃ d, c = d + 3 := ⟨c - 3, by omega⟩
   rfl
  have e2 : Qu.maxN c = 255 := by
   obtain ⟨d, rfl⟩ : ∃ d, c = d + 3 := ⟨c - 3, by omega⟩
   rfl
  rw [e1, e2]
  exact andN_le _ _ (by decide)
end Ty
theorem FsOwn.grown {w w' : World} {base b0 size n : Nat} {e : TypeId} {v u : Value} {fs : List (List Qu.Cd)} {cs : List Value} (h : FsOwn w base v fs) (ho : w.ownsRow b0 e size u n cs) (hg : w.grownBy w' u.ownBlock) (h1 : 44 ≠ e) (h2 : 49 ≠ e) : FsOwn w' base v fs := by
 obtain ⟨A, c, hs, hv, hown, hoc⟩ := h
 exact ⟨A, c, hs, hv, own_growT hown ho hg h1, hoc.grown ho hg h2⟩
set_option maxRecDepth 100000 in
set_option maxHeartbeats 64000000 in
theorem tSound_any (kind col k : Int) (A : Option Addr) (n c : Nat) (hs : List Hd) (fs : List (List Qu.Ci)) (Ax : Option Addr) (nx cx : Nat) (xs : List Rd) (r16 : Nat) (hr16 : r16 < 65536) (w : World) (hG : Gw5 w) (hC : Gc w) (hF : FsR w A n c hs fs) (hL : Sg rdC 4 w Ax nx cx xs) :
  Calls Tryd.prog 4 #[.agg #[.int .i64 kind, .int .i64 col, .int .i64 k, .slice A n c], .slice Ax nx cx, .int .u16 (r16 : Int)] w fun e w' => e = .returned (.bool true) ∧ Below w.heap.size w w' := by
 have HFR := zh hF
 have HG := zh hG
 have HGC := zh hC
 have hln := hF.sg.len
 have hlc := hF.sg.cap
 have hlt := hF.sg.top
 clear hF hG hC
 obtain ⟨⟨kd, cl, kk, qf⟩, hq0⟩ : ∃ q, Ty.evQ (mdQ kind col k fs) = q := ⟨_, rfl⟩
 have HOK : Hid (OkQ ⟨kd, cl, kk, qf⟩) := zh (by rw [← hq0]; exact evQ_ok (mdQ_ok kind col k fs))
 have hev : ¬ (4 ≤ kd ∧ kd ≤ 6 ∧ cl % 2 = 1) := by have h := evQ_even (mdQ kind col k fs); rw [hq0] at h; exact h
 have HQ0 := zh hq0
 clear hq0
 have hk1 : 1 ≤ kd := HOK.out.k1
 have hk7 : kd ≤ 7 := HOK.out.k7
 have hcl : cl < 4 := okQ_col HOK.out
 have hkk : kk ≤ 65536 := okQ_k HOK.out
 have HNF : Hid (qf.length = Qu.numF kd) := zh HOK.out.nf
 have hnf1 : 0 < qf.length := by rw [HNF.out]; unfold Qu.numF; split <;> decide
 have HLX := zh hL
 have hxn := hL.len
 have hxc := hL.cap
 have hxt := hL.top
 clear hL
 obtain ⟨mr, hmr⟩ : ∃ z, r16 % 1000 = z := ⟨_, rfl⟩
 have HMR := zh hmr
 clear hmr
 have hmr : mr < 1000 := by rw [← HMR.out]; exact Nat.mod_lt _ (by decide)
 obtain ⟨m, hm⟩ : ∃ z, (xs.take 40).length = z := ⟨_, rfl⟩
 have HM := zh hm
 clear hm
 have hm0 : m ≤ 40 ∧ m ≤ nx ∧ (40 ≤ m ∨ nx ≤ m) := by rw [← HM.out, List.length_take, hxn]; omega
 obtain ⟨hm40, hmn, hmm⟩ := hm0
 have HXN := zh hxn
 clear hxn
 obtain ⟨rr, hrr⟩ : ∃ z, m + mr = z := ⟨_, rfl⟩
 have HRR := zh hrr
 clear hrr
 have hrr : rr ≤ 1039 ∧ m ≤ rr := by rw [← HRR.out]; omega
 obtain ⟨hrr1, hrr2⟩ := hrr
 obtain ⟨sm, hsm⟩ : ∃ z, Ty.suN kd = z := ⟨_, rfl⟩
 have HSM := zh hsm
 clear hsm
 obtain ⟨⟨xsd, cod⟩, hck⟩ : ∃ r, Ty.ckN ⟨kd, cl, kk, qf⟩ rr = r := ⟨_, rfl⟩
 have HCKd := zh hck
 clear hck
 obtain ⟨rld, hrl⟩ : ∃ z, (Ty.zs xsd).length = z := ⟨_, rfl⟩
 have HRLd := zh hrl
 have HRXd : Hid (xsd.length = rld) := zh (by rw [← hrl, Ty.zs_len])
 have hr32d : rld ≤ 32 := by rw [← HRXd.out]; exact Ty.ck_len HCKd.out
 clear hrl
 have hf := Ty.ck_facts (q := ⟨kd, cl, kk, qf⟩) hev HCKd.out
 rw [show (⟨kd, cl, kk, qf⟩ : Qu.Qy).kind = kd from rfl, HSM.out, HRXd.out] at hf
 have HF := zh hf
 have hcod := hf.1
 clear hf
 go_enter Tryd.func4, Tryd.ntmps4
 go_upto_region 1 with fail
 refine wp_named1 (fun V1 hb g0 hlt => ?_)
 have B0 := zh hb
 have Fv0_3 : Hid (V1.heap[w.heap.size]? = some (.cells #[.int .i64 kind, .int .i64 col, .int .i64 k, .slice A n c] 24 (0, 0))) := zh (g0)
 have Gb0 : Hid (w.heap.size ≤ w.heap.size) := zh (by omega)
 clear hb g0 hlt
 have Lt0 : Hid (w.heap.size < V1.heap.size) := zh (xp_lt Fv0_3.out)
 refine wp_region_lit ?_
 refine wpList_call (by kernel_rfl) 10 Tryd.func10 (by kernel_rfl) (by kernel_rfl) _ _ #[] rfl (by kernel_rfl) ?_
 refine (sanity14_as V1 (HG.out.keep B0.out) (HGC.out.keep B0.out)).mono ?_
 rintro e V2 ⟨rfl, hb⟩
 have B1 := zh hb
 clear hb 
 refine ⟨_, rfl, ?_⟩
 simp only [Act.put, zA]
 refine zr (.bool true) V2 rfl ?_
 simp only [Act.put, zA]
 refine wpList_nil ?_
 go_upto_region 2 with fail
 refine wp_region_lit ?_
 refine zr (.agg #[.int .i64 kind, .int .i64 col, .int .i64 k, .slice A n c]) V2 (xo_loadW w.heap.size _ (heap_keep Fv0_3.out B1.out) Tryd.underlying24 rfl (by kernel_rfl) rfl rfl) ?_
 simp only [Act.put, zA]
 have C0_2 := zb B0 B1
 refine wpList_call (by kernel_rfl) 19 Tryd.func19 (by kernel_rfl) (by kernel_rfl) _ _ #[.agg #[.int .i64 kind, .int .i64 col, .int .i64 k, .slice A n c]] rfl (by kernel_rfl) ?_
 refine (made14_as kind col k A n c hs fs ⟨kd, cl, kk, qf⟩ HQ0.out V2 (HFR.out.keep C0_2.out)).mono ?_
 rintro e V3 ⟨A2, n2, c2, rfl, hfo0, hb⟩
 have B2 := zh hb
 have hn2 := (FsOwn.fsR hfo0).1
 subst hn2
 have hfo : FsOwn _ w.heap.size (.slice A2 qf.length c2) qf := FsOwn.mono hfo0 C0_2.out.size
 clear hfo0
 have HFO := zh hfo
 clear hb hfo
 refine ⟨_, rfl, ?_⟩
 simp only [Act.put, zA]
 refine wpList_mk (by kernel_rfl) #[] 40 0 0 (xo_empty (size := 4) Tryd.underlying38 (by kernel_rfl) rfl V3) ?_
 intro g19 V4 hge h0 hb
 have C0_3 := zb C0_2 B2
 have hge2 := Nat.le_trans C0_3.out.size hge
 have B3 := zh hb
 have Ow19 : Hid (V4.ownsRow w.heap.size 40 4 (.slice (some ⟨g19, 0, none⟩) 0 0) 0 (fl rdC [])) := zh (own_new h0 hge2)
 clear hge hge2 h0 hb
 simp only [ptr, Act.put, zA]
 refine wpList_new #[.int .i64 0, .int .i64 0, .int .i64 0, .slice none 0 0] 24 (by kernel_rfl) (xo_alloc #[.int .i64 0, .int .i64 0, .int .i64 0, .slice none 0 0] (by kernel_rfl) rfl) ?_
 intro b8 V5 hge h0 hb
 have C1_3 := zb B1 B2
 have C1_4 := zb C1_3 B3
 have N1_0 : Hid (w.heap.size ≠ b8) := zh (xp_lt0 (heap_keep Fv0_3.out C1_4.out) hge)
 have Ge2 : Hid (V4.heap.size ≤ b8) := zh hge
 have B4 := zh hb
 have Fv3_8 : Hid (V5.heap[b8]? = some (.cells #[.int .i64 0, .int .i64 0, .int .i64 0, .slice none 0 0] 24 (0, 0))) := zh (h0)
 have Lt4 : Hid (b8 < V5.heap.size) := zh (xp_lt Fv3_8.out)
 clear hge h0 hb
 simp only [ptr, Act.put, zA]
 refine wpList_storeW b8 #[.int .i64 0, .int .i64 0, .int .i64 0, .slice none 0 0] #[.int .i64 (kd : Int), .int .i64 (cl : Int), .int .i64 (kk : Int), .slice A2 qf.length c2] 24 (by kernel_rfl) Fv3_8.out (xo_storeW b8 #[.int .i64 0, .int .i64 0, .int .i64 0, .slice none 0 0] #[.int .i64 (kd : Int), .int .i64 (cl : Int), .int .i64 (kk : Int), .slice A2 qf.length c2] Fv3_8.out (by kernel_rfl) rfl (by simp [Value.oneCell']) rfl rfl rfl) ?_
 intro X5_5 h1 hfar hbel hsz
 have YOw19 : X5_5.ownsRow w.heap.size 40 4 (.slice (some ⟨g19, 0, none⟩) 0 0) 0 (fl rdC ([])) := own_farT (own_keep Ow19.out B4.out) Fv3_8.out (by decide) hfar
 have hbr := hbel _ _ Ge2.out B4.out
 clear B4
 have B4 := zh hbr
 clear hbr
 clear Ow19
 have Ow19 := zh YOw19
 clear YOw19
 clear Fv3_8
 have Fv3_8 : Hid (X5_5.heap[b8]? = some (.cells #[.int .i64 (kd : Int), .int .i64 (cl : Int), .int .i64 (kk : Int), .slice A2 qf.length c2] 24 (0, 0))) := zh (h1)
 have HszX5_5 := zh hsz
 clear h1 hfar hbel hsz
 simp only [ptr, Act.put, zA]
 refine zr (.slice (some ⟨g19, 0, none⟩) 0 0) X5_5 rfl ?_
 simp only [Act.put, zA]
 refine wpList_nil ?_
 go_upto_region 3 with fail
 refine wp_region_lit ?_
 refine zr (.int .i64 0) X5_5 rfl ?_
 simp only [Act.put, zA]
 refine wpList_nil ?_
 have C1_5 := zb C1_4 B4
 have O6 := (heap_keep Fv0_3.out C1_5.out)
 have O7 := Fv3_8.out
 have O8 := Ow19.out
 have C3_5 := zb B3 B4
 have O9 := (HFO.out.keep C3_5.out)
 have C0_4 := zb C0_3 B3
 have C0_5 := zb C0_4 B4
 have O10 := C0_5.out
 have Gr11 : Hid (w.heap.size ≤ b8) := zh (Nat.le_trans C0_4.out.size Ge2.out)
 go_wp2_with fail
 go_loopw [9, 10] (fun v p wr => ∃ i : Nat, i ≤ m ∧ p = .int .i64 i ∧ wr.ownsRow w.heap.size 40 4 v i (fl rdC ((xs.take i).map Ty.mR)) ∧ FsOwn wr w.heap.size (.slice A2 qf.length c2) qf ∧ wr.heap[w.heap.size]? = some (.cells #[.int .i64 kind, .int .i64 col, .int .i64 k, .slice A n c] 24 (0, 0)) ∧ wr.heap[b8]? = some (.cells #[.int .i64 (kd : Int), .int .i64 (cl : Int), .int .i64 (kk : Int), .slice A2 qf.length c2] 24 (0, 0)) ∧ Below w.heap.size w wr) (fun _ p _ => m - (intOf p).toNat)
 case atStart => exact ⟨0, Nat.zero_le _, rfl, O8, O9, O6, O7, O10⟩
 case round =>
  clear O6 O7 O10 O8 O9
  obtain ⟨wo, rfl⟩ : ∃ wo : World, wo = wr := ⟨_, rfl⟩
  obtain ⟨i, hi, rfl, hOW, hHFO, hr0, hr1, hb0⟩ := hrel
  have hbr := hb0
  clear B0
  have B0 := zh hbr
  clear hbr
  clear Fv0_3
  have Fv0_3 : Hid (wo.heap[w.heap.size]? = some (.cells #[.int .i64 kind, .int .i64 col, .int .i64 k, .slice A n c] 24 (0, 0))) := zh (hr0)
  clear Fv3_8
  have Fv3_8 : Hid (wo.heap[b8]? = some (.cells #[.int .i64 (kd : Int), .int .i64 (cl : Int), .int .i64 (kk : Int), .slice A2 qf.length c2] 24 (0, 0))) := zh (hr1)
  have OW := zh hOW
  have HFO := zh hHFO
  clear hb0 hr0 hr1 hOW hHFO
  by_cases hin : i < nx
  ·have hci13 : ((i : Int) < (nx : Int)) := by omega
   by_cases hi40 : i < 40
   ·have hci14 : ((i : Int) < 40) := by omega
    go_upto_region 4 with fail
    refine wp_region_lit ?_
    refine zr (.int .i64 (i : Int)) wo rfl ?_
    simp only [Act.put, zA]
    refine zr (.slice Ax nx cx) wo rfl ?_
    simp only [Act.put, zA]
    refine zr (.int .i64 (nx : Int)) wo (xo_len Ax nx cx Tryd.underlying38 rfl rfl) ?_
    simp only [Act.put, zA]
    refine zr (.bool true) wo (xo_lssT .i64 (i : Int) (nx : Int) (by omega) rfl rfl rfl) ?_
    simp only [Act.put, zA]
    refine zr (.bool true) wo rfl ?_
    simp only [Act.put, zA]
    refine zr (.int .i64 (i : Int)) wo rfl ?_
    simp only [Act.put, zA]
    refine zr (.bool true) wo (xo_lssT .i64 (i : Int) 40 (by omega) rfl rfl rfl) ?_
    simp only [Act.put, zA]
    refine zr (.bool true) wo rfl ?_
    simp only [Act.put, zA]
    refine wpList_nil ?_
    obtain ⟨r, hr⟩ : ∃ r, xs[i]? = some r := ⟨_, List.getElem?_eq_getElem (by have := HXN.out; omega)⟩
    have HE := zh hr
    clear hr
    go_upto_region 6 with fail
    refine wp_region_lit ?_
    refine zr (u9) wo rfl ?_
    simp only [Act.put, zA]
    refine zr (.slice Ax nx cx) wo rfl ?_
    simp only [Act.put, zA]
    refine zr (.int .i64 (i : Int)) wo rfl ?_
    simp only [Act.put, zA]
    refine zr (.pointer (some (gad Ax (i * 4)))) wo (xg_idx .i64 (HLX.out.keep B0.out) HE.out Tryd.underlying38 (by kernel_rfl) rfl rfl rfl) ?_
    simp only [Act.put, zA]
    refine zr (.agg #[.int .i64 r.who, .int .i64 r.when_, .int .i64 r.kind, .int .i64 r.value]) wo (xg_loadE (E := rdC) (HLX.out.keep B0.out) HE.out Tryd.underlying40 rfl (by kernel_rfl) rfl rfl) ?_
    simp only [Act.put, zA]
    refine wpList_call (by kernel_rfl) 20 Tryd.func20 (by kernel_rfl) (by kernel_rfl) _ _ #[.agg #[.int .i64 r.who, .int .i64 r.when_, .int .i64 r.kind, .int .i64 r.value]] rfl (by kernel_rfl) ?_
    refine (madeReading_any r wo).mono ?_
    rintro e V2 ⟨rfl, hb⟩
    have B1 := zh hb
    clear hb 
    refine ⟨_, rfl, ?_⟩
    simp only [Act.put, zA]
    refine wpList_mk (by kernel_rfl) ([(Ty.mR r)].flatMap rdC).toArray 40 1 1 (xg_lit (E := rdC) (bytes := 32) (.agg #[.int .i64 0, .int .i64 0, .int .i64 0, .int .i64 0]) [.tmp 35] [(Ty.mR r)] 1 Tryd.underlying38 (by kernel_rfl) rfl (by decide) (by decide) rfl rfl) ?_
    intro g36 V3 hge h0 hb
    have N15_0 : Hid (w.heap.size ≠ g36) := zh (xp_lt0 (heap_keep Fv0_3.out B1.out) hge)
    have N16_1 : Hid (b8 ≠ g36) := zh (xp_lt0 (heap_keep Fv3_8.out B1.out) hge)
    have Ge17 : Hid (V2.heap.size ≤ g36) := zh hge
    have B2 := zh hb
    have Fv18_36 : Hid (RowG rdC V3 g36 40 ([(Ty.mR r)])) := zh (h0)
    have Lt19 : Hid (g36 < V3.heap.size) := zh (xp_lt Fv18_36.out)
    clear hge h0 hb
    simp only [ptr, Act.put, zA]
    have C1_3 := zb B1 B2
    have C0_2 := zb B0 B1
    have C0_3 := zb C0_2 B2
    refine wpList_app2 (size := 4) (by kernel_rfl) (.tmp 30) (.tmp 36) 38 rfl (.agg #[.int .i64 0, .int .i64 0, .int .i64 0, .int .i64 0]) 32 Tryd.underlying38 (by kernel_rfl) rfl (by decide) rfl (own_keep OW.out C1_3.out) (some ⟨g36, 0, none⟩) 1 1 (fl rdC ([(Ty.mR r)])) rfl (RowG.sg (n := 1) (c := 1) Fv18_36.out (show ([(Ty.mR r)]).length = 1 from rfl) (Nat.le_refl _) (by omega)).src (by unfold maxLen; omega) (by omega) C0_3.out.size ?_
    intro v37 X3_20 ho hb1 hg hloc
    have hox : X3_20.ownsRow w.heap.size 40 4 v37 (i + 1) (fl rdC (((xs.take i).map Ty.mR) ++ ([(Ty.mR r)]))) := by rw [fl_append]; exact ho
    have YFv0_3 : X3_20.heap[w.heap.size]? = some (.cells #[.int .i64 kind, .int .i64 col, .int .i64 k, .slice A n c] 24 (0, 0)) := own_rowkeep (own_keep OW.out C1_3.out) hg (heap_keep Fv0_3.out C1_3.out) (by decide)
    have YFv3_8 : X3_20.heap[b8]? = some (.cells #[.int .i64 (kd : Int), .int .i64 (cl : Int), .int .i64 (kk : Int), .slice A2 qf.length c2] 24 (0, 0)) := own_rowkeep (own_keep OW.out C1_3.out) hg (heap_keep Fv3_8.out C1_3.out) (by decide)
    have YHFO : FsOwn X3_20 w.heap.size (.slice A2 qf.length c2) qf := FsOwn.grown (HFO.out.keep C1_3.out) (own_keep OW.out C1_3.out) hg (by decide) (by decide)
    have hbr := C0_3.out.trans hb1
    clear B0
    have B0 := zh hbr
    clear hbr
    have Ow37_21 := zh hox
    clear Fv0_3
    have Fv0_3 : Hid (X3_20.heap[w.heap.size]? = some (.cells #[.int .i64 kind, .int .i64 col, .int .i64 k, .slice A n c] 24 (0, 0))) := zh YFv0_3
    clear YFv0_3
    have Lt22 : Hid (w.heap.size < X3_20.heap.size) := zh (xp_lt Fv0_3.out)
    clear Fv3_8
    have Fv3_8 : Hid (X3_20.heap[b8]? = some (.cells #[.int .i64 (kd : Int), .int .i64 (cl : Int), .int .i64 (kk : Int), .slice A2 qf.length c2] 24 (0, 0))) := zh YFv3_8
    clear YFv3_8
    have Lt23 : Hid (b8 < X3_20.heap.size) := zh (xp_lt Fv3_8.out)
    clear HFO
    have HFO : Hid (FsOwn X3_20 w.heap.size (.slice A2 qf.length c2) qf) := zh YHFO
    clear YHFO
    clear ho hox hb1 hg hloc
    simp only [ptr, Act.put, zA]
    refine zr (v37) X3_20 rfl ?_
    simp only [Act.put, zA]
    refine wpList_nil ?_
    have hown : X3_20.ownsRow w.heap.size 40 4 v37 (i + 1) (fl rdC ((xs.take (i + 1)).map Ty.mR)) := by
     rw [map_take1 Ty.mR HE.out]
     exact Ow37_21.out
    go_upto_region 5 with fail
    refine wp_region_lit ?_
    refine zr (.int .i64 (i : Int)) X3_20 rfl ?_
    simp only [Act.put, zA]
    refine zr (.int .i64 ((i + 1 : Nat) : Int)) X3_20 (xo_addI (i : Int) 1 ((i + 1 : Nat) : Int) (by omega) (by omega) (by omega) rfl rfl rfl) ?_
    simp only [Act.put, zA]
    refine zr (.int .i64 ((i + 1 : Nat) : Int)) X3_20 rfl ?_
    simp only [Act.put, zA]
    refine wpList_nil ?_
    have kpHFO24 := HFO.out
    have hq25 := Fv0_3.out
    have hq26 := Fv3_8.out
    have hq27 := B0.out
    go_wp2_with fail
    go_roundw
    case rel => exact ⟨i + 1, by omega, by go_num, hown, kpHFO24, hq25, hq26, hq27⟩
    case measure => simp [intOf]; omega
   ·have hci14 : ¬ ((i : Int) < 40) := by omega
    go_upto_region 4 with fail
    refine wp_region_lit ?_
    refine zr (.int .i64 (i : Int)) wo rfl ?_
    simp only [Act.put, zA]
    refine zr (.slice Ax nx cx) wo rfl ?_
    simp only [Act.put, zA]
    refine zr (.int .i64 (nx : Int)) wo (xo_len Ax nx cx Tryd.underlying38 rfl rfl) ?_
    simp only [Act.put, zA]
    refine zr (.bool true) wo (xo_lssT .i64 (i : Int) (nx : Int) (by omega) rfl rfl rfl) ?_
    simp only [Act.put, zA]
    refine zr (.bool true) wo rfl ?_
    simp only [Act.put, zA]
    refine zr (.int .i64 (i : Int)) wo rfl ?_
    simp only [Act.put, zA]
    refine zr (.bool false) wo (xo_lssF .i64 (i : Int) 40 (by omega) rfl rfl rfl) ?_
    simp only [Act.put, zA]
    refine zr (.bool false) wo rfl ?_
    simp only [Act.put, zA]
    refine wpList_nil ?_
    obtain rfl : m = i := by omega
    have hlm : xs.take m = xs.take 40 := by rw [← HM.out, List.length_take, List.take_eq_take_iff]; omega
    have ho := OW.out
    rw [hlm] at ho
    obtain ⟨A3, c3, hav, hsr⟩ := Sg.own ho
    rw [← Ty.ys_map] at hsr
    obtain ⟨ys, hys⟩ : ∃ y, (xs.take 40).map Ty.xN = y := ⟨_, rfl⟩
    rw [hys] at hsr
    have HYS := zh hys
    have HSR := zh hsr
    have hyl : ys.length = m := by rw [← hys, List.length_map, HM.out]
    have HYL := zh hyl
    subst hav
    clear ho hlm hys hsr hyl
    obtain ⟨_, hs2, hfr⟩ := FsOwn.fsR HFO.out
    have HFR2 : Hid (FsR wo A2 qf.length c2 hs2 (qf.map (List.map Qu.Cd.ci))) := zh hfr
    clear hfr
    clear HFO
    go_upto_region 7 with fail
    refine wp_region_lit ?_
    refine zr (.slice A3 m c3) wo rfl ?_
    simp only [Act.put, zA]
    refine zr (.int .i64 (m : Int)) wo (xo_len A3 m c3 Tryd.underlying38 rfl rfl) ?_
    simp only [Act.put, zA]
    refine zr (.int .u16 (r16 : Int)) wo rfl ?_
    simp only [Act.put, zA]
    refine zr (.int .u16 (mr : Int)) wo (xo_remN .u16 r16 1000 mr (by omega) HMR.out rfl rfl rfl) ?_
    simp only [Act.put, zA]
    refine zr (.int .i64 (mr : Int)) wo (xo_cvt .u16 .i64 (mr : Int) (mr : Int) (by rw [IntKind.wrap_i64]; omega) Tryd.underlying3 Tryd.underlying25 rfl rfl) ?_
    simp only [Act.put, zA]
    refine zr (.int .i64 (rr : Int)) wo (xo_addI (m : Int) (mr : Int) (rr : Int) (by rw [← HRR.out]; exact Int.natCast_add m mr) (by omega) (by omega) rfl rfl rfl) ?_
    simp only [Act.put, zA]
    refine zr (.int .i64 (rr : Int)) wo rfl ?_
    simp only [Act.put, zA]
    refine wpList_nil ?_
    go_upto_region 8 with fail
    refine wp_region_lit ?_
    refine zr (.agg #[.int .i64 (kd : Int), .int .i64 (cl : Int), .int .i64 (kk : Int), .slice A2 qf.length c2]) wo (xo_loadW b8 _ Fv3_8.out Tryd.underlying24 rfl (by kernel_rfl) rfl rfl) ?_
    simp only [Act.put, zA]
    refine zr (.int .i64 (rr : Int)) wo rfl ?_
    simp only [Act.put, zA]
    refine wpList_call (by kernel_rfl) 11 Tryd.func11 (by kernel_rfl) (by kernel_rfl) _ _ #[.agg #[.int .i64 (kd : Int), .int .i64 (cl : Int), .int .i64 (kk : Int), .slice A2 qf.length c2], .int .i64 (rr : Int)] rfl (by kernel_rfl) ?_
    refine (check_ok kd cl kk A2 qf.length c2 hs2 qf HOK.out rr (by omega) (xsd, cod) HCKd.out wo HFR2.out (HG.out.keep B0.out) (HGC.out.keep B0.out)).mono ?_
    rintro e V2 ⟨Ad, nd, cd, rfl, hsg, hb⟩
    have B1 := zh hb
    obtain rfl : rld = nd := (HRLd.out).symm.trans hsg.len
    have HSd := zh hsg
    clear hb hsg
    refine ⟨_, rfl, ?_⟩
    simp only [Act.put, zA]
    refine zr (.tuple #[.agg #[.slice Ad rld cd], .int .i64 (cod : Int)]) V2 rfl ?_
    simp only [Act.put, zA]
    refine zr (.agg #[.slice Ad rld cd]) V2 rfl ?_
    simp only [Act.put, zA]
    refine zr (.int .i64 (cod : Int)) V2 rfl ?_
    simp only [Act.put, zA]
    refine wpList_new #[.slice none 0 0] 29 (by kernel_rfl) (xo_alloc #[.slice none 0 0] (by kernel_rfl) rfl) ?_
    intro b12 V3 hge h0 hb
    have N15_0 : Hid (w.heap.size ≠ b12) := zh (xp_lt0 (heap_keep Fv0_3.out B1.out) hge)
    have N16_1 : Hid (b8 ≠ b12) := zh (xp_lt0 (heap_keep Fv3_8.out B1.out) hge)
    have Ge17 : Hid (V2.heap.size ≤ b12) := zh hge
    have B2 := zh hb
    have Fv18_12 : Hid (V3.heap[b12]? = some (.cells #[.slice none 0 0] 29 (0, 0))) := zh (h0)
    have Lt19 : Hid (b12 < V3.heap.size) := zh (xp_lt Fv18_12.out)
    clear hge h0 hb
    simp only [ptr, Act.put, zA]
    refine wpList_storeW b12 #[.slice none 0 0] #[.slice Ad rld cd] 29 (by kernel_rfl) Fv18_12.out (xo_storeW b12 #[.slice none 0 0] #[.slice Ad rld cd] Fv18_12.out (by kernel_rfl) rfl (by simp [Value.oneCell']) rfl rfl rfl) ?_
    intro X3_20 h1 hfar hbel hsz
    have hbr := hbel _ _ Ge17.out B2.out
    clear B2
    have B2 := zh hbr
    clear hbr
    clear Fv18_12
    have Fv18_12 : Hid (X3_20.heap[b12]? = some (.cells #[.slice Ad rld cd] 29 (0, 0))) := zh (h1)
    have HszX3_20 := zh hsz
    clear h1 hfar hbel hsz
    simp only [ptr, Act.put, zA]
    refine zr (.int .i64 (cod : Int)) X3_20 rfl ?_
    simp only [Act.put, zA]
    refine wpList_nil ?_
    by_cases hc0 : cod = 0
    ·have hci21 : ¬ ((cod : Int) ≠ 0) := by omega
     go_upto_region 9 with fail
     refine wp_region_lit ?_
     refine zr (.int .i64 (cod : Int)) X3_20 rfl ?_
     simp only [Act.put, zA]
     refine zr (.bool false) X3_20 (xo_neqF .i64 (cod : Int) 0 (by omega) rfl rfl rfl) ?_
     simp only [Act.put, zA]
     refine wpList_nil ?_
     have hrs : rld = sm := (HF.out.2.2 hc0).1
     have HRS := zh hrs
     have hci22 : ¬ ((rld : Int) ≠ (sm : Int)) := by omega
     go_upto_region 11 with fail
     refine wp_floatP [0, 1, 2, 3, 4, 5] (l' := [_, _, _, _, _, _]) (by kernel_rfl) (lexOK_of (by kernel_rfl) (by kernel_rfl)) (ordOK_of (by kernel_rfl) (by kernel_rfl)) rfl rfl ?_
     simp only [List.getElem_toArray, List.getElem_cons_succ, List.getElem_cons_zero]
     intro V4 hb hSW
     have B3 := zh hb
     have HF4 := zh hSW
     clear hb hSW
     refine wpF_seg 4 (by kernel_rfl) ?_
     simp only [List.take_succ_cons, List.take_zero, List.drop_succ_cons, List.drop_zero]
     refine zv (.pointer (some ⟨b12, 0, none⟩)) (fun v hv => (xo_fld0 0 b12 0 (by kernel_rfl) rfl rfl)) ?_
     simp only [Act.put, zA]
     refine zv (.slice Ad rld cd) (fun v hv => (xo_load1 ⟨b12, 0, none⟩ _ (cells_at (heap_keep Fv18_12.out (laterF hv)) 0 rfl) Tryd.underlying27 rfl rfl rfl)) ?_
     simp only [Act.put, zA]
     refine zv (.int .i64 (rld : Int)) (fun v hv => (xo_len Ad rld cd Tryd.underlying27 rfl rfl)) ?_
     simp only [Act.put, zA]
     have C1_3 := zb B1 B2
     refine zv (.agg #[.int .i64 (kd : Int), .int .i64 (cl : Int), .int .i64 (kk : Int), .slice A2 qf.length c2]) (fun v hv => (xo_loadW b8 _ (heap_keep (heap_keep Fv3_8.out C1_3.out) (laterF hv)) Tryd.underlying24 rfl (by kernel_rfl) rfl rfl)) ?_
     simp only [Act.put, zA]
     refine wpQuiet_nil ?_
     refine wpF_call 15 Tryd.func15 (by kernel_rfl) (by kernel_rfl) _ _ #[.agg #[.int .i64 (kd : Int), .int .i64 (cl : Int), .int .i64 (kk : Int), .slice A2 qf.length c2]] rfl (by kernel_rfl) (by kernel_rfl) HF4.out (fun V5 hb => ?_)
     have B4 := zh hb
     have HF5 := zh (HF4.out.ext hb)
     clear hb
     refine (sums_as (kd : Int) (cl : Int) (kk : Int) A2 qf.length c2 sm (by rw [Ty.suZ_nat hk1 hk7]; exact HSM.out) V5).mono ?_
     rintro e V6 ⟨rfl, hb⟩
     have B5 := zh hb
     have HF6 := zh (HF5.out.ext hb)
     refine ⟨_, rfl, hb, ?_⟩
     clear hb 
     simp only [Act.put, zA]
     refine wpF_seg 1 (by kernel_rfl) ?_
     simp only [List.take_succ_cons, List.take_zero, List.drop_succ_cons, List.drop_zero]
     refine zv (.bool false) (fun v hv => (xo_neqF .i64 (rld : Int) (sm : Int) (by omega) rfl rfl rfl)) ?_
     simp only [Act.put, zA]
     refine wpQuiet_nil ?_
     refine wpF_nil (fun V7 hb => ?_)
     have B6 := zh hb
     clear hb
     clear HF4
     clear HF5
     clear HF6
     clear hrs
     go_upto_region 13 with fail
     refine wp_region_lit ?_
     refine zr (.int .i64 0) V7 rfl ?_
     simp only [Act.put, zA]
     refine wpList_nil ?_
     have C1_4 := zb C1_3 B3
     have C1_5 := zb C1_4 B4
     have C1_6 := zb C1_5 B5
     have C1_7 := zb C1_6 B6
     have O23 := (heap_keep Fv0_3.out C1_7.out)
     have O24 := (heap_keep Fv3_8.out C1_7.out)
     have C3_5 := zb B3 B4
     have C3_6 := zb C3_5 B5
     have C3_7 := zb C3_6 B6
     have O25 := (heap_keep Fv18_12.out C3_7.out)
     have O26 := (HFR2.out.keep C1_7.out)
     have O27 := (HSR.out.keep C1_7.out)
     have C2_4 := zb B2 B3
     have C2_5 := zb C2_4 B4
     have C2_6 := zb C2_5 B5
     have C2_7 := zb C2_6 B6
     have O28 := (HSd.out.keep C2_7.out)
     have C0_2 := zb B0 B1
     have C0_3 := zb C0_2 B2
     have C0_4 := zb C0_3 B3
     have C0_5 := zb C0_4 B4
     have C0_6 := zb C0_5 B5
     have C0_7 := zb C0_6 B6
     have O29 := C0_7.out
     have Gr30 : Hid (w.heap.size ≤ b12) := zh (Nat.le_trans C0_2.out.size Ge17.out)
     go_wp2_with fail
     go_loopw [14] (fun p wr => ∃ j : Nat, j ≤ rld ∧ p = .int .i64 j ∧ FsR wr A2 qf.length c2 hs2 (qf.map (List.map Qu.Cd.ci)) ∧ Sg rdC 4 wr A3 m c3 (ys.map Ty.rdX) ∧ Sg zzC 1 wr Ad rld cd (Ty.zs xsd) ∧ wr.heap[w.heap.size]? = some (.cells #[.int .i64 kind, .int .i64 col, .int .i64 k, .slice A n c] 24 (0, 0)) ∧ wr.heap[b8]? = some (.cells #[.int .i64 (kd : Int), .int .i64 (cl : Int), .int .i64 (kk : Int), .slice A2 qf.length c2] 24 (0, 0)) ∧ wr.heap[b12]? = some (.cells #[.slice Ad rld cd] 29 (0, 0)) ∧ Below w.heap.size w wr) (fun p _ => rld - (intOf p).toNat)
     case atStart => exact ⟨0, Nat.zero_le _, rfl, O26, O27, O28, O23, O24, O25, O29⟩
     case round =>
      clear O23 O24 O25 O29 O26 O27 O28
      obtain ⟨wq, rfl⟩ : ∃ wq : World, wq = wr := ⟨_, rfl⟩
      obtain ⟨j, hi, rfl, hHFR2, hHSR, hHSd, hr0, hr1, hr2, hb0⟩ := hrel
      have hbr := hb0
      clear B0
      have B0 := zh hbr
      clear hbr
      clear Fv0_3
      have Fv0_3 : Hid (wq.heap[w.heap.size]? = some (.cells #[.int .i64 kind, .int .i64 col, .int .i64 k, .slice A n c] 24 (0, 0))) := zh (hr0)
      clear Fv3_8
      have Fv3_8 : Hid (wq.heap[b8]? = some (.cells #[.int .i64 (kd : Int), .int .i64 (cl : Int), .int .i64 (kk : Int), .slice A2 qf.length c2] 24 (0, 0))) := zh (hr1)
      clear Fv18_12
      have Fv18_12 : Hid (wq.heap[b12]? = some (.cells #[.slice Ad rld cd] 29 (0, 0))) := zh (hr2)
      have HFR2 := zh hHFR2
      have HSR := zh hHSR
      have HSd := zh hHSd
      clear hb0 hr0 hr1 hr2 hHFR2 hHSR hHSd
      by_cases hjr : j < rld
      ·have hci32 : ((j : Int) < (rld : Int)) := by omega
       go_upto_region 14 with fail
       refine wp_region_lit ?_
       refine zr (.int .i64 (j : Int)) wq rfl ?_
       simp only [Act.put, zA]
       refine zr (.pointer (some ⟨b12, 0, none⟩)) wq (xo_fld0 0 b12 0 (by kernel_rfl) rfl rfl) ?_
       simp only [Act.put, zA]
       refine zr (.slice Ad rld cd) wq (xo_load1 ⟨b12, 0, none⟩ _ (cells_at Fv18_12.out 0 rfl) Tryd.underlying27 rfl rfl rfl) ?_
       simp only [Act.put, zA]
       refine zr (.int .i64 (rld : Int)) wq (xo_len Ad rld cd Tryd.underlying27 rfl rfl) ?_
       simp only [Act.put, zA]
       refine zr (.bool true) wq (xo_lssT .i64 (j : Int) (rld : Int) (by omega) rfl rfl rfl) ?_
       simp only [Act.put, zA]
       refine wpList_nil ?_
       have hjs : j < sm := by have := HRS.out; omega
       have h1 := HF.out.2.2 hc0
       have e1 := h1.2 j hjs
       obtain ⟨bv, hbv⟩ : ∃ z, Ty.bdN ⟨kd, cl, kk, qf⟩ rr j = z := ⟨_, rfl⟩
       have HBV := zh hbv
       clear hbv
       rw [HBV.out] at e1
       have hb62 := e1.2
       have HE1 := zh e1.1
       clear h1 e1
       obtain ⟨tt, htt⟩ : ∃ z, Ty.toN ⟨kd, cl, kk, qf⟩ ys j = z := ⟨_, rfl⟩
       have HTT := zh htt
       clear htt
       have htb : tt ≤ bv := by rw [← HTT.out, ← HBV.out]; exact Ty.to_bd (q := ⟨kd, cl, kk, qf⟩) ⟨hk1, hk7⟩ (by show j < Ty.suN kd; rw [HSM.out]; exact hjs) (fun x hx c => by rw [← HYS.out] at hx; obtain ⟨r, _, rfl⟩ := List.mem_map.1 hx; exact Ty.xN_le r c) (by rw [HYL.out]; exact hrr2)
       go_upto_region 16 with fail
       refine wp_region_lit ?_
       refine zr (.agg #[.int .i64 (kd : Int), .int .i64 (cl : Int), .int .i64 (kk : Int), .slice A2 qf.length c2]) wq (xo_loadW b8 _ Fv3_8.out Tryd.underlying24 rfl (by kernel_rfl) rfl rfl) ?_
       simp only [Act.put, zA]
       refine zr (.slice A3 m c3) wq rfl ?_
       simp only [Act.put, zA]
       refine zr (.int .i64 (j : Int)) wq rfl ?_
       simp only [Act.put, zA]
       refine wpList_call (by kernel_rfl) 21 Tryd.func21 (by kernel_rfl) (by kernel_rfl) _ _ #[.agg #[.int .i64 (kd : Int), .int .i64 (cl : Int), .int .i64 (kk : Int), .slice A2 qf.length c2], .slice A3 m c3, .int .i64 (j : Int)] rfl (by kernel_rfl) ?_
       refine (total_as kd cl kk A2 qf.length c2 hs2 qf HOK.out A3 m c3 ys j (by rw [HSM.out]; exact hjs) tt HTT.out (by omega) wq HFR2.out HSR.out).mono ?_
       rintro e V2 ⟨rfl, hb⟩
       have B1 := zh hb
       clear hb 
       refine ⟨_, rfl, ?_⟩
       simp only [Act.put, zA]
       refine zr (.int .i64 (tt : Int)) V2 rfl ?_
       simp only [Act.put, zA]
       refine wpList_nil ?_
       have hci33 : ¬ ((tt : Int) < 0) := by omega
       have hci34 : ¬ ((tt : Int) > (bv : Int)) := by omega
       have hci35 : ¬ ((bv : Int) ≥ 4611686018427387904) := by omega
       go_upto_region 17 with fail
       refine wp_region_lit ?_
       refine zr (.int .i64 (tt : Int)) V2 rfl ?_
       simp only [Act.put, zA]
       refine zr (.bool false) V2 (xo_lssF .i64 (tt : Int) 0 (by omega) rfl rfl rfl) ?_
       simp only [Act.put, zA]
       refine zr (.bool false) V2 rfl ?_
       simp only [Act.put, zA]
       refine zr (.int .i64 (tt : Int)) V2 rfl ?_
       simp only [Act.put, zA]
       refine zr (.pointer (some ⟨b12, 0, none⟩)) V2 (xo_fld0 0 b12 0 (by kernel_rfl) rfl rfl) ?_
       simp only [Act.put, zA]
       refine zr (.slice Ad rld cd) V2 (xo_load1 ⟨b12, 0, none⟩ _ (cells_at (heap_keep Fv18_12.out B1.out) 0 rfl) Tryd.underlying27 rfl rfl rfl) ?_
       simp only [Act.put, zA]
       refine zr (.int .i64 (j : Int)) V2 rfl ?_
       simp only [Act.put, zA]
       refine zr (.pointer (some (gad Ad (j * 1)))) V2 (xg_idx .i64 (HSd.out.keep B1.out) HE1.out Tryd.underlying27 (by kernel_rfl) rfl rfl rfl) ?_
       simp only [Act.put, zA]
       refine zr (.int .i64 (bv : Int)) V2 (xg_load1 (E := zzC) (i := j) (j := 0) (HSd.out.keep B1.out) HE1.out rfl rfl Tryd.underlying2 rfl rfl rfl) ?_
       simp only [Act.put, zA]
       refine zr (.bool false) V2 (xo_gtrF .i64 (tt : Int) (bv : Int) (by omega) rfl rfl rfl) ?_
       simp only [Act.put, zA]
       refine zr (.bool false) V2 rfl ?_
       simp only [Act.put, zA]
       refine zr (.bool false) V2 rfl ?_
       simp only [Act.put, zA]
       refine zr (.pointer (some ⟨b12, 0, none⟩)) V2 (xo_fld0 0 b12 0 (by kernel_rfl) rfl rfl) ?_
       simp only [Act.put, zA]
       refine zr (.slice Ad rld cd) V2 (xo_load1 ⟨b12, 0, none⟩ _ (cells_at (heap_keep Fv18_12.out B1.out) 0 rfl) Tryd.underlying27 rfl rfl rfl) ?_
       simp only [Act.put, zA]
       refine zr (.int .i64 (j : Int)) V2 rfl ?_
       simp only [Act.put, zA]
       refine zr (.pointer (some (gad Ad (j * 1)))) V2 (xg_idx .i64 (HSd.out.keep B1.out) HE1.out Tryd.underlying27 (by kernel_rfl) rfl rfl rfl) ?_
       simp only [Act.put, zA]
       refine zr (.int .i64 (bv : Int)) V2 (xg_load1 (E := zzC) (i := j) (j := 0) (HSd.out.keep B1.out) HE1.out rfl rfl Tryd.underlying2 rfl rfl rfl) ?_
       simp only [Act.put, zA]
       refine zr (.bool false) V2 (xo_geqF .i64 (bv : Int) 4611686018427387904 (by omega) rfl rfl rfl) ?_
       simp only [Act.put, zA]
       refine zr (.bool false) V2 rfl ?_
       simp only [Act.put, zA]
       refine wpList_nil ?_
       go_upto_region 15 with fail
       refine wp_region_lit ?_
       refine zr (.int .i64 (j : Int)) V2 rfl ?_
       simp only [Act.put, zA]
       refine zr (.int .i64 ((j + 1 : Nat) : Int)) V2 (xo_addI (j : Int) 1 ((j + 1 : Nat) : Int) (by omega) (by omega) (by omega) rfl rfl rfl) ?_
       simp only [Act.put, zA]
       refine zr (.int .i64 ((j + 1 : Nat) : Int)) V2 rfl ?_
       simp only [Act.put, zA]
       refine wpList_nil ?_
       have kpHFR236 := (HFR2.out.keep B1.out)
       have kpHSR37 := (HSR.out.keep B1.out)
       have kpHSd38 := (HSd.out.keep B1.out)
       have hq39 := (heap_keep Fv0_3.out B1.out)
       have hq40 := (heap_keep Fv3_8.out B1.out)
       have hq41 := (heap_keep Fv18_12.out B1.out)
       have C0_2 := zb B0 B1
       have hq42 := C0_2.out
       go_wp2_with fail
       go_roundw
       case rel => exact ⟨j + 1, by omega, by go_num, kpHFR236, kpHSR37, kpHSd38, hq39, hq40, hq41, hq42⟩
       case measure => simp [intOf]; omega
      ·have hci32 : ¬ ((j : Int) < (rld : Int)) := by omega
       go_upto_region 14 with fail
       refine wp_region_lit ?_
       refine zr (.int .i64 (j : Int)) wq rfl ?_
       simp only [Act.put, zA]
       refine zr (.pointer (some ⟨b12, 0, none⟩)) wq (xo_fld0 0 b12 0 (by kernel_rfl) rfl rfl) ?_
       simp only [Act.put, zA]
       refine zr (.slice Ad rld cd) wq (xo_load1 ⟨b12, 0, none⟩ _ (cells_at Fv18_12.out 0 rfl) Tryd.underlying27 rfl rfl rfl) ?_
       simp only [Act.put, zA]
       refine zr (.int .i64 (rld : Int)) wq (xo_len Ad rld cd Tryd.underlying27 rfl rfl) ?_
       simp only [Act.put, zA]
       refine zr (.bool false) wq (xo_lssF .i64 (j : Int) (rld : Int) (by omega) rfl rfl rfl) ?_
       simp only [Act.put, zA]
       refine wpList_nil ?_
       go_upto_region 19 with fail
       refine wp_region_lit ?_
       refine zr (.bool true) wq rfl ?_
       simp only [Act.put, zA]
       refine zr (.bool true) wq rfl ?_
       simp only [Act.put, zA]
       refine wpList_nil ?_
       have hbf := B0.out
       go_wp2_with fail
       go_ret
       exact ⟨rfl, hbf⟩
    ·have h141 : cod = 141 := by omega
     have hr0 : rld = 0 := HF.out.2.1 h141
     subst h141
     have hci21 : ((rld : Int) = 0) := by omega
     go_upto_region 9 with fail
     refine wp_region_lit ?_
     refine zr (.int .i64 141) X3_20 rfl ?_
     simp only [Act.put, zA]
     refine zr (.bool true) X3_20 (xo_neqT .i64 141 0 (by omega) rfl rfl rfl) ?_
     simp only [Act.put, zA]
     refine wpList_nil ?_
     go_upto_region 10 with fail
     refine wp_region_lit ?_
     refine zr (.int .i64 141) X3_20 rfl ?_
     simp only [Act.put, zA]
     refine zr (.bool true) X3_20 (xo_eqlT .i64 141 141 (by omega) rfl rfl rfl) ?_
     simp only [Act.put, zA]
     refine zr (.bool true) X3_20 rfl ?_
     simp only [Act.put, zA]
     refine zr (.pointer (some ⟨b12, 0, none⟩)) X3_20 (xo_fld0 0 b12 0 (by kernel_rfl) rfl rfl) ?_
     simp only [Act.put, zA]
     refine zr (.slice Ad rld cd) X3_20 (xo_load1 ⟨b12, 0, none⟩ _ (cells_at Fv18_12.out 0 rfl) Tryd.underlying27 rfl rfl rfl) ?_
     simp only [Act.put, zA]
     refine zr (.int .i64 (rld : Int)) X3_20 (xo_len Ad rld cd Tryd.underlying27 rfl rfl) ?_
     simp only [Act.put, zA]
     refine zr (.bool true) X3_20 (xo_eqlT .i64 (rld : Int) 0 (by omega) rfl rfl rfl) ?_
     simp only [Act.put, zA]
     refine zr (.bool true) X3_20 rfl ?_
     simp only [Act.put, zA]
     refine zr (.bool true) X3_20 rfl ?_
     simp only [Act.put, zA]
     refine zr (.bool true) X3_20 rfl ?_
     simp only [Act.put, zA]
     refine zr (.bool true) X3_20 rfl ?_
     simp only [Act.put, zA]
     refine zr (.bool true) X3_20 rfl ?_
     simp only [Act.put, zA]
     refine wpList_nil ?_
     have C0_2 := zb B0 B1
     have C0_3 := zb C0_2 B2
     have hbf := C0_3.out
     go_wp2_with fail
     go_ret
     exact ⟨rfl, hbf⟩
  ·have hci13 : ¬ ((i : Int) < (nx : Int)) := by omega
   go_upto_region 4 with fail
   refine wp_region_lit ?_
   refine zr (.int .i64 (i : Int)) wo rfl ?_
   simp only [Act.put, zA]
   refine zr (.slice Ax nx cx) wo rfl ?_
   simp only [Act.put, zA]
   refine zr (.int .i64 (nx : Int)) wo (xo_len Ax nx cx Tryd.underlying38 rfl rfl) ?_
   simp only [Act.put, zA]
   refine zr (.bool false) wo (xo_lssF .i64 (i : Int) (nx : Int) (by omega) rfl rfl rfl) ?_
   simp only [Act.put, zA]
   refine zr (.bool false) wo rfl ?_
   simp only [Act.put, zA]
   refine zl ?_
   try simp only [Act.put, zA]
   refine zl ?_
   try simp only [Act.put, zA]
   refine zr (.bool false) wo rfl ?_
   simp only [Act.put, zA]
   refine wpList_nil ?_
   obtain rfl : m = i := by omega
   have hlm : xs.take m = xs.take 40 := by rw [← HM.out, List.length_take, List.take_eq_take_iff]; omega
   have ho := OW.out
   rw [hlm] at ho
   obtain ⟨A3, c3, hav, hsr⟩ := Sg.own ho
   rw [← Ty.ys_map] at hsr
   obtain ⟨ys, hys⟩ : ∃ y, (xs.take 40).map Ty.xN = y := ⟨_, rfl⟩
   rw [hys] at hsr
   have HYS := zh hys
   have HSR := zh hsr
   have hyl : ys.length = m := by rw [← hys, List.length_map, HM.out]
   have HYL := zh hyl
   subst hav
   clear ho hlm hys hsr hyl
   obtain ⟨_, hs2, hfr⟩ := FsOwn.fsR HFO.out
   have HFR2 : Hid (FsR wo A2 qf.length c2 hs2 (qf.map (List.map Qu.Cd.ci))) := zh hfr
   clear hfr
   clear HFO
   go_upto_region 7 with fail
   refine wp_region_lit ?_
   refine zr (.slice A3 m c3) wo rfl ?_
   simp only [Act.put, zA]
   refine zr (.int .i64 (m : Int)) wo (xo_len A3 m c3 Tryd.underlying38 rfl rfl) ?_
   simp only [Act.put, zA]
   refine zr (.int .u16 (r16 : Int)) wo rfl ?_
   simp only [Act.put, zA]
   refine zr (.int .u16 (mr : Int)) wo (xo_remN .u16 r16 1000 mr (by omega) HMR.out rfl rfl rfl) ?_
   simp only [Act.put, zA]
   refine zr (.int .i64 (mr : Int)) wo (xo_cvt .u16 .i64 (mr : Int) (mr : Int) (by rw [IntKind.wrap_i64]; omega) Tryd.underlying3 Tryd.underlying25 rfl rfl) ?_
   simp only [Act.put, zA]
   refine zr (.int .i64 (rr : Int)) wo (xo_addI (m : Int) (mr : Int) (rr : Int) (by rw [← HRR.out]; exact Int.natCast_add m mr) (by omega) (by omega) rfl rfl rfl) ?_
   simp only [Act.put, zA]
   refine zr (.int .i64 (rr : Int)) wo rfl ?_
   simp only [Act.put, zA]
   refine wpList_nil ?_
   go_upto_region 8 with fail
   refine wp_region_lit ?_
   refine zr (.agg #[.int .i64 (kd : Int), .int .i64 (cl : Int), .int .i64 (kk : Int), .slice A2 qf.length c2]) wo (xo_loadW b8 _ Fv3_8.out Tryd.underlying24 rfl (by kernel_rfl) rfl rfl) ?_
   simp only [Act.put, zA]
   refine zr (.int .i64 (rr : Int)) wo rfl ?_
   simp only [Act.put, zA]
   refine wpList_call (by kernel_rfl) 11 Tryd.func11 (by kernel_rfl) (by kernel_rfl) _ _ #[.agg #[.int .i64 (kd : Int), .int .i64 (cl : Int), .int .i64 (kk : Int), .slice A2 qf.length c2], .int .i64 (rr : Int)] rfl (by kernel_rfl) ?_
   refine (check_ok kd cl kk A2 qf.length c2 hs2 qf HOK.out rr (by omega) (xsd, cod) HCKd.out wo HFR2.out (HG.out.keep B0.out) (HGC.out.keep B0.out)).mono ?_
   rintro e V2 ⟨Ad, nd, cd, rfl, hsg, hb⟩
   have B1 := zh hb
   obtain rfl : rld = nd := (HRLd.out).symm.trans hsg.len
   have HSd := zh hsg
   clear hb hsg
   refine ⟨_, rfl, ?_⟩
   simp only [Act.put, zA]
   refine zr (.tuple #[.agg #[.slice Ad rld cd], .int .i64 (cod : Int)]) V2 rfl ?_
   simp only [Act.put, zA]
   refine zr (.agg #[.slice Ad rld cd]) V2 rfl ?_
   simp only [Act.put, zA]
   refine zr (.int .i64 (cod : Int)) V2 rfl ?_
   simp only [Act.put, zA]
   refine wpList_new #[.slice none 0 0] 29 (by kernel_rfl) (xo_alloc #[.slice none 0 0] (by kernel_rfl) rfl) ?_
   intro b12 V3 hge h0 hb
   have N14_0 : Hid (w.heap.size ≠ b12) := zh (xp_lt0 (heap_keep Fv0_3.out B1.out) hge)
   have N15_1 : Hid (b8 ≠ b12) := zh (xp_lt0 (heap_keep Fv3_8.out B1.out) hge)
   have Ge16 : Hid (V2.heap.size ≤ b12) := zh hge
   have B2 := zh hb
   have Fv17_12 : Hid (V3.heap[b12]? = some (.cells #[.slice none 0 0] 29 (0, 0))) := zh (h0)
   have Lt18 : Hid (b12 < V3.heap.size) := zh (xp_lt Fv17_12.out)
   clear hge h0 hb
   simp only [ptr, Act.put, zA]
   refine wpList_storeW b12 #[.slice none 0 0] #[.slice Ad rld cd] 29 (by kernel_rfl) Fv17_12.out (xo_storeW b12 #[.slice none 0 0] #[.slice Ad rld cd] Fv17_12.out (by kernel_rfl) rfl (by simp [Value.oneCell']) rfl rfl rfl) ?_
   intro X3_19 h1 hfar hbel hsz
   have hbr := hbel _ _ Ge16.out B2.out
   clear B2
   have B2 := zh hbr
   clear hbr
   clear Fv17_12
   have Fv17_12 : Hid (X3_19.heap[b12]? = some (.cells #[.slice Ad rld cd] 29 (0, 0))) := zh (h1)
   have HszX3_19 := zh hsz
   clear h1 hfar hbel hsz
   simp only [ptr, Act.put, zA]
   refine zr (.int .i64 (cod : Int)) X3_19 rfl ?_
   simp only [Act.put, zA]
   refine wpList_nil ?_
   by_cases hc0 : cod = 0
   ·have hci20 : ¬ ((cod : Int) ≠ 0) := by omega
    go_upto_region 9 with fail
    refine wp_region_lit ?_
    refine zr (.int .i64 (cod : Int)) X3_19 rfl ?_
    simp only [Act.put, zA]
    refine zr (.bool false) X3_19 (xo_neqF .i64 (cod : Int) 0 (by omega) rfl rfl rfl) ?_
    simp only [Act.put, zA]
    refine wpList_nil ?_
    have hrs : rld = sm := (HF.out.2.2 hc0).1
    have HRS := zh hrs
    have hci21 : ¬ ((rld : Int) ≠ (sm : Int)) := by omega
    go_upto_region 11 with fail
    refine wp_floatP [0, 1, 2, 3, 4, 5] (l' := [_, _, _, _, _, _]) (by kernel_rfl) (lexOK_of (by kernel_rfl) (by kernel_rfl)) (ordOK_of (by kernel_rfl) (by kernel_rfl)) rfl rfl ?_
    simp only [List.getElem_toArray, List.getElem_cons_succ, List.getElem_cons_zero]
    intro V4 hb hSW
    have B3 := zh hb
    have HF4 := zh hSW
    clear hb hSW
    refine wpF_seg 4 (by kernel_rfl) ?_
    simp only [List.take_succ_cons, List.take_zero, List.drop_succ_cons, List.drop_zero]
    refine zv (.pointer (some ⟨b12, 0, none⟩)) (fun v hv => (xo_fld0 0 b12 0 (by kernel_rfl) rfl rfl)) ?_
    simp only [Act.put, zA]
    refine zv (.slice Ad rld cd) (fun v hv => (xo_load1 ⟨b12, 0, none⟩ _ (cells_at (heap_keep Fv17_12.out (laterF hv)) 0 rfl) Tryd.underlying27 rfl rfl rfl)) ?_
    simp only [Act.put, zA]
    refine zv (.int .i64 (rld : Int)) (fun v hv => (xo_len Ad rld cd Tryd.underlying27 rfl rfl)) ?_
    simp only [Act.put, zA]
    have C1_3 := zb B1 B2
    refine zv (.agg #[.int .i64 (kd : Int), .int .i64 (cl : Int), .int .i64 (kk : Int), .slice A2 qf.length c2]) (fun v hv => (xo_loadW b8 _ (heap_keep (heap_keep Fv3_8.out C1_3.out) (laterF hv)) Tryd.underlying24 rfl (by kernel_rfl) rfl rfl)) ?_
    simp only [Act.put, zA]
    refine wpQuiet_nil ?_
    refine wpF_call 15 Tryd.func15 (by kernel_rfl) (by kernel_rfl) _ _ #[.agg #[.int .i64 (kd : Int), .int .i64 (cl : Int), .int .i64 (kk : Int), .slice A2 qf.length c2]] rfl (by kernel_rfl) (by kernel_rfl) HF4.out (fun V5 hb => ?_)
    have B4 := zh hb
    have HF5 := zh (HF4.out.ext hb)
    clear hb
    refine (sums_as (kd : Int) (cl : Int) (kk : Int) A2 qf.length c2 sm (by rw [Ty.suZ_nat hk1 hk7]; exact HSM.out) V5).mono ?_
    rintro e V6 ⟨rfl, hb⟩
    have B5 := zh hb
    have HF6 := zh (HF5.out.ext hb)
    refine ⟨_, rfl, hb, ?_⟩
    clear hb 
    simp only [Act.put, zA]
    refine wpF_seg 1 (by kernel_rfl) ?_
    simp only [List.take_succ_cons, List.take_zero, List.drop_succ_cons, List.drop_zero]
    refine zv (.bool false) (fun v hv => (xo_neqF .i64 (rld : Int) (sm : Int) (by omega) rfl rfl rfl)) ?_
    simp only [Act.put, zA]
    refine wpQuiet_nil ?_
    refine wpF_nil (fun V7 hb => ?_)
    have B6 := zh hb
    clear hb
    clear HF4
    clear HF5
    clear HF6
    clear hrs
    go_upto_region 13 with fail
    refine wp_region_lit ?_
    refine zr (.int .i64 0) V7 rfl ?_
    simp only [Act.put, zA]
    refine wpList_nil ?_
    have C1_4 := zb C1_3 B3
    have C1_5 := zb C1_4 B4
    have C1_6 := zb C1_5 B5
    have C1_7 := zb C1_6 B6
    have O22 := (heap_keep Fv0_3.out C1_7.out)
    have O23 := (heap_keep Fv3_8.out C1_7.out)
    have C3_5 := zb B3 B4
    have C3_6 := zb C3_5 B5
    have C3_7 := zb C3_6 B6
    have O24 := (heap_keep Fv17_12.out C3_7.out)
    have O25 := (HFR2.out.keep C1_7.out)
    have O26 := (HSR.out.keep C1_7.out)
    have C2_4 := zb B2 B3
    have C2_5 := zb C2_4 B4
    have C2_6 := zb C2_5 B5
    have C2_7 := zb C2_6 B6
    have O27 := (HSd.out.keep C2_7.out)
    have C0_2 := zb B0 B1
    have C0_3 := zb C0_2 B2
    have C0_4 := zb C0_3 B3
    have C0_5 := zb C0_4 B4
    have C0_6 := zb C0_5 B5
    have C0_7 := zb C0_6 B6
    have O28 := C0_7.out
    have Gr29 : Hid (w.heap.size ≤ b12) := zh (Nat.le_trans C0_2.out.size Ge16.out)
    go_wp2_with fail
    go_loopw [14] (fun p wr => ∃ j : Nat, j ≤ rld ∧ p = .int .i64 j ∧ FsR wr A2 qf.length c2 hs2 (qf.map (List.map Qu.Cd.ci)) ∧ Sg rdC 4 wr A3 m c3 (ys.map Ty.rdX) ∧ Sg zzC 1 wr Ad rld cd (Ty.zs xsd) ∧ wr.heap[w.heap.size]? = some (.cells #[.int .i64 kind, .int .i64 col, .int .i64 k, .slice A n c] 24 (0, 0)) ∧ wr.heap[b8]? = some (.cells #[.int .i64 (kd : Int), .int .i64 (cl : Int), .int .i64 (kk : Int), .slice A2 qf.length c2] 24 (0, 0)) ∧ wr.heap[b12]? = some (.cells #[.slice Ad rld cd] 29 (0, 0)) ∧ Below w.heap.size w wr) (fun p _ => rld - (intOf p).toNat)
    case atStart => exact ⟨0, Nat.zero_le _, rfl, O25, O26, O27, O22, O23, O24, O28⟩
    case round =>
     clear O22 O23 O24 O28 O25 O26 O27
     obtain ⟨wq, rfl⟩ : ∃ wq : World, wq = wr := ⟨_, rfl⟩
     obtain ⟨j, hi, rfl, hHFR2, hHSR, hHSd, hr0, hr1, hr2, hb0⟩ := hrel
     have hbr := hb0
     clear B0
     have B0 := zh hbr
     clear hbr
     clear Fv0_3
     have Fv0_3 : Hid (wq.heap[w.heap.size]? = some (.cells #[.int .i64 kind, .int .i64 col, .int .i64 k, .slice A n c] 24 (0, 0))) := zh (hr0)
     clear Fv3_8
     have Fv3_8 : Hid (wq.heap[b8]? = some (.cells #[.int .i64 (kd : Int), .int .i64 (cl : Int), .int .i64 (kk : Int), .slice A2 qf.length c2] 24 (0, 0))) := zh (hr1)
     clear Fv17_12
     have Fv17_12 : Hid (wq.heap[b12]? = some (.cells #[.slice Ad rld cd] 29 (0, 0))) := zh (hr2)
     have HFR2 := zh hHFR2
     have HSR := zh hHSR
     have HSd := zh hHSd
     clear hb0 hr0 hr1 hr2 hHFR2 hHSR hHSd
     by_cases hjr : j < rld
     ·have hci31 : ((j : Int) < (rld : Int)) := by omega
      go_upto_region 14 with fail
      refine wp_region_lit ?_
      refine zr (.int .i64 (j : Int)) wq rfl ?_
      simp only [Act.put, zA]
      refine zr (.pointer (some ⟨b12, 0, none⟩)) wq (xo_fld0 0 b12 0 (by kernel_rfl) rfl rfl) ?_
      simp only [Act.put, zA]
      refine zr (.slice Ad rld cd) wq (xo_load1 ⟨b12, 0, none⟩ _ (cells_at Fv17_12.out 0 rfl) Tryd.underlying27 rfl rfl rfl) ?_
      simp only [Act.put, zA]
      refine zr (.int .i64 (rld : Int)) wq (xo_len Ad rld cd Tryd.underlying27 rfl rfl) ?_
      simp only [Act.put, zA]
      refine zr (.bool true) wq (xo_lssT .i64 (j : Int) (rld : Int) (by omega) rfl rfl rfl) ?_
      simp only [Act.put, zA]
      refine wpList_nil ?_
      have hjs : j < sm := by have := HRS.out; omega
      have h1 := HF.out.2.2 hc0
      have e1 := h1.2 j hjs
      obtain ⟨bv, hbv⟩ : ∃ z, Ty.bdN ⟨kd, cl, kk, qf⟩ rr j = z := ⟨_, rfl⟩
      have HBV := zh hbv
      clear hbv
      rw [HBV.out] at e1
      have hb62 := e1.2
      have HE1 := zh e1.1
      clear h1 e1
      obtain ⟨tt, htt⟩ : ∃ z, Ty.toN ⟨kd, cl, kk, qf⟩ ys j = z := ⟨_, rfl⟩
      have HTT := zh htt
      clear htt
      have htb : tt ≤ bv := by rw [← HTT.out, ← HBV.out]; exact Ty.to_bd (q := ⟨kd, cl, kk, qf⟩) ⟨hk1, hk7⟩ (by show j < Ty.suN kd; rw [HSM.out]; exact hjs) (fun x hx c => by rw [← HYS.out] at hx; obtain ⟨r, _, rfl⟩ := List.mem_map.1 hx; exact Ty.xN_le r c) (by rw [HYL.out]; exact hrr2)
      go_upto_region 16 with fail
      refine wp_region_lit ?_
      refine zr (.agg #[.int .i64 (kd : Int), .int .i64 (cl : Int), .int .i64 (kk : Int), .slice A2 qf.length c2]) wq (xo_loadW b8 _ Fv3_8.out Tryd.underlying24 rfl (by kernel_rfl) rfl rfl) ?_
      simp only [Act.put, zA]
      refine zr (.slice A3 m c3) wq rfl ?_
      simp only [Act.put, zA]
      refine zr (.int .i64 (j : Int)) wq rfl ?_
      simp only [Act.put, zA]
      refine wpList_call (by kernel_rfl) 21 Tryd.func21 (by kernel_rfl) (by kernel_rfl) _ _ #[.agg #[.int .i64 (kd : Int), .int .i64 (cl : Int), .int .i64 (kk : Int), .slice A2 qf.length c2], .slice A3 m c3, .int .i64 (j : Int)] rfl (by kernel_rfl) ?_
      refine (total_as kd cl kk A2 qf.length c2 hs2 qf HOK.out A3 m c3 ys j (by rw [HSM.out]; exact hjs) tt HTT.out (by omega) wq HFR2.out HSR.out).mono ?_
      rintro e V2 ⟨rfl, hb⟩
      have B1 := zh hb
      clear hb 
      refine ⟨_, rfl, ?_⟩
      simp only [Act.put, zA]
      refine zr (.int .i64 (tt : Int)) V2 rfl ?_
      simp only [Act.put, zA]
      refine wpList_nil ?_
      have hci32 : ¬ ((tt : Int) < 0) := by omega
      have hci33 : ¬ ((tt : Int) > (bv : Int)) := by omega
      have hci34 : ¬ ((bv : Int) ≥ 4611686018427387904) := by omega
      go_upto_region 17 with fail
      refine wp_region_lit ?_
      refine zr (.int .i64 (tt : Int)) V2 rfl ?_
      simp only [Act.put, zA]
      refine zr (.bool false) V2 (xo_lssF .i64 (tt : Int) 0 (by omega) rfl rfl rfl) ?_
      simp only [Act.put, zA]
      refine zr (.bool false) V2 rfl ?_
      simp only [Act.put, zA]
      refine zr (.int .i64 (tt : Int)) V2 rfl ?_
      simp only [Act.put, zA]
      refine zr (.pointer (some ⟨b12, 0, none⟩)) V2 (xo_fld0 0 b12 0 (by kernel_rfl) rfl rfl) ?_
      simp only [Act.put, zA]
      refine zr (.slice Ad rld cd) V2 (xo_load1 ⟨b12, 0, none⟩ _ (cells_at (heap_keep Fv17_12.out B1.out) 0 rfl) Tryd.underlying27 rfl rfl rfl) ?_
      simp only [Act.put, zA]
      refine zr (.int .i64 (j : Int)) V2 rfl ?_
      simp only [Act.put, zA]
      refine zr (.pointer (some (gad Ad (j * 1)))) V2 (xg_idx .i64 (HSd.out.keep B1.out) HE1.out Tryd.underlying27 (by kernel_rfl) rfl rfl rfl) ?_
      simp only [Act.put, zA]
      refine zr (.int .i64 (bv : Int)) V2 (xg_load1 (E := zzC) (i := j) (j := 0) (HSd.out.keep B1.out) HE1.out rfl rfl Tryd.underlying2 rfl rfl rfl) ?_
      simp only [Act.put, zA]
      refine zr (.bool false) V2 (xo_gtrF .i64 (tt : Int) (bv : Int) (by omega) rfl rfl rfl) ?_
      simp only [Act.put, zA]
      refine zr (.bool false) V2 rfl ?_
      simp only [Act.put, zA]
      refine zr (.bool false) V2 rfl ?_
      simp only [Act.put, zA]
      refine zr (.pointer (some ⟨b12, 0, none⟩)) V2 (xo_fld0 0 b12 0 (by kernel_rfl) rfl rfl) ?_
      simp only [Act.put, zA]
      refine zr (.slice Ad rld cd) V2 (xo_load1 ⟨b12, 0, none⟩ _ (cells_at (heap_keep Fv17_12.out B1.out) 0 rfl) Tryd.underlying27 rfl rfl rfl) ?_
      simp only [Act.put, zA]
      refine zr (.int .i64 (j : Int)) V2 rfl ?_
      simp only [Act.put, zA]
      refine zr (.pointer (some (gad Ad (j * 1)))) V2 (xg_idx .i64 (HSd.out.keep B1.out) HE1.out Tryd.underlying27 (by kernel_rfl) rfl rfl rfl) ?_
      simp only [Act.put, zA]
      refine zr (.int .i64 (bv : Int)) V2 (xg_load1 (E := zzC) (i := j) (j := 0) (HSd.out.keep B1.out) HE1.out rfl rfl Tryd.underlying2 rfl rfl rfl) ?_
      simp only [Act.put, zA]
      refine zr (.bool false) V2 (xo_geqF .i64 (bv : Int) 4611686018427387904 (by omega) rfl rfl rfl) ?_
      simp only [Act.put, zA]
      refine zr (.bool false) V2 rfl ?_
      simp only [Act.put, zA]
      refine wpList_nil ?_
      go_upto_region 15 with fail
      refine wp_region_lit ?_
      refine zr (.int .i64 (j : Int)) V2 rfl ?_
      simp only [Act.put, zA]
      refine zr (.int .i64 ((j + 1 : Nat) : Int)) V2 (xo_addI (j : Int) 1 ((j + 1 : Nat) : Int) (by omega) (by omega) (by omega) rfl rfl rfl) ?_
      simp only [Act.put, zA]
      refine zr (.int .i64 ((j + 1 : Nat) : Int)) V2 rfl ?_
      simp only [Act.put, zA]
      refine wpList_nil ?_
      have kpHFR235 := (HFR2.out.keep B1.out)
      have kpHSR36 := (HSR.out.keep B1.out)
      have kpHSd37 := (HSd.out.keep B1.out)
      have hq38 := (heap_keep Fv0_3.out B1.out)
      have hq39 := (heap_keep Fv3_8.out B1.out)
      have hq40 := (heap_keep Fv17_12.out B1.out)
      have C0_2 := zb B0 B1
      have hq41 := C0_2.out
      go_wp2_with fail
      go_roundw
      case rel => exact ⟨j + 1, by omega, by go_num, kpHFR235, kpHSR36, kpHSd37, hq38, hq39, hq40, hq41⟩
      case measure => simp [intOf]; omega
     ·have hci31 : ¬ ((j : Int) < (rld : Int)) := by omega
      go_upto_region 14 with fail
      refine wp_region_lit ?_
      refine zr (.int .i64 (j : Int)) wq rfl ?_
      simp only [Act.put, zA]
      refine zr (.pointer (some ⟨b12, 0, none⟩)) wq (xo_fld0 0 b12 0 (by kernel_rfl) rfl rfl) ?_
      simp only [Act.put, zA]
      refine zr (.slice Ad rld cd) wq (xo_load1 ⟨b12, 0, none⟩ _ (cells_at Fv17_12.out 0 rfl) Tryd.underlying27 rfl rfl rfl) ?_
      simp only [Act.put, zA]
      refine zr (.int .i64 (rld : Int)) wq (xo_len Ad rld cd Tryd.underlying27 rfl rfl) ?_
      simp only [Act.put, zA]
      refine zr (.bool false) wq (xo_lssF .i64 (j : Int) (rld : Int) (by omega) rfl rfl rfl) ?_
      simp only [Act.put, zA]
      refine wpList_nil ?_
      go_upto_region 19 with fail
      refine wp_region_lit ?_
      refine zr (.bool true) wq rfl ?_
      simp only [Act.put, zA]
      refine zr (.bool true) wq rfl ?_
      simp only [Act.put, zA]
      refine wpList_nil ?_
      have hbf := B0.out
      go_wp2_with fail
      go_ret
      exact ⟨rfl, hbf⟩
   ·have h141 : cod = 141 := by omega
    have hr0 : rld = 0 := HF.out.2.1 h141
    subst h141
    have hci20 : ((rld : Int) = 0) := by omega
    go_upto_region 9 with fail
    refine wp_region_lit ?_
    refine zr (.int .i64 141) X3_19 rfl ?_
    simp only [Act.put, zA]
    refine zr (.bool true) X3_19 (xo_neqT .i64 141 0 (by omega) rfl rfl rfl) ?_
    simp only [Act.put, zA]
    refine wpList_nil ?_
    go_upto_region 10 with fail
    refine wp_region_lit ?_
    refine zr (.int .i64 141) X3_19 rfl ?_
    simp only [Act.put, zA]
    refine zr (.bool true) X3_19 (xo_eqlT .i64 141 141 (by omega) rfl rfl rfl) ?_
    simp only [Act.put, zA]
    refine zr (.bool true) X3_19 rfl ?_
    simp only [Act.put, zA]
    refine zr (.pointer (some ⟨b12, 0, none⟩)) X3_19 (xo_fld0 0 b12 0 (by kernel_rfl) rfl rfl) ?_
    simp only [Act.put, zA]
    refine zr (.slice Ad rld cd) X3_19 (xo_load1 ⟨b12, 0, none⟩ _ (cells_at Fv17_12.out 0 rfl) Tryd.underlying27 rfl rfl rfl) ?_
    simp only [Act.put, zA]
    refine zr (.int .i64 (rld : Int)) X3_19 (xo_len Ad rld cd Tryd.underlying27 rfl rfl) ?_
    simp only [Act.put, zA]
    refine zr (.bool true) X3_19 (xo_eqlT .i64 (rld : Int) 0 (by omega) rfl rfl rfl) ?_
    simp only [Act.put, zA]
    refine zr (.bool true) X3_19 rfl ?_
    simp only [Act.put, zA]
    refine zr (.bool true) X3_19 rfl ?_
    simp only [Act.put, zA]
    refine zr (.bool true) X3_19 rfl ?_
    simp only [Act.put, zA]
    refine zr (.bool true) X3_19 rfl ?_
    simp only [Act.put, zA]
    refine zr (.bool true) X3_19 rfl ?_
    simp only [Act.put, zA]
    refine wpList_nil ?_
    have C0_2 := zb B0 B1
    have C0_3 := zb C0_2 B2
    have hbf := C0_3.out
    go_wp2_with fail
    go_ret
    exact ⟨rfl, hbf⟩
end Go.Proofs.YtbecajihgbbgjaaDoor
