/- Stage 14: law TypecheckUnsatisfiable. -/
import Derived.Test.YtbecajihgbbgjaaDoorV14
namespace Go.Proofs.YtbecajihgbbgjaaDoor
set_option linter.unusedVariables false
set_option linter.unusedSimpArgs false
set_option linter.unusedSectionVars false
set_option maxRecDepth 8000
open Go.RowKit Go.Proofs.YtbecajihgbbgjaaDoor.K
attribute [local irreducible] wpList wpQuiet
namespace Ty
set_option linter.unusedVariables false
set_option linter.unusedSimpArgs false
set_option linter.unusedSectionVars false
theorem un_ru {kd cl kk v : Nat} {fs : List (List Qu.Cd)} {l : List Qu.Cd} (hn : 0 < fs.length) (hv : v < 16) : ruN ⟨kd, cl, kk, fs.set 0 l⟩ v = l := by
 refine ru_of ?_
 show (fs.set 0 l)[v / 16]? = some l
 rw [show v / 16 = 0 by omega, List.getElem?_set, if_pos rfl, if_pos hn]
theorem un_mt (d : Qu.Cd) (m : Nat) (x : Nat → Nat) : mtN [d, ⟨d.col, d.hi + 1, m⟩] x = false := by
 cases h : mtN [d, ⟨d.col, d.hi + 1, m⟩] x with
 | false => rfl
 | true =>
  have h1 := List.all_eq_true.1 h d List.mem_cons_self
  have h2 := List.all_eq_true.1 h ⟨d.col, d.hi + 1, m⟩ (List.mem_cons_of_mem _ List.mem_cons_self)
  simp only [Bool.and_eq_true, decide_eq_true_eq] at h1 h2
  omega
end Ty
set_option maxRecDepth 100000 in
set_option maxHeartbeats 64000000 in
theorem tUnsat_any (kind col k : Int) (A : Option Addr) (n c : Nat) (hs : List Hd) (fs : List (List Qu.Ci)) (ea eb ec : Int) (r : Rd) (w : World) (hG : Gw5 w) (hC : Gc w) (hF : FsR w A n c hs fs) :
  Calls Tryd.prog 8 #[.agg #[.int .i64 kind, .int .i64 col, .int .i64 k, .slice A n c], .agg #[.int .i64 ea, .int .i64 eb, .int .i64 ec], .agg #[.int .i64 r.who, .int .i64 r.when_, .int .i64 r.kind, .int .i64 r.value]] w fun e w' => e = .returned (.bool true) ∧ Below w.heap.size w w' := by
 have HFR := zh hF
 have HG := zh hG
 have HGC := zh hC
 have hln := hF.sg.len
 have hlc := hF.sg.cap
 have hlt := hF.sg.top
 clear hF hG hC
 obtain ⟨⟨kd, cl, kk, qf⟩, hq0⟩ : ∃ q, Ty.evQ (mdQ kind col k fs) = q := ⟨_, rfl⟩
 have HOK : Hid (OkQ ⟨kd, cl, kk, qf⟩) := zh (by rw [← hq0]; exact evQ_ok (mdQ_ok kind col k fs))
 have hev : ¬ (4 ≤ kd ∧ kd ≤ 6 ∧ cl % 2 = 1) := by have h := evQ_even (mdQ kind col k fs); rw [hq0] at h; exact h
 have HQ0 := zh hq0
 clear hq0
 have hk1 : 1 ≤ kd := HOK.out.k1
 have hk7 : kd ≤ 7 := HOK.out.k7
 have hcl : cl < 4 := okQ_col HOK.out
 have hkk : kk ≤ 65536 := okQ_k HOK.out
 have HNF : Hid (qf.length = Qu.numF kd) := zh HOK.out.nf
 have hnf1 : 0 < qf.length := by rw [HNF.out]; unfold Qu.numF; split <;> decide
 obtain ⟨⟨dc, dl, dh⟩, hd⟩ : ∃ d, Qu.mdC ⟨ea, eb, ec⟩ = d := ⟨_, rfl⟩
 have hdo := Qu.mdC_ok ⟨ea, eb, ec⟩
 rw [hd] at hdo
 obtain ⟨hd1, hd2, hd3⟩ : dc < 4 ∧ dl ≤ dh ∧ dh ≤ Qu.maxN dc := hdo
 have HDO : Hid (OkC ⟨dc, dl, dh⟩) := zh ⟨hd1, hd2, hd3⟩
 have HD := zh hd
 clear hd
 obtain ⟨mx, hmx⟩ : ∃ z, Qu.maxN dc = z := ⟨_, rfl⟩
 have HMX := zh hmx
 clear hmx
 have hmx : mx ≤ 255 := by rw [← HMX.out]; exact Ty.maxN_le dc
 rw [HMX.out] at hd3
 obtain ⟨lo, hlo⟩ : ∃ z, dh + 1 = z := ⟨_, rfl⟩
 have HLO := zh hlo
 have hlo2 : lo = dh + 1 := hlo.symm
 clear hlo
 obtain ⟨x0, hx0⟩ : ∃ x, andN r.who 15 = x := ⟨_, rfl⟩
 obtain ⟨x1, hx1⟩ : ∃ x, andN r.when_ 255 = x := ⟨_, rfl⟩
 obtain ⟨x2, hx2⟩ : ∃ x, andN r.kind 15 = x := ⟨_, rfl⟩
 obtain ⟨x3, hx3⟩ : ∃ x, andN r.value 255 = x := ⟨_, rfl⟩
 have HX4 := zh (And.intro hx0 (And.intro hx1 (And.intro hx2 hx3)))
 clear hx0 hx1 hx2 hx3
 go_enter Tryd.func8, Tryd.ntmps8
 go_upto_region 1 with fail
 refine wp_named3 (fun V1 hb g0 g1 g2 hlt => ?_)
 have B0 := zh hb
 have Fv0_3 : Hid (V1.heap[w.heap.size]? = some (.cells #[.int .i64 kind, .int .i64 col, .int .i64 k, .slice A n c] 24 (0, 0))) := zh (g0)
 have Fv1_4 : Hid (V1.heap[(w.heap.size + 1)]? = some (.cells #[.int .i64 ea, .int .i64 eb, .int .i64 ec] 49 (0, 0))) := zh (g1)
 have Fv2_5 : Hid (V1.heap[(w.heap.size + 1 + 1)]? = some (.cells #[.int .i64 r.who, .int .i64 r.when_, .int .i64 r.kind, .int .i64 r.value] 40 (0, 0))) := zh (g2)
 have Nb0_1 : Hid (w.heap.size ≠ (w.heap.size + 1)) := zh (by omega)
 have Nb0_2 : Hid (w.heap.size ≠ (w.heap.size + 1 + 1)) := zh (by omega)
 have Nb1_2 : Hid ((w.heap.size + 1) ≠ (w.heap.size + 1 + 1)) := zh (by omega)
 have Gb0 : Hid (w.heap.size ≤ w.heap.size) := zh (by omega)
 have Gb1 : Hid (w.heap.size ≤ (w.heap.size + 1)) := zh (by omega)
 have Gb2 : Hid (w.heap.size ≤ (w.heap.size + 1 + 1)) := zh (by omega)
 clear hb g0 g1 g2 hlt
 have Lt0 : Hid (w.heap.size < V1.heap.size) := zh (xp_lt Fv0_3.out)
 have Lt1 : Hid ((w.heap.size + 1) < V1.heap.size) := zh (xp_lt Fv1_4.out)
 have Lt2 : Hid ((w.heap.size + 1 + 1) < V1.heap.size) := zh (xp_lt Fv2_5.out)
 refine wp_region_lit ?_
 refine wpList_call (by kernel_rfl) 10 Tryd.func10 (by kernel_rfl) (by kernel_rfl) _ _ #[] rfl (by kernel_rfl) ?_
 refine (sanity14_as V1 (HG.out.keep B0.out) (HGC.out.keep B0.out)).mono ?_
 rintro e V2 ⟨rfl, hb⟩
 have B1 := zh hb
 clear hb 
 refine ⟨_, rfl, ?_⟩
 simp only [Act.put, zA]
 refine zr (.bool true) V2 rfl ?_
 simp only [Act.put, zA]
 refine wpList_nil ?_
 go_upto_region 2 with fail
 refine Fl.wp_floatN (by kernel_rfl) (lexOK_of (by kernel_rfl) (by kernel_rfl)) (Fl.chainOF_of (by kernel_rfl)) ?_
 intro V3 hb hSW
 have B2 := zh hb
 have HF3 := zh hSW
 clear hb hSW
 refine Fl.wpF_seg 1 (by kernel_rfl) ?_
 simp only [List.take_succ_cons, List.take_zero, List.drop_succ_cons, List.drop_zero]
 refine zv (.agg #[.int .i64 kind, .int .i64 col, .int .i64 k, .slice A n c]) (fun v hv => (xo_loadW w.heap.size _ (heap_keep (heap_keep Fv0_3.out B1.out) (laterF hv)) Tryd.underlying24 rfl (by kernel_rfl) rfl rfl)) ?_
 simp only [Act.put, zA]
 refine wpQuiet_nil ?_
 refine Fl.wpF_call 19 Tryd.func19 (by kernel_rfl) (by kernel_rfl) _ _ #[.agg #[.int .i64 kind, .int .i64 col, .int .i64 k, .slice A n c]] rfl (by kernel_rfl) (by kernel_rfl) HF3.out (fun V4 hb => ?_)
 have B3 := zh hb
 have HF4 := zh (HF3.out.ext hb)
 clear hb
 have C0_2 := zb B0 B1
 have C0_3 := zb C0_2 B2
 have C0_4 := zb C0_3 B3
 refine (made14_as kind col k A n c hs fs ⟨kd, cl, kk, qf⟩ HQ0.out V4 (HFR.out.keep C0_4.out)).mono ?_
 rintro e V5 ⟨A2, n2, c2, rfl, hfo0, hb⟩
 have B4 := zh hb
 have HF5 := zh (HF4.out.ext hb)
 have hfo : FsX _ w.heap.size (.slice A2 n2 c2) qf.length := ⟨qf, FsOwn.mono hfo0 C0_4.out.size, rfl, HOK.out.ok⟩
 clear hfo0
 have HFO := zh hfo
 refine ⟨_, rfl, hb, ?_⟩
 clear hb hfo
 simp only [Act.put, zA]
 refine Fl.wpF_seg 1 (by kernel_rfl) ?_
 simp only [List.take_succ_cons, List.take_zero, List.drop_succ_cons, List.drop_zero]
 refine zv (.agg #[.int .i64 ea, .int .i64 eb, .int .i64 ec]) (fun v hv => (xo_loadW (w.heap.size + 1) _ (heap_keep (heap_keep Fv1_4.out B1.out) (laterF hv)) Tryd.underlying49 rfl (by kernel_rfl) rfl rfl)) ?_
 simp only [Act.put, zA]
 refine wpQuiet_nil ?_
 refine Fl.wpF_call 23 Tryd.func23 (by kernel_rfl) (by kernel_rfl) _ _ #[.agg #[.int .i64 ea, .int .i64 eb, .int .i64 ec]] rfl (by kernel_rfl) (by kernel_rfl) HF5.out (fun V6 hb => ?_)
 have B5 := zh hb
 have HF6 := zh (HF5.out.ext hb)
 clear hb
 refine (madeCond_d ea eb ec dc dl dh HD.out V6).mono ?_
 rintro e V7 ⟨rfl, hb⟩
 have B6 := zh hb
 have HF7 := zh (HF6.out.ext hb)
 refine ⟨_, rfl, hb, ?_⟩
 clear hb 
 simp only [Act.put, zA]
 refine Fl.wpF_make (.cells #[.int .i64 0, .int .i64 0, .int .i64 0, .slice none 0 0] 24, fun b => ptr b) (by kernel_rfl) (by kernel_rfl) (by kernel_rfl) (fun V => xo_alloc #[.int .i64 0, .int .i64 0, .int .i64 0, .slice none 0 0] (by kernel_rfl) rfl) (fun b8 V8 hb h0 hbz => ?_)
 have Hz8 := zh hbz
 have Ge3 : Hid (V2.heap.size ≤ b8) := zh hbz
 have B7 := zh hb
 have HF8 := zh (HF7.out.ext hb)
 have Fv4_8 : Hid (V8.heap[b8]? = some (.cells #[.int .i64 0, .int .i64 0, .int .i64 0, .slice none 0 0] 24 (0, 0))) := zh (h0)
 have N5 : Hid (w.heap.size ≠ b8) := zh (Nat.ne_of_lt (Nat.lt_of_lt_of_le (xp_lt (heap_keep Fv0_3.out B1.out)) hbz))
 have N6 : Hid ((w.heap.size + 1) ≠ b8) := zh (Nat.ne_of_lt (Nat.lt_of_lt_of_le (xp_lt (heap_keep Fv1_4.out B1.out)) hbz))
 have N7 : Hid ((w.heap.size + 1 + 1) ≠ b8) := zh (Nat.ne_of_lt (Nat.lt_of_lt_of_le (xp_lt (heap_keep Fv2_5.out B1.out)) hbz))
 clear hb h0 hbz
 simp only [ptr, Act.put, zA]
 refine Fl.wpF_make (.cells #[.int .i64 0, .int .i64 0, .int .i64 0] 49, fun b => ptr b) (by kernel_rfl) (by kernel_rfl) (by kernel_rfl) (fun V => xo_alloc #[.int .i64 0, .int .i64 0, .int .i64 0] (by kernel_rfl) rfl) (fun b9 V9 hb h0 hbz => ?_)
 have Hz9 := zh hbz
 have Ge8 : Hid (V2.heap.size ≤ b9) := zh hbz
 have B8 := zh hb
 have HF9 := zh (HF8.out.ext hb)
 have Fv9_9 : Hid (V9.heap[b9]? = some (.cells #[.int .i64 0, .int .i64 0, .int .i64 0] 49 (0, 0))) := zh (h0)
 have N10 : Hid (w.heap.size ≠ b9) := zh (Nat.ne_of_lt (Nat.lt_of_lt_of_le (xp_lt (heap_keep Fv0_3.out B1.out)) hbz))
 have N11 : Hid ((w.heap.size + 1) ≠ b9) := zh (Nat.ne_of_lt (Nat.lt_of_lt_of_le (xp_lt (heap_keep Fv1_4.out B1.out)) hbz))
 have N12 : Hid ((w.heap.size + 1 + 1) ≠ b9) := zh (Nat.ne_of_lt (Nat.lt_of_lt_of_le (xp_lt (heap_keep Fv2_5.out B1.out)) hbz))
 have N13 : Hid (b8 ≠ b9) := zh (ne_types (heap_keep Fv4_8.out B8.out) Fv9_9.out (by decide))
 clear hb h0 hbz
 simp only [ptr, Act.put, zA]
 refine Fl.wpF_store (fun V => V.setRow b8 #[.int .i64 (kd : Int), .int .i64 (cl : Int), .int .i64 (kk : Int), .slice A2 n2 c2]) (by kernel_rfl) (by kernel_rfl) (by kernel_rfl) (by kernel_rfl) (fun V hV => xo_storeW (x := .tmp 8) (y := .tmp 16) b8 #[.int .i64 0, .int .i64 0, .int .i64 0, .slice none 0 0] #[.int .i64 (kd : Int), .int .i64 (cl : Int), .int .i64 (kk : Int), .slice A2 n2 c2] (heap_keep (heap_keep Fv4_8.out B8.out) hV) (by kernel_rfl) rfl (by simp [Value.oneCell']) rfl rfl rfl) (fun V hV => ⟨⟨_, bel_setRow (HF9.out.ext hV).below Hz8.out _⟩, rfl⟩) (fun V hV => ?_)
 have hU : Below V2.heap.size V2 (V.setRow b8 #[.int .i64 (kd : Int), .int .i64 (cl : Int), .int .i64 (kk : Int), .slice A2 n2 c2]) := bel_setRow (HF9.out.ext hV).below Hz8.out _
 have YFv4_8 : (V.setRow b8 #[.int .i64 (kd : Int), .int .i64 (cl : Int), .int .i64 (kk : Int), .slice A2 n2 c2]).heap[b8]? = some (.cells #[.int .i64 (kd : Int), .int .i64 (cl : Int), .int .i64 (kk : Int), .slice A2 n2 c2] 24 (0, 0)) := setRow_heap V b8 _ #[.int .i64 (kd : Int), .int .i64 (cl : Int), .int .i64 (kk : Int), .slice A2 n2 c2] _ _ (heap_keep (heap_keep Fv4_8.out B8.out) hV)
 have YFv9_9 : (V.setRow b8 #[.int .i64 (kd : Int), .int .i64 (cl : Int), .int .i64 (kk : Int), .slice A2 n2 c2]).heap[b9]? = some (.cells #[.int .i64 0, .int .i64 0, .int .i64 0] 49 (0, 0)) := heap_farRow (heap_keep Fv9_9.out hV) (Ne.symm N13.out) #[.int .i64 (kd : Int), .int .i64 (cl : Int), .int .i64 (kk : Int), .slice A2 n2 c2]
 have hfar : ∀ k o, k ≠ b8 → V.heap[k]? = some o → (V.setRow b8 #[.int .i64 (kd : Int), .int .i64 (cl : Int), .int .i64 (kk : Int), .slice A2 n2 c2]).heap[k]? = some o := fun k o hk h0 => heap_farRow h0 hk _
 have C5_7 := zb B5 B6
 have C5_8 := zb C5_7 B7
 have C5_9 := zb C5_8 B8
 have YHFO : FsX (V.setRow b8 #[.int .i64 (kd : Int), .int .i64 (cl : Int), .int .i64 (kk : Int), .slice A2 n2 c2]) w.heap.size (.slice A2 n2 c2) qf.length := FsX.store (((HFO.out.keep C5_9.out)).keep hV) (heap_keep (heap_keep Fv4_8.out B8.out) hV) (by decide) (by decide) hfar
 have HFn := zh (show SL V2 (V.setRow b8 #[.int .i64 (kd : Int), .int .i64 (cl : Int), .int .i64 (kk : Int), .slice A2 n2 c2]) from ⟨⟨_, hU⟩, rfl⟩)
 clear hfar
 generalize V.setRow b8 #[.int .i64 (kd : Int), .int .i64 (cl : Int), .int .i64 (kk : Int), .slice A2 n2 c2] = Y9s at *
 clear hV
 try clear HF3
 try clear HF4
 try clear HF5
 try clear HF6
 try clear HF7
 try clear HF8
 try clear HF9
 have hbr := hU
 clear B2
 have B2 := zh hbr
 clear hbr
 clear hU
 clear Fv4_8
 have Fv4_8 : Hid (Y9s.heap[b8]? = some (.cells #[.int .i64 (kd : Int), .int .i64 (cl : Int), .int .i64 (kk : Int), .slice A2 n2 c2] 24 (0, 0))) := zh YFv4_8
 clear YFv4_8
 clear Fv9_9
 have Fv9_9 : Hid (Y9s.heap[b9]? = some (.cells #[.int .i64 0, .int .i64 0, .int .i64 0] 49 (0, 0))) := zh YFv9_9
 clear YFv9_9
 clear HFO
 have HFO := zh YHFO
 clear YHFO
 have HF3 := HFn
 clear HFn
 simp only [Act.put, zA]
 refine Fl.wpF_last (fun V => V.setRow b9 #[.int .i64 (dc : Int), .int .i64 (dl : Int), .int .i64 (dh : Int)]) (by kernel_rfl) (by kernel_rfl) (by kernel_rfl) (fun V hV => xo_storeW (x := .tmp 9) (y := .tmp 18) b9 #[.int .i64 0, .int .i64 0, .int .i64 0] #[.int .i64 (dc : Int), .int .i64 (dl : Int), .int .i64 (dh : Int)] (heap_keep Fv9_9.out hV) (by kernel_rfl) rfl (by simp [Value.oneCell']) rfl rfl rfl) (fun V hV => ⟨⟨_, bel_setRow (HF3.out.ext hV).below Hz9.out _⟩, rfl⟩) (fun V hV X3 hX => ?_)
 have hU : Below V2.heap.size V2 X3 := (bel_setRow (HF3.out.ext hV).below Hz9.out _).trans (hX.mono (bel_setRow (HF3.out.ext hV).below Hz9.out #[.int .i64 (dc : Int), .int .i64 (dl : Int), .int .i64 (dh : Int)]).size)
 have YFv4_8 : X3.heap[b8]? = some (.cells #[.int .i64 (kd : Int), .int .i64 (cl : Int), .int .i64 (kk : Int), .slice A2 n2 c2] 24 (0, 0)) := heap_keep (heap_farRow (heap_keep Fv4_8.out hV) N13.out #[.int .i64 (dc : Int), .int .i64 (dl : Int), .int .i64 (dh : Int)]) hX
 have YFv9_9 : X3.heap[b9]? = some (.cells #[.int .i64 (dc : Int), .int .i64 (dl : Int), .int .i64 (dh : Int)] 49 (0, 0)) := heap_keep (setRow_heap V b9 _ #[.int .i64 (dc : Int), .int .i64 (dl : Int), .int .i64 (dh : Int)] _ _ (heap_keep Fv9_9.out hV)) hX
 have hfar : ∀ k o, k ≠ b9 → V.heap[k]? = some o → (V.setRow b9 #[.int .i64 (dc : Int), .int .i64 (dl : Int), .int .i64 (dh : Int)]).heap[k]? = some o := fun k o hk h0 => heap_farRow h0 hk _
 have YHFO : FsX X3 w.heap.size (.slice A2 n2 c2) qf.length := (FsX.storeAny (d := ⟨dc, dl, dh⟩) HDO.out ((HFO.out).keep hV) (heap_keep Fv9_9.out hV) hfar (setRow_heap V b9 _ #[.int .i64 (dc : Int), .int .i64 (dl : Int), .int .i64 (dh : Int)] _ _ (heap_keep Fv9_9.out hV))).keep hX
 clear hV hX hfar
 try clear HF3
 have hbr := hU
 clear B2
 have B2 := zh hbr
 clear hbr
 clear hU
 clear Fv4_8
 have Fv4_8 : Hid (X3.heap[b8]? = some (.cells #[.int .i64 (kd : Int), .int .i64 (cl : Int), .int .i64 (kk : Int), .slice A2 n2 c2] 24 (0, 0))) := zh YFv4_8
 clear YFv4_8
 clear Fv9_9
 have Fv9_9 : Hid (X3.heap[b9]? = some (.cells #[.int .i64 (dc : Int), .int .i64 (dl : Int), .int .i64 (dh : Int)] 49 (0, 0))) := zh YFv9_9
 clear YFv9_9
 clear HFO
 have HFO := zh YHFO
 clear YHFO
 simp only [Act.put, zA]
 have Lt14 : Hid (b8 < X3.heap.size) := zh (xp_lt Fv4_8.out)
 have Lt15 : Hid (b9 < X3.heap.size) := zh (xp_lt Fv9_9.out)
 obtain ⟨qx, hfo, hqx, hqok⟩ := HFO.out
 have hn2 := (FsOwn.fsR hfo).1
 subst hn2
 have HOKX : Hid (OkQ ⟨kd, cl, kk, qx⟩) := zh (HOK.out.fs hqx hqok)
 have hnx1 : 0 < qx.length := by rw [hqx]; exact hnf1
 clear hqx hqok
 obtain ⟨qf2, hq2⟩ : ∃ z, qx.set 0 [Qu.Cd.mk dc dl dh, Qu.Cd.mk dc lo mx] = z := ⟨_, rfl⟩
 have HQ2 := zh hq2
 have hql : qf2.length = qx.length := by rw [← hq2, List.length_set]
 have HQL := zh hql
 clear hq2 hql
 have HUN : Hid (lo ≤ mx → OkQ ⟨kd, cl, kk, qf2⟩) := zh (fun hle => by rw [← HQ2.out]; exact HOKX.out.set0 ⟨(by show 2 ≤ 3; decide), fun c hc => by
   have h1 : OkC ⟨dc, dl, dh⟩ := ⟨hd1, hd2, by show dh ≤ Qu.maxN dc; rw [HMX.out]; exact hd3⟩
   have h2 : OkC ⟨dc, lo, mx⟩ := ⟨hd1, hle, by show mx ≤ Qu.maxN dc; rw [HMX.out]; exact Nat.le_refl _⟩
   rcases List.mem_cons.1 hc with e | e
   ·rw [e]; exact h1
   ·rcases List.mem_cons.1 e with e | e
    ·rw [e]; exact h2
    ·cases e⟩)
 have HZ : Hid (∀ v, v < 16 → Ty.bdN ⟨kd, cl, kk, qf2⟩ 65536 v = 0) := zh (fun v hv => Ty.bd_unsat (by rw [← HQ2.out, Ty.un_ru hnx1 hv, hlo2]; exact Ty.unsat_two ⟨dc, dl, dh⟩ mx hd1) 65536)
 obtain ⟨sm, hsm⟩ : ∃ z, Ty.suN kd = z := ⟨_, rfl⟩
 have HSM := zh hsm
 clear hsm
 obtain ⟨⟨xsd, cod⟩, hck⟩ : ∃ r, Ty.ckN ⟨kd, cl, kk, qf2⟩ 65536 = r := ⟨_, rfl⟩
 have HCKd := zh hck
 clear hck
 obtain ⟨rld, hrl⟩ : ∃ z, (Ty.zs xsd).length = z := ⟨_, rfl⟩
 have HRLd := zh hrl
 have HRXd : Hid (xsd.length = rld) := zh (by rw [← hrl, Ty.zs_len])
 have hr32d : rld ≤ 32 := by rw [← HRXd.out]; exact Ty.ck_len HCKd.out
 clear hrl
 have hct : cod = 0 := Ty.ck_all_lt (q := ⟨kd, cl, kk, qf2⟩) hev HCKd.out (fun v hv => by
   by_cases h3 : kd = 3
   ·rw [HZ.out v (by have : v < Ty.suN kd := hv; rw [h3] at this; exact Nat.lt_of_lt_of_le this (by decide))]; decide
   ·exact Ty.bd_lt (q := ⟨kd, cl, kk, qf2⟩) h3 (Nat.le_refl _) v)
 subst hct
 have hf := (Ty.ck_facts (q := ⟨kd, cl, kk, qf2⟩) hev HCKd.out).2.2 rfl
 rw [show (⟨kd, cl, kk, qf2⟩ : Qu.Qy).kind = kd from rfl, HSM.out, HRXd.out] at hf
 have HF := zh hf.2
 have HRS := zh hf.1
 clear hf
 obtain ⟨g2, cur, hs2, rfl, hge2, hrow, hcur, hoc⟩ := FsOwn.raw hfo hnx1
 clear hfo HFO
 have Fg2 : Hid (X3.heap[g2]? = some (.cells cur 44 (0, 0))) := zh hrow
 have Gg2 := zh hge2
 have HCU := zh hcur
 have HOC := zh hoc
 clear hrow hge2 hcur hoc
 have C1_3 := zb B1 B2
 have Ng2_0 : Hid (w.heap.size ≠ g2) := zh (ne_types (heap_keep Fv0_3.out C1_3.out) Fg2.out (by decide))
 have Ng2_1 : Hid ((w.heap.size + 1) ≠ g2) := zh (ne_types (heap_keep Fv1_4.out C1_3.out) Fg2.out (by decide))
 have Ng2_2 : Hid ((w.heap.size + 1 + 1) ≠ g2) := zh (ne_types (heap_keep Fv2_5.out C1_3.out) Fg2.out (by decide))
 have Ng2_3 : Hid (b8 ≠ g2) := zh (ne_types Fv4_8.out Fg2.out (by decide))
 have Ng2_4 : Hid (b9 ≠ g2) := zh (ne_types Fv9_9.out Fg2.out (by decide))
 go_upto_region 3 with fail
 refine Fl.wp_floatN (by kernel_rfl) (lexOK_of (by kernel_rfl) (by kernel_rfl)) (Fl.chainOF_of (by kernel_rfl)) ?_
 intro V4 hb hSW
 have B3 := zh hb
 have HF4 := zh hSW
 clear hb hSW
 refine Fl.wpF_seg 7 (by kernel_rfl) ?_
 simp only [List.take_succ_cons, List.take_zero, List.drop_succ_cons, List.drop_zero]
 refine zv (.pointer (some ⟨b9, 0, none⟩)) (fun v hv => (xo_fld0 0 b9 0 (by kernel_rfl) rfl rfl)) ?_
 simp only [Act.put, zA]
 refine zv (.int .i64 (dc : Int)) (fun v hv => (xo_load1 ⟨b9, 0, none⟩ _ (cells_at (heap_keep Fv9_9.out (laterF hv)) 0 rfl) Tryd.underlying3 rfl rfl rfl)) ?_
 simp only [Act.put, zA]
 refine zv (.pointer (some ⟨b9, 2, none⟩)) (fun v hv => (xo_fld0 2 b9 2 (by kernel_rfl) rfl rfl)) ?_
 simp only [Act.put, zA]
 refine zv (.int .i64 (dh : Int)) (fun v hv => (xo_load1 ⟨b9, 2, none⟩ _ (cells_at (heap_keep Fv9_9.out (laterF hv)) 2 rfl) Tryd.underlying3 rfl rfl rfl)) ?_
 simp only [Act.put, zA]
 refine zv (.int .i64 (lo : Int)) (fun v hv => (xo_addI (dh : Int) 1 (lo : Int) (by omega) (by omega) (by omega) rfl rfl rfl)) ?_
 simp only [Act.put, zA]
 refine zv (.pointer (some ⟨b9, 0, none⟩)) (fun v hv => (xo_fld0 0 b9 0 (by kernel_rfl) rfl rfl)) ?_
 simp only [Act.put, zA]
 refine zv (.int .i64 (dc : Int)) (fun v hv => (xo_load1 ⟨b9, 0, none⟩ _ (cells_at (heap_keep Fv9_9.out (laterF hv)) 0 rfl) Tryd.underlying3 rfl rfl rfl)) ?_
 simp only [Act.put, zA]
 refine wpQuiet_nil ?_
 refine Fl.wpF_call 26 Tryd.func26 (by kernel_rfl) (by kernel_rfl) _ _ #[.int .i64 (dc : Int)] rfl (by kernel_rfl) (by kernel_rfl) HF4.out (fun V5 hb => ?_)
 have B4 := zh hb
 have HF5 := zh (HF4.out.ext hb)
 clear hb
 refine (max_as dc mx hd1 HMX.out V5).mono ?_
 rintro e _ ⟨rfl, rfl⟩
 refine ⟨_, rfl, Below.refl _ _, ?_⟩
 simp only [Act.put, zA]
 refine Fl.wpF_seg 1 (by kernel_rfl) ?_
 simp only [List.take_succ_cons, List.take_zero, List.drop_succ_cons, List.drop_zero]
 refine zv (.agg #[.int .i64 (dc : Int), .int .i64 (lo : Int), .int .i64 (mx : Int)]) (fun v hv => (by unfold execOp; go_simp <;> rfl)) ?_
 simp only [Act.put, zA]
 refine wpQuiet_nil ?_
 refine Fl.wpF_make (.cells #[.int .i64 0, .int .i64 0, .int .i64 0] 49, fun b => ptr b) (by kernel_rfl) (by kernel_rfl) (by kernel_rfl) (fun V => xo_alloc #[.int .i64 0, .int .i64 0, .int .i64 0] (by kernel_rfl) rfl) (fun b10 V6 hb h0 hbz => ?_)
 have Hz10 := zh hbz
 have Ge16 : Hid (X3.heap.size ≤ b10) := zh hbz
 have B5 := zh hb
 have HF6 := zh (HF5.out.ext hb)
 have Fv17_10 : Hid (V6.heap[b10]? = some (.cells #[.int .i64 0, .int .i64 0, .int .i64 0] 49 (0, 0))) := zh (h0)
 have N18 : Hid (w.heap.size ≠ b10) := zh (Nat.ne_of_lt (Nat.lt_of_lt_of_le (xp_lt (heap_keep Fv0_3.out C1_3.out)) hbz))
 have N19 : Hid ((w.heap.size + 1) ≠ b10) := zh (Nat.ne_of_lt (Nat.lt_of_lt_of_le (xp_lt (heap_keep Fv1_4.out C1_3.out)) hbz))
 have N20 : Hid ((w.heap.size + 1 + 1) ≠ b10) := zh (Nat.ne_of_lt (Nat.lt_of_lt_of_le (xp_lt (heap_keep Fv2_5.out C1_3.out)) hbz))
 have N21 : Hid (b8 ≠ b10) := zh (Nat.ne_of_lt (Nat.lt_of_lt_of_le (xp_lt Fv4_8.out) hbz))
 have N22 : Hid (b9 ≠ b10) := zh (Nat.ne_of_lt (Nat.lt_of_lt_of_le (xp_lt Fv9_9.out) hbz))
 have N23 : Hid (g2 ≠ b10) := zh (Nat.ne_of_lt (Nat.lt_of_lt_of_le (xp_lt Fg2.out) hbz))
 clear hb h0 hbz
 simp only [ptr, Act.put, zA]
 refine Fl.wpF_last (fun V => V.setRow b10 #[.int .i64 (dc : Int), .int .i64 (lo : Int), .int .i64 (mx : Int)]) (by kernel_rfl) (by kernel_rfl) (by kernel_rfl) (fun V hV => xo_storeW (x := .tmp 10) (y := .tmp 27) b10 #[.int .i64 0, .int .i64 0, .int .i64 0] #[.int .i64 (dc : Int), .int .i64 (lo : Int), .int .i64 (mx : Int)] (heap_keep Fv17_10.out hV) (by kernel_rfl) rfl (by simp [Value.oneCell']) rfl rfl rfl) (fun V hV => ⟨⟨_, bel_setRow (HF6.out.ext hV).below Hz10.out _⟩, rfl⟩) (fun V hV X6 hX => ?_)
 have hU : Below X3.heap.size X3 X6 := (bel_setRow (HF6.out.ext hV).below Hz10.out _).trans (hX.mono (bel_setRow (HF6.out.ext hV).below Hz10.out #[.int .i64 (dc : Int), .int .i64 (lo : Int), .int .i64 (mx : Int)]).size)
 have YFv17_10 : X6.heap[b10]? = some (.cells #[.int .i64 (dc : Int), .int .i64 (lo : Int), .int .i64 (mx : Int)] 49 (0, 0)) := heap_keep (setRow_heap V b10 _ #[.int .i64 (dc : Int), .int .i64 (lo : Int), .int .i64 (mx : Int)] _ _ (heap_keep Fv17_10.out hV)) hX
 have hfar : ∀ k o, k ≠ b10 → V.heap[k]? = some o → (V.setRow b10 #[.int .i64 (dc : Int), .int .i64 (lo : Int), .int .i64 (mx : Int)]).heap[k]? = some o := fun k o hk h0 => heap_farRow h0 hk _
 clear hV hX hfar
 try clear HF4
 try clear HF5
 try clear HF6
 have hbr := hU
 clear B3
 have B3 := zh hbr
 clear hbr
 clear hU
 clear Fv17_10
 have Fv17_10 : Hid (X6.heap[b10]? = some (.cells #[.int .i64 (dc : Int), .int .i64 (lo : Int), .int .i64 (mx : Int)] 49 (0, 0))) := zh YFv17_10
 clear YFv17_10
 simp only [Act.put, zA]
 have Lt24 : Hid (b10 < X6.heap.size) := zh (xp_lt Fv17_10.out)
 by_cases hgl : mx < lo
 ·have hci25 : ((lo : Int) > (mx : Int)) := by omega
  go_upto_region 4 with fail
  refine wp_region_lit ?_
  refine zr (.pointer (some ⟨b10, 1, none⟩)) X6 (xo_fld0 1 b10 1 (by kernel_rfl) rfl rfl) ?_
  simp only [Act.put, zA]
  refine zr (.int .i64 (lo : Int)) X6 (xo_load1 ⟨b10, 1, none⟩ _ (cells_at Fv17_10.out 1 rfl) Tryd.underlying3 rfl rfl rfl) ?_
  simp only [Act.put, zA]
  refine zr (.pointer (some ⟨b10, 2, none⟩)) X6 (xo_fld0 2 b10 2 (by kernel_rfl) rfl rfl) ?_
  simp only [Act.put, zA]
  refine zr (.int .i64 (mx : Int)) X6 (xo_load1 ⟨b10, 2, none⟩ _ (cells_at Fv17_10.out 2 rfl) Tryd.underlying3 rfl rfl rfl) ?_
  simp only [Act.put, zA]
  refine zr (.bool true) X6 (xo_gtrT .i64 (lo : Int) (mx : Int) (by omega) rfl rfl rfl) ?_
  simp only [Act.put, zA]
  refine wpList_nil ?_
  go_upto_region 5 with fail
  refine wp_region_lit ?_
  refine zr (.bool true) X6 rfl ?_
  simp only [Act.put, zA]
  refine zr (.bool true) X6 rfl ?_
  simp only [Act.put, zA]
  refine wpList_nil ?_
  have C0_3 := zb C0_2 B2
  have C0_4 := zb C0_3 B3
  have hbf := C0_4.out
  go_wp2_with fail
  go_ret
  exact ⟨rfl, hbf⟩
 ·have hci25 : ¬ ((lo : Int) > (mx : Int)) := by omega
  have HOK2 := zh (HUN.out (by omega))
  go_upto_region 4 with fail
  refine wp_region_lit ?_
  refine zr (.pointer (some ⟨b10, 1, none⟩)) X6 (xo_fld0 1 b10 1 (by kernel_rfl) rfl rfl) ?_
  simp only [Act.put, zA]
  refine zr (.int .i64 (lo : Int)) X6 (xo_load1 ⟨b10, 1, none⟩ _ (cells_at Fv17_10.out 1 rfl) Tryd.underlying3 rfl rfl rfl) ?_
  simp only [Act.put, zA]
  refine zr (.pointer (some ⟨b10, 2, none⟩)) X6 (xo_fld0 2 b10 2 (by kernel_rfl) rfl rfl) ?_
  simp only [Act.put, zA]
  refine zr (.int .i64 (mx : Int)) X6 (xo_load1 ⟨b10, 2, none⟩ _ (cells_at Fv17_10.out 2 rfl) Tryd.underlying3 rfl rfl rfl) ?_
  simp only [Act.put, zA]
  refine zr (.bool false) X6 (xo_gtrF .i64 (lo : Int) (mx : Int) (by omega) rfl rfl rfl) ?_
  simp only [Act.put, zA]
  refine wpList_nil ?_
  obtain ⟨h0, hh0⟩ : ∃ h, hs2[0]? = some h := ⟨_, List.getElem?_eq_getElem (by rw [HCU.out.len]; exact hnx1)⟩
  have HH0 := zh hh0
  clear hh0
  have hc2 := HCU.out.cap
  have ht2 := HCU.out.top
  go_upto_region 6 with fail
  refine wp_region_lit ?_
  refine zr (.pointer (some ⟨b8, 3, none⟩)) X6 (xo_fld0 3 b8 3 (by kernel_rfl) rfl rfl) ?_
  simp only [Act.put, zA]
  refine zr (.slice (some ⟨g2, 0, none⟩) qx.length c2) X6 (xo_load1 ⟨b8, 3, none⟩ _ (cells_at (heap_keep Fv4_8.out B3.out) 3 rfl) Tryd.underlying22 rfl rfl rfl) ?_
  simp only [Act.put, zA]
  refine zr (.agg #[.int .i64 (dc : Int), .int .i64 (dl : Int), .int .i64 (dh : Int)]) X6 (xo_loadW b9 _ (heap_keep Fv9_9.out B3.out) Tryd.underlying49 rfl (by kernel_rfl) rfl rfl) ?_
  simp only [Act.put, zA]
  refine zr (.agg #[.int .i64 (dc : Int), .int .i64 (lo : Int), .int .i64 (mx : Int)]) X6 (xo_loadW b10 _ Fv17_10.out Tryd.underlying49 rfl (by kernel_rfl) rfl rfl) ?_
  simp only [Act.put, zA]
  refine wpList_mk (by kernel_rfl) ([(Qu.Ci.mk (dc : Int) (dl : Int) (dh : Int)), (Qu.Ci.mk (dc : Int) (lo : Int) (mx : Int))].flatMap ciC).toArray 49 2 2 (xg_lit (E := ciC) (bytes := 24) (.agg #[.int .i64 0, .int .i64 0, .int .i64 0]) [.tmp 36, .tmp 37] [(Qu.Ci.mk (dc : Int) (dl : Int) (dh : Int)), (Qu.Ci.mk (dc : Int) (lo : Int) (mx : Int))] 2 Tryd.underlying44 (by kernel_rfl) rfl (by decide) (by decide) rfl rfl) ?_
  intro g38 V5 hge h0 hb
  have C1_4 := zb C1_3 B3
  have N26_0 : Hid (w.heap.size ≠ g38) := zh (xp_lt0 (heap_keep Fv0_3.out C1_4.out) hge)
  have N27_1 : Hid ((w.heap.size + 1) ≠ g38) := zh (xp_lt0 (heap_keep Fv1_4.out C1_4.out) hge)
  have N28_2 : Hid ((w.heap.size + 1 + 1) ≠ g38) := zh (xp_lt0 (heap_keep Fv2_5.out C1_4.out) hge)
  have N29_3 : Hid (b8 ≠ g38) := zh (xp_lt0 (heap_keep Fv4_8.out B3.out) hge)
  have N30_4 : Hid (b9 ≠ g38) := zh (xp_lt0 (heap_keep Fv9_9.out B3.out) hge)
  have N31_5 : Hid (g2 ≠ g38) := zh (xp_lt0 (heap_keep Fg2.out B3.out) hge)
  have N32_6 : Hid (b10 ≠ g38) := zh (xp_lt0 Fv17_10.out hge)
  have Ge33 : Hid (X6.heap.size ≤ g38) := zh hge
  have B4 := zh hb
  have Fv34_38 : Hid (RowG ciC V5 g38 49 ([(Qu.Ci.mk (dc : Int) (dl : Int) (dh : Int)), (Qu.Ci.mk (dc : Int) (lo : Int) (mx : Int))])) := zh (h0)
  have Lt35 : Hid (g38 < V5.heap.size) := zh (xp_lt Fv34_38.out)
  clear hge h0 hb
  simp only [ptr, Act.put, zA]
  have C3_5 := zb B3 B4
  refine zr (.pointer (some (gad (some ⟨g2, 0, none⟩) (0 * 1)))) V5 (xg_idx .i64 (sg_raw (heap_keep Fg2.out C3_5.out) HCU.out) HH0.out Tryd.underlying22 (by kernel_rfl) rfl rfl rfl) ?_
  simp only [Act.put, zA]
  refine wpList_store1 g2 0 cur (.slice (some ⟨g38, 0, none⟩) 2 2) 44 (by kernel_rfl) (heap_keep Fg2.out C3_5.out) (xo_store1 g2 0 cur _ (.slice (some ⟨g38, 0, none⟩) 2 2) (heap_keep Fg2.out C3_5.out) (HCU.out.at_ 0 h0 HH0.out) (by kernel_rfl) rfl rfl rfl rfl) ?_
  intro X5_36 h1 hfar hbel hsz
  have YHOC : OwnsC X5_36 49 w.heap.size hs2 qx := OwnsC.farT (HOC.out.keep C3_5.out) (heap_keep Fg2.out C3_5.out) (by decide) hfar
  have C1_5 := zb C1_4 B4
  have YFv0_3 : X5_36.heap[w.heap.size]? = some (.cells #[.int .i64 kind, .int .i64 col, .int .i64 k, .slice A n c] 24 (0, 0)) := hfar _ _ Ng2_0.out (heap_keep Fv0_3.out C1_5.out)
  have YFv1_4 : X5_36.heap[(w.heap.size + 1)]? = some (.cells #[.int .i64 ea, .int .i64 eb, .int .i64 ec] 49 (0, 0)) := hfar _ _ Ng2_1.out (heap_keep Fv1_4.out C1_5.out)
  have YFv2_5 : X5_36.heap[(w.heap.size + 1 + 1)]? = some (.cells #[.int .i64 r.who, .int .i64 r.when_, .int .i64 r.kind, .int .i64 r.value] 40 (0, 0)) := hfar _ _ Ng2_2.out (heap_keep Fv2_5.out C1_5.out)
  have YFv4_8 : X5_36.heap[b8]? = some (.cells #[.int .i64 (kd : Int), .int .i64 (cl : Int), .int .i64 (kk : Int), .slice (some ⟨g2, 0, none⟩) qx.length c2] 24 (0, 0)) := hfar _ _ Ng2_3.out (heap_keep Fv4_8.out C3_5.out)
  have YFv9_9 : X5_36.heap[b9]? = some (.cells #[.int .i64 (dc : Int), .int .i64 (dl : Int), .int .i64 (dh : Int)] 49 (0, 0)) := hfar _ _ Ng2_4.out (heap_keep Fv9_9.out C3_5.out)
  have YFv17_10 : X5_36.heap[b10]? = some (.cells #[.int .i64 (dc : Int), .int .i64 (lo : Int), .int .i64 (mx : Int)] 49 (0, 0)) := hfar _ _ (Ne.symm N23.out) (heap_keep Fv17_10.out B4.out)
  have YFv34_38 : RowG ciC X5_36 g38 49 ([(Qu.Ci.mk (dc : Int) (dl : Int) (dh : Int)), (Qu.Ci.mk (dc : Int) (lo : Int) (mx : Int))]) := hfar _ _ (Ne.symm N31_5.out) Fv34_38.out
  have Gs37 : Hid (w.heap.size ≤ b8) := zh (Nat.le_trans C0_2.out.size Hz8.out)
  have Gs38 : Hid (w.heap.size ≤ b9) := zh (Nat.le_trans C0_2.out.size Hz9.out)
  have C0_3 := zb C0_2 B2
  have Gs39 : Hid (w.heap.size ≤ b10) := zh (Nat.le_trans C0_3.out.size Hz10.out)
  have C0_4 := zb C0_3 B3
  have Gs40 : Hid (w.heap.size ≤ g38) := zh (Nat.le_trans C0_4.out.size Ge33.out)
  have C0_5 := zb C0_4 B4
  have hbr := hbel _ _ Gg2.out C0_5.out
  clear B0
  have B0 := zh hbr
  clear hbr
  clear Fv0_3
  have Fv0_3 : Hid (X5_36.heap[w.heap.size]? = some (.cells #[.int .i64 kind, .int .i64 col, .int .i64 k, .slice A n c] 24 (0, 0))) := zh YFv0_3
  clear YFv0_3
  clear Fv1_4
  have Fv1_4 : Hid (X5_36.heap[(w.heap.size + 1)]? = some (.cells #[.int .i64 ea, .int .i64 eb, .int .i64 ec] 49 (0, 0))) := zh YFv1_4
  clear YFv1_4
  clear Fv2_5
  have Fv2_5 : Hid (X5_36.heap[(w.heap.size + 1 + 1)]? = some (.cells #[.int .i64 r.who, .int .i64 r.when_, .int .i64 r.kind, .int .i64 r.value] 40 (0, 0))) := zh YFv2_5
  clear YFv2_5
  clear Fv4_8
  have Fv4_8 : Hid (X5_36.heap[b8]? = some (.cells #[.int .i64 (kd : Int), .int .i64 (cl : Int), .int .i64 (kk : Int), .slice (some ⟨g2, 0, none⟩) qx.length c2] 24 (0, 0))) := zh YFv4_8
  clear YFv4_8
  clear Fv9_9
  have Fv9_9 : Hid (X5_36.heap[b9]? = some (.cells #[.int .i64 (dc : Int), .int .i64 (dl : Int), .int .i64 (dh : Int)] 49 (0, 0))) := zh YFv9_9
  clear YFv9_9
  clear Fv17_10
  have Fv17_10 : Hid (X5_36.heap[b10]? = some (.cells #[.int .i64 (dc : Int), .int .i64 (lo : Int), .int .i64 (mx : Int)] 49 (0, 0))) := zh YFv17_10
  clear YFv17_10
  clear Fv34_38
  have Fv34_38 : Hid (RowG ciC X5_36 g38 49 ([(Qu.Ci.mk (dc : Int) (dl : Int) (dh : Int)), (Qu.Ci.mk (dc : Int) (lo : Int) (mx : Int))])) := zh YFv34_38
  clear YFv34_38
  clear HOC
  have HOC := zh YHOC
  clear YHOC
  clear Fg2
  have Fg2 : Hid (X5_36.heap[g2]? = some (.cells (cur.setIfInBounds 0 (.slice (some ⟨g38, 0, none⟩) 2 2)) 44 (0, 0))) := zh (h1)
  have HszX5_36 := zh hsz
  clear h1 hfar hbel hsz
  simp only [ptr, Act.put, zA]
  refine wpList_nil ?_
  have hu : Sg ciC 3 X5_36 (some ⟨g38, 0, none⟩) 2 2 ([Qu.Cd.mk dc dl dh, Qu.Cd.mk dc lo mx].map Qu.Cd.ci) := (RowG.sg (n := 2) (c := 2) Fv34_38.out (show ([(Qu.Ci.mk (dc : Int) (dl : Int) (dh : Int)), (Qu.Ci.mk (dc : Int) (lo : Int) (mx : Int))]).length = 2 from rfl) (Nat.le_refl _) (by omega))
  have hfr := fsr_set0 (u := Hd.mk (some ⟨g38, 0, none⟩) 2 2) (l := [Qu.Cd.mk dc dl dh, Qu.Cd.mk dc lo mx]) Fg2.out (HCU.out.set0 (Hd.mk (some ⟨g38, 0, none⟩) 2 2)) HOC.out hu
  rw [HQ2.out] at hfr
  obtain ⟨hs3, hhs⟩ : ∃ z, hs2.set 0 (Hd.mk (some ⟨g38, 0, none⟩) 2 2) = z := ⟨_, rfl⟩
  have hh3 : hs3[0]? = some (Hd.mk (some ⟨g38, 0, none⟩) 2 2) := by rw [← hhs, List.getElem?_set, if_pos rfl, if_pos (by rw [HCU.out.len]; exact hnx1)]
  rw [hhs] at hfr
  have HH3 := zh hh3
  have HFR2 := zh hfr
  clear hu hfr hhs hh3
  have HL3 : Hid ((qf2.map (List.map Qu.Cd.ci))[0]? = some ([Qu.Cd.mk dc dl dh, Qu.Cd.mk dc lo mx].map Qu.Cd.ci)) := zh (by rw [List.getElem?_map, ← HQ2.out, List.getElem?_set, if_pos rfl, if_pos hnx1]; rfl)
  go_upto_region 7 with fail
  refine wp_region_lit ?_
  refine zr (.agg #[.int .i64 (kd : Int), .int .i64 (cl : Int), .int .i64 (kk : Int), .slice (some ⟨g2, 0, none⟩) qx.length c2]) X5_36 (xo_loadW b8 _ Fv4_8.out Tryd.underlying24 rfl (by kernel_rfl) rfl rfl) ?_
  simp only [Act.put, zA]
  refine wpList_call (by kernel_rfl) 11 Tryd.func11 (by kernel_rfl) (by kernel_rfl) _ _ #[.agg #[.int .i64 (kd : Int), .int .i64 (cl : Int), .int .i64 (kk : Int), .slice (some ⟨g2, 0, none⟩) qx.length c2], .int .i64 65536] rfl (by kernel_rfl) ?_
  refine (check_ok kd cl kk (some ⟨g2, 0, none⟩) qx.length c2 hs3 qf2 HOK2.out 65536 (Nat.le_refl _) (xsd, 0) HCKd.out X5_36 HFR2.out (HG.out.keep B0.out) (HGC.out.keep B0.out)).mono ?_
  rintro e V2 ⟨Ad, nd, cd, rfl, hsg, hb⟩
  have B1 := zh hb
  obtain rfl : rld = nd := (HRLd.out).symm.trans hsg.len
  have HSd := zh hsg
  clear hb hsg
  refine ⟨_, rfl, ?_⟩
  simp only [Act.put, zA]
  refine zr (.tuple #[.agg #[.slice Ad rld cd], .int .i64 (0 : Int)]) V2 rfl ?_
  simp only [Act.put, zA]
  refine zr (.agg #[.slice Ad rld cd]) V2 rfl ?_
  simp only [Act.put, zA]
  refine zr (.int .i64 (0 : Int)) V2 rfl ?_
  simp only [Act.put, zA]
  refine wpList_new #[.slice none 0 0] 29 (by kernel_rfl) (xo_alloc #[.slice none 0 0] (by kernel_rfl) rfl) ?_
  intro b11 V3 hge h0 hb
  have N41_0 : Hid (w.heap.size ≠ b11) := zh (xp_lt0 (heap_keep Fv0_3.out B1.out) hge)
  have N42_1 : Hid ((w.heap.size + 1) ≠ b11) := zh (xp_lt0 (heap_keep Fv1_4.out B1.out) hge)
  have N43_2 : Hid ((w.heap.size + 1 + 1) ≠ b11) := zh (xp_lt0 (heap_keep Fv2_5.out B1.out) hge)
  have N44_3 : Hid (b8 ≠ b11) := zh (xp_lt0 (heap_keep Fv4_8.out B1.out) hge)
  have N45_4 : Hid (b9 ≠ b11) := zh (xp_lt0 (heap_keep Fv9_9.out B1.out) hge)
  have N46_5 : Hid (g2 ≠ b11) := zh (xp_lt0 (heap_keep Fg2.out B1.out) hge)
  have N47_6 : Hid (b10 ≠ b11) := zh (xp_lt0 (heap_keep Fv17_10.out B1.out) hge)
  have N48_7 : Hid (g38 ≠ b11) := zh (xp_lt0 (heap_keep Fv34_38.out B1.out) hge)
  have Ge49 : Hid (V2.heap.size ≤ b11) := zh hge
  have B2 := zh hb
  have Fv50_11 : Hid (V3.heap[b11]? = some (.cells #[.slice none 0 0] 29 (0, 0))) := zh (h0)
  have Lt51 : Hid (b11 < V3.heap.size) := zh (xp_lt Fv50_11.out)
  clear hge h0 hb
  simp only [ptr, Act.put, zA]
  refine wpList_storeW b11 #[.slice none 0 0] #[.slice Ad rld cd] 29 (by kernel_rfl) Fv50_11.out (xo_storeW b11 #[.slice none 0 0] #[.slice Ad rld cd] Fv50_11.out (by kernel_rfl) rfl (by simp [Value.oneCell']) rfl rfl rfl) ?_
  intro X3_52 h1 hfar hbel hsz
  have hbr := hbel _ _ Ge49.out B2.out
  clear B2
  have B2 := zh hbr
  clear hbr
  clear Fv50_11
  have Fv50_11 : Hid (X3_52.heap[b11]? = some (.cells #[.slice Ad rld cd] 29 (0, 0))) := zh (h1)
  have HszX3_52 := zh hsz
  clear h1 hfar hbel hsz
  simp only [ptr, Act.put, zA]
  refine zr (.int .i64 (0 : Int)) X3_52 rfl ?_
  simp only [Act.put, zA]
  refine wpList_nil ?_
  have hrs := HRS.out
  have hci53 : ¬ ((rld : Int) ≠ (sm : Int)) := by omega
  go_upto_region 8 with fail
  refine wp_floatP [0, 1, 2, 3, 4, 5, 6, 7, 8, 9] (l' := [_, _, _, _, _, _, _, _, _, _]) (by kernel_rfl) (lexOK_of (by kernel_rfl) (by kernel_rfl)) (ordOK_of (by kernel_rfl) (by kernel_rfl)) rfl rfl ?_
  simp only [List.getElem_toArray, List.getElem_cons_succ, List.getElem_cons_zero]
  intro V4 hb hSW
  have B3 := zh hb
  have HF4 := zh hSW
  clear hb hSW
  refine wpF_seg 7 (by kernel_rfl) ?_
  simp only [List.take_succ_cons, List.take_zero, List.drop_succ_cons, List.drop_zero]
  refine zv (.int .i64 (0 : Int)) (fun v hv => rfl) ?_
  simp only [Act.put, zA]
  refine zv (.bool false) (fun v hv => (xo_neqF .i64 (0 : Int) 0 (by omega) rfl rfl rfl)) ?_
  simp only [Act.put, zA]
  refine zv (.bool false) (fun v hv => rfl) ?_
  simp only [Act.put, zA]
  refine zv (.pointer (some ⟨b11, 0, none⟩)) (fun v hv => (xo_fld0 0 b11 0 (by kernel_rfl) rfl rfl)) ?_
  simp only [Act.put, zA]
  refine zv (.slice Ad rld cd) (fun v hv => (xo_load1 ⟨b11, 0, none⟩ _ (cells_at (heap_keep Fv50_11.out (laterF hv)) 0 rfl) Tryd.underlying27 rfl rfl rfl)) ?_
  simp only [Act.put, zA]
  refine zv (.int .i64 (rld : Int)) (fun v hv => (xo_len Ad rld cd Tryd.underlying27 rfl rfl)) ?_
  simp only [Act.put, zA]
  have C1_3 := zb B1 B2
  refine zv (.agg #[.int .i64 (kd : Int), .int .i64 (cl : Int), .int .i64 (kk : Int), .slice (some ⟨g2, 0, none⟩) qx.length c2]) (fun v hv => (xo_loadW b8 _ (heap_keep (heap_keep Fv4_8.out C1_3.out) (laterF hv)) Tryd.underlying24 rfl (by kernel_rfl) rfl rfl)) ?_
  simp only [Act.put, zA]
  refine wpQuiet_nil ?_
  refine wpF_call 15 Tryd.func15 (by kernel_rfl) (by kernel_rfl) _ _ #[.agg #[.int .i64 (kd : Int), .int .i64 (cl : Int), .int .i64 (kk : Int), .slice (some ⟨g2, 0, none⟩) qx.length c2]] rfl (by kernel_rfl) (by kernel_rfl) HF4.out (fun V5 hb => ?_)
  have B4 := zh hb
  have HF5 := zh (HF4.out.ext hb)
  clear hb
  refine (sums_as (kd : Int) (cl : Int) (kk : Int) (some ⟨g2, 0, none⟩) qx.length c2 sm (by rw [Ty.suZ_nat hk1 hk7]; exact HSM.out) V5).mono ?_
  rintro e V6 ⟨rfl, hb⟩
  have B5 := zh hb
  have HF6 := zh (HF5.out.ext hb)
  refine ⟨_, rfl, hb, ?_⟩
  clear hb 
  simp only [Act.put, zA]
  refine wpF_seg 2 (by kernel_rfl) ?_
  simp only [List.take_succ_cons, List.take_zero, List.drop_succ_cons, List.drop_zero]
  refine zv (.bool false) (fun v hv => (xo_neqF .i64 (rld : Int) (sm : Int) (by omega) rfl rfl rfl)) ?_
  simp only [Act.put, zA]
  refine zv (.bool false) (fun v hv => rfl) ?_
  simp only [Act.put, zA]
  refine wpQuiet_nil ?_
  refine wpF_nil (fun V7 hb => ?_)
  have B6 := zh hb
  clear hb
  clear HF4
  clear HF5
  clear HF6
  clear hrs
  have C0_2 := zb B0 B1
  have C0_3 := zb C0_2 B2
  have C0_4 := zb C0_3 B3
  have C0_5 := zb C0_4 B4
  have C0_6 := zb C0_5 B5
  have C0_7 := zb C0_6 B6
  have HBV54 := zh C0_7.out
  have C1_4 := zb C1_3 B3
  have C1_5 := zb C1_4 B4
  have C1_6 := zb C1_5 B5
  have C1_7 := zb C1_6 B6
  have YHFR2 := (HFR2.out.keep C1_7.out)
  have C2_4 := zb B2 B3
  have C2_5 := zb C2_4 B4
  have C2_6 := zb C2_5 B5
  have C2_7 := zb C2_6 B6
  have YHSd := (HSd.out.keep C2_7.out)
  have YFv0_3 := (heap_keep Fv0_3.out C1_7.out)
  have YFv2_5 := (heap_keep Fv2_5.out C1_7.out)
  have YFv4_8 := (heap_keep Fv4_8.out C1_7.out)
  have C3_5 := zb B3 B4
  have C3_6 := zb C3_5 B5
  have C3_7 := zb C3_6 B6
  have YFv50_11 := (heap_keep Fv50_11.out C3_7.out)
  clear HFR2
  have HFR2 := zh YHFR2
  clear YHFR2
  clear HSd
  have HSd := zh YHSd
  clear YHSd
  clear Fv0_3
  have Fv0_3 := zh YFv0_3
  clear YFv0_3
  clear Fv2_5
  have Fv2_5 := zh YFv2_5
  clear YFv2_5
  clear Fv4_8
  have Fv4_8 := zh YFv4_8
  clear YFv4_8
  clear Fv50_11
  have Fv50_11 := zh YFv50_11
  clear YFv50_11
  obtain ⟨VB54, rfl⟩ : ∃ VB54 : World, VB54 = V7 := ⟨_, rfl⟩
  go_upto_region 10 with fail
  refine wp_region_lit ?_
  refine zr (.int .i64 0) VB54 rfl ?_
  simp only [Act.put, zA]
  refine wpList_nil ?_
  have O55 := (Below.refl VB54.heap.size VB54)
  have B0 := zh (Below.refl VB54.heap.size VB54)
  go_wp2_with fail
  go_loopw [13] (fun p wr => ∃ i : Nat, i ≤ rld ∧ p = .int .i64 i ∧ Below VB54.heap.size VB54 wr) (fun p _ => rld - (intOf p).toNat)
  case atStart => exact ⟨0, Nat.zero_le _, rfl, O55⟩
  case round =>
   clear O55
   obtain ⟨wo, rfl⟩ : ∃ wo : World, wo = wr := ⟨_, rfl⟩
   obtain ⟨i, hi, rfl, hb0⟩ := hrel
   have hbr := hb0
   clear B0
   have B0 := zh hbr
   clear hbr
   clear hb0 
   by_cases hir : i < rld
   ·have hci57 : ((i : Int) < (rld : Int)) := by omega
    by_cases hi16 : i < 16
    ·have hci58 : ((i : Int) < 16) := by omega
     have hism : i < sm := by have := HRS.out; omega
     have e1 := (HF.out i hism).1
     rw [HZ.out i hi16] at e1
     have HE1 := zh e1
     clear e1
     go_upto_region 11 with fail
     refine wp_region_lit ?_
     refine zr (.int .i64 (i : Int)) wo rfl ?_
     simp only [Act.put, zA]
     refine zr (.pointer (some ⟨b11, 0, none⟩)) wo (xo_fld0 0 b11 0 (by kernel_rfl) rfl rfl) ?_
     simp only [Act.put, zA]
     refine zr (.slice Ad rld cd) wo (xo_load1 ⟨b11, 0, none⟩ _ (cells_at (heap_keep Fv50_11.out B0.out) 0 rfl) Tryd.underlying27 rfl rfl rfl) ?_
     simp only [Act.put, zA]
     refine zr (.int .i64 (rld : Int)) wo (xo_len Ad rld cd Tryd.underlying27 rfl rfl) ?_
     simp only [Act.put, zA]
     refine zr (.bool true) wo (xo_lssT .i64 (i : Int) (rld : Int) (by omega) rfl rfl rfl) ?_
     simp only [Act.put, zA]
     refine zr (.bool true) wo rfl ?_
     simp only [Act.put, zA]
     refine zr (.int .i64 (i : Int)) wo rfl ?_
     simp only [Act.put, zA]
     refine zr (.bool true) wo (xo_lssT .i64 (i : Int) 16 (by omega) rfl rfl rfl) ?_
     simp only [Act.put, zA]
     refine zr (.bool true) wo rfl ?_
     simp only [Act.put, zA]
     refine wpList_nil ?_
     go_upto_region 13 with fail
     refine wp_region_lit ?_
     refine zr (.pointer (some ⟨b11, 0, none⟩)) wo (xo_fld0 0 b11 0 (by kernel_rfl) rfl rfl) ?_
     simp only [Act.put, zA]
     refine zr (.slice Ad rld cd) wo (xo_load1 ⟨b11, 0, none⟩ _ (cells_at (heap_keep Fv50_11.out B0.out) 0 rfl) Tryd.underlying27 rfl rfl rfl) ?_
     simp only [Act.put, zA]
     refine zr (.int .i64 (i : Int)) wo rfl ?_
     simp only [Act.put, zA]
     refine zr (.pointer (some (gad Ad (i * 1)))) wo (xg_idx .i64 (HSd.out.keep B0.out) HE1.out Tryd.underlying27 (by kernel_rfl) rfl rfl rfl) ?_
     simp only [Act.put, zA]
     refine zr (.int .i64 0) wo (xg_load1 (E := zzC) (i := i) (j := 0) (HSd.out.keep B0.out) HE1.out rfl rfl Tryd.underlying2 rfl rfl rfl) ?_
     simp only [Act.put, zA]
     refine zr (.bool false) wo (xo_neqF .i64 0 0 (by omega) rfl rfl rfl) ?_
     simp only [Act.put, zA]
     refine wpList_nil ?_
     go_upto_region 12 with fail
     refine wp_region_lit ?_
     refine zr (.int .i64 (i : Int)) wo rfl ?_
     simp only [Act.put, zA]
     refine zr (.int .i64 ((i + 1 : Nat) : Int)) wo (xo_addI (i : Int) 1 ((i + 1 : Nat) : Int) (by omega) (by omega) (by omega) rfl rfl rfl) ?_
     simp only [Act.put, zA]
     refine zr (.int .i64 ((i + 1 : Nat) : Int)) wo rfl ?_
     simp only [Act.put, zA]
     refine wpList_nil ?_
     have hq59 := B0.out
     go_wp2_with fail
     go_roundw
     case rel => exact ⟨i + 1, by omega, by go_num, hq59⟩
     case measure => simp [intOf]; omega
    ·have hci58 : ¬ ((i : Int) < 16) := by omega
     go_upto_region 11 with fail
     refine wp_region_lit ?_
     refine zr (.int .i64 (i : Int)) wo rfl ?_
     simp only [Act.put, zA]
     refine zr (.pointer (some ⟨b11, 0, none⟩)) wo (xo_fld0 0 b11 0 (by kernel_rfl) rfl rfl) ?_
     simp only [Act.put, zA]
     refine zr (.slice Ad rld cd) wo (xo_load1 ⟨b11, 0, none⟩ _ (cells_at (heap_keep Fv50_11.out B0.out) 0 rfl) Tryd.underlying27 rfl rfl rfl) ?_
     simp only [Act.put, zA]
     refine zr (.int .i64 (rld : Int)) wo (xo_len Ad rld cd Tryd.underlying27 rfl rfl) ?_
     simp only [Act.put, zA]
     refine zr (.bool true) wo (xo_lssT .i64 (i : Int) (rld : Int) (by omega) rfl rfl rfl) ?_
     simp only [Act.put, zA]
     refine zr (.bool true) wo rfl ?_
     simp only [Act.put, zA]
     refine zr (.int .i64 (i : Int)) wo rfl ?_
     simp only [Act.put, zA]
     refine zr (.bool false) wo (xo_lssF .i64 (i : Int) 16 (by omega) rfl rfl rfl) ?_
     simp only [Act.put, zA]
     refine zr (.bool false) wo rfl ?_
     simp only [Act.put, zA]
     refine wpList_nil ?_
     go_upto_region 15 with fail
     refine wp_floatP [0, 1, 2, 3, 4, 5, 6, 7, 8, 9, 10, 11] (l' := [_, _, _, _, _, _, _, _, _, _, _, _]) (by kernel_rfl) (lexOK_of (by kernel_rfl) (by kernel_rfl)) (ordOK_of (by kernel_rfl) (by kernel_rfl)) rfl rfl ?_
     simp only [List.getElem_toArray, List.getElem_cons_succ, List.getElem_cons_zero]
     intro V2 hb hSW
     have B1 := zh hb
     have HF2 := zh hSW
     clear hb hSW
     refine wpF_seg 5 (by kernel_rfl) ?_
     simp only [List.take_succ_cons, List.take_zero, List.drop_succ_cons, List.drop_zero]
     refine zv (.pointer (some ⟨b8, 3, none⟩)) (fun v hv => (xo_fld0 3 b8 3 (by kernel_rfl) rfl rfl)) ?_
     simp only [Act.put, zA]
     refine zv (.slice (some ⟨g2, 0, none⟩) qx.length c2) (fun v hv => (xo_load1 ⟨b8, 3, none⟩ _ (cells_at (heap_keep (heap_keep Fv4_8.out B0.out) (laterF hv)) 3 rfl) Tryd.underlying22 rfl rfl rfl)) ?_
     simp only [Act.put, zA]
     refine zv (.pointer (some (gad (some ⟨g2, 0, none⟩) (0 * 1)))) (fun v hv => (xg_idx .i64 ((HFR2.out.keep B0.out).keep (laterF hv)).sg HH3.out Tryd.underlying22 (by kernel_rfl) rfl rfl rfl)) ?_
     simp only [Act.put, zA]
     refine zv (.slice (some ⟨g38, 0, none⟩) 2 2) (fun v hv => (xg_load1 (E := hdC) (i := 0) (j := 0) ((HFR2.out.keep B0.out).keep (laterF hv)).sg HH3.out rfl rfl Tryd.underlying44 rfl rfl rfl)) ?_
     simp only [Act.put, zA]
     refine zv (.agg #[.int .i64 r.who, .int .i64 r.when_, .int .i64 r.kind, .int .i64 r.value]) (fun v hv => (xo_loadW (w.heap.size + 1 + 1) _ (heap_keep (heap_keep Fv2_5.out B0.out) (laterF hv)) Tryd.underlying40 rfl (by kernel_rfl) rfl rfl)) ?_
     simp only [Act.put, zA]
     refine wpQuiet_nil ?_
     refine wpF_call 20 Tryd.func20 (by kernel_rfl) (by kernel_rfl) _ _ #[.agg #[.int .i64 r.who, .int .i64 r.when_, .int .i64 r.kind, .int .i64 r.value]] rfl (by kernel_rfl) (by kernel_rfl) HF2.out (fun V3 hb => ?_)
     have B2 := zh hb
     have HF3 := zh (HF2.out.ext hb)
     clear hb
     refine (madeReading_any r V3).mono ?_
     rintro e V4 ⟨rfl, hb⟩
     have B3 := zh hb
     have HF4 := zh (HF3.out.ext hb)
     rw [HX4.out.1, HX4.out.2.1, HX4.out.2.2.1, HX4.out.2.2.2]
     refine ⟨_, rfl, hb, ?_⟩
     clear hb 
     simp only [Act.put, zA]
     refine wpF_call 27 Tryd.func27 (by kernel_rfl) (by kernel_rfl) _ _ #[.slice (some ⟨g38, 0, none⟩) 2 2, .agg #[.int .i64 (x0 : Int), .int .i64 (x1 : Int), .int .i64 (x2 : Int), .int .i64 (x3 : Int)]] rfl (by kernel_rfl) (by kernel_rfl) HF4.out (fun V5 hb => ?_)
     have B4 := zh hb
     have HF5 := zh (HF4.out.ext hb)
     clear hb
     have C0_2 := zb B0 B1
     have C0_3 := zb C0_2 B2
     have C0_4 := zb C0_3 B3
     have C0_5 := zb C0_4 B4
     refine (rmatch_as (some ⟨g38, 0, none⟩) 2 2 ([Qu.Cd.mk dc dl dh, Qu.Cd.mk dc lo mx].map Qu.Cd.ci) (Ty.isc_ci (fun e he => by rcases List.mem_cons.1 he with e1 | e1; (rw [e1]; exact hd1); (rcases List.mem_cons.1 e1 with e1 | e1; (rw [e1]; exact hd1); (cases e1)))) (Ty.rdX (Ty.x4 x0 x1 x2 x3)) false (Ty.mt_rd (fun e he => by rcases List.mem_cons.1 he with e1 | e1; (rw [e1]; exact hd1); (rcases List.mem_cons.1 e1 with e1 | e1; (rw [e1]; exact hd1); (cases e1))) _ (by rw [hlo2]; exact Ty.un_mt ⟨dc, dl, dh⟩ mx _)) V5 ((HFR2.out.keep C0_5.out).row 0 (Hd.mk (some ⟨g38, 0, none⟩) 2 2) ([Qu.Cd.mk dc dl dh, Qu.Cd.mk dc lo mx].map Qu.Cd.ci) HH3.out HL3.out)).mono ?_
     rintro e V6 ⟨rfl, hb⟩
     have B5 := zh hb
     have HF6 := zh (HF5.out.ext hb)
     refine ⟨_, rfl, hb, ?_⟩
     clear hb 
     simp only [Act.put, zA]
     refine wpF_seg 5 (by kernel_rfl) ?_
     simp only [List.take_succ_cons, List.take_zero, List.drop_succ_cons, List.drop_zero]
     refine zv (.bool true) (fun v hv => rfl) ?_
     simp only [Act.put, zA]
     refine zv (.bool true) (fun v hv => rfl) ?_
     simp only [Act.put, zA]
     refine zv (.bool true) (fun v hv => rfl) ?_
     simp only [Act.put, zA]
     refine zv (.bool true) (fun v hv => rfl) ?_
     simp only [Act.put, zA]
     refine zv (.bool true) (fun v hv => rfl) ?_
     simp only [Act.put, zA]
     refine wpQuiet_nil ?_
     refine wpF_nil (fun V7 hb => ?_)
     have B6 := zh hb
     clear hb
     clear HF2
     clear HF3
     clear HF4
     clear HF5
     clear HF6
     have C0_6 := zb C0_5 B5
     have C0_7 := zb C0_6 B6
     have hbf := bel_step HBV54.out C0_7.out
     go_wp2_with fail
     go_ret
     exact ⟨rfl, hbf⟩
   ·have hci57 : ¬ ((i : Int) < (rld : Int)) := by omega
    go_upto_region 11 with fail
    refine wp_region_lit ?_
    refine zr (.int .i64 (i : Int)) wo rfl ?_
    simp only [Act.put, zA]
    refine zr (.pointer (some ⟨b11, 0, none⟩)) wo (xo_fld0 0 b11 0 (by kernel_rfl) rfl rfl) ?_
    simp only [Act.put, zA]
    refine zr (.slice Ad rld cd) wo (xo_load1 ⟨b11, 0, none⟩ _ (cells_at (heap_keep Fv50_11.out B0.out) 0 rfl) Tryd.underlying27 rfl rfl rfl) ?_
    simp only [Act.put, zA]
    refine zr (.int .i64 (rld : Int)) wo (xo_len Ad rld cd Tryd.underlying27 rfl rfl) ?_
    simp only [Act.put, zA]
    refine zr (.bool false) wo (xo_lssF .i64 (i : Int) (rld : Int) (by omega) rfl rfl rfl) ?_
    simp only [Act.put, zA]
    refine zr (.bool false) wo rfl ?_
    simp only [Act.put, zA]
    refine zl ?_
    try simp only [Act.put, zA]
    refine zl ?_
    try simp only [Act.put, zA]
    refine zr (.bool false) wo rfl ?_
    simp only [Act.put, zA]
    refine wpList_nil ?_
    go_upto_region 15 with fail
    refine wp_floatP [0, 1, 2, 3, 4, 5, 6, 7, 8, 9, 10, 11] (l' := [_, _, _, _, _, _, _, _, _, _, _, _]) (by kernel_rfl) (lexOK_of (by kernel_rfl) (by kernel_rfl)) (ordOK_of (by kernel_rfl) (by kernel_rfl)) rfl rfl ?_
    simp only [List.getElem_toArray, List.getElem_cons_succ, List.getElem_cons_zero]
    intro V2 hb hSW
    have B1 := zh hb
    have HF2 := zh hSW
    clear hb hSW
    refine wpF_seg 5 (by kernel_rfl) ?_
    simp only [List.take_succ_cons, List.take_zero, List.drop_succ_cons, List.drop_zero]
    refine zv (.pointer (some ⟨b8, 3, none⟩)) (fun v hv => (xo_fld0 3 b8 3 (by kernel_rfl) rfl rfl)) ?_
    simp only [Act.put, zA]
    refine zv (.slice (some ⟨g2, 0, none⟩) qx.length c2) (fun v hv => (xo_load1 ⟨b8, 3, none⟩ _ (cells_at (heap_keep (heap_keep Fv4_8.out B0.out) (laterF hv)) 3 rfl) Tryd.underlying22 rfl rfl rfl)) ?_
    simp only [Act.put, zA]
    refine zv (.pointer (some (gad (some ⟨g2, 0, none⟩) (0 * 1)))) (fun v hv => (xg_idx .i64 ((HFR2.out.keep B0.out).keep (laterF hv)).sg HH3.out Tryd.underlying22 (by kernel_rfl) rfl rfl rfl)) ?_
    simp only [Act.put, zA]
    refine zv (.slice (some ⟨g38, 0, none⟩) 2 2) (fun v hv => (xg_load1 (E := hdC) (i := 0) (j := 0) ((HFR2.out.keep B0.out).keep (laterF hv)).sg HH3.out rfl rfl Tryd.underlying44 rfl rfl rfl)) ?_
    simp only [Act.put, zA]
    refine zv (.agg #[.int .i64 r.who, .int .i64 r.when_, .int .i64 r.kind, .int .i64 r.value]) (fun v hv => (xo_loadW (w.heap.size + 1 + 1) _ (heap_keep (heap_keep Fv2_5.out B0.out) (laterF hv)) Tryd.underlying40 rfl (by kernel_rfl) rfl rfl)) ?_
    simp only [Act.put, zA]
    refine wpQuiet_nil ?_
    refine wpF_call 20 Tryd.func20 (by kernel_rfl) (by kernel_rfl) _ _ #[.agg #[.int .i64 r.who, .int .i64 r.when_, .int .i64 r.kind, .int .i64 r.value]] rfl (by kernel_rfl) (by kernel_rfl) HF2.out (fun V3 hb => ?_)
    have B2 := zh hb
    have HF3 := zh (HF2.out.ext hb)
    clear hb
    refine (madeReading_any r V3).mono ?_
    rintro e V4 ⟨rfl, hb⟩
    have B3 := zh hb
    have HF4 := zh (HF3.out.ext hb)
    rw [HX4.out.1, HX4.out.2.1, HX4.out.2.2.1, HX4.out.2.2.2]
    refine ⟨_, rfl, hb, ?_⟩
    clear hb 
    simp only [Act.put, zA]
    refine wpF_call 27 Tryd.func27 (by kernel_rfl) (by kernel_rfl) _ _ #[.slice (some ⟨g38, 0, none⟩) 2 2, .agg #[.int .i64 (x0 : Int), .int .i64 (x1 : Int), .int .i64 (x2 : Int), .int .i64 (x3 : Int)]] rfl (by kernel_rfl) (by kernel_rfl) HF4.out (fun V5 hb => ?_)
    have B4 := zh hb
    have HF5 := zh (HF4.out.ext hb)
    clear hb
    have C0_2 := zb B0 B1
    have C0_3 := zb C0_2 B2
    have C0_4 := zb C0_3 B3
    have C0_5 := zb C0_4 B4
    refine (rmatch_as (some ⟨g38, 0, none⟩) 2 2 ([Qu.Cd.mk dc dl dh, Qu.Cd.mk dc lo mx].map Qu.Cd.ci) (Ty.isc_ci (fun e he => by rcases List.mem_cons.1 he with e1 | e1; (rw [e1]; exact hd1); (rcases List.mem_cons.1 e1 with e1 | e1; (rw [e1]; exact hd1); (cases e1)))) (Ty.rdX (Ty.x4 x0 x1 x2 x3)) false (Ty.mt_rd (fun e he => by rcases List.mem_cons.1 he with e1 | e1; (rw [e1]; exact hd1); (rcases List.mem_cons.1 e1 with e1 | e1; (rw [e1]; exact hd1); (cases e1))) _ (by rw [hlo2]; exact Ty.un_mt ⟨dc, dl, dh⟩ mx _)) V5 ((HFR2.out.keep C0_5.out).row 0 (Hd.mk (some ⟨g38, 0, none⟩) 2 2) ([Qu.Cd.mk dc dl dh, Qu.Cd.mk dc lo mx].map Qu.Cd.ci) HH3.out HL3.out)).mono ?_
    rintro e V6 ⟨rfl, hb⟩
    have B5 := zh hb
    have HF6 := zh (HF5.out.ext hb)
    refine ⟨_, rfl, hb, ?_⟩
    clear hb 
    simp only [Act.put, zA]
    refine wpF_seg 5 (by kernel_rfl) ?_
    simp only [List.take_succ_cons, List.take_zero, List.drop_succ_cons, List.drop_zero]
    refine zv (.bool true) (fun v hv => rfl) ?_
    simp only [Act.put, zA]
    refine zv (.bool true) (fun v hv => rfl) ?_
    simp only [Act.put, zA]
    refine zv (.bool true) (fun v hv => rfl) ?_
    simp only [Act.put, zA]
    refine zv (.bool true) (fun v hv => rfl) ?_
    simp only [Act.put, zA]
    refine zv (.bool true) (fun v hv => rfl) ?_
    simp only [Act.put, zA]
    refine wpQuiet_nil ?_
    refine wpF_nil (fun V7 hb => ?_)
    have B6 := zh hb
    clear hb
    clear HF2
    clear HF3
    clear HF4
    clear HF5
    clear HF6
    have C0_6 := zb C0_5 B5
    have C0_7 := zb C0_6 B6
    have hbf := bel_step HBV54.out C0_7.out
    go_wp2_with fail
    go_ret
    exact ⟨rfl, hbf⟩
end Go.Proofs.YtbecajihgbbgjaaDoor
