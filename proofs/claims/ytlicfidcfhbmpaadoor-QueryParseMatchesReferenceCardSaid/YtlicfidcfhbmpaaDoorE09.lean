/- Several texts in one: Yj, Yk, Yl. -/
import Derived.Test.YtlicfidcfhbmpaaDoorE08
set_option linter.unusedVariables false
set_option linter.unusedSimpArgs false
set_option linter.unusedSectionVars false
namespace Go.Proofs.YtlicfidcfhbmpaaDoor
set_option maxRecDepth 8000
open Go.RowKit Go.Proofs.YtlicfidcfhbmpaaDoor.K
attribute [local irreducible] wpList wpQuiet
namespace K
section
variable {p q B : Nat} {w w' w0 V : World}
theorem keepB {k : Nat} {o : Obj} (h : w.heap[k]? = some o) (hb : Below B w w') (hk : k < B) : w'.heap[k]? = some o := by rw [hb.block k hk]; exact h
theorem belV (hV : V.heap.size = 0) (h : Below V.heap.size V w) (k : Below B w w') : Below V.heap.size V w' :=
 ⟨k.os.trans h.os, k.tape.trans h.tape, k.output.trans h.output, by rw [hV]; exact Nat.zero_le _, fun b hb => by rw [hV] at hb; exact absurd hb (Nat.not_lt_zero _)⟩
theorem FarH.belowB (h : FarH p q w0 w) (hb : Below w0.heap.size w w') : FarH p q w0 w' :=
 ⟨Nat.le_trans h.size hb.size, fun k o hp hq ho => keepB (h.far k o hp hq ho) hb (Array.getElem?_eq_some_iff.1 ho).1⟩
theorem rng_belowB {b off : Nat} {cs : List Value} (h : w.rangeAt b off cs) (hb : Below B w w') (hk : b < B) : w'.rangeAt b off cs := fun j v hv => by
 have hc := h j v hv
 unfold World.cell? at hc ⊢
 cases ho : w.heap[b]? with
 | none => simp [ho] at hc
 | some o =>
  simp only [ho] at hc
  simp only [keepB ho hb hk]
  exact hc
end
end K
/-- the length of a slice -/
def slN (v : Value) : Nat := match v with | .slice _ n _ => n | _ => 0
theorem _root_.Qu.filterN_go {s : List UInt8} {n : Nat} {w : List UInt8} {l : List Qu.Cd} {st : Qu.St} {c : Qu.Rs Qu.Cd} (hn : 0 < n) (h : st.tok = ⟨2, w⟩) (hc : Qu.condN s (Qu.adv s st) = c) (he : c.err = 0) : Qu.filterN s n w l st = Qu.filterN s (n - 1) [97, 110, 100] (l ++ [c.val]) c.st := by
 cases n with
 | zero => omega
 | succ n =>
  conv => lhs; unfold Qu.filterN
  simp only [if_pos h, hc, if_pos he]
  rfl
theorem _root_.Qu.filterN_err {s : List UInt8} {n : Nat} {w : List UInt8} {l : List Qu.Cd} {st : Qu.St} {c : Qu.Rs Qu.Cd} (hn : 0 < n) (h : st.tok = ⟨2, w⟩) (hc : Qu.condN s (Qu.adv s st) = c) (he : ¬ c.err = 0) : Qu.filterN s n w l st = ⟨[], c.err, c.st⟩ := by
 cases n with
 | zero => omega
 | succ n =>
  unfold Qu.filterN
  simp only [if_pos h, hc, if_neg he]
theorem _root_.Qu.filterN_no {s : List UInt8} {n : Nat} {w : List UInt8} {l : List Qu.Cd} {st : Qu.St} (h : ¬ st.tok = ⟨2, w⟩) : Qu.filterN s n w l st = ⟨l, 0, st⟩ := by
 cases n with
 | zero => rfl
 | succ n =>
  unfold Qu.filterN
  rw [if_neg h]
set_option maxRecDepth 100000 in
set_option maxHeartbeats 16000000 in
theorem filter_as (s : List UInt8) (hs4 : s.length ≤ 1000) (bp bs : Nat) (st : Qu.St) (hst : Qu.Ok s st) (w : World) (hP : PSm w bp bs s st) (hG : Gc w) (r : Qu.Rs (List Qu.Cd)) (hr : Qu.filterN s 3 Qu.whereN [] st = r) :
  Calls Tryd.prog 68 #[.pointer (some ⟨bp, 0, none⟩)] w fun e w' => ∃ v, e = .returned (.tuple #[v, .int .i64 (r.err : Int)]) ∧ (r.err = 0 → w'.ownsRow w.heap.size 46 3 v r.val.length (fl cdC r.val)) ∧ PSm w' bp bs s r.st ∧ FarC bp bs w w' := by
 have HG := zh hG
 clear hG
 obtain ⟨V, hV0, hV⟩ := base_world w
 have B0 := zh hV
 have HVW := zh hV
 clear hV
 have HF := zh (FarH.refl bp bs w)
 have HS4 := zh hs4
 have HOK := zh hst
 have HNE := zh hP.ne
 have HP1 := zh hP.p1
 have HS1 := zh hP.s1
 have hne := hP.ne
 have Hpbp : Hid (w.heap[bp]? = some (.cells #[.func (.func 41) #[.pointer (some ⟨bs, 0, none⟩)] #[], .int .i64 (st.tok.cls : Int), .string (sB st.tok.tx), .int .i64 ((st.off : Nat) : Int)] 72 (0, 0))) := zh (hP.pr)
 have Gpbp : Hid (V.heap.size ≤ bp) := zh (by omega)
 have Lpbp : Hid (bp < w.heap.size) := zh (xp_lt Hpbp.out)
 have Hpbs : Hid (w.heap[bs]? = some (.cells #[.string (sB s), .int .i64 ((st.pos : Nat) : Int)] 66 (0, 0))) := zh (hP.sc)
 have Gpbs : Hid (V.heap.size ≤ bs) := zh (by omega)
 have Lpbs : Hid (bs < w.heap.size) := zh (xp_lt Hpbs.out)
 have Npbpbs : Hid (bp ≠ bs) := zh (by omega)
 clear hs4 hst hP hne
 go_enter Tryd.func68, Tryd.ntmps68
 go_upto_region 1 with fail
 have HR := zh hr
 clear hr
 have HST := zh (rfl (a := st))
 clear HST
 refine wp_region_lit ?_
 refine wpList_mk (by kernel_rfl) #[] 46 0 0 (xo_empty (size := 3) Tryd.underlying28 (by kernel_rfl) rfl w) ?_
 intro g8 V2 hge h0 hb
 have hge2 := Nat.le_trans (Below.refl w.heap.size w).size hge
 have B1 := zh hb
 have Ow8 : Hid (V2.ownsRow w.heap.size 46 3 (.slice (some ⟨g8, 0, none⟩) 0 0) 0 (fl cdC [])) := zh (own_new h0 hge2)
 clear hge hge2 h0 hb
 simp only [ptr, Act.put, zA]
 refine zr (.slice (some ⟨g8, 0, none⟩) 0 0) V2 rfl ?_
 simp only [Act.put, zA]
 refine wpList_nil ?_
 go_upto_region 2 with fail
 refine wp_region_lit ?_
 refine zr (.agg #[.int .i64 2, .string (sB ([119, 104, 101, 114, 101]))]) V2 (by unfold execOp; go_simp <;> rfl) ?_
 simp only [Act.put, zA]
 refine wpList_new #[.int .i64 0, .string ByteArray.empty] 70 (by kernel_rfl) (xo_alloc #[.int .i64 0, .string ByteArray.empty] (by kernel_rfl) rfl) ?_
 intro b5 V3 hge h0 hb
 have N0_0 : Hid (bp ≠ b5) := zh (xp_lt0 (heap_keep Hpbp.out B1.out) hge)
 have N1_1 : Hid (bs ≠ b5) := zh (xp_lt0 (heap_keep Hpbs.out B1.out) hge)
 have Ge2 : Hid (V2.heap.size ≤ b5) := zh hge
 have B2 := zh hb
 have Fv3_5 : Hid (V3.heap[b5]? = some (.cells #[.int .i64 0, .string ByteArray.empty] 70 (0, 0))) := zh (h0)
 have Lt4 : Hid (b5 < V3.heap.size) := zh (xp_lt Fv3_5.out)
 have Gw5 : Hid (w.heap.size ≤ b5) := zh (Nat.le_trans (HF.out.keep B1.out).size Ge2.out)
 have Nz6 : Hid (0 ≠ b5) := zh (by have := Gw5.out; have := Lpbp.out; omega)
 clear hge h0 hb
 simp only [ptr, Act.put, zA]
 refine wpList_storeW b5 #[.int .i64 0, .string ByteArray.empty] #[.int .i64 2, .string (sB ([119, 104, 101, 114, 101]))] 70 (by kernel_rfl) Fv3_5.out (xo_storeW b5 #[.int .i64 0, .string ByteArray.empty] #[.int .i64 2, .string (sB ([119, 104, 101, 114, 101]))] Fv3_5.out (by kernel_rfl) rfl (by simp [Value.oneCell']) rfl rfl rfl) ?_
 intro X3_7 h1 hfar hbel hsz
 have YOw8 : X3_7.ownsRow w.heap.size 46 3 (.slice (some ⟨g8, 0, none⟩) 0 0) 0 (fl cdC ([])) := own_farT (own_keep Ow8.out B2.out) Fv3_5.out (by decide) hfar
 have hbr := hbel _ _ Ge2.out B2.out
 clear B2
 have B2 := zh hbr
 clear hbr
 clear Ow8
 have Ow8 := zh YOw8
 clear YOw8
 clear Fv3_5
 have Fv3_5 : Hid (X3_7.heap[b5]? = some (.cells #[.int .i64 2, .string (sB ([119, 104, 101, 114, 101]))] 70 (0, 0))) := zh (h1)
 have HszX3_7 := zh hsz
 clear h1 hfar hbel hsz
 simp only [ptr, Act.put, zA]
 refine wpList_nil ?_
 have ow0 := Ow8.out
 have C1_3 := zb B1 B2
 have p0 : PSm X3_7 bp bs s st := ⟨(heap_keep Hpbs.out C1_3.out), (heap_keep Hpbp.out C1_3.out), HNE.out, HP1.out, HS1.out⟩
 have f0 := (HF.out.keep C1_3.out)
 have g0 := (HG.out.keep C1_3.out)
 have t0 := Fv3_5.out
 have C0_2 := zb B0 B1
 have C0_3 := zb C0_2 B2
 have bb0 := C0_3.out
 go_wp2_with fail
 go_loopw [4] (fun v wr => ∃ (i : Nat) (A : Option Addr) (c : Nat) (cs : List Qu.Cd) (wd : List UInt8) (sq : Qu.St), v = .slice A i c ∧ i ≤ 3 ∧ cs.length = i ∧ Qu.filterN s 3 Qu.whereN [] st = Qu.filterN s (3 - i) wd cs sq ∧ Qu.Ok s sq ∧ wr.ownsRow w.heap.size 46 3 (.slice A i c) i (fl cdC cs) ∧ wr.heap[b5]? = some (.cells #[.int .i64 2, .string (sB wd)] 70 (0, 0)) ∧ PSm wr bp bs s sq ∧ FarH bp bs w wr ∧ Gc wr ∧ Below V.heap.size V wr) (fun v _ => 3 - slN v)
 case atStart => exact ⟨0, _, _, [], Qu.whereN, st, rfl, by omega, rfl, rfl, HOK.out, ow0, t0, p0, f0, g0, bb0⟩
 case round =>
  clear ow0 p0 f0 g0 t0 bb0 B0 HF HG Hpbs Hpbp Ow8 Fv3_5
  obtain ⟨wo, rfl⟩ : ∃ wo : World, wo = wr := ⟨_, rfl⟩
  obtain ⟨i, A0, c0, cs, wd, sq, rfl, hi, hcl, hfd, hoq, hov, htk, hps, hfh, hgg, hbb⟩ := hrel
  have B0 := zh hbb
  have HF := zh hfh
  have HG := zh hgg
  have Hpbs := zh hps.sc
  have Hpbp := zh hps.pr
  have HFD := zh hfd
  have HOQ := zh hoq
  have HCL := zh hcl
  have HOW := zh hov
  have Fv3_5 := zh htk
  clear hbb hfh hgg hps hfd hoq hcl hov htk
  have Gv8 : Hid (V.heap.size ≤ b5) := zh (by omega)
  have Lt9 : Hid (b5 < wo.heap.size) := zh (xp_lt Fv3_5.out)
  by_cases hlt : i < 3
  ·have hci10 : ((i : Int) < 3) := by omega
   by_cases ht : sq.tok = ⟨2, wd⟩
   ·go_upto_region 3 with fail
    refine wp_region_lit ?_
    refine zr (.slice A0 i c0) wo rfl ?_
    simp only [Act.put, zA]
    refine zr (.int .i64 (i : Int)) wo (xo_len A0 i c0 Tryd.underlying28 rfl rfl) ?_
    simp only [Act.put, zA]
    refine zr (.bool true) wo (xo_lssT .i64 (i : Int) 3 (by omega) rfl rfl rfl) ?_
    simp only [Act.put, zA]
    refine zr (.bool true) wo rfl ?_
    simp only [Act.put, zA]
    refine zr (.pointer (some ⟨bp, 0, none⟩)) wo rfl ?_
    simp only [Act.put, zA]
    refine zr (.agg #[.int .i64 2, .string (sB wd)]) wo (xo_loadW b5 _ Fv3_5.out Tryd.underlying70 rfl (by kernel_rfl) rfl rfl) ?_
    simp only [Act.put, zA]
    refine wpList_call (by kernel_rfl) 65 Tryd.func65 (by kernel_rfl) (by kernel_rfl) _ _ #[.pointer (some ⟨bp, 0, none⟩), .agg #[.int .i64 2, .string (sB wd)]] rfl (by kernel_rfl) ?_
    refine (acc_yes s HS4.out bp bs sq HOQ.out wo ⟨Hpbs.out, Hpbp.out, HNE.out, HP1.out, HS1.out⟩ ⟨2, wd⟩ ht).mono ?_
    rintro e W1_11 ⟨rfl, hps, hfc⟩
    have YFv3_5 : W1_11.heap[b5]? = some (.cells #[.int .i64 2, .string (sB wd)] 70 (0, 0)) := hfc.far _ _ (Ne.symm N0_0.out) (Ne.symm N1_1.out) Fv3_5.out
    have YHOW : W1_11.ownsRow w.heap.size 46 3 (.slice A0 i c0) i (fl cdC cs) := own_farC HOW.out Lpbp.out Lpbs.out hfc.toFarH
    have YHF : FarH bp bs w W1_11 := FarH.farC HF.out hfc
    have YHG : Gc W1_11 := rng_farC HG.out (by have := HP1.out; omega) (by have := HS1.out; omega) hfc.toFarH
    have hb := farc_bel hV0 B0.out hfc
    have hbr := hb
    clear B0
    have B0 := zh hbr
    clear hbr
    clear hb
    clear Fv3_5
    have Fv3_5 : Hid (W1_11.heap[b5]? = some (.cells #[.int .i64 2, .string (sB wd)] 70 (0, 0))) := zh YFv3_5
    clear YFv3_5
    clear HOW
    have HOW : Hid (W1_11.ownsRow w.heap.size 46 3 (.slice A0 i c0) i (fl cdC cs)) := zh YHOW
    clear YHOW
    clear HF
    have HF : Hid (FarH bp bs w W1_11) := zh YHF
    clear YHF
    clear HG
    have HG : Hid (Gc W1_11) := zh YHG
    clear YHG
    have Gv12 : Hid (V.heap.size ≤ b5) := zh (by omega)
    have Lt13 : Hid (b5 < W1_11.heap.size) := zh (xp_lt Fv3_5.out)
    clear Hpbs
    have Hpbs : Hid (W1_11.heap[bs]? = some (.cells #[.string (sB s), .int .i64 (((Qu.adv s sq).pos : Nat) : Int)] 66 (0, 0))) := zh (hps.sc)
    clear Hpbp
    have Hpbp : Hid (W1_11.heap[bp]? = some (.cells #[.func (.func 41) #[.pointer (some ⟨bs, 0, none⟩)] #[], .int .i64 ((Qu.adv s sq).tok.cls : Int), .string (sB ((Qu.adv s sq).tok.tx)), .int .i64 (((Qu.adv s sq).off : Nat) : Int)] 72 (0, 0))) := zh (hps.pr)
    clear hfc hps 
    refine ⟨_, rfl, ?_⟩
    simp only [Act.put, zA]
    refine zr (.bool true) W1_11 rfl ?_
    simp only [Act.put, zA]
    refine wpList_nil ?_
    obtain ⟨c, hc⟩ : ∃ c, Qu.condN s (Qu.adv s sq) = c := ⟨_, rfl⟩
    have HC := zh hc
    clear hc
    go_upto_region 4 with fail
    refine wp_region_lit ?_
    refine zr (.pointer (some ⟨bp, 0, none⟩)) W1_11 rfl ?_
    simp only [Act.put, zA]
    refine wpList_call (by kernel_rfl) 69 Tryd.func69 (by kernel_rfl) (by kernel_rfl) _ _ #[.pointer (some ⟨bp, 0, none⟩)] rfl (by kernel_rfl) ?_
    refine (condition_as s HS4.out bp bs (Qu.adv s sq) (Qu.adv_ok HOQ.out) W1_11 ⟨Hpbs.out, Hpbp.out, HNE.out, HP1.out, HS1.out⟩ HG.out c HC.out).mono ?_
    rintro e W1_14 ⟨rfl, hps, hfc⟩
    have YFv3_5 : W1_14.heap[b5]? = some (.cells #[.int .i64 2, .string (sB wd)] 70 (0, 0)) := hfc.far _ _ (Ne.symm N0_0.out) (Ne.symm N1_1.out) Fv3_5.out
    have YHOW : W1_14.ownsRow w.heap.size 46 3 (.slice A0 i c0) i (fl cdC cs) := own_farC HOW.out Lpbp.out Lpbs.out hfc.toFarH
    have YHF : FarH bp bs w W1_14 := FarH.farC HF.out hfc
    have YHG : Gc W1_14 := rng_farC HG.out (by have := HP1.out; omega) (by have := HS1.out; omega) hfc.toFarH
    have hb := farc_bel hV0 B0.out hfc
    have hbr := hb
    clear B0
    have B0 := zh hbr
    clear hbr
    clear hb
    clear Fv3_5
    have Fv3_5 : Hid (W1_14.heap[b5]? = some (.cells #[.int .i64 2, .string (sB wd)] 70 (0, 0))) := zh YFv3_5
    clear YFv3_5
    clear HOW
    have HOW : Hid (W1_14.ownsRow w.heap.size 46 3 (.slice A0 i c0) i (fl cdC cs)) := zh YHOW
    clear YHOW
    clear HF
    have HF : Hid (FarH bp bs w W1_14) := zh YHF
    clear YHF
    clear HG
    have HG : Hid (Gc W1_14) := zh YHG
    clear YHG
    have Gv15 : Hid (V.heap.size ≤ b5) := zh (by omega)
    have Lt16 : Hid (b5 < W1_14.heap.size) := zh (xp_lt Fv3_5.out)
    clear Hpbs
    have Hpbs : Hid (W1_14.heap[bs]? = some (.cells #[.string (sB s), .int .i64 ((c.st.pos : Nat) : Int)] 66 (0, 0))) := zh (hps.sc)
    clear Hpbp
    have Hpbp : Hid (W1_14.heap[bp]? = some (.cells #[.func (.func 41) #[.pointer (some ⟨bs, 0, none⟩)] #[], .int .i64 (c.st.tok.cls : Int), .string (sB c.st.tok.tx), .int .i64 ((c.st.off : Nat) : Int)] 72 (0, 0))) := zh (hps.pr)
    clear hfc hps 
    refine ⟨_, rfl, ?_⟩
    simp only [Act.put, zA]
    refine zr (.tuple #[.agg #[.int .i64 (c.val.col : Int), .int .i64 (c.val.lo : Int), .int .i64 (c.val.hi : Int)], .int .i64 (c.err : Int)]) W1_14 rfl ?_
    simp only [Act.put, zA]
    refine zr (.agg #[.int .i64 (c.val.col : Int), .int .i64 (c.val.lo : Int), .int .i64 (c.val.hi : Int)]) W1_14 rfl ?_
    simp only [Act.put, zA]
    refine zr (.int .i64 (c.err : Int)) W1_14 rfl ?_
    simp only [Act.put, zA]
    refine wpList_new #[.int .i64 0, .int .i64 0, .int .i64 0] 46 (by kernel_rfl) (xo_alloc #[.int .i64 0, .int .i64 0, .int .i64 0] (by kernel_rfl) rfl) ?_
    intro b6 V2 hge h0 hb
    have N17_0 : Hid (bp ≠ b6) := zh (xp_lt0 Hpbp.out hge)
    have N18_1 : Hid (bs ≠ b6) := zh (xp_lt0 Hpbs.out hge)
    have N19_2 : Hid (b5 ≠ b6) := zh (xp_lt0 Fv3_5.out hge)
    have Ge20 : Hid (W1_14.heap.size ≤ b6) := zh hge
    have B1 := zh hb
    have Fv21_6 : Hid (V2.heap[b6]? = some (.cells #[.int .i64 0, .int .i64 0, .int .i64 0] 46 (0, 0))) := zh (h0)
    have Lt22 : Hid (b6 < V2.heap.size) := zh (xp_lt Fv21_6.out)
    have Gw23 : Hid (w.heap.size ≤ b6) := zh (Nat.le_trans HF.out.size Ge20.out)
    have Nz24 : Hid (0 ≠ b6) := zh (by have := Gw23.out; have := Lpbp.out; omega)
    clear hge h0 hb
    simp only [ptr, Act.put, zA]
    refine wpList_storeW b6 #[.int .i64 0, .int .i64 0, .int .i64 0] #[.int .i64 (c.val.col : Int), .int .i64 (c.val.lo : Int), .int .i64 (c.val.hi : Int)] 46 (by kernel_rfl) Fv21_6.out (xo_storeW b6 #[.int .i64 0, .int .i64 0, .int .i64 0] #[.int .i64 (c.val.col : Int), .int .i64 (c.val.lo : Int), .int .i64 (c.val.hi : Int)] Fv21_6.out (by kernel_rfl) rfl (by simp [Value.oneCell']) rfl rfl rfl) ?_
    intro X2_25 h1 hfar hbel hsz
    have hbr := hbel _ _ Ge20.out B1.out
    clear B1
    have B1 := zh hbr
    clear hbr
    clear Fv21_6
    have Fv21_6 : Hid (X2_25.heap[b6]? = some (.cells #[.int .i64 (c.val.col : Int), .int .i64 (c.val.lo : Int), .int .i64 (c.val.hi : Int)] 46 (0, 0))) := zh (h1)
    have HszX2_25 := zh hsz
    clear h1 hfar hbel hsz
    simp only [ptr, Act.put, zA]
    refine zr (.int .i64 (c.err : Int)) X2_25 rfl ?_
    simp only [Act.put, zA]
    refine wpList_nil ?_
    by_cases hc : c.err = 0
    ·go_upto_region 5 with fail
     refine wp_region_lit ?_
     refine zr (.int .i64 (c.err : Int)) X2_25 rfl ?_
     simp only [Act.put, zA]
     refine zr (.bool false) X2_25 (xo_neqF .i64 ((c.err : Nat) : Int) 0 (by omega) rfl rfl rfl) ?_
     simp only [Act.put, zA]
     refine wpList_nil ?_
     go_upto_region 7 with fail
     refine wp_region_lit ?_
     refine zr (.slice A0 i c0) X2_25 rfl ?_
     simp only [Act.put, zA]
     refine zr (.agg #[.int .i64 (c.val.col : Int), .int .i64 (c.val.lo : Int), .int .i64 (c.val.hi : Int)]) X2_25 (xo_loadW b6 _ Fv21_6.out Tryd.underlying46 rfl (by kernel_rfl) rfl rfl) ?_
     simp only [Act.put, zA]
     refine wpList_mk (by kernel_rfl) ([c.val].flatMap cdC).toArray 46 1 1 (xg_lit (E := cdC) (bytes := 24) (.agg #[.int .i64 0, .int .i64 0, .int .i64 0]) [.tmp 27] [c.val] 1 Tryd.underlying28 (by kernel_rfl) rfl (by decide) (by decide) rfl rfl) ?_
     intro g28 V3 hge h0 hb
     have N26_0 : Hid (bp ≠ g28) := zh (xp_lt0 (heap_keep Hpbp.out B1.out) hge)
     have N27_1 : Hid (bs ≠ g28) := zh (xp_lt0 (heap_keep Hpbs.out B1.out) hge)
     have N28_2 : Hid (b5 ≠ g28) := zh (xp_lt0 (heap_keep Fv3_5.out B1.out) hge)
     have N29_3 : Hid (b6 ≠ g28) := zh (xp_lt0 Fv21_6.out hge)
     have Ge30 : Hid (X2_25.heap.size ≤ g28) := zh hge
     have B2 := zh hb
     have Fv31_28 : Hid (RowG cdC V3 g28 46 ([c.val])) := zh (h0)
     have Lt32 : Hid (g28 < V3.heap.size) := zh (xp_lt Fv31_28.out)
     have Gw33 : Hid (w.heap.size ≤ g28) := zh (Nat.le_trans (HF.out.keep B1.out).size Ge30.out)
     have Nz34 : Hid (0 ≠ g28) := zh (by have := Gw33.out; have := Lpbp.out; omega)
     clear hge h0 hb
     simp only [ptr, Act.put, zA]
     have C1_3 := zb B1 B2
     refine wpList_app2 (size := 3) (by kernel_rfl) (.tmp 26) (.tmp 28) 28 rfl (.agg #[.int .i64 0, .int .i64 0, .int .i64 0]) 24 Tryd.underlying28 (by kernel_rfl) rfl (by decide) rfl (own_keep HOW.out C1_3.out) (some ⟨g28, 0, none⟩) 1 1 (fl cdC ([c.val])) rfl (RowG.sg (n := 1) (c := 1) Fv31_28.out (show ([c.val]).length = 1 from rfl) (Nat.le_refl _) (by omega)).src (by unfold maxLen; omega) (by omega) (HF.out.keep C1_3.out).size ?_
     intro v29 X3_35 ho hb1 hg hloc
     have hox : X3_35.ownsRow w.heap.size 46 3 v29 (i + 1) (fl cdC (cs ++ ([c.val]))) := by rw [fl_append]; exact ho
     have YHpbp : X3_35.heap[bp]? = some (.cells #[.func (.func 41) #[.pointer (some ⟨bs, 0, none⟩)] #[], .int .i64 (c.st.tok.cls : Int), .string (sB c.st.tok.tx), .int .i64 ((c.st.off : Nat) : Int)] 72 (0, 0)) := keepB (heap_keep Hpbp.out C1_3.out) hb1 Lpbp.out
     have YHpbs : X3_35.heap[bs]? = some (.cells #[.string (sB s), .int .i64 ((c.st.pos : Nat) : Int)] 66 (0, 0)) := keepB (heap_keep Hpbs.out C1_3.out) hb1 Lpbs.out
     have YFv3_5 : X3_35.heap[b5]? = some (.cells #[.int .i64 2, .string (sB wd)] 70 (0, 0)) := own_rowkeep (own_keep HOW.out C1_3.out) hg (heap_keep Fv3_5.out C1_3.out) (by decide)
     have YHF : FarH bp bs w X3_35 := FarH.belowB (HF.out.keep C1_3.out) hb1
     have YHG : Gc X3_35 := rng_belowB (HG.out.keep C1_3.out) hb1 (by have := Lpbp.out; omega)
     have C0_2 := zb B0 B1
     have C0_3 := zb C0_2 B2
     have hbV := belV hV0 C0_3.out hb1
     have hbr := hbV
     clear B0
     have B0 := zh hbr
     clear hbr
     clear hbV
     clear Hpbp
     have Hpbp : Hid (X3_35.heap[bp]? = some (.cells #[.func (.func 41) #[.pointer (some ⟨bs, 0, none⟩)] #[], .int .i64 (c.st.tok.cls : Int), .string (sB c.st.tok.tx), .int .i64 ((c.st.off : Nat) : Int)] 72 (0, 0))) := zh YHpbp
     clear YHpbp
     clear Hpbs
     have Hpbs : Hid (X3_35.heap[bs]? = some (.cells #[.string (sB s), .int .i64 ((c.st.pos : Nat) : Int)] 66 (0, 0))) := zh YHpbs
     clear YHpbs
     clear Fv3_5
     have Fv3_5 : Hid (X3_35.heap[b5]? = some (.cells #[.int .i64 2, .string (sB wd)] 70 (0, 0))) := zh YFv3_5
     clear YFv3_5
     clear HF
     have HF : Hid (FarH bp bs w X3_35) := zh YHF
     clear YHF
     clear HG
     have HG : Hid (Gc X3_35) := zh YHG
     clear YHG
     have Gv36 : Hid (V.heap.size ≤ b5) := zh (by omega)
     have Lt37 : Hid (b5 < X3_35.heap.size) := zh (xp_lt Fv3_5.out)
     have Ow29_38 := zh hox
     clear ho hox hb1 hg hloc
     simp only [ptr, Act.put, zA]
     refine zr (v29) X3_35 rfl ?_
     simp only [Act.put, zA]
     refine wpList_nil ?_
     go_upto_region 8 with fail
     refine wp_region_lit ?_
     refine zr (.pointer (some ⟨b5, 1, none⟩)) X3_35 (xo_fld0 1 b5 1 (by kernel_rfl) rfl rfl) ?_
     simp only [Act.put, zA]
     refine wpList_store1 b5 1 #[.int .i64 2, .string (sB wd)] (.string (sB ([97, 110, 100]))) 70 (by kernel_rfl) Fv3_5.out (xo_store1 b5 1 #[.int .i64 2, .string (sB wd)] _ (.string (sB ([97, 110, 100]))) Fv3_5.out rfl (by kernel_rfl) rfl rfl rfl rfl) ?_
     intro X1_39 h1 hfar hbel hsz
     have YHF : FarH bp bs w X1_39 := FarH.store HF.out (.inr (.inr Gw5.out)) hsz hfar
     have YHG : Gc X1_39 := rng_store HG.out Nz6.out hfar
     have YOw29_38 : X1_39.ownsRow w.heap.size 46 3 v29 (i + 1) (fl cdC (cs ++ ([c.val]))) := own_farT Ow29_38.out Fv3_5.out (by decide) hfar
     have YHpbp : X1_39.heap[bp]? = some (.cells #[.func (.func 41) #[.pointer (some ⟨bs, 0, none⟩)] #[], .int .i64 (c.st.tok.cls : Int), .string (sB c.st.tok.tx), .int .i64 ((c.st.off : Nat) : Int)] 72 (0, 0)) := hfar _ _ N0_0.out Hpbp.out
     have YHpbs : X1_39.heap[bs]? = some (.cells #[.string (sB s), .int .i64 ((c.st.pos : Nat) : Int)] 66 (0, 0)) := hfar _ _ N1_1.out Hpbs.out
     have hbr := hbel _ _ Gv36.out B0.out
     clear B0
     have B0 := zh hbr
     clear hbr
     clear Hpbp
     have Hpbp : Hid (X1_39.heap[bp]? = some (.cells #[.func (.func 41) #[.pointer (some ⟨bs, 0, none⟩)] #[], .int .i64 (c.st.tok.cls : Int), .string (sB c.st.tok.tx), .int .i64 ((c.st.off : Nat) : Int)] 72 (0, 0))) := zh YHpbp
     clear YHpbp
     clear Hpbs
     have Hpbs : Hid (X1_39.heap[bs]? = some (.cells #[.string (sB s), .int .i64 ((c.st.pos : Nat) : Int)] 66 (0, 0))) := zh YHpbs
     clear YHpbs
     clear HF
     have HF := zh YHF
     clear YHF
     clear HG
     have HG := zh YHG
     clear YHG
     clear Ow29_38
     have Ow29_38 := zh YOw29_38
     clear YOw29_38
     clear Fv3_5
     have Fv3_5 : Hid (X1_39.heap[b5]? = some (.cells #[.int .i64 2, .string (sB ([97, 110, 100]))] 70 (0, 0))) := zh (h1)
     have HszX1_39 := zh hsz
     clear h1 hfar hbel hsz
     simp only [ptr, Act.put, zA]
     refine wpList_nil ?_
     obtain ⟨A40, c40, rfl⟩ := own_form Ow29_38.out
     have ow0 := Ow29_38.out
     have p0 : PSm X1_39 bp bs s c.st := ⟨Hpbs.out, Hpbp.out, HNE.out, HP1.out, HS1.out⟩
     have f0 := HF.out
     have g0 := HG.out
     have t0 := Fv3_5.out
     have bb0 := B0.out
     have d0 := HFD.out.trans (Qu.filterN_go (by omega) ht HC.out hc)
     rw [show 3 - i - 1 = 3 - (i + 1) from by omega] at d0
     have hcl := HCL.out
     go_wp2_with fail
     go_roundw
     case rel => exact ⟨i + 1, _, _, cs ++ [c.val], _, c.st, rfl, by omega, (by rw [List.length_append, hcl]; rfl), d0, (by rw [← HC.out]; exact Qu.condN_ok (Qu.adv_ok HOQ.out)), ow0, t0, p0, f0, g0, bb0⟩
     case measure => simp [slN]; omega
    ·go_upto_region 5 with fail
     refine wp_region_lit ?_
     refine zr (.int .i64 (c.err : Int)) X2_25 rfl ?_
     simp only [Act.put, zA]
     refine zr (.bool true) X2_25 (xo_neqT .i64 ((c.err : Nat) : Int) 0 (by omega) rfl rfl rfl) ?_
     simp only [Act.put, zA]
     refine wpList_nil ?_
     go_upto_region 6 with fail
     refine wp_region_lit ?_
     refine zr (.int .i64 (c.err : Int)) X2_25 rfl ?_
     simp only [Act.put, zA]
     refine zr (.slice none 0 0) X2_25 rfl ?_
     simp only [Act.put, zA]
     refine zr (.int .i64 (c.err : Int)) X2_25 rfl ?_
     simp only [Act.put, zA]
     refine wpList_nil ?_
     have hx : ⟨[], c.err, c.st⟩ = r := Eq.trans (Eq.symm (HFD.out.trans (Qu.filterN_err (by omega) ht HC.out hc))) HR.out
     have hsf : PSm X2_25 bp bs s _ := ⟨(heap_keep Hpbs.out B1.out), (heap_keep Hpbp.out B1.out), HNE.out, HP1.out, HS1.out⟩
     have C0_2 := zb B0 B1
     have hff := farc_mk (HF.out.keep B1.out) HVW.out C0_2.out
     subst hx
     go_wp2_with fail
     go_ret2
     exact ⟨⟨_, rfl⟩, hsf, hff⟩
   ·go_upto_region 3 with fail
    refine wp_region_lit ?_
    refine zr (.slice A0 i c0) wo rfl ?_
    simp only [Act.put, zA]
    refine zr (.int .i64 (i : Int)) wo (xo_len A0 i c0 Tryd.underlying28 rfl rfl) ?_
    simp only [Act.put, zA]
    refine zr (.bool true) wo (xo_lssT .i64 (i : Int) 3 (by omega) rfl rfl rfl) ?_
    simp only [Act.put, zA]
    refine zr (.bool true) wo rfl ?_
    simp only [Act.put, zA]
    refine zr (.pointer (some ⟨bp, 0, none⟩)) wo rfl ?_
    simp only [Act.put, zA]
    refine zr (.agg #[.int .i64 2, .string (sB wd)]) wo (xo_loadW b5 _ Fv3_5.out Tryd.underlying70 rfl (by kernel_rfl) rfl rfl) ?_
    simp only [Act.put, zA]
    refine wpList_call (by kernel_rfl) 65 Tryd.func65 (by kernel_rfl) (by kernel_rfl) _ _ #[.pointer (some ⟨bp, 0, none⟩), .agg #[.int .i64 2, .string (sB wd)]] rfl (by kernel_rfl) ?_
    refine (acc_no s HS4.out bp bs sq HOQ.out wo ⟨Hpbs.out, Hpbp.out, HNE.out, HP1.out, HS1.out⟩ ⟨2, wd⟩ ht).mono ?_
    rintro e W1_11 ⟨rfl, hps, hfc⟩
    have YFv3_5 : W1_11.heap[b5]? = some (.cells #[.int .i64 2, .string (sB wd)] 70 (0, 0)) := hfc.far _ _ (Ne.symm N0_0.out) (Ne.symm N1_1.out) Fv3_5.out
    have YHOW : W1_11.ownsRow w.heap.size 46 3 (.slice A0 i c0) i (fl cdC cs) := own_farC HOW.out Lpbp.out Lpbs.out hfc.toFarH
    have YHF : FarH bp bs w W1_11 := FarH.farC HF.out hfc
    have YHG : Gc W1_11 := rng_farC HG.out (by have := HP1.out; omega) (by have := HS1.out; omega) hfc.toFarH
    have hb := farc_bel hV0 B0.out hfc
    have hbr := hb
    clear B0
    have B0 := zh hbr
    clear hbr
    clear hb
    clear Fv3_5
    have Fv3_5 : Hid (W1_11.heap[b5]? = some (.cells #[.int .i64 2, .string (sB wd)] 70 (0, 0))) := zh YFv3_5
    clear YFv3_5
    clear HOW
    have HOW : Hid (W1_11.ownsRow w.heap.size 46 3 (.slice A0 i c0) i (fl cdC cs)) := zh YHOW
    clear YHOW
    clear HF
    have HF : Hid (FarH bp bs w W1_11) := zh YHF
    clear YHF
    clear HG
    have HG : Hid (Gc W1_11) := zh YHG
    clear YHG
    have Gv12 : Hid (V.heap.size ≤ b5) := zh (by omega)
    have Lt13 : Hid (b5 < W1_11.heap.size) := zh (xp_lt Fv3_5.out)
    clear Hpbs
    have Hpbs : Hid (W1_11.heap[bs]? = some (.cells #[.string (sB s), .int .i64 ((sq.pos : Nat) : Int)] 66 (0, 0))) := zh (hps.sc)
    clear Hpbp
    have Hpbp : Hid (W1_11.heap[bp]? = some (.cells #[.func (.func 41) #[.pointer (some ⟨bs, 0, none⟩)] #[], .int .i64 (sq.tok.cls : Int), .string (sB sq.tok.tx), .int .i64 ((sq.off : Nat) : Int)] 72 (0, 0))) := zh (hps.pr)
    clear hfc hps 
    refine ⟨_, rfl, ?_⟩
    simp only [Act.put, zA]
    refine zr (.bool false) W1_11 rfl ?_
    simp only [Act.put, zA]
    refine wpList_nil ?_
    go_upto_region 9 with fail
    refine wp_region_lit ?_
    refine zr (.slice A0 i c0) W1_11 rfl ?_
    simp only [Act.put, zA]
    refine zr (.slice A0 i c0) W1_11 rfl ?_
    simp only [Act.put, zA]
    refine zr (.int .i64 0) W1_11 rfl ?_
    simp only [Act.put, zA]
    refine wpList_nil ?_
    have hx : ⟨cs, 0, sq⟩ = r := Eq.trans (Eq.symm (HFD.out.trans (Qu.filterN_no ht))) HR.out
    have hsf : PSm W1_11 bp bs s _ := ⟨Hpbs.out, Hpbp.out, HNE.out, HP1.out, HS1.out⟩
    have hff := farc_mk HF.out HVW.out B0.out
    have how := HOW.out
    subst hx
    go_wp2_with fail
    go_ret2
    exact ⟨_, rfl, (by first | exact how | (rw [HCL.out]; exact how)), hsf, hff⟩
  ·obtain rfl : i = 3 := by omega
   go_upto_region 3 with fail
   refine wp_region_lit ?_
   refine zr (.slice A0 3 c0) wo rfl ?_
   simp only [Act.put, zA]
   refine zr (.int .i64 3) wo (xo_len A0 3 c0 Tryd.underlying28 rfl rfl) ?_
   simp only [Act.put, zA]
   refine zr (.bool false) wo (xo_lssF .i64 3 3 (by omega) rfl rfl rfl) ?_
   simp only [Act.put, zA]
   refine zr (.bool false) wo rfl ?_
   simp only [Act.put, zA]
   refine zl ?_
   try simp only [Act.put, zA]
   refine zl ?_
   try simp only [Act.put, zA]
   refine zl ?_
   try simp only [Act.put, zA]
   refine zr (.bool false) wo rfl ?_
   simp only [Act.put, zA]
   refine wpList_nil ?_
   go_upto_region 9 with fail
   refine wp_region_lit ?_
   refine zr (.slice A0 3 c0) wo rfl ?_
   simp only [Act.put, zA]
   refine zr (.slice A0 3 c0) wo rfl ?_
   simp only [Act.put, zA]
   refine zr (.int .i64 0) wo rfl ?_
   simp only [Act.put, zA]
   refine wpList_nil ?_
   have hx : ⟨cs, 0, sq⟩ = r := Eq.trans (Eq.symm (HFD.out.trans (rfl))) HR.out
   have hsf : PSm wo bp bs s _ := ⟨Hpbs.out, Hpbp.out, HNE.out, HP1.out, HS1.out⟩
   have hff := farc_mk HF.out HVW.out B0.out
   have how := HOW.out
   subst hx
   go_wp2_with fail
   go_ret2
   exact ⟨_, rfl, (by first | exact how | (rw [HCL.out]; exact how)), hsf, hff⟩
end Go.Proofs.YtlicfidcfhbmpaaDoor

namespace Go.Proofs.YtlicfidcfhbmpaaDoor
set_option maxRecDepth 8000
open Go.RowKit Go.Proofs.YtlicfidcfhbmpaaDoor.K
attribute [local irreducible] wpList wpQuiet
/-- filters that lie in own slices, under heads -/
structure OwnsC (w : World) (t : TypeId) (base : Nat) (hs : List Hd) (fs : List (List Qu.Cd)) : Prop where
 len : hs.length = fs.length
 row : ∀ (i : Nat) (h : Hd) (xs : List Qu.Cd), hs[i]? = some h → fs[i]? = some xs → xs.length = h.n ∧ w.ownsRow base t 3 (.slice h.A h.n h.c) h.n (fl cdC xs)
section
variable {w w' : World} {t : TypeId} {base : Nat} {hs : List Hd} {fs : List (List Qu.Cd)}
theorem OwnsC.keep (h : OwnsC w t base hs fs) (hb : Below w.heap.size w w') : OwnsC w' t base hs fs := ⟨h.len, fun i d xs hi hx => ⟨(h.row i d xs hi hx).1, own_keep (h.row i d xs hi hx).2 hb⟩⟩
theorem OwnsC.grown {b0 : Nat} {e : TypeId} {size n : Nat} {v : Value} {cs : List Value} (h : OwnsC w t base hs fs) (ho : w.ownsRow b0 e size v n cs) (hg : w.grownBy w' v.ownBlock) (hne : t ≠ e) : OwnsC w' t base hs fs :=
 ⟨h.len, fun i d xs hi hx => ⟨(h.row i d xs hi hx).1, own_growT (h.row i d xs hi hx).2 ho hg hne⟩⟩
theorem OwnsC.farC {p q : Nat} (h : OwnsC w t base hs fs) (hp : p < base) (hq : q < base) (k : FarH p q w w') : OwnsC w' t base hs fs :=
 ⟨h.len, fun i d xs hi hx => ⟨(h.row i d xs hi hx).1, own_farC (h.row i d xs hi hx).2 hp hq k⟩⟩
theorem OwnsC.nil : OwnsC w t base [] [] := ⟨rfl, fun i h xs hi => by simp at hi⟩
theorem OwnsC.push {n c : Nat} {A : Option Addr} {xs : List Qu.Cd} (h : OwnsC w t base hs fs) (ho : w.ownsRow base t 3 (.slice A n c) n (fl cdC xs)) (hl : xs.length = n) : OwnsC w t base (hs ++ [Hd.mk A n c]) (fs ++ [xs]) :=
 ⟨by simp [h.len], fun i d ys hi hx => by
  rw [List.getElem?_append] at hi hx
  rw [h.len] at hi
  split at hi
  ·next hlt => rw [if_pos hlt] at hx; exact h.row i d ys hi hx
  ·next hlt =>
   rw [if_neg hlt] at hx
   have h0 : i - fs.length = 0 := by have := (List.getElem?_eq_some_iff.1 hi).1; simp at this; omega
   rw [h0] at hi hx
   simp at hi hx
   subst hi hx
   exact ⟨hl, ho⟩⟩
theorem OwnsC.sg (h : OwnsC w t base hs fs) {i : Nat} {d : Hd} {xs : List Qu.Cd} (hi : hs[i]? = some d) (hx : fs[i]? = some xs) : Sg cdC 3 w d.A d.n d.c xs := Sg.ownS (h.row i d xs hi hx).2
end
/-- the filters of a query, own -/
def FsOwn (w : World) (base : Nat) (v : Value) (fs : List (List Qu.Cd)) : Prop := ∃ A c hs, v = .slice A fs.length c ∧ w.ownsRow base 28 1 (.slice A fs.length c) fs.length (fl hdC hs) ∧ OwnsC w 46 base hs fs
theorem own_nil {w : World} {base : Nat} {e : TypeId} {size : Nat} : w.ownsRow base e size (.slice none 0 0) 0 [] := ⟨by simp, .inl ⟨rfl, rfl⟩⟩
section
variable {s : List UInt8} {n : Nat} {fs : List (List Qu.Cd)} {st : Qu.St} {c : Qu.Rs (List Qu.Cd)}
theorem _root_.Qu.filtersN_go0 (hn : 0 < n) (hf : fs.length = 0) (hc : Qu.filterN s 3 Qu.whereN [] st = c) (he : c.err = 0) : Qu.filtersN s n fs st = Qu.filtersN s (n - 1) (fs ++ [c.val]) c.st := by
 cases n with
 | zero => omega
 | succ n =>
  conv => lhs; unfold Qu.filtersN
  simp only [if_pos hf, hc, if_pos he]
  rfl
theorem _root_.Qu.filtersN_err0 (hn : 0 < n) (hf : fs.length = 0) (hc : Qu.filterN s 3 Qu.whereN [] st = c) (he : ¬ c.err = 0) : Qu.filtersN s n fs st = ⟨[], c.err, c.st⟩ := by
 cases n with
 | zero => omega
 | succ n =>
  unfold Qu.filtersN
  simp only [if_pos hf, hc, if_neg he]
theorem _root_.Qu.filtersN_go1 (hn : 0 < n) (hf : ¬ fs.length = 0) (ht : st.tok = ⟨2, Qu.withN⟩) (hc : Qu.filterN s 3 Qu.whereN [] (Qu.adv s st) = c) (he : c.err = 0) : Qu.filtersN s n fs st = Qu.filtersN s (n - 1) (fs ++ [c.val]) c.st := by
 cases n with
 | zero => omega
 | succ n =>
  conv => lhs; unfold Qu.filtersN
  simp only [if_neg hf, Qu.expN, Qu.accS, if_pos ht, hc, if_pos he, if_true]
  rfl
theorem _root_.Qu.filtersN_err1 (hn : 0 < n) (hf : ¬ fs.length = 0) (ht : st.tok = ⟨2, Qu.withN⟩) (hc : Qu.filterN s 3 Qu.whereN [] (Qu.adv s st) = c) (he : ¬ c.err = 0) : Qu.filtersN s n fs st = ⟨[], c.err, c.st⟩ := by
 cases n with
 | zero => omega
 | succ n =>
  unfold Qu.filtersN
  simp only [if_neg hf, Qu.expN, Qu.accS, if_pos ht, hc, if_neg he, if_true]
theorem _root_.Qu.filtersN_no (hn : 0 < n) (hf : ¬ fs.length = 0) (ht : ¬ st.tok = ⟨2, Qu.withN⟩) : Qu.filtersN s n fs st = ⟨[], Qu.refN st, st⟩ := by
 cases n with
 | zero => omega
 | succ n =>
  unfold Qu.filtersN
  simp only [if_neg hf, Qu.expN, Qu.accS, if_neg ht, if_neg (Qu.refN_ne _)]
end
set_option maxRecDepth 100000 in
set_option maxHeartbeats 16000000 in
theorem filters_as (s : List UInt8) (hs4 : s.length ≤ 1000) (bp bs : Nat) (st : Qu.St) (hst : Qu.Ok s st) (w : World) (hP : PSm w bp bs s st) (hG : Gc w) (k : Nat) (hk : k ≤ 2) (r : Qu.Rs (List (List Qu.Cd))) (hr : Qu.filtersN s k [] st = r) :
  Calls Tryd.prog 60 #[.pointer (some ⟨bp, 0, none⟩), .int .i64 (k : Int)] w fun e w' => ∃ A n c, e = .returned (.tuple #[.slice A n c, .int .i64 (r.err : Int)]) ∧ (r.err = 0 → FsOwn w' w.heap.size (.slice A n c) r.val) ∧ PSm w' bp bs s r.st ∧ FarC bp bs w w' := by
 have HG := zh hG
 clear hG
 obtain ⟨V, hV0, hV⟩ := base_world w
 have B0 := zh hV
 have HVW := zh hV
 clear hV
 have HF := zh (FarH.refl bp bs w)
 have HS4 := zh hs4
 have HOK := zh hst
 have HNE := zh hP.ne
 have HP1 := zh hP.p1
 have HS1 := zh hP.s1
 have hne := hP.ne
 have Hpbp : Hid (w.heap[bp]? = some (.cells #[.func (.func 41) #[.pointer (some ⟨bs, 0, none⟩)] #[], .int .i64 (st.tok.cls : Int), .string (sB st.tok.tx), .int .i64 ((st.off : Nat) : Int)] 72 (0, 0))) := zh (hP.pr)
 have Gpbp : Hid (V.heap.size ≤ bp) := zh (by omega)
 have Lpbp : Hid (bp < w.heap.size) := zh (xp_lt Hpbp.out)
 have Hpbs : Hid (w.heap[bs]? = some (.cells #[.string (sB s), .int .i64 ((st.pos : Nat) : Int)] 66 (0, 0))) := zh (hP.sc)
 have Gpbs : Hid (V.heap.size ≤ bs) := zh (by omega)
 have Lpbs : Hid (bs < w.heap.size) := zh (xp_lt Hpbs.out)
 have Npbpbs : Hid (bp ≠ bs) := zh (by omega)
 clear hs4 hst hP hne
 go_enter Tryd.func60, Tryd.ntmps60
 go_upto_region 1 with fail
 have HR := zh hr
 clear hr
 refine wp_region_lit ?_
 refine zr (.slice none 0 0) w rfl ?_
 simp only [Act.put, zA]
 refine wpList_nil ?_
 go_upto_region 2 with fail
 refine wp_region_lit ?_
 refine zr (.int .i64 (k : Int)) w rfl ?_
 simp only [Act.put, zA]
 refine zr (.int .i64 0) w rfl ?_
 simp only [Act.put, zA]
 refine wpList_nil ?_
 have p0 : PSm w bp bs s st := ⟨Hpbs.out, Hpbp.out, HNE.out, HP1.out, HS1.out⟩
 have f0 := HF.out
 have g0 := HG.out
 have bb0 := B0.out
 go_wp2_with fail
 go_loopw [6, 12] (fun v p wr => ∃ (i : Nat) (A : Option Addr) (c : Nat) (hs : List Hd) (fs : List (List Qu.Cd)) (sq : Qu.St), v = .slice A i c ∧ p = .int .i64 (i : Int) ∧ i ≤ k ∧ fs.length = i ∧ Qu.filtersN s k [] st = Qu.filtersN s (k - i) fs sq ∧ Qu.Ok s sq ∧ wr.ownsRow w.heap.size 28 1 (.slice A i c) i (fl hdC hs) ∧ OwnsC wr 46 w.heap.size hs fs ∧ PSm wr bp bs s sq ∧ FarH bp bs w wr ∧ Gc wr ∧ Below V.heap.size V wr) (fun _ p _ => k - (intOf p).toNat)
 case atStart => exact ⟨0, _, _, [], [], st, rfl, rfl, by omega, rfl, rfl, HOK.out, own_nil, OwnsC.nil, p0, f0, g0, bb0⟩
 case round =>
  clear p0 f0 g0 bb0 B0 HF HG Hpbs Hpbp
  obtain ⟨wo, rfl⟩ : ∃ wo : World, wo = wr := ⟨_, rfl⟩
  obtain ⟨i, A0, c0, hs, fs, sq, rfl, rfl, hi, hcl, hfd, hoq, hov, hin, hps, hfh, hgg, hbb⟩ := hrel
  have B0 := zh hbb
  have HF := zh hfh
  have HG := zh hgg
  have Hpbs := zh hps.sc
  have Hpbp := zh hps.pr
  have HFD := zh hfd
  have HOQ := zh hoq
  have HCL := zh hcl
  have HOW := zh hov
  have HIn := zh hin
  clear hbb hfh hgg hps hfd hoq hcl hov hin
  by_cases hlt : i < k
  ·have hci0 : ((i : Int) < (k : Int)) := by omega
   go_upto_region 3 with fail
   refine wp_region_lit ?_
   refine zr (.bool true) wo (xo_lssT .i64 (i : Int) (k : Int) (by omega) rfl rfl rfl) ?_
   simp only [Act.put, zA]
   refine wpList_nil ?_
   go_upto_region 4 with fail
   refine wp_region_lit ?_
   refine zr (.int .i64 (i : Int)) wo rfl ?_
   simp only [Act.put, zA]
   refine zr (.int .i64 (i : Int)) wo rfl ?_
   simp only [Act.put, zA]
   refine wpList_nil ?_
   by_cases hi0 : i = 0
   ·have hci1 : ¬ ((i : Int) > 0) := by omega
    go_upto_region 5 with fail
    refine wp_region_lit ?_
    refine zr (.int .i64 (i : Int)) wo rfl ?_
    simp only [Act.put, zA]
    refine zr (.bool false) wo (xo_gtrF .i64 (i : Int) 0 (by omega) rfl rfl rfl) ?_
    simp only [Act.put, zA]
    refine wpList_nil ?_
    obtain ⟨c, hc⟩ : ∃ c, Qu.filterN s 3 Qu.whereN [] sq = c := ⟨_, rfl⟩
    have HC := zh hc
    clear hc
    go_upto_region 9 with fail
    refine wp_region_lit ?_
    refine zr (.pointer (some ⟨bp, 0, none⟩)) wo rfl ?_
    simp only [Act.put, zA]
    have hsz0 := zh HF.out.size
    refine wpList_call (by kernel_rfl) 68 Tryd.func68 (by kernel_rfl) (by kernel_rfl) _ _ #[.pointer (some ⟨bp, 0, none⟩)] rfl (by kernel_rfl) ?_
    refine (filter_as s HS4.out bp bs sq HOQ.out wo ⟨Hpbs.out, Hpbp.out, HNE.out, HP1.out, HS1.out⟩ HG.out c HC.out).mono ?_
    rintro e W1_2 ⟨vl, rfl, how, hps, hfc⟩
    have YHOW : W1_2.ownsRow w.heap.size 28 1 (.slice A0 i c0) i (fl hdC hs) := own_farC HOW.out Lpbp.out Lpbs.out hfc.toFarH
    have YHF : FarH bp bs w W1_2 := FarH.farC HF.out hfc
    have YHG : Gc W1_2 := rng_farC HG.out (by have := HP1.out; omega) (by have := HS1.out; omega) hfc.toFarH
    have YHIn : OwnsC W1_2 46 w.heap.size hs fs := OwnsC.farC HIn.out Lpbp.out Lpbs.out hfc.toFarH
    have hb := farc_bel hV0 B0.out hfc
    have hbr := hb
    clear B0
    have B0 := zh hbr
    clear hbr
    clear hb
    clear HOW
    have HOW : Hid (W1_2.ownsRow w.heap.size 28 1 (.slice A0 i c0) i (fl hdC hs)) := zh YHOW
    clear YHOW
    clear HF
    have HF : Hid (FarH bp bs w W1_2) := zh YHF
    clear YHF
    clear HG
    have HG : Hid (Gc W1_2) := zh YHG
    clear YHG
    clear HIn
    have HIn : Hid (OwnsC W1_2 46 w.heap.size hs fs) := zh YHIn
    clear YHIn
    try clear HOWI
    have HOWI := zh how
    clear Hpbs
    have Hpbs : Hid (W1_2.heap[bs]? = some (.cells #[.string (sB s), .int .i64 ((c.st.pos : Nat) : Int)] 66 (0, 0))) := zh (hps.sc)
    clear Hpbp
    have Hpbp : Hid (W1_2.heap[bp]? = some (.cells #[.func (.func 41) #[.pointer (some ⟨bs, 0, none⟩)] #[], .int .i64 (c.st.tok.cls : Int), .string (sB c.st.tok.tx), .int .i64 ((c.st.off : Nat) : Int)] 72 (0, 0))) := zh (hps.pr)
    clear hfc hps how
    refine ⟨_, rfl, ?_⟩
    simp only [Act.put, zA]
    refine zr (.tuple #[vl, .int .i64 (c.err : Int)]) W1_2 rfl ?_
    simp only [Act.put, zA]
    refine zr (vl) W1_2 rfl ?_
    simp only [Act.put, zA]
    refine zr (.int .i64 (c.err : Int)) W1_2 rfl ?_
    simp only [Act.put, zA]
    refine zr (vl) W1_2 rfl ?_
    simp only [Act.put, zA]
    refine zr (.int .i64 (c.err : Int)) W1_2 rfl ?_
    simp only [Act.put, zA]
    refine wpList_nil ?_
    by_cases hc : c.err = 0
    ·go_upto_region 10 with fail
     refine wp_region_lit ?_
     refine zr (.int .i64 (c.err : Int)) W1_2 rfl ?_
     simp only [Act.put, zA]
     refine zr (.bool false) W1_2 (xo_neqF .i64 ((c.err : Nat) : Int) 0 (by omega) rfl rfl rfl) ?_
     simp only [Act.put, zA]
     refine wpList_nil ?_
     have hnw := own_mono (HOWI.out hc) hsz0.out
     obtain ⟨A1, c1, rfl⟩ := own_form hnw
     have HNw := zh hnw
     clear hnw HOWI
     go_upto_region 12 with fail
     refine wp_region_lit ?_
     refine zr (.slice A0 i c0) W1_2 rfl ?_
     simp only [Act.put, zA]
     refine zr (.slice A1 c.val.length c1) W1_2 rfl ?_
     simp only [Act.put, zA]
     refine wpList_mk (by kernel_rfl) ([(Hd.mk A1 c.val.length c1)].flatMap hdC).toArray 28 1 1 (xg_lit (E := hdC) (bytes := 24) (.slice none 0 0) [.tmp 32] [(Hd.mk A1 c.val.length c1)] 1 Tryd.underlying22 (by kernel_rfl) rfl (by decide) (by decide) rfl rfl) ?_
     intro g33 V2 hge h0 hb
     have N3_0 : Hid (bp ≠ g33) := zh (xp_lt0 Hpbp.out hge)
     have N4_1 : Hid (bs ≠ g33) := zh (xp_lt0 Hpbs.out hge)
     have Ge5 : Hid (W1_2.heap.size ≤ g33) := zh hge
     have B1 := zh hb
     have Fv6_33 : Hid (RowG hdC V2 g33 28 ([(Hd.mk A1 c.val.length c1)])) := zh (h0)
     have Lt7 : Hid (g33 < V2.heap.size) := zh (xp_lt Fv6_33.out)
     have Gw8 : Hid (w.heap.size ≤ g33) := zh (Nat.le_trans HF.out.size Ge5.out)
     have Nz9 : Hid (0 ≠ g33) := zh (by have := Gw8.out; have := Lpbp.out; omega)
     clear hge h0 hb
     simp only [ptr, Act.put, zA]
     refine wpList_app2 (size := 1) (by kernel_rfl) (.tmp 31) (.tmp 33) 22 rfl (.slice none 0 0) 24 Tryd.underlying22 (by kernel_rfl) rfl (by decide) rfl (own_keep HOW.out B1.out) (some ⟨g33, 0, none⟩) 1 1 (fl hdC ([(Hd.mk A1 c.val.length c1)])) rfl (RowG.sg (n := 1) (c := 1) Fv6_33.out (show ([(Hd.mk A1 c.val.length c1)]).length = 1 from rfl) (Nat.le_refl _) (by omega)).src (by unfold maxLen; omega) (by omega) (HF.out.keep B1.out).size ?_
     intro v34 X2_10 ho hb1 hg hloc
     have hox : X2_10.ownsRow w.heap.size 28 1 v34 (i + 1) (fl hdC (hs ++ ([(Hd.mk A1 c.val.length c1)]))) := by rw [fl_append]; exact ho
     have YHpbp : X2_10.heap[bp]? = some (.cells #[.func (.func 41) #[.pointer (some ⟨bs, 0, none⟩)] #[], .int .i64 (c.st.tok.cls : Int), .string (sB c.st.tok.tx), .int .i64 ((c.st.off : Nat) : Int)] 72 (0, 0)) := keepB (heap_keep Hpbp.out B1.out) hb1 Lpbp.out
     have YHpbs : X2_10.heap[bs]? = some (.cells #[.string (sB s), .int .i64 ((c.st.pos : Nat) : Int)] 66 (0, 0)) := keepB (heap_keep Hpbs.out B1.out) hb1 Lpbs.out
     have YHF : FarH bp bs w X2_10 := FarH.belowB (HF.out.keep B1.out) hb1
     have YHG : Gc X2_10 := rng_belowB (HG.out.keep B1.out) hb1 (by have := Lpbp.out; omega)
     have YHIn : OwnsC X2_10 46 w.heap.size hs fs := OwnsC.grown (HIn.out.keep B1.out) (own_keep HOW.out B1.out) hg (by decide)
     have YHNw : X2_10.ownsRow w.heap.size 46 3 (.slice A1 c.val.length c1) c.val.length (fl cdC c.val) := own_growT (own_keep HNw.out B1.out) (own_keep HOW.out B1.out) hg (by decide)
     have C0_2 := zb B0 B1
     have hbV := belV hV0 C0_2.out hb1
     have hbr := hbV
     clear B0
     have B0 := zh hbr
     clear hbr
     clear hbV
     clear Hpbp
     have Hpbp : Hid (X2_10.heap[bp]? = some (.cells #[.func (.func 41) #[.pointer (some ⟨bs, 0, none⟩)] #[], .int .i64 (c.st.tok.cls : Int), .string (sB c.st.tok.tx), .int .i64 ((c.st.off : Nat) : Int)] 72 (0, 0))) := zh YHpbp
     clear YHpbp
     clear Hpbs
     have Hpbs : Hid (X2_10.heap[bs]? = some (.cells #[.string (sB s), .int .i64 ((c.st.pos : Nat) : Int)] 66 (0, 0))) := zh YHpbs
     clear YHpbs
     clear HF
     have HF : Hid (FarH bp bs w X2_10) := zh YHF
     clear YHF
     clear HG
     have HG : Hid (Gc X2_10) := zh YHG
     clear YHG
     clear HIn
     have HIn : Hid (OwnsC X2_10 46 w.heap.size hs fs) := zh YHIn
     clear YHIn
     clear HNw
     have HNw : Hid (X2_10.ownsRow w.heap.size 46 3 (.slice A1 c.val.length c1) c.val.length (fl cdC c.val)) := zh YHNw
     clear YHNw
     have Ow34_11 := zh hox
     clear ho hox hb1 hg hloc
     simp only [ptr, Act.put, zA]
     refine zr (v34) X2_10 rfl ?_
     simp only [Act.put, zA]
     refine wpList_nil ?_
     go_upto_region 13 with fail
     refine wp_region_lit ?_
     refine zr (.int .i64 ((i + 1 : Nat) : Int)) X2_10 (xo_addI (i : Int) 1 ((i + 1 : Nat) : Int) (by omega) (by omega) (by omega) rfl rfl rfl) ?_
     simp only [Act.put, zA]
     refine zr (.int .i64 ((i + 1 : Nat) : Int)) X2_10 rfl ?_
     simp only [Act.put, zA]
     refine wpList_nil ?_
     obtain ⟨A12, c12, rfl⟩ := own_form Ow34_11.out
     have ow0 := Ow34_11.out
     have p0 : PSm X2_10 bp bs s c.st := ⟨Hpbs.out, Hpbp.out, HNE.out, HP1.out, HS1.out⟩
     have f0 := HF.out
     have g0 := HG.out
     have in0 := OwnsC.push HIn.out HNw.out rfl
     have bb0 := B0.out
     have d0 := HFD.out.trans (Qu.filtersN_go0 (by omega) (by rw [HCL.out]; exact hi0) HC.out hc)
     rw [show k - i - 1 = k - (i + 1) from by omega] at d0
     have hoq2 : Qu.Ok s c.st := by rw [← HC.out]; exact Qu.filterN_ok _ _ _ HOQ.out
     go_wp2_with fail
     go_roundw
     case rel => exact ⟨i + 1, _, _, _, fs ++ [c.val], c.st, rfl, by go_num, by omega, (by rw [List.length_append, HCL.out]; rfl), d0, hoq2, ow0, in0, p0, f0, g0, bb0⟩
     case measure => simp [intOf]; omega
    ·go_upto_region 10 with fail
     refine wp_region_lit ?_
     refine zr (.int .i64 (c.err : Int)) W1_2 rfl ?_
     simp only [Act.put, zA]
     refine zr (.bool true) W1_2 (xo_neqT .i64 ((c.err : Nat) : Int) 0 (by omega) rfl rfl rfl) ?_
     simp only [Act.put, zA]
     refine wpList_nil ?_
     go_upto_region 11 with fail
     refine wp_region_lit ?_
     refine zr (.int .i64 (c.err : Int)) W1_2 rfl ?_
     simp only [Act.put, zA]
     refine zr (.slice none 0 0) W1_2 rfl ?_
     simp only [Act.put, zA]
     refine zr (.int .i64 (c.err : Int)) W1_2 rfl ?_
     simp only [Act.put, zA]
     refine wpList_nil ?_
     have hx : ⟨[], c.err, c.st⟩ = r := Eq.trans (Eq.symm (HFD.out.trans (Qu.filtersN_err0 (by omega) (by rw [HCL.out]; exact hi0) HC.out hc))) HR.out
     have hsf : PSm W1_2 bp bs s _ := ⟨Hpbs.out, Hpbp.out, HNE.out, HP1.out, HS1.out⟩
     have hff := farc_mk HF.out HVW.out B0.out
     subst hx
     go_wp2_with fail
     go_ret2
     exact ⟨⟨_, _, _, rfl⟩, hsf, hff⟩
   ·have hci1 : ((i : Int) > 0) := by omega
    go_upto_region 5 with fail
    refine wp_region_lit ?_
    refine zr (.int .i64 (i : Int)) wo rfl ?_
    simp only [Act.put, zA]
    refine zr (.bool true) wo (xo_gtrT .i64 (i : Int) 0 (by omega) rfl rfl rfl) ?_
    simp only [Act.put, zA]
    refine wpList_nil ?_
    by_cases ht : sq.tok = ⟨2, Qu.withN⟩
    ·go_upto_region 6 with fail
     refine wp_region_lit ?_
     refine zr (.pointer (some ⟨bp, 0, none⟩)) wo rfl ?_
     simp only [Act.put, zA]
     refine zr (.agg #[.int .i64 2, .string (sB ([119, 105, 116, 104]))]) wo (by unfold execOp; go_simp <;> rfl) ?_
     simp only [Act.put, zA]
     refine wpList_call (by kernel_rfl) 61 Tryd.func61 (by kernel_rfl) (by kernel_rfl) _ _ #[.pointer (some ⟨bp, 0, none⟩), .agg #[.int .i64 2, .string (sB ([119, 105, 116, 104]))]] rfl (by kernel_rfl) ?_
     refine (exp_yes s HS4.out bp bs sq HOQ.out wo ⟨Hpbs.out, Hpbp.out, HNE.out, HP1.out, HS1.out⟩ ⟨2, Qu.withN⟩ ht).mono ?_
     rintro e W1_2 ⟨rfl, hps, hfc⟩
     have YHOW : W1_2.ownsRow w.heap.size 28 1 (.slice A0 i c0) i (fl hdC hs) := own_farC HOW.out Lpbp.out Lpbs.out hfc.toFarH
     have YHF : FarH bp bs w W1_2 := FarH.farC HF.out hfc
     have YHG : Gc W1_2 := rng_farC HG.out (by have := HP1.out; omega) (by have := HS1.out; omega) hfc.toFarH
     have YHIn : OwnsC W1_2 46 w.heap.size hs fs := OwnsC.farC HIn.out Lpbp.out Lpbs.out hfc.toFarH
     have hb := farc_bel hV0 B0.out hfc
     have hbr := hb
     clear B0
     have B0 := zh hbr
     clear hbr
     clear hb
     clear HOW
     have HOW : Hid (W1_2.ownsRow w.heap.size 28 1 (.slice A0 i c0) i (fl hdC hs)) := zh YHOW
     clear YHOW
     clear HF
     have HF : Hid (FarH bp bs w W1_2) := zh YHF
     clear YHF
     clear HG
     have HG : Hid (Gc W1_2) := zh YHG
     clear YHG
     clear HIn
     have HIn : Hid (OwnsC W1_2 46 w.heap.size hs fs) := zh YHIn
     clear YHIn
     clear Hpbs
     have Hpbs : Hid (W1_2.heap[bs]? = some (.cells #[.string (sB s), .int .i64 (((Qu.adv s sq).pos : Nat) : Int)] 66 (0, 0))) := zh (hps.sc)
     clear Hpbp
     have Hpbp : Hid (W1_2.heap[bp]? = some (.cells #[.func (.func 41) #[.pointer (some ⟨bs, 0, none⟩)] #[], .int .i64 ((Qu.adv s sq).tok.cls : Int), .string (sB ((Qu.adv s sq).tok.tx)), .int .i64 (((Qu.adv s sq).off : Nat) : Int)] 72 (0, 0))) := zh (hps.pr)
     clear hfc hps 
     refine ⟨_, rfl, ?_⟩
     simp only [Act.put, zA]
     refine zr (.int .i64 0) W1_2 rfl ?_
     simp only [Act.put, zA]
     refine wpList_nil ?_
     go_upto_region 7 with fail
     refine wp_region_lit ?_
     refine zr (.int .i64 0) W1_2 rfl ?_
     simp only [Act.put, zA]
     refine zr (.bool false) W1_2 (xo_neqF .i64 0 0 (by omega) rfl rfl rfl) ?_
     simp only [Act.put, zA]
     refine wpList_nil ?_
     obtain ⟨c, hc⟩ : ∃ c, Qu.filterN s 3 Qu.whereN [] (Qu.adv s sq) = c := ⟨_, rfl⟩
     have HC := zh hc
     clear hc
     go_upto_region 9 with fail
     refine wp_region_lit ?_
     refine zr (.pointer (some ⟨bp, 0, none⟩)) W1_2 rfl ?_
     simp only [Act.put, zA]
     have hsz0 := zh HF.out.size
     refine wpList_call (by kernel_rfl) 68 Tryd.func68 (by kernel_rfl) (by kernel_rfl) _ _ #[.pointer (some ⟨bp, 0, none⟩)] rfl (by kernel_rfl) ?_
     refine (filter_as s HS4.out bp bs (Qu.adv s sq) (Qu.adv_ok HOQ.out) W1_2 ⟨Hpbs.out, Hpbp.out, HNE.out, HP1.out, HS1.out⟩ HG.out c HC.out).mono ?_
     rintro e W1_3 ⟨vl, rfl, how, hps, hfc⟩
     have YHOW : W1_3.ownsRow w.heap.size 28 1 (.slice A0 i c0) i (fl hdC hs) := own_farC HOW.out Lpbp.out Lpbs.out hfc.toFarH
     have YHF : FarH bp bs w W1_3 := FarH.farC HF.out hfc
     have YHG : Gc W1_3 := rng_farC HG.out (by have := HP1.out; omega) (by have := HS1.out; omega) hfc.toFarH
     have YHIn : OwnsC W1_3 46 w.heap.size hs fs := OwnsC.farC HIn.out Lpbp.out Lpbs.out hfc.toFarH
     have hb := farc_bel hV0 B0.out hfc
     have hbr := hb
     clear B0
     have B0 := zh hbr
     clear hbr
     clear hb
     clear HOW
     have HOW : Hid (W1_3.ownsRow w.heap.size 28 1 (.slice A0 i c0) i (fl hdC hs)) := zh YHOW
     clear YHOW
     clear HF
     have HF : Hid (FarH bp bs w W1_3) := zh YHF
     clear YHF
     clear HG
     have HG : Hid (Gc W1_3) := zh YHG
     clear YHG
     clear HIn
     have HIn : Hid (OwnsC W1_3 46 w.heap.size hs fs) := zh YHIn
     clear YHIn
     try clear HOWI
     have HOWI := zh how
     clear Hpbs
     have Hpbs : Hid (W1_3.heap[bs]? = some (.cells #[.string (sB s), .int .i64 ((c.st.pos : Nat) : Int)] 66 (0, 0))) := zh (hps.sc)
     clear Hpbp
     have Hpbp : Hid (W1_3.heap[bp]? = some (.cells #[.func (.func 41) #[.pointer (some ⟨bs, 0, none⟩)] #[], .int .i64 (c.st.tok.cls : Int), .string (sB c.st.tok.tx), .int .i64 ((c.st.off : Nat) : Int)] 72 (0, 0))) := zh (hps.pr)
     clear hfc hps how
     refine ⟨_, rfl, ?_⟩
     simp only [Act.put, zA]
     refine zr (.tuple #[vl, .int .i64 (c.err : Int)]) W1_3 rfl ?_
     simp only [Act.put, zA]
     refine zr (vl) W1_3 rfl ?_
     simp only [Act.put, zA]
     refine zr (.int .i64 (c.err : Int)) W1_3 rfl ?_
     simp only [Act.put, zA]
     refine zr (vl) W1_3 rfl ?_
     simp only [Act.put, zA]
     refine zr (.int .i64 (c.err : Int)) W1_3 rfl ?_
     simp only [Act.put, zA]
     refine wpList_nil ?_
     by_cases hc : c.err = 0
     ·go_upto_region 10 with fail
      refine wp_region_lit ?_
      refine zr (.int .i64 (c.err : Int)) W1_3 rfl ?_
      simp only [Act.put, zA]
      refine zr (.bool false) W1_3 (xo_neqF .i64 ((c.err : Nat) : Int) 0 (by omega) rfl rfl rfl) ?_
      simp only [Act.put, zA]
      refine wpList_nil ?_
      have hnw := own_mono (HOWI.out hc) hsz0.out
      obtain ⟨A1, c1, rfl⟩ := own_form hnw
      have HNw := zh hnw
      clear hnw HOWI
      go_upto_region 12 with fail
      refine wp_region_lit ?_
      refine zr (.slice A0 i c0) W1_3 rfl ?_
      simp only [Act.put, zA]
      refine zr (.slice A1 c.val.length c1) W1_3 rfl ?_
      simp only [Act.put, zA]
      refine wpList_mk (by kernel_rfl) ([(Hd.mk A1 c.val.length c1)].flatMap hdC).toArray 28 1 1 (xg_lit (E := hdC) (bytes := 24) (.slice none 0 0) [.tmp 32] [(Hd.mk A1 c.val.length c1)] 1 Tryd.underlying22 (by kernel_rfl) rfl (by decide) (by decide) rfl rfl) ?_
      intro g33 V2 hge h0 hb
      have N4_0 : Hid (bp ≠ g33) := zh (xp_lt0 Hpbp.out hge)
      have N5_1 : Hid (bs ≠ g33) := zh (xp_lt0 Hpbs.out hge)
      have Ge6 : Hid (W1_3.heap.size ≤ g33) := zh hge
      have B1 := zh hb
      have Fv7_33 : Hid (RowG hdC V2 g33 28 ([(Hd.mk A1 c.val.length c1)])) := zh (h0)
      have Lt8 : Hid (g33 < V2.heap.size) := zh (xp_lt Fv7_33.out)
      have Gw9 : Hid (w.heap.size ≤ g33) := zh (Nat.le_trans HF.out.size Ge6.out)
      have Nz10 : Hid (0 ≠ g33) := zh (by have := Gw9.out; have := Lpbp.out; omega)
      clear hge h0 hb
      simp only [ptr, Act.put, zA]
      refine wpList_app2 (size := 1) (by kernel_rfl) (.tmp 31) (.tmp 33) 22 rfl (.slice none 0 0) 24 Tryd.underlying22 (by kernel_rfl) rfl (by decide) rfl (own_keep HOW.out B1.out) (some ⟨g33, 0, none⟩) 1 1 (fl hdC ([(Hd.mk A1 c.val.length c1)])) rfl (RowG.sg (n := 1) (c := 1) Fv7_33.out (show ([(Hd.mk A1 c.val.length c1)]).length = 1 from rfl) (Nat.le_refl _) (by omega)).src (by unfold maxLen; omega) (by omega) (HF.out.keep B1.out).size ?_
      intro v34 X2_11 ho hb1 hg hloc
      have hox : X2_11.ownsRow w.heap.size 28 1 v34 (i + 1) (fl hdC (hs ++ ([(Hd.mk A1 c.val.length c1)]))) := by rw [fl_append]; exact ho
      have YHpbp : X2_11.heap[bp]? = some (.cells #[.func (.func 41) #[.pointer (some ⟨bs, 0, none⟩)] #[], .int .i64 (c.st.tok.cls : Int), .string (sB c.st.tok.tx), .int .i64 ((c.st.off : Nat) : Int)] 72 (0, 0)) := keepB (heap_keep Hpbp.out B1.out) hb1 Lpbp.out
      have YHpbs : X2_11.heap[bs]? = some (.cells #[.string (sB s), .int .i64 ((c.st.pos : Nat) : Int)] 66 (0, 0)) := keepB (heap_keep Hpbs.out B1.out) hb1 Lpbs.out
      have YHF : FarH bp bs w X2_11 := FarH.belowB (HF.out.keep B1.out) hb1
      have YHG : Gc X2_11 := rng_belowB (HG.out.keep B1.out) hb1 (by have := Lpbp.out; omega)
      have YHIn : OwnsC X2_11 46 w.heap.size hs fs := OwnsC.grown (HIn.out.keep B1.out) (own_keep HOW.out B1.out) hg (by decide)
      have YHNw : X2_11.ownsRow w.heap.size 46 3 (.slice A1 c.val.length c1) c.val.length (fl cdC c.val) := own_growT (own_keep HNw.out B1.out) (own_keep HOW.out B1.out) hg (by decide)
      have C0_2 := zb B0 B1
      have hbV := belV hV0 C0_2.out hb1
      have hbr := hbV
      clear B0
      have B0 := zh hbr
      clear hbr
      clear hbV
      clear Hpbp
      have Hpbp : Hid (X2_11.heap[bp]? = some (.cells #[.func (.func 41) #[.pointer (some ⟨bs, 0, none⟩)] #[], .int .i64 (c.st.tok.cls : Int), .string (sB c.st.tok.tx), .int .i64 ((c.st.off : Nat) : Int)] 72 (0, 0))) := zh YHpbp
      clear YHpbp
      clear Hpbs
      have Hpbs : Hid (X2_11.heap[bs]? = some (.cells #[.string (sB s), .int .i64 ((c.st.pos : Nat) : Int)] 66 (0, 0))) := zh YHpbs
      clear YHpbs
      clear HF
      have HF : Hid (FarH bp bs w X2_11) := zh YHF
      clear YHF
      clear HG
      have HG : Hid (Gc X2_11) := zh YHG
      clear YHG
      clear HIn
      have HIn : Hid (OwnsC X2_11 46 w.heap.size hs fs) := zh YHIn
      clear YHIn
      clear HNw
      have HNw : Hid (X2_11.ownsRow w.heap.size 46 3 (.slice A1 c.val.length c1) c.val.length (fl cdC c.val)) := zh YHNw
      clear YHNw
      have Ow34_12 := zh hox
      clear ho hox hb1 hg hloc
      simp only [ptr, Act.put, zA]
      refine zr (v34) X2_11 rfl ?_
      simp only [Act.put, zA]
      refine wpList_nil ?_
      go_upto_region 13 with fail
      refine wp_region_lit ?_
      refine zr (.int .i64 ((i + 1 : Nat) : Int)) X2_11 (xo_addI (i : Int) 1 ((i + 1 : Nat) : Int) (by omega) (by omega) (by omega) rfl rfl rfl) ?_
      simp only [Act.put, zA]
      refine zr (.int .i64 ((i + 1 : Nat) : Int)) X2_11 rfl ?_
      simp only [Act.put, zA]
      refine wpList_nil ?_
      obtain ⟨A13, c13, rfl⟩ := own_form Ow34_12.out
      have ow0 := Ow34_12.out
      have p0 : PSm X2_11 bp bs s c.st := ⟨Hpbs.out, Hpbp.out, HNE.out, HP1.out, HS1.out⟩
      have f0 := HF.out
      have g0 := HG.out
      have in0 := OwnsC.push HIn.out HNw.out rfl
      have bb0 := B0.out
      have d0 := HFD.out.trans (Qu.filtersN_go1 (by omega) (by rw [HCL.out]; exact hi0) ht HC.out hc)
      rw [show k - i - 1 = k - (i + 1) from by omega] at d0
      have hoq2 : Qu.Ok s c.st := by rw [← HC.out]; exact Qu.filterN_ok _ _ _ (Qu.adv_ok HOQ.out)
      go_wp2_with fail
      go_roundw
      case rel => exact ⟨i + 1, _, _, _, fs ++ [c.val], c.st, rfl, by go_num, by omega, (by rw [List.length_append, HCL.out]; rfl), d0, hoq2, ow0, in0, p0, f0, g0, bb0⟩
      case measure => simp [intOf]; omega
     ·go_upto_region 10 with fail
      refine wp_region_lit ?_
      refine zr (.int .i64 (c.err : Int)) W1_3 rfl ?_
      simp only [Act.put, zA]
      refine zr (.bool true) W1_3 (xo_neqT .i64 ((c.err : Nat) : Int) 0 (by omega) rfl rfl rfl) ?_
      simp only [Act.put, zA]
      refine wpList_nil ?_
      go_upto_region 11 with fail
      refine wp_region_lit ?_
      refine zr (.int .i64 (c.err : Int)) W1_3 rfl ?_
      simp only [Act.put, zA]
      refine zr (.slice none 0 0) W1_3 rfl ?_
      simp only [Act.put, zA]
      refine zr (.int .i64 (c.err : Int)) W1_3 rfl ?_
      simp only [Act.put, zA]
      refine wpList_nil ?_
      have hx : ⟨[], c.err, c.st⟩ = r := Eq.trans (Eq.symm (HFD.out.trans (Qu.filtersN_err1 (by omega) (by rw [HCL.out]; exact hi0) ht HC.out hc))) HR.out
      have hsf : PSm W1_3 bp bs s _ := ⟨Hpbs.out, Hpbp.out, HNE.out, HP1.out, HS1.out⟩
      have hff := farc_mk HF.out HVW.out B0.out
      subst hx
      go_wp2_with fail
      go_ret2
      exact ⟨⟨_, _, _, rfl⟩, hsf, hff⟩
    ·have hrn := Qu.refN_ne sq
     go_upto_region 6 with fail
     refine wp_region_lit ?_
     refine zr (.pointer (some ⟨bp, 0, none⟩)) wo rfl ?_
     simp only [Act.put, zA]
     refine zr (.agg #[.int .i64 2, .string (sB ([119, 105, 116, 104]))]) wo (by unfold execOp; go_simp <;> rfl) ?_
     simp only [Act.put, zA]
     refine wpList_call (by kernel_rfl) 61 Tryd.func61 (by kernel_rfl) (by kernel_rfl) _ _ #[.pointer (some ⟨bp, 0, none⟩), .agg #[.int .i64 2, .string (sB ([119, 105, 116, 104]))]] rfl (by kernel_rfl) ?_
     refine (exp_no s HS4.out bp bs sq HOQ.out wo ⟨Hpbs.out, Hpbp.out, HNE.out, HP1.out, HS1.out⟩ ⟨2, Qu.withN⟩ ht).mono ?_
     rintro e W1_2 ⟨rfl, hps, hfc⟩
     have YHOW : W1_2.ownsRow w.heap.size 28 1 (.slice A0 i c0) i (fl hdC hs) := own_farC HOW.out Lpbp.out Lpbs.out hfc.toFarH
     have YHF : FarH bp bs w W1_2 := FarH.farC HF.out hfc
     have YHG : Gc W1_2 := rng_farC HG.out (by have := HP1.out; omega) (by have := HS1.out; omega) hfc.toFarH
     have YHIn : OwnsC W1_2 46 w.heap.size hs fs := OwnsC.farC HIn.out Lpbp.out Lpbs.out hfc.toFarH
     have hb := farc_bel hV0 B0.out hfc
     have hbr := hb
     clear B0
     have B0 := zh hbr
     clear hbr
     clear hb
     clear HOW
     have HOW : Hid (W1_2.ownsRow w.heap.size 28 1 (.slice A0 i c0) i (fl hdC hs)) := zh YHOW
     clear YHOW
     clear HF
     have HF : Hid (FarH bp bs w W1_2) := zh YHF
     clear YHF
     clear HG
     have HG : Hid (Gc W1_2) := zh YHG
     clear YHG
     clear HIn
     have HIn : Hid (OwnsC W1_2 46 w.heap.size hs fs) := zh YHIn
     clear YHIn
     clear Hpbs
     have Hpbs : Hid (W1_2.heap[bs]? = some (.cells #[.string (sB s), .int .i64 ((sq.pos : Nat) : Int)] 66 (0, 0))) := zh (hps.sc)
     clear Hpbp
     have Hpbp : Hid (W1_2.heap[bp]? = some (.cells #[.func (.func 41) #[.pointer (some ⟨bs, 0, none⟩)] #[], .int .i64 (sq.tok.cls : Int), .string (sB sq.tok.tx), .int .i64 ((sq.off : Nat) : Int)] 72 (0, 0))) := zh (hps.pr)
     clear hfc hps 
     refine ⟨_, rfl, ?_⟩
     simp only [Act.put, zA]
     refine zr (.int .i64 (Qu.refN sq : Int)) W1_2 rfl ?_
     simp only [Act.put, zA]
     refine wpList_nil ?_
     go_upto_region 7 with fail
     refine wp_region_lit ?_
     refine zr (.int .i64 (Qu.refN sq : Int)) W1_2 rfl ?_
     simp only [Act.put, zA]
     refine zr (.bool true) W1_2 (xo_neqT .i64 ((Qu.refN sq : Nat) : Int) 0 (by omega) rfl rfl rfl) ?_
     simp only [Act.put, zA]
     refine wpList_nil ?_
     go_upto_region 8 with fail
     refine wp_region_lit ?_
     refine zr (.int .i64 (Qu.refN sq : Int)) W1_2 rfl ?_
     simp only [Act.put, zA]
     refine zr (.slice none 0 0) W1_2 rfl ?_
     simp only [Act.put, zA]
     refine zr (.int .i64 (Qu.refN sq : Int)) W1_2 rfl ?_
     simp only [Act.put, zA]
     refine wpList_nil ?_
     have hx : ⟨[], Qu.refN sq, sq⟩ = r := Eq.trans (Eq.symm (HFD.out.trans (Qu.filtersN_no (by omega) (by rw [HCL.out]; exact hi0) ht))) HR.out
     have hsf : PSm W1_2 bp bs s _ := ⟨Hpbs.out, Hpbp.out, HNE.out, HP1.out, HS1.out⟩
     have hff := farc_mk HF.out HVW.out B0.out
     subst hx
     go_wp2_with fail
     go_ret2
     exact ⟨⟨_, _, _, rfl⟩, hsf, hff⟩
  ·have hci0 : ¬ ((i : Int) < (k : Int)) := by omega
   go_upto_region 3 with fail
   refine wp_region_lit ?_
   refine zr (.bool false) wo (xo_lssF .i64 (i : Int) (k : Int) (by omega) rfl rfl rfl) ?_
   simp only [Act.put, zA]
   refine wpList_nil ?_
   go_upto_region 14 with fail
   refine wp_region_lit ?_
   refine zr (.slice A0 i c0) wo rfl ?_
   simp only [Act.put, zA]
   refine zr (.slice A0 i c0) wo rfl ?_
   simp only [Act.put, zA]
   refine zr (.int .i64 0) wo rfl ?_
   simp only [Act.put, zA]
   refine wpList_nil ?_
   have hx : ⟨fs, 0, sq⟩ = r := Eq.trans (Eq.symm (HFD.out.trans (by rw [show k - i = 0 from by omega]; rfl))) HR.out
   have hsf : PSm wo bp bs s _ := ⟨Hpbs.out, Hpbp.out, HNE.out, HP1.out, HS1.out⟩
   have hff := farc_mk HF.out HVW.out B0.out
   have how := HOW.out
   have hin := HIn.out
   have hfo : FsOwn wo w.heap.size (.slice A0 i c0) fs := by
       refine ⟨A0, c0, hs, ?_, ?_, hin⟩
       ·rw [HCL.out]
       ·rw [HCL.out]; exact how
   clear how hin
   subst hx
   go_wp2_with fail
   go_ret2
   exact ⟨_, _, _, rfl, hfo, hsf, hff⟩
end Go.Proofs.YtlicfidcfhbmpaaDoor

namespace Go.Proofs.YtlicfidcfhbmpaaDoor.K
set_option maxRecDepth 8000
open Go.RowKit
section
variable {P : Program} {ops : Array Oper} {S : World → Prop} {Q : Exit → Act → World → Prop} {m : Nat}
/-- as okT, the operation m being the last -/
def okM (ops : Array Oper) (m : Nat) : OT → Array Bool → Bool
 | .nil, l => Region.ready .any ops l == [m]
 | .q i t, l => decide (i < m) && (ops[i]?.all stillOp) && Region.free .any ops l i && (Region.ready .any ops l).contains i && okM ops m t (l.setIfInBounds i true)
 | .one i t, l => decide (i < m) && (ops[i]?.all fun o => !stillOp o) && (Region.ready .any ops l == [i]) && okM ops m t (l.setIfInBounds i true)
 | .fork i t j u, l => decide (i < m) && decide (j < m) && (ops[i]?.all fun o => !stillOp o) && (ops[j]?.all fun o => !stillOp o) && (Region.ready .any ops l == [i, j]) && (t.len == u.len) && okM ops m t (l.setIfInBounds i true) && okM ops m u (l.setIfInBounds j true)
theorem wpT_of_OT (hz : ops.size = m + 1) (hs : Region.sinkB .any ops m = true) (hcb : Region.chainB .any ops m = true) (hsel : Region.noSelect ops = true) : ∀ (t : OT) (l : Array Bool) (a : Act) (w : World), HeadInv .any ops m l → S w → okM ops m t l = true →
  wpOT P ops S (fun _ a w => mOp P ops m (fun a w => Q .normal a w) a w) t a w → wpT P ops S m Q (t.len + 1) l a w
 | .nil, l, a, w, inv, hS, ho, h => by
  unfold okM at ho
  have hr : Region.ready .any ops l = [m] := by simpa using ho
  refine ⟨fun e => (by rw [hr] at e; cases e), fun i hi => ?_⟩
  have hi' := hi
  rw [hr] at hi
  obtain rfl : i = m := by simpa using hi
  rw [tOp_eq]
  obtain ⟨om, hom, hw, hh⟩ := h
  exact ⟨om, hom, hw, hOp_mono (fun v w' hq => ⟨none_left hz hs hcb inv hi', hq⟩) hh⟩
 | .q i t, l, a, w, inv, hS, ho, h => by
  unfold okM at ho
  simp only [Bool.and_eq_true, decide_eq_true_eq] at ho
  obtain ⟨⟨⟨⟨him, hst⟩, hf⟩, hrd⟩, ho⟩ := ho
  obtain ⟨o, hi, v, hy, hk⟩ := h
  have hr : i ∈ Region.ready .any ops l := by simpa using hrd
  rw [hi] at hst
  have hst : stillOp o = true := by simpa using hst
  refine wpT_first hz hs hcb him hi (Region.noSelect_spec hsel) (t.len + 1) l a w inv hS (Region.free_spec hi hf) (fun e => by rw [hst] at e; cases e) hr ?_
  unfold sOp
  rw [hi]
  exact .inl ⟨.inl hst, v, hy, wpT_of_OT hz hs hcb hsel t _ _ w (inv.set hr him) hS ho hk⟩
 | .one i t, l, a, w, inv, hS, ho, h => by
  unfold okM at ho
  simp only [Bool.and_eq_true, decide_eq_true_eq] at ho
  obtain ⟨⟨⟨him, hst⟩, hrd⟩, ho⟩ := ho
  obtain ⟨o, hi, hw, hk⟩ := h
  have hr : Region.ready .any ops l = [i] := by simpa using hrd
  rw [hi] at hst
  have hst : stillOp o = false := by simpa using hst
  refine ⟨fun e => (by rw [hr] at e; cases e), fun j hj => ?_⟩
  have hj' := hj
  rw [hr] at hj
  obtain rfl : j = i := by simpa using hj
  rw [tOp_ne (by omega)]
  unfold sOp
  rw [hi]
  exact .inr ⟨not_quiet hst hw, hOp_mono (fun v w' hq => ⟨hq.1, wpT_of_OT hz hs hcb hsel t _ _ w' (inv.set hj' him) hq.1 ho hq.2⟩) hk⟩
 | .fork i t j u, l, a, w, inv, hS, ho, h => by
  unfold okM at ho
  simp only [Bool.and_eq_true, decide_eq_true_eq] at ho
  obtain ⟨⟨⟨⟨⟨⟨⟨him, hjm⟩, hsi⟩, hsj⟩, hrd⟩, hlen⟩, h1⟩, h2⟩ := ho
  obtain ⟨⟨o, hi, hw, hk⟩, ⟨o2, hi2, hw2, hk2⟩⟩ := h
  have hr : Region.ready .any ops l = [i, j] := by simpa using hrd
  have hlen : t.len = u.len := by simpa using hlen
  rw [hi] at hsi
  rw [hi2] at hsj
  have hsi : stillOp o = false := by simpa using hsi
  have hsj : stillOp o2 = false := by simpa using hsj
  refine ⟨fun e => (by rw [hr] at e; cases e), fun q hq => ?_⟩
  have hq' := hq
  rw [hr] at hq
  rcases List.mem_cons.1 hq with rfl | hq
  ·rw [tOp_ne (by omega)]
   unfold sOp
   rw [hi]
   exact .inr ⟨not_quiet hsi hw, hOp_mono (fun v w' hq => ⟨hq.1, wpT_of_OT hz hs hcb hsel t _ _ w' (inv.set hq' him) hq.1 h1 hq.2⟩) hk⟩
  ·obtain rfl : q = j := by simpa using hq
   rw [tOp_ne (by omega)]
   unfold sOp
   rw [hi2]
   exact .inr ⟨not_quiet hsj hw2, hOp_mono (fun v w' hq => ⟨hq.1, by have := wpT_of_OT hz hs hcb hsel u _ _ w' (inv.set hq' hjm) hq.1 h2 hq.2; rw [← hlen] at this; exact this⟩) hk2⟩
theorem wp_ordM (m : Nat) (t : OT) {id : Nat} {a : Act} {w : World} {l : List Oper} (hm : P.follows .mixedOrders = true) (hsel : Region.noSelect l.toArray = true) (hz : l.length = m + 1) (hl : t.len = m) (hs : Region.sinkB .any l.toArray m = true) (hcb : Region.chainB .any l.toArray m = true) (ho : okM l.toArray m t (Array.replicate l.length false) = true)
  (h : ∀ V, Below w.heap.size w V → wpOT P l.toArray (fun X => Below V.heap.size V X) (fun _ a w => mOp P l.toArray m (fun a w => Q .normal a w) a w) t a V) : (Code.region id l.toArray true).wp P Q a w := by
 have inv0 : HeadInv .any l.toArray m (Array.replicate l.toArray.size false) :=
  ⟨by simp, fun j oj _ hl => (by rw [getD_replicate_false] at hl; cases hl), fun t _ ht => getD_in (by simpa using ht) (getD_replicate_false _ _)⟩
 refine wp_region_any hm (wpAny_of_wpT (S := fun X => Below w.drew.heap.size w.drew X) (m := m) (by simpa using hz) hs hcb _ _ _ _ inv0 (Below.refl _ _) ?_)
 have := wpT_of_OT (P := P) (Q := Q) (m := m) (ops := l.toArray) (by simpa using hz) hs hcb hsel t (Array.replicate l.length false) a w.drew (by simpa using inv0) (Below.refl _ _) ho (h _ (Below.refl _ _).drew)
 rw [hl] at this
 simpa [hz] using this
end
end Go.Proofs.YtlicfidcfhbmpaaDoor.K

