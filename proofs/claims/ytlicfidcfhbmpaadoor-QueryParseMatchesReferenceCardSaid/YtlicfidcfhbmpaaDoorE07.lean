/- Several texts in one: Yh. -/
import Derived.Test.YtlicfidcfhbmpaaDoorE06
set_option linter.unusedVariables false
set_option linter.unusedSimpArgs false
set_option linter.unusedSectionVars false
namespace Go.Proofs.YtlicfidcfhbmpaaDoor
set_option maxRecDepth 8000
open Go.RowKit Go.Proofs.YtlicfidcfhbmpaaDoor.K
attribute [local irreducible] wpList wpQuiet
theorem _root_.Qu.findT_yes {f : Nat → List UInt8} {t : Qu.Tk} {i n : Nat} (h : t = ⟨2, f i⟩) (hn : 0 < n) : Qu.findT f t i n = some i := by
 cases n with
 | zero => omega
 | succ n => unfold Qu.findT; rw [if_pos h]
theorem _root_.Qu.findT_no {f : Nat → List UInt8} {t : Qu.Tk} {i n : Nat} (h : ¬ t = ⟨2, f i⟩) (hn : 0 < n) : Qu.findT f t i n = Qu.findT f t (i + 1) (n - 1) := by
 cases n with
 | zero => omega
 | succ n =>
  conv => lhs; unfold Qu.findT
  rw [if_neg h]; rfl
set_option maxRecDepth 100000 in
set_option maxHeartbeats 16000000 in
theorem forms_any (w : World) : Calls Tryd.prog 29 #[] w fun e w' => ∃ b, e = .returned (.map (some b)) ∧ w.heap.size ≤ b ∧ w'.heap[b]? = some formsM ∧ Below w.heap.size w w' := by
 go_enter Tryd.func29, Tryd.ntmps29
 go_upto_region 1 with fail
 refine wp_region_lit ?_
 refine wpList_mkmap (by kernel_rfl) rfl ?_
 intro b X0 hge hm0 hB0
 simp only [ptr, Act.put, zA]
 refine zr (.agg #[.string (sB ([99, 111, 117, 110, 116])), .bool false, .int .i64 0, .int .i64 1]) X0 (by unfold execOp; go_simp <;> rfl) ?_
 simp only [Act.put, zA]
 refine wpList_ins (by kernel_rfl) b _ 0 1 (formV 1) hm0 rfl Tryd.underlying55 Tryd.underlying3 rfl rfl rfl rfl ?_
 intro X1 hm1 hl1
 have hB1 := hl1 _ _ hge hB0
 clear hl1 hm0 hB0
 simp only [ptr, Act.put, zA]
 refine zr (.agg #[.string (sB ([116, 111, 116, 97, 108])), .bool true, .int .i64 0, .int .i64 1]) X1 (by unfold execOp; go_simp <;> rfl) ?_
 simp only [Act.put, zA]
 refine wpList_ins (by kernel_rfl) b _ 1 2 (formV 2) hm1 rfl Tryd.underlying55 Tryd.underlying3 rfl rfl rfl rfl ?_
 intro X2 hm2 hl2
 have hB2 := hl2 _ _ hge hB1
 clear hl2 hm1 hB1
 simp only [ptr, Act.put, zA]
 refine zr (.agg #[.string (sB ([109, 111, 109, 101, 110, 116])), .bool true, .int .i64 6, .int .i64 1]) X2 (by unfold execOp; go_simp <;> rfl) ?_
 simp only [Act.put, zA]
 refine wpList_ins (by kernel_rfl) b _ 2 3 (formV 3) hm2 rfl Tryd.underlying55 Tryd.underlying3 rfl rfl rfl rfl ?_
 intro X3 hm3 hl3
 have hB3 := hl3 _ _ hge hB2
 clear hl3 hm2 hB2
 simp only [ptr, Act.put, zA]
 refine zr (.agg #[.string (sB ([103, 114, 111, 117, 112, 115])), .bool true, .int .i64 0, .int .i64 1]) X3 (by unfold execOp; go_simp <;> rfl) ?_
 simp only [Act.put, zA]
 refine wpList_ins (by kernel_rfl) b _ 3 4 (formV 4) hm3 rfl Tryd.underlying55 Tryd.underlying3 rfl rfl rfl rfl ?_
 intro X4 hm4 hl4
 have hB4 := hl4 _ _ hge hB3
 clear hl4 hm3 hB3
 simp only [ptr, Act.put, zA]
 refine zr (.agg #[.string (sB ([100, 105, 115, 116, 105, 110, 99, 116])), .bool true, .int .i64 0, .int .i64 1]) X4 (by unfold execOp; go_simp <;> rfl) ?_
 simp only [Act.put, zA]
 refine wpList_ins (by kernel_rfl) b _ 4 5 (formV 5) hm4 rfl Tryd.underlying55 Tryd.underlying3 rfl rfl rfl rfl ?_
 intro X5 hm5 hl5
 have hB5 := hl5 _ _ hge hB4
 clear hl5 hm4 hB4
 simp only [ptr, Act.put, zA]
 refine zr (.agg #[.string (sB ([115, 109, 97, 108, 108, 101, 115, 116])), .bool true, .int .i64 65536, .int .i64 1]) X5 (by unfold execOp; go_simp <;> rfl) ?_
 simp only [Act.put, zA]
 refine wpList_ins (by kernel_rfl) b _ 5 6 (formV 6) hm5 rfl Tryd.underlying55 Tryd.underlying3 rfl rfl rfl rfl ?_
 intro X6 hm6 hl6
 have hB6 := hl6 _ _ hge hB5
 clear hl6 hm5 hB5
 simp only [ptr, Act.put, zA]
 refine zr (.agg #[.string (sB ([112, 97, 105, 114, 115])), .bool false, .int .i64 0, .int .i64 2]) X6 (by unfold execOp; go_simp <;> rfl) ?_
 simp only [Act.put, zA]
 refine wpList_ins (by kernel_rfl) b _ 6 7 (formV 7) hm6 rfl Tryd.underlying55 Tryd.underlying3 rfl rfl rfl rfl ?_
 intro X7 hm7 hl7
 have hB7 := hl7 _ _ hge hB6
 clear hl7 hm6 hB6
 simp only [ptr, Act.put, zA]
 refine zr (.map (some b)) X7 rfl ?_
 simp only [Act.put, zA]
 refine zr (.map (some b)) X7 rfl ?_
 simp only [Act.put, zA]
 refine wpList_nil ?_
 go_wp2_with fail
 go_ret
 exact ⟨b, rfl, hge, hm7, hB7⟩
set_option maxRecDepth 100000 in
set_option maxHeartbeats 16000000 in
theorem column_as (s : List UInt8) (hs4 : s.length ≤ 1000) (bp bs : Nat) (st : Qu.St) (hst : Qu.Ok s st) (w : World) (hP : PSm w bp bs s st) (hG : Gc w) (r : Qu.Rs Nat) (hr : Qu.colN s st = r) :
  Calls Tryd.prog 58 #[.pointer (some ⟨bp, 0, none⟩)] w fun e w' => e = .returned (.tuple #[.int .i64 (r.val : Int), .int .i64 (r.err : Int)]) ∧ PSm w' bp bs s r.st ∧ FarC bp bs w w' := by
 obtain ⟨V, hV0, hV⟩ := base_world w
 have B0 := zh hV
 have HVW := zh hV
 clear hV
 have HF := zh (FarH.refl bp bs w)
 have HS4 := zh hs4
 have HOK := zh hst
 have HNE := zh hP.ne
 have HP1 := zh hP.p1
 have HS1 := zh hP.s1
 have hne := hP.ne
 have Hpbp : Hid (w.heap[bp]? = some (.cells #[.func (.func 41) #[.pointer (some ⟨bs, 0, none⟩)] #[], .int .i64 (st.tok.cls : Int), .string (sB st.tok.tx), .int .i64 ((st.off : Nat) : Int)] 72 (0, 0))) := zh (hP.pr)
 have Gpbp : Hid (V.heap.size ≤ bp) := zh (by omega)
 have Lpbp : Hid (bp < w.heap.size) := zh (xp_lt Hpbp.out)
 have Hpbs : Hid (w.heap[bs]? = some (.cells #[.string (sB s), .int .i64 ((st.pos : Nat) : Int)] 66 (0, 0))) := zh (hP.sc)
 have Gpbs : Hid (V.heap.size ≤ bs) := zh (by omega)
 have Lpbs : Hid (bs < w.heap.size) := zh (xp_lt Hpbs.out)
 have Npbpbs : Hid (bp ≠ bs) := zh (by omega)
 clear hs4 hst hP hne
 go_enter Tryd.func58, Tryd.ntmps58
 go_upto_region 1 with fail
 have HG := zh hG
 clear hG
 have HR := zh hr
 clear hr
 refine wp_region_lit ?_
 refine zr (.agg #[.string (sB (Qu.nameN 0)), .int .i64 15, .string (sB (Qu.nameN 1)), .int .i64 255, .string (sB (Qu.nameN 2)), .int .i64 15, .string (sB (Qu.nameN 3)), .int .i64 255]) w (xo_loadR 0 0 [.string (sB (Qu.nameN 0)), .int .i64 15, .string (sB (Qu.nameN 1)), .int .i64 255, .string (sB (Qu.nameN 2)), .int .i64 15, .string (sB (Qu.nameN 3)), .int .i64 255] HG.out Tryd.underlying63 rfl (by kernel_rfl) rfl rfl) ?_
 simp only [Act.put, zA]
 refine zr (.int .i64 0) w rfl ?_
 simp only [Act.put, zA]
 refine wpList_nil ?_
 have p0 : PSm w bp bs s st := ⟨Hpbs.out, Hpbp.out, HNE.out, HP1.out, HS1.out⟩
 have f0 := HF.out
 have b0 := B0.out
 go_wp2_with fail
 go_loopw [7] (fun p wr => ∃ i : Nat, 0 ≤ i ∧ i ≤ 4 ∧ p = .int .i64 (i : Int) ∧ Qu.findT Qu.nameN st.tok 0 4 = Qu.findT Qu.nameN st.tok i (4 - i) ∧ PSm wr bp bs s st ∧ FarH bp bs w wr ∧ Below V.heap.size V wr) (fun p _ => 4 - (intOf p).toNat)
 case atStart => exact ⟨0, Nat.le_refl _, by omega, rfl, rfl, p0, f0, b0⟩
 case round =>
  clear p0 f0 b0 B0 HF Hpbs Hpbp
  obtain ⟨wo, rfl⟩ : ∃ wo : World, wo = wr := ⟨_, rfl⟩
  obtain ⟨i, hi1, hi, rfl, hfd, hps, hfh, hbb⟩ := hrel
  have B0 := zh hbb
  have HF := zh hfh
  have Hpbs := zh hps.sc
  have Hpbp := zh hps.pr
  have HFD := zh hfd
  clear hbb hfh hps hfd
  by_cases hlt : i < 4
  ·have hci0 : ((i : Int) < 4) := by omega
   go_upto_region 2 with fail
   refine wp_region_lit ?_
   refine zr (.bool true) wo (xo_lssT .i64 (i : Int) 4 (by omega) rfl rfl rfl) ?_
   simp only [Act.put, zA]
   refine wpList_nil ?_
   go_upto_region 3 with fail
   refine wp_region_lit ?_
   refine zr (.int .i64 (i : Int)) wo rfl ?_
   simp only [Act.put, zA]
   refine zr (.agg #[.string (sB (Qu.nameN i)), .int .i64 (Qu.maxN i : Int)]) wo (xc_index i (by omega) rfl rfl rfl) ?_
   simp only [Act.put, zA]
   refine wpList_new #[.string ByteArray.empty, .int .i64 0] 62 (by kernel_rfl) (xo_alloc #[.string ByteArray.empty, .int .i64 0] (by kernel_rfl) rfl) ?_
   intro b5 V2 hge h0 hb
   have N1_0 : Hid (bp ≠ b5) := zh (xp_lt0 Hpbp.out hge)
   have N2_1 : Hid (bs ≠ b5) := zh (xp_lt0 Hpbs.out hge)
   have Ge3 : Hid (wo.heap.size ≤ b5) := zh hge
   have B1 := zh hb
   have Fv4_5 : Hid (V2.heap[b5]? = some (.cells #[.string ByteArray.empty, .int .i64 0] 62 (0, 0))) := zh (h0)
   have Lt5 : Hid (b5 < V2.heap.size) := zh (xp_lt Fv4_5.out)
   have Gw6 : Hid (w.heap.size ≤ b5) := zh (Nat.le_trans HF.out.size Ge3.out)
   clear hge h0 hb
   simp only [ptr, Act.put, zA]
   refine zr (.int .i64 (i : Int)) V2 rfl ?_
   simp only [Act.put, zA]
   refine wpList_storeW b5 #[.string ByteArray.empty, .int .i64 0] #[.string (sB (Qu.nameN i)), .int .i64 (Qu.maxN i : Int)] 62 (by kernel_rfl) Fv4_5.out (xo_storeW b5 #[.string ByteArray.empty, .int .i64 0] #[.string (sB (Qu.nameN i)), .int .i64 (Qu.maxN i : Int)] Fv4_5.out (by kernel_rfl) rfl (by simp [Value.oneCell']) rfl rfl rfl) ?_
   intro X2_7 h1 hfar hbel hsz
   have hbr := hbel _ _ Ge3.out B1.out
   clear B1
   have B1 := zh hbr
   clear hbr
   clear Fv4_5
   have Fv4_5 : Hid (X2_7.heap[b5]? = some (.cells #[.string (sB (Qu.nameN i)), .int .i64 (Qu.maxN i : Int)] 62 (0, 0))) := zh (h1)
   have HszX2_7 := zh hsz
   clear h1 hfar hbel hsz
   simp only [ptr, Act.put, zA]
   refine wpList_nil ?_
   by_cases ht : st.tok = ⟨2, Qu.nameN i⟩
   ·go_upto_region 4 with fail
    refine wp_region_lit ?_
    refine zr (.pointer (some ⟨bp, 0, none⟩)) X2_7 rfl ?_
    simp only [Act.put, zA]
    refine zr (.pointer (some ⟨b5, 0, none⟩)) X2_7 (xo_fld0 0 b5 0 (by kernel_rfl) rfl rfl) ?_
    simp only [Act.put, zA]
    refine zr (.string (sB (Qu.nameN i))) X2_7 (xo_load1 ⟨b5, 0, none⟩ _ (cells_at Fv4_5.out 0 rfl) Tryd.underlying9 rfl rfl rfl) ?_
    simp only [Act.put, zA]
    refine zr (.agg #[.int .i64 2, .string (sB (Qu.nameN i))]) X2_7 (by unfold execOp; go_simp <;> rfl) ?_
    simp only [Act.put, zA]
    refine wpList_call (by kernel_rfl) 65 Tryd.func65 (by kernel_rfl) (by kernel_rfl) _ _ #[.pointer (some ⟨bp, 0, none⟩), .agg #[.int .i64 2, .string (sB (Qu.nameN i))]] rfl (by kernel_rfl) ?_
    refine (acc_yes s HS4.out bp bs st HOK.out X2_7 ⟨(heap_keep Hpbs.out B1.out), (heap_keep Hpbp.out B1.out), HNE.out, HP1.out, HS1.out⟩ ⟨2, Qu.nameN i⟩ ht).mono ?_
    rintro e W2_8 ⟨rfl, hps, hfc⟩
    have YFv4_5 : W2_8.heap[b5]? = some (.cells #[.string (sB (Qu.nameN i)), .int .i64 (Qu.maxN i : Int)] 62 (0, 0)) := hfc.far _ _ (Ne.symm N1_0.out) (Ne.symm N2_1.out) Fv4_5.out
    have YHF : FarH bp bs w W2_8 := FarH.farC (HF.out.keep B1.out) hfc
    have C0_2 := zb B0 B1
    have hb := farc_bel hV0 C0_2.out hfc
    have hbr := hb
    clear B0
    have B0 := zh hbr
    clear hbr
    clear hb
    clear Fv4_5
    have Fv4_5 : Hid (W2_8.heap[b5]? = some (.cells #[.string (sB (Qu.nameN i)), .int .i64 (Qu.maxN i : Int)] 62 (0, 0))) := zh YFv4_5
    clear YFv4_5
    clear HF
    have HF : Hid (FarH bp bs w W2_8) := zh YHF
    clear YHF
    have Gv9 : Hid (V.heap.size ≤ b5) := zh (by omega)
    have Lt10 : Hid (b5 < W2_8.heap.size) := zh (xp_lt Fv4_5.out)
    clear Hpbs
    have Hpbs : Hid (W2_8.heap[bs]? = some (.cells #[.string (sB s), .int .i64 (((Qu.adv s st).pos : Nat) : Int)] 66 (0, 0))) := zh (hps.sc)
    clear Hpbp
    have Hpbp : Hid (W2_8.heap[bp]? = some (.cells #[.func (.func 41) #[.pointer (some ⟨bs, 0, none⟩)] #[], .int .i64 ((Qu.adv s st).tok.cls : Int), .string (sB ((Qu.adv s st).tok.tx)), .int .i64 (((Qu.adv s st).off : Nat) : Int)] 72 (0, 0))) := zh (hps.pr)
    clear hfc hps 
    refine ⟨_, rfl, ?_⟩
    simp only [Act.put, zA]
    refine wpList_nil ?_
    go_upto_region 5 with fail
    refine wp_region_lit ?_
    refine zr (.int .i64 (i : Int)) W2_8 rfl ?_
    simp only [Act.put, zA]
    refine zr (.int .i64 (i : Int)) W2_8 rfl ?_
    simp only [Act.put, zA]
    refine zr (.int .i64 0) W2_8 rfl ?_
    simp only [Act.put, zA]
    refine wpList_nil ?_
    have hx : r = ⟨i, 0, Qu.adv s st⟩ := HR.out.symm.trans (by unfold Qu.colN Qu.pickT; rw [HFD.out, Qu.findT_yes ht (by omega)] <;> rfl)
    have hsf : PSm W2_8 bp bs s _ := ⟨Hpbs.out, Hpbp.out, HNE.out, HP1.out, HS1.out⟩
    have hff := farc_mk HF.out HVW.out B0.out
    go_wp2_with fail
    go_ret2
    subst hx
    exact ⟨rfl, hsf, hff⟩
   ·go_upto_region 4 with fail
    refine wp_region_lit ?_
    refine zr (.pointer (some ⟨bp, 0, none⟩)) X2_7 rfl ?_
    simp only [Act.put, zA]
    refine zr (.pointer (some ⟨b5, 0, none⟩)) X2_7 (xo_fld0 0 b5 0 (by kernel_rfl) rfl rfl) ?_
    simp only [Act.put, zA]
    refine zr (.string (sB (Qu.nameN i))) X2_7 (xo_load1 ⟨b5, 0, none⟩ _ (cells_at Fv4_5.out 0 rfl) Tryd.underlying9 rfl rfl rfl) ?_
    simp only [Act.put, zA]
    refine zr (.agg #[.int .i64 2, .string (sB (Qu.nameN i))]) X2_7 (by unfold execOp; go_simp <;> rfl) ?_
    simp only [Act.put, zA]
    refine wpList_call (by kernel_rfl) 65 Tryd.func65 (by kernel_rfl) (by kernel_rfl) _ _ #[.pointer (some ⟨bp, 0, none⟩), .agg #[.int .i64 2, .string (sB (Qu.nameN i))]] rfl (by kernel_rfl) ?_
    refine (acc_no s HS4.out bp bs st HOK.out X2_7 ⟨(heap_keep Hpbs.out B1.out), (heap_keep Hpbp.out B1.out), HNE.out, HP1.out, HS1.out⟩ ⟨2, Qu.nameN i⟩ ht).mono ?_
    rintro e W2_8 ⟨rfl, hps, hfc⟩
    have YFv4_5 : W2_8.heap[b5]? = some (.cells #[.string (sB (Qu.nameN i)), .int .i64 (Qu.maxN i : Int)] 62 (0, 0)) := hfc.far _ _ (Ne.symm N1_0.out) (Ne.symm N2_1.out) Fv4_5.out
    have YHF : FarH bp bs w W2_8 := FarH.farC (HF.out.keep B1.out) hfc
    have C0_2 := zb B0 B1
    have hb := farc_bel hV0 C0_2.out hfc
    have hbr := hb
    clear B0
    have B0 := zh hbr
    clear hbr
    clear hb
    clear Fv4_5
    have Fv4_5 : Hid (W2_8.heap[b5]? = some (.cells #[.string (sB (Qu.nameN i)), .int .i64 (Qu.maxN i : Int)] 62 (0, 0))) := zh YFv4_5
    clear YFv4_5
    clear HF
    have HF : Hid (FarH bp bs w W2_8) := zh YHF
    clear YHF
    have Gv9 : Hid (V.heap.size ≤ b5) := zh (by omega)
    have Lt10 : Hid (b5 < W2_8.heap.size) := zh (xp_lt Fv4_5.out)
    clear Hpbs
    have Hpbs : Hid (W2_8.heap[bs]? = some (.cells #[.string (sB s), .int .i64 ((st.pos : Nat) : Int)] 66 (0, 0))) := zh (hps.sc)
    clear Hpbp
    have Hpbp : Hid (W2_8.heap[bp]? = some (.cells #[.func (.func 41) #[.pointer (some ⟨bs, 0, none⟩)] #[], .int .i64 (st.tok.cls : Int), .string (sB st.tok.tx), .int .i64 ((st.off : Nat) : Int)] 72 (0, 0))) := zh (hps.pr)
    clear hfc hps 
    refine ⟨_, rfl, ?_⟩
    simp only [Act.put, zA]
    refine wpList_nil ?_
    go_upto_region 6 with fail
    refine wp_region_lit ?_
    refine zr (.int .i64 ((i + 1 : Nat) : Int)) W2_8 (xo_addI (i : Int) 1 ((i + 1 : Nat) : Int) (by omega) (by omega) (by omega) rfl rfl rfl) ?_
    simp only [Act.put, zA]
    refine zr (.int .i64 ((i + 1 : Nat) : Int)) W2_8 rfl ?_
    simp only [Act.put, zA]
    refine wpList_nil ?_
    have p0 : PSm W2_8 bp bs s st := ⟨Hpbs.out, Hpbp.out, HNE.out, HP1.out, HS1.out⟩
    have f0 := HF.out
    have b0 := B0.out
    have d0 := HFD.out.trans (Qu.findT_no ht (by omega))
    rw [show 4 - i - 1 = 4 - (i + 1) from by omega] at d0
    go_wp2_with fail
    go_roundw
    case rel => exact ⟨i + 1, by omega, by omega, by go_num, d0, p0, f0, b0⟩
    case measure => simp [intOf]; omega
  ·obtain rfl : i = 4 := by omega
   go_upto_region 2 with fail
   refine wp_region_lit ?_
   refine zr (.bool false) wo (xo_lssF .i64 4 4 (by omega) rfl rfl rfl) ?_
   simp only [Act.put, zA]
   refine wpList_nil ?_
   go_upto_region 7 with fail
   refine wp_region_lit ?_
   refine zr (.pointer (some ⟨bp, 0, none⟩)) wo rfl ?_
   simp only [Act.put, zA]
   refine wpList_call (by kernel_rfl) 66 Tryd.func66 (by kernel_rfl) (by kernel_rfl) _ _ #[.pointer (some ⟨bp, 0, none⟩)] rfl (by kernel_rfl) ?_
   refine (refuse_any s HS4.out bp bs st HOK.out wo ⟨Hpbs.out, Hpbp.out, HNE.out, HP1.out, HS1.out⟩).mono ?_
   rintro e W1 ⟨rfl, hw1⟩
   rw [hw1]
   clear hw1 W1
   refine ⟨_, rfl, ?_⟩
   simp only [Act.put, zA]
   refine zr (.int .i64 0) wo rfl ?_
   simp only [Act.put, zA]
   refine zr (.int .i64 (Qu.refN st : Int)) wo rfl ?_
   simp only [Act.put, zA]
   refine wpList_nil ?_
   have hx : r = ⟨0, Qu.refN st, st⟩ := HR.out.symm.trans (by unfold Qu.colN Qu.pickT; rw [HFD.out]; rfl)
   have hsf : PSm wo bp bs s _ := ⟨Hpbs.out, Hpbp.out, HNE.out, HP1.out, HS1.out⟩
   have hff := farc_mk HF.out HVW.out B0.out
   go_wp2_with fail
   go_ret2
   subst hx
   exact ⟨rfl, hsf, hff⟩
set_option maxRecDepth 100000 in
set_option maxHeartbeats 16000000 in
theorem kind_as (s : List UInt8) (hs4 : s.length ≤ 1000) (bp bs : Nat) (st : Qu.St) (hst : Qu.Ok s st) (w : World) (hP : PSm w bp bs s st) (r : Qu.Rs Nat) (hr : Qu.kindN s st = r) :
  Calls Tryd.prog 57 #[.pointer (some ⟨bp, 0, none⟩)] w fun e w' => e = .returned (.tuple #[.int .i64 (r.val : Int), .int .i64 (r.err : Int)]) ∧ PSm w' bp bs s r.st ∧ FarC bp bs w w' := by
 obtain ⟨V, hV0, hV⟩ := base_world w
 have B0 := zh hV
 have HVW := zh hV
 clear hV
 have HF := zh (FarH.refl bp bs w)
 have HS4 := zh hs4
 have HOK := zh hst
 have HNE := zh hP.ne
 have HP1 := zh hP.p1
 have HS1 := zh hP.s1
 have hne := hP.ne
 have Hpbp : Hid (w.heap[bp]? = some (.cells #[.func (.func 41) #[.pointer (some ⟨bs, 0, none⟩)] #[], .int .i64 (st.tok.cls : Int), .string (sB st.tok.tx), .int .i64 ((st.off : Nat) : Int)] 72 (0, 0))) := zh (hP.pr)
 have Gpbp : Hid (V.heap.size ≤ bp) := zh (by omega)
 have Lpbp : Hid (bp < w.heap.size) := zh (xp_lt Hpbp.out)
 have Hpbs : Hid (w.heap[bs]? = some (.cells #[.string (sB s), .int .i64 ((st.pos : Nat) : Int)] 66 (0, 0))) := zh (hP.sc)
 have Gpbs : Hid (V.heap.size ≤ bs) := zh (by omega)
 have Lpbs : Hid (bs < w.heap.size) := zh (xp_lt Hpbs.out)
 have Npbpbs : Hid (bp ≠ bs) := zh (by omega)
 clear hs4 hst hP hne
 go_enter Tryd.func57, Tryd.ntmps57
 go_upto_region 1 with fail
 have HR := zh hr
 clear hr
 refine wp_region_lit ?_
 refine wpList_call (by kernel_rfl) 29 Tryd.func29 (by kernel_rfl) (by kernel_rfl) _ _ #[] rfl (by kernel_rfl) ?_
 refine (forms_any w).mono ?_
 rintro e V2 ⟨fb, rfl, hge, hfm, hb⟩
 have B1 := zh hb
 have HFm := zh hfm
 have HFg := zh hge
 clear hb hfm hge
 refine ⟨_, rfl, ?_⟩
 simp only [Act.put, zA]
 refine zr (.map (some fb)) V2 rfl ?_
 simp only [Act.put, zA]
 refine wpList_nil ?_
 have Nbpfb : Hid (bp ≠ fb) := zh (by have := Lpbp.out; have := HF.out.size; have := HFg.out; omega)
 have Nbsfb : Hid (bs ≠ fb) := zh (by have := Lpbs.out; have := HF.out.size; have := HFg.out; omega)
 go_upto_region 2 with fail
 refine wp_region_lit ?_
 refine zr (.int .i64 1) V2 rfl ?_
 simp only [Act.put, zA]
 refine wpList_nil ?_
 have p0 : PSm V2 bp bs s st := ⟨(heap_keep Hpbs.out B1.out), (heap_keep Hpbp.out B1.out), HNE.out, HP1.out, HS1.out⟩
 have f0 := (HF.out.keep B1.out)
 have C0_2 := zb B0 B1
 have b0 := C0_2.out
 have m0 := HFm.out
 go_wp2_with fail
 go_loopw [5] (fun p wr => ∃ i : Nat, 1 ≤ i ∧ i ≤ 8 ∧ p = .int .i64 (i : Int) ∧ Qu.findT Qu.kwN st.tok 1 7 = Qu.findT Qu.kwN st.tok i (8 - i) ∧ PSm wr bp bs s st ∧ FarH bp bs w wr ∧ Below V.heap.size V wr ∧ wr.heap[fb]? = some formsM) (fun p _ => 8 - (intOf p).toNat)
 case atStart => exact ⟨1, Nat.le_refl _, by omega, rfl, rfl, p0, f0, b0, m0⟩
 case round =>
  clear p0 f0 b0 B0 HF Hpbs Hpbp m0 HFm
  obtain ⟨wo, rfl⟩ : ∃ wo : World, wo = wr := ⟨_, rfl⟩
  obtain ⟨i, hi1, hi, rfl, hfd, hps, hfh, hbb, hfm⟩ := hrel
  have B0 := zh hbb
  have HF := zh hfh
  have Hpbs := zh hps.sc
  have Hpbp := zh hps.pr
  have HFD := zh hfd
  have HFm := zh hfm
  clear hbb hfh hps hfd hfm
  have Gvfb : Hid (V.heap.size ≤ fb) := zh (by omega)
  by_cases hlt : i < 8
  ·have hci0 : ((i : Int) ≤ 7) := by omega
   go_upto_region 3 with fail
   refine wp_region_lit ?_
   refine zr (.int .i64 (i : Int)) wo rfl ?_
   simp only [Act.put, zA]
   refine zr (.bool true) wo (xo_leqT .i64 (i : Int) 7 (by omega) rfl rfl rfl) ?_
   simp only [Act.put, zA]
   refine wpList_nil ?_
   by_cases ht : st.tok = ⟨2, Qu.kwN i⟩
   ·go_upto_region 5 with fail
    refine wp_region_lit ?_
    refine zr (.pointer (some ⟨bp, 0, none⟩)) wo rfl ?_
    simp only [Act.put, zA]
    refine zr (.map (some fb)) wo rfl ?_
    simp only [Act.put, zA]
    refine zr (.int .i64 (i : Int)) wo rfl ?_
    simp only [Act.put, zA]
    refine zr (.agg #[.string (sB (Qu.kwN i)), .bool (Qu.hasC i), .int .i64 (Qu.maxK i : Int), .int .i64 (Qu.numF i : Int)]) wo (xm_lookup fb [formE 1, formE 2, formE 3, formE 4, formE 5, formE 6, formE 7] 7 (i : Int) (i - 1) (formV i) HFm.out (forms_find i hi1 (by omega)) Tryd.underlying55 Tryd.underlying3 rfl rfl rfl) ?_
    simp only [Act.put, zA]
    refine zr (.string (sB (Qu.kwN i))) wo (by first | kernel_rfl | (unfold execOp; go_simp)) ?_
    simp only [Act.put, zA]
    refine zr (.agg #[.int .i64 2, .string (sB (Qu.kwN i))]) wo (by unfold execOp; go_simp <;> rfl) ?_
    simp only [Act.put, zA]
    refine wpList_call (by kernel_rfl) 65 Tryd.func65 (by kernel_rfl) (by kernel_rfl) _ _ #[.pointer (some ⟨bp, 0, none⟩), .agg #[.int .i64 2, .string (sB (Qu.kwN i))]] rfl (by kernel_rfl) ?_
    refine (acc_yes s HS4.out bp bs st HOK.out wo ⟨Hpbs.out, Hpbp.out, HNE.out, HP1.out, HS1.out⟩ ⟨2, Qu.kwN i⟩ ht).mono ?_
    rintro e W1_1 ⟨rfl, hps, hfc⟩
    have YHFm : W1_1.heap[fb]? = some formsM := hfc.far _ _ (Ne.symm Nbpfb.out) (Ne.symm Nbsfb.out) HFm.out
    have YHF : FarH bp bs w W1_1 := FarH.farC HF.out hfc
    have hb := farc_bel hV0 B0.out hfc
    have hbr := hb
    clear B0
    have B0 := zh hbr
    clear hbr
    clear hb
    clear HFm
    have HFm : Hid (W1_1.heap[fb]? = some formsM) := zh YHFm
    clear YHFm
    clear HF
    have HF : Hid (FarH bp bs w W1_1) := zh YHF
    clear YHF
    have Gv2 : Hid (V.heap.size ≤ fb) := zh (by omega)
    have Lt3 : Hid (fb < W1_1.heap.size) := zh (xp_lt HFm.out)
    clear Hpbs
    have Hpbs : Hid (W1_1.heap[bs]? = some (.cells #[.string (sB s), .int .i64 (((Qu.adv s st).pos : Nat) : Int)] 66 (0, 0))) := zh (hps.sc)
    clear Hpbp
    have Hpbp : Hid (W1_1.heap[bp]? = some (.cells #[.func (.func 41) #[.pointer (some ⟨bs, 0, none⟩)] #[], .int .i64 ((Qu.adv s st).tok.cls : Int), .string (sB ((Qu.adv s st).tok.tx)), .int .i64 (((Qu.adv s st).off : Nat) : Int)] 72 (0, 0))) := zh (hps.pr)
    clear hfc hps 
    refine ⟨_, rfl, ?_⟩
    simp only [Act.put, zA]
    refine wpList_nil ?_
    go_upto_region 6 with fail
    refine wp_region_lit ?_
    refine zr (.int .i64 (i : Int)) W1_1 rfl ?_
    simp only [Act.put, zA]
    refine zr (.int .i64 (i : Int)) W1_1 rfl ?_
    simp only [Act.put, zA]
    refine zr (.int .i64 0) W1_1 rfl ?_
    simp only [Act.put, zA]
    refine wpList_nil ?_
    have hx : r = ⟨i, 0, Qu.adv s st⟩ := HR.out.symm.trans (by unfold Qu.kindN Qu.pickT; rw [HFD.out, Qu.findT_yes ht (by omega)] <;> rfl)
    have hsf : PSm W1_1 bp bs s _ := ⟨Hpbs.out, Hpbp.out, HNE.out, HP1.out, HS1.out⟩
    have hff := farc_mk HF.out HVW.out B0.out
    go_wp2_with fail
    go_ret2
    subst hx
    exact ⟨rfl, hsf, hff⟩
   ·go_upto_region 5 with fail
    refine wp_region_lit ?_
    refine zr (.pointer (some ⟨bp, 0, none⟩)) wo rfl ?_
    simp only [Act.put, zA]
    refine zr (.map (some fb)) wo rfl ?_
    simp only [Act.put, zA]
    refine zr (.int .i64 (i : Int)) wo rfl ?_
    simp only [Act.put, zA]
    refine zr (.agg #[.string (sB (Qu.kwN i)), .bool (Qu.hasC i), .int .i64 (Qu.maxK i : Int), .int .i64 (Qu.numF i : Int)]) wo (xm_lookup fb [formE 1, formE 2, formE 3, formE 4, formE 5, formE 6, formE 7] 7 (i : Int) (i - 1) (formV i) HFm.out (forms_find i hi1 (by omega)) Tryd.underlying55 Tryd.underlying3 rfl rfl rfl) ?_
    simp only [Act.put, zA]
    refine zr (.string (sB (Qu.kwN i))) wo (by first | kernel_rfl | (unfold execOp; go_simp)) ?_
    simp only [Act.put, zA]
    refine zr (.agg #[.int .i64 2, .string (sB (Qu.kwN i))]) wo (by unfold execOp; go_simp <;> rfl) ?_
    simp only [Act.put, zA]
    refine wpList_call (by kernel_rfl) 65 Tryd.func65 (by kernel_rfl) (by kernel_rfl) _ _ #[.pointer (some ⟨bp, 0, none⟩), .agg #[.int .i64 2, .string (sB (Qu.kwN i))]] rfl (by kernel_rfl) ?_
    refine (acc_no s HS4.out bp bs st HOK.out wo ⟨Hpbs.out, Hpbp.out, HNE.out, HP1.out, HS1.out⟩ ⟨2, Qu.kwN i⟩ ht).mono ?_
    rintro e W1_1 ⟨rfl, hps, hfc⟩
    have YHFm : W1_1.heap[fb]? = some formsM := hfc.far _ _ (Ne.symm Nbpfb.out) (Ne.symm Nbsfb.out) HFm.out
    have YHF : FarH bp bs w W1_1 := FarH.farC HF.out hfc
    have hb := farc_bel hV0 B0.out hfc
    have hbr := hb
    clear B0
    have B0 := zh hbr
    clear hbr
    clear hb
    clear HFm
    have HFm : Hid (W1_1.heap[fb]? = some formsM) := zh YHFm
    clear YHFm
    clear HF
    have HF : Hid (FarH bp bs w W1_1) := zh YHF
    clear YHF
    have Gv2 : Hid (V.heap.size ≤ fb) := zh (by omega)
    have Lt3 : Hid (fb < W1_1.heap.size) := zh (xp_lt HFm.out)
    clear Hpbs
    have Hpbs : Hid (W1_1.heap[bs]? = some (.cells #[.string (sB s), .int .i64 ((st.pos : Nat) : Int)] 66 (0, 0))) := zh (hps.sc)
    clear Hpbp
    have Hpbp : Hid (W1_1.heap[bp]? = some (.cells #[.func (.func 41) #[.pointer (some ⟨bs, 0, none⟩)] #[], .int .i64 (st.tok.cls : Int), .string (sB st.tok.tx), .int .i64 ((st.off : Nat) : Int)] 72 (0, 0))) := zh (hps.pr)
    clear hfc hps 
    refine ⟨_, rfl, ?_⟩
    simp only [Act.put, zA]
    refine wpList_nil ?_
    go_upto_region 4 with fail
    refine wp_region_lit ?_
    refine zr (.int .i64 (i : Int)) W1_1 rfl ?_
    simp only [Act.put, zA]
    refine zr (.int .i64 ((i + 1 : Nat) : Int)) W1_1 (xo_addI (i : Int) 1 ((i + 1 : Nat) : Int) (by omega) (by omega) (by omega) rfl rfl rfl) ?_
    simp only [Act.put, zA]
    refine zr (.int .i64 ((i + 1 : Nat) : Int)) W1_1 rfl ?_
    simp only [Act.put, zA]
    refine wpList_nil ?_
    have p0 : PSm W1_1 bp bs s st := ⟨Hpbs.out, Hpbp.out, HNE.out, HP1.out, HS1.out⟩
    have f0 := HF.out
    have b0 := B0.out
    have d0 := HFD.out.trans (Qu.findT_no ht (by omega))
    rw [show 8 - i - 1 = 8 - (i + 1) from by omega] at d0
    have m0 := HFm.out
    go_wp2_with fail
    go_roundw
    case rel => exact ⟨i + 1, by omega, by omega, by go_num, d0, p0, f0, b0, m0⟩
    case measure => simp [intOf]; omega
  ·obtain rfl : i = 8 := by omega
   go_upto_region 3 with fail
   refine wp_region_lit ?_
   refine zr (.int .i64 8) wo rfl ?_
   simp only [Act.put, zA]
   refine zr (.bool false) wo (xo_leqF .i64 8 7 (by omega) rfl rfl rfl) ?_
   simp only [Act.put, zA]
   refine wpList_nil ?_
   go_upto_region 7 with fail
   refine wp_region_lit ?_
   refine zr (.pointer (some ⟨bp, 0, none⟩)) wo rfl ?_
   simp only [Act.put, zA]
   refine wpList_call (by kernel_rfl) 66 Tryd.func66 (by kernel_rfl) (by kernel_rfl) _ _ #[.pointer (some ⟨bp, 0, none⟩)] rfl (by kernel_rfl) ?_
   refine (refuse_any s HS4.out bp bs st HOK.out wo ⟨Hpbs.out, Hpbp.out, HNE.out, HP1.out, HS1.out⟩).mono ?_
   rintro e W1 ⟨rfl, hw1⟩
   rw [hw1]
   clear hw1 W1
   refine ⟨_, rfl, ?_⟩
   simp only [Act.put, zA]
   refine zr (.int .i64 0) wo rfl ?_
   simp only [Act.put, zA]
   refine zr (.int .i64 (Qu.refN st : Int)) wo rfl ?_
   simp only [Act.put, zA]
   refine wpList_nil ?_
   have hx : r = ⟨0, Qu.refN st, st⟩ := HR.out.symm.trans (by unfold Qu.kindN Qu.pickT; rw [HFD.out]; rfl)
   have hsf : PSm wo bp bs s _ := ⟨Hpbs.out, Hpbp.out, HNE.out, HP1.out, HS1.out⟩
   have hff := farc_mk HF.out HVW.out B0.out
   go_wp2_with fail
   go_ret2
   subst hx
   exact ⟨rfl, hsf, hff⟩
end Go.Proofs.YtlicfidcfhbmpaaDoor

