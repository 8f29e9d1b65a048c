/- Several texts in one: Ym. -/
import Derived.Test.YtlicfidcfhbmpaaDoorE09
set_option linter.unusedVariables false
set_option linter.unusedSimpArgs false
set_option linter.unusedSectionVars false
namespace Go.Proofs.YtlicfidcfhbmpaaDoor
set_option maxRecDepth 8000
open Go.RowKit Go.Proofs.YtlicfidcfhbmpaaDoor.K
attribute [local irreducible] wpList wpQuiet
/-- the filters, if the error n is none -/
def FsIf (n : Nat) (w : World) (base : Nat) (v : Value) (fs : List (List Qu.Cd)) : Prop := n = 0 → FsOwn w base v fs
section
variable {w w' : World} {base b2 n : Nat} {v : Value} {fs : List (List Qu.Cd)}
theorem FsOwn.mono (h : FsOwn w base v fs) (hb : b2 ≤ base) : FsOwn w b2 v fs := by
 obtain ⟨A, c, hs, rfl, ho, hc⟩ := h
 exact ⟨A, c, hs, rfl, own_mono ho hb, ⟨hc.len, fun i d xs hi hx => ⟨(hc.row i d xs hi hx).1, own_mono (hc.row i d xs hi hx).2 hb⟩⟩⟩
theorem FsOwn.keep (h : FsOwn w base v fs) (hb : Below w.heap.size w w') : FsOwn w' base v fs := by
 obtain ⟨A, c, hs, rfl, ho, hc⟩ := h
 exact ⟨A, c, hs, rfl, own_keep ho hb, hc.keep hb⟩
theorem FsOwn.farC {p q : Nat} (h : FsOwn w base v fs) (hp : p < base) (hq : q < base) (k : FarH p q w w') : FsOwn w' base v fs := by
 obtain ⟨A, c, hs, rfl, ho, hc⟩ := h
 exact ⟨A, c, hs, rfl, own_farC ho hp hq k, hc.farC hp hq k⟩
theorem FsOwn.store {b : Nat} {ds : Array Value} {u : TypeId} (h : FsOwn w base v fs) (hb : w.heap[b]? = some (.cells ds u (0, 0))) (h1 : u ≠ 28) (h2 : u ≠ 46) (hfar : ∀ k o, k ≠ b → w.heap[k]? = some o → w'.heap[k]? = some o) : FsOwn w' base v fs := by
 obtain ⟨A, c, hs, rfl, ho, hc⟩ := h
 exact ⟨A, c, hs, rfl, own_farT ho hb h1 hfar, ⟨hc.len, fun i d xs hi hx => ⟨(hc.row i d xs hi hx).1, own_farT (hc.row i d xs hi hx).2 hb h2 hfar⟩⟩⟩
theorem FsIf.store {b : Nat} {ds : Array Value} {u : TypeId} (h : FsIf n w base v fs) (hb : w.heap[b]? = some (.cells ds u (0, 0))) (h1 : u ≠ 28) (h2 : u ≠ 46) (hfar : ∀ k o, k ≠ b → w.heap[k]? = some o → w'.heap[k]? = some o) : FsIf n w' base v fs := fun e => (h e).store hb h1 h2 hfar
theorem FsIf.mono (h : FsIf n w base v fs) (hb : b2 ≤ base) : FsIf n w b2 v fs := fun e => (h e).mono hb
theorem FsIf.keep (h : FsIf n w base v fs) (hb : Below w.heap.size w w') : FsIf n w' base v fs := fun e => (h e).keep hb
theorem FsIf.farC {p q : Nat} (h : FsIf n w base v fs) (hp : p < base) (hq : q < base) (k : FarH p q w w') : FsIf n w' base v fs := fun e => (h e).farC hp hq k
end
theorem _root_.Qu.numF_le (k : Nat) : Qu.numF k ≤ 2 := by
 unfold Qu.numF
 split <;> decide
set_option maxRecDepth 100000 in
set_option maxHeartbeats 64000000 in
theorem query_as (s : List UInt8) (hs4 : s.length ≤ 1000) (bp bs : Nat) (st : Qu.St) (hst : Qu.Ok s st) (w : World) (hP : PSm w bp bs s st) (hG : Gc w) (r : Qu.Rs Qu.Qy) (hr : Qu.queryN s st = r) :
  Calls Tryd.prog 43 #[.pointer (some ⟨bp, 0, none⟩)] w fun e w' => ∃ A n c, e = .returned (.tuple #[.agg #[.int .i64 (r.val.kind : Int), .int .i64 (r.val.col : Int), .int .i64 (r.val.k : Int), .slice A n c], .int .i64 (r.err : Int)]) ∧ FsIf r.err w' w.heap.size (.slice A n c) r.val.fs ∧ PSm w' bp bs s r.st ∧ FarC bp bs w w' := by
 have HG := zh hG
 clear hG
 obtain ⟨V, hV0, hV⟩ := base_world w
 have B0 := zh hV
 have HVW := zh hV
 clear hV
 have HF := zh (FarH.refl bp bs w)
 have HS4 := zh hs4
 have HOK := zh hst
 have HNE := zh hP.ne
 have HP1 := zh hP.p1
 have HS1 := zh hP.s1
 have hne := hP.ne
 have Hpbp : Hid (w.heap[bp]? = some (.cells #[.func (.func 41) #[.pointer (some ⟨bs, 0, none⟩)] #[], .int .i64 (st.tok.cls : Int), .string (sB st.tok.tx), .int .i64 ((st.off : Nat) : Int)] 72 (0, 0))) := zh (hP.pr)
 have Gpbp : Hid (V.heap.size ≤ bp) := zh (by omega)
 have Lpbp : Hid (bp < w.heap.size) := zh (xp_lt Hpbp.out)
 have Hpbs : Hid (w.heap[bs]? = some (.cells #[.string (sB s), .int .i64 ((st.pos : Nat) : Int)] 66 (0, 0))) := zh (hP.sc)
 have Gpbs : Hid (V.heap.size ≤ bs) := zh (by omega)
 have Lpbs : Hid (bs < w.heap.size) := zh (xp_lt Hpbs.out)
 have Npbpbs : Hid (bp ≠ bs) := zh (by omega)
 clear hs4 hst hP hne
 go_enter Tryd.func43, Tryd.ntmps43
 go_upto_region 1 with fail
 refine wp_named1 (fun V2 hb g0 hlt => ?_)
 have B1 := zh hb
 have Fx0 : Hid (V2.heap[w.heap.size]? = some (.cells #[.int .i64 0, .int .i64 0, .int .i64 0, .slice none 0 0] 24 (0, 0))) := zh (g0)
 have Gb0 : Hid (w.heap.size ≤ w.heap.size) := zh (by omega)
 have Lx0 : Hid (w.heap.size < V2.heap.size) := zh (xp_lt Fx0.out)
 have Nxbp0 : Hid (bp ≠ w.heap.size) := zh (by have := Lpbp.out; omega)
 have Nxbs0 : Hid (bs ≠ w.heap.size) := zh (by have := Lpbs.out; omega)
 have Nz0 : Hid (0 ≠ w.heap.size) := zh (by have := Lpbp.out; omega)
 clear hb g0 hlt
 have HR := zh hr
 clear hr
 obtain ⟨a, ha⟩ : ∃ a, Qu.kindN s st = a := ⟨_, rfl⟩
 have HA := zh ha
 clear ha
 have HOA : Hid (Qu.Ok s a.st) := zh (by rw [← HA.out]; exact Qu.pickT_ok HOK.out)
 refine wp_region_lit ?_
 refine wpList_new #[.int .i64 0, .int .i64 0, .int .i64 0, .slice none 0 0] 24 (by kernel_rfl) (xo_alloc #[.int .i64 0, .int .i64 0, .int .i64 0, .slice none 0 0] (by kernel_rfl) rfl) ?_
 intro b4 V3 hge h0 hb
 have N0_0 : Hid (bp ≠ b4) := zh (xp_lt0 (heap_keep Hpbp.out B1.out) hge)
 have N1_1 : Hid (bs ≠ b4) := zh (xp_lt0 (heap_keep Hpbs.out B1.out) hge)
 have N2_2 : Hid (w.heap.size ≠ b4) := zh (xp_lt0 Fx0.out hge)
 have Ge3 : Hid (V2.heap.size ≤ b4) := zh hge
 have B2 := zh hb
 have Fv4_4 : Hid (V3.heap[b4]? = some (.cells #[.int .i64 0, .int .i64 0, .int .i64 0, .slice none 0 0] 24 (0, 0))) := zh (h0)
 have Lt5 : Hid (b4 < V3.heap.size) := zh (xp_lt Fv4_4.out)
 have Gw6 : Hid (w.heap.size ≤ b4) := zh (Nat.le_trans (HF.out.keep B1.out).size Ge3.out)
 have Nz7 : Hid (0 ≠ b4) := zh (by have := Gw6.out; have := Lpbp.out; omega)
 clear hge h0 hb
 simp only [ptr, Act.put, zA]
 refine wpList_nil ?_
 go_upto_region 2 with fail
 refine wp_region_lit ?_
 refine zr (.int .i64 0) V3 rfl ?_
 simp only [Act.put, zA]
 refine wpList_nil ?_
 go_upto_region 3 with fail
 refine wp_region_lit ?_
 refine zr (.pointer (some ⟨bp, 0, none⟩)) V3 rfl ?_
 simp only [Act.put, zA]
 have C1_3 := zb B1 B2
 refine wpList_call (by kernel_rfl) 57 Tryd.func57 (by kernel_rfl) (by kernel_rfl) _ _ #[.pointer (some ⟨bp, 0, none⟩)] rfl (by kernel_rfl) ?_
 refine (kind_as s HS4.out bp bs st HOK.out V3 ⟨(heap_keep Hpbs.out C1_3.out), (heap_keep Hpbp.out C1_3.out), HNE.out, HP1.out, HS1.out⟩ a HA.out).mono ?_
 rintro e W3_8 ⟨rfl, hps, hfc⟩
 have YFx0 : W3_8.heap[w.heap.size]? = some (.cells #[.int .i64 0, .int .i64 0, .int .i64 0, .slice none 0 0] 24 (0, 0)) := hfc.far _ _ (Ne.symm Nxbp0.out) (Ne.symm Nxbs0.out) (heap_keep Fx0.out B2.out)
 have YFv4_4 : W3_8.heap[b4]? = some (.cells #[.int .i64 0, .int .i64 0, .int .i64 0, .slice none 0 0] 24 (0, 0)) := hfc.far _ _ (Ne.symm N0_0.out) (Ne.symm N1_1.out) Fv4_4.out
 have YHF : FarH bp bs w W3_8 := FarH.farC (HF.out.keep C1_3.out) hfc
 have YHG : Gc W3_8 := rng_farC (HG.out.keep C1_3.out) (by have := HP1.out; omega) (by have := HS1.out; omega) hfc.toFarH
 have C0_2 := zb B0 B1
 have C0_3 := zb C0_2 B2
 have hb := farc_bel hV0 C0_3.out hfc
 have hbr := hb
 clear B0
 have B0 := zh hbr
 clear hbr
 clear hb
 clear Fx0
 have Fx0 : Hid (W3_8.heap[w.heap.size]? = some (.cells #[.int .i64 0, .int .i64 0, .int .i64 0, .slice none 0 0] 24 (0, 0))) := zh YFx0
 clear YFx0
 clear Fv4_4
 have Fv4_4 : Hid (W3_8.heap[b4]? = some (.cells #[.int .i64 0, .int .i64 0, .int .i64 0, .slice none 0 0] 24 (0, 0))) := zh YFv4_4
 clear YFv4_4
 clear HF
 have HF : Hid (FarH bp bs w W3_8) := zh YHF
 clear YHF
 clear HG
 have HG : Hid (Gc W3_8) := zh YHG
 clear YHG
 have Gv9 : Hid (V.heap.size ≤ w.heap.size) := zh (by omega)
 have Lt10 : Hid (w.heap.size < W3_8.heap.size) := zh (xp_lt Fx0.out)
 have Gv11 : Hid (V.heap.size ≤ b4) := zh (by omega)
 have Lt12 : Hid (b4 < W3_8.heap.size) := zh (xp_lt Fv4_4.out)
 clear Hpbs
 have Hpbs : Hid (W3_8.heap[bs]? = some (.cells #[.string (sB s), .int .i64 ((a.st.pos : Nat) : Int)] 66 (0, 0))) := zh (hps.sc)
 clear Hpbp
 have Hpbp : Hid (W3_8.heap[bp]? = some (.cells #[.func (.func 41) #[.pointer (some ⟨bs, 0, none⟩)] #[], .int .i64 (a.st.tok.cls : Int), .string (sB a.st.tok.tx), .int .i64 ((a.st.off : Nat) : Int)] 72 (0, 0))) := zh (hps.pr)
 clear hfc hps 
 refine ⟨_, rfl, ?_⟩
 simp only [Act.put, zA]
 refine zr (.tuple #[.int .i64 (a.val : Int), .int .i64 (a.err : Int)]) W3_8 rfl ?_
 simp only [Act.put, zA]
 refine zr (.int .i64 (a.val : Int)) W3_8 rfl ?_
 simp only [Act.put, zA]
 refine zr (.int .i64 (a.err : Int)) W3_8 rfl ?_
 simp only [Act.put, zA]
 refine zr (.pointer (some ⟨b4, 0, none⟩)) W3_8 (xo_fld0 0 b4 0 (by kernel_rfl) rfl rfl) ?_
 simp only [Act.put, zA]
 refine wpList_store1 b4 0 #[.int .i64 0, .int .i64 0, .int .i64 0, .slice none 0 0] (.int .i64 (a.val : Int)) 24 (by kernel_rfl) Fv4_4.out (xo_store1 b4 0 #[.int .i64 0, .int .i64 0, .int .i64 0, .slice none 0 0] _ (.int .i64 (a.val : Int)) Fv4_4.out rfl (by kernel_rfl) rfl rfl rfl rfl) ?_
 intro X1_13 h1 hfar hbel hsz
 have YHF : FarH bp bs w X1_13 := FarH.store HF.out (.inr (.inr Gw6.out)) hsz hfar
 have YHG : Gc X1_13 := rng_store HG.out Nz7.out hfar
 have YHpbp : X1_13.heap[bp]? = some (.cells #[.func (.func 41) #[.pointer (some ⟨bs, 0, none⟩)] #[], .int .i64 (a.st.tok.cls : Int), .string (sB a.st.tok.tx), .int .i64 ((a.st.off : Nat) : Int)] 72 (0, 0)) := hfar _ _ N0_0.out Hpbp.out
 have YHpbs : X1_13.heap[bs]? = some (.cells #[.string (sB s), .int .i64 ((a.st.pos : Nat) : Int)] 66 (0, 0)) := hfar _ _ N1_1.out Hpbs.out
 have YFx0 : X1_13.heap[w.heap.size]? = some (.cells #[.int .i64 0, .int .i64 0, .int .i64 0, .slice none 0 0] 24 (0, 0)) := hfar _ _ N2_2.out Fx0.out
 have hbr := hbel _ _ Gv11.out B0.out
 clear B0
 have B0 := zh hbr
 clear hbr
 clear Hpbp
 have Hpbp : Hid (X1_13.heap[bp]? = some (.cells #[.func (.func 41) #[.pointer (some ⟨bs, 0, none⟩)] #[], .int .i64 (a.st.tok.cls : Int), .string (sB a.st.tok.tx), .int .i64 ((a.st.off : Nat) : Int)] 72 (0, 0))) := zh YHpbp
 clear YHpbp
 clear Hpbs
 have Hpbs : Hid (X1_13.heap[bs]? = some (.cells #[.string (sB s), .int .i64 ((a.st.pos : Nat) : Int)] 66 (0, 0))) := zh YHpbs
 clear YHpbs
 clear Fx0
 have Fx0 : Hid (X1_13.heap[w.heap.size]? = some (.cells #[.int .i64 0, .int .i64 0, .int .i64 0, .slice none 0 0] 24 (0, 0))) := zh YFx0
 clear YFx0
 clear HF
 have HF := zh YHF
 clear YHF
 clear HG
 have HG := zh YHG
 clear YHG
 clear Fv4_4
 have Fv4_4 : Hid (X1_13.heap[b4]? = some (.cells #[.int .i64 (a.val : Int), .int .i64 0, .int .i64 0, .slice none 0 0] 24 (0, 0))) := zh (h1)
 have HszX1_13 := zh hsz
 clear h1 hfar hbel hsz
 simp only [ptr, Act.put, zA]
 refine zr (.int .i64 (a.err : Int)) X1_13 rfl ?_
 simp only [Act.put, zA]
 refine wpList_nil ?_
 by_cases he : a.err = 0
 ·go_upto_region 4 with fail
  refine wp_region_lit ?_
  refine zr (.int .i64 (a.err : Int)) X1_13 rfl ?_
  simp only [Act.put, zA]
  refine zr (.bool false) X1_13 (xo_neqF .i64 ((a.err : Nat) : Int) 0 (by omega) rfl rfl rfl) ?_
  simp only [Act.put, zA]
  refine wpList_nil ?_
  have hal := Qu.pickT_lt0 (show (Qu.pickT s Qu.kwN 1 7 st).err = 0 by have h0 := he; rw [← HA.out] at h0; exact h0)
  rw [show Qu.pickT s Qu.kwN 1 7 st = a from HA.out] at hal
  obtain ⟨hal1, hal7⟩ := hal
  obtain ⟨cb, hcb⟩ : ∃ cb, Qu.hasC a.val = cb := ⟨_, rfl⟩
  have HCB := zh hcb
  clear hcb
  obtain ⟨mk, hmk⟩ : ∃ mk, Qu.maxK a.val = mk := ⟨_, rfl⟩
  have HMK := zh hmk
  clear hmk
  obtain ⟨nf, hnf⟩ : ∃ nf, Qu.numF a.val = nf := ⟨_, rfl⟩
  have HNF := zh hnf
  clear hnf
  have hnf2 : nf ≤ 2 := by rw [← HNF.out]; exact Qu.numF_le _
  have HNF2 := zh hnf2
  clear hnf2
  have HROW : Hid (formV a.val = .agg #[.string (sB (Qu.kwN a.val)), .bool cb, .int .i64 (mk : Int), .int .i64 (nf : Int)]) := zh (by rw [formV, HCB.out, HMK.out, HNF.out])
  go_upto_region 6 with fail
  refine wp_cutP (α := Nat × Nat) (fun ⟨fb, b6⟩ => [(17, .map (some fb)), (18, .pointer (some ⟨b4, 0, none⟩)), (19, .int .i64 (a.val : Int)), (20, .agg #[.string (sB (Qu.kwN a.val)), .bool cb, .int .i64 (mk : Int), .int .i64 (nf : Int)]), (6, .pointer (some ⟨b6, 0, none⟩))]) (fun ⟨_, b6⟩ W => Below X1_13.heap.size X1_13 W ∧ X1_13.heap.size ≤ b6 ∧ W.heap[b6]? = some (.cells #[.string (sB (Qu.kwN a.val)), .bool cb, .int .i64 (mk : Int), .int .i64 (nf : Int)] 53 (0, 0))) ?_ ?_
  ·have T4 := zh Fv4_4.out
   have T4l : Hid (b4 < X1_13.heap.size) := zh (xp_lt T4.out)
   try simp only [List.append_eq, List.cons_append, List.nil_append]
   refine wp_ordM 5 (.q 1 (.q 2 (.fork 0 (.fork 3 (.one 4 .nil) 4 (.one 3 .nil)) 4 (.one 0 (.one 3 .nil))))) (by kernel_rfl) (by kernel_rfl) (by kernel_rfl) (by kernel_rfl) (by kernel_rfl) (by kernel_rfl) (by kernel_rfl) (fun V1 hb => ?_)
   have B0 := zh hb
   clear hb
   refine wpOT_q (.pointer (some ⟨b4, 0, none⟩)) rfl (by kernel_rfl) (fun v hW => (xo_fld0 0 b4 0 (by kernel_rfl) rfl rfl)) ?_
   simp only [ptr, Act.put, zA]
   refine wpOT_q (.int .i64 (a.val : Int)) rfl (by kernel_rfl) (fun v hW => (xo_load1 ⟨b4, 0, none⟩ _ (cells_at (heap_keep (heap_keep T4.out B0.out) hW) 0 rfl) Tryd.underlying3 rfl rfl rfl)) ?_
   simp only [ptr, Act.put, zA]
   refine wpOT_fork ?_ ?_
   ·refine wpOT_one rfl (by kernel_rfl) ?_
    refine hOp_call 29 Tryd.func29 (by kernel_rfl) (by kernel_rfl) _ _ #[] rfl (by kernel_rfl) ?_
    refine (forms_any V1).mono ?_
    rintro e V2 ⟨fb, rfl, hge, hfm, hb⟩
    have B1 := zh hb
    have HFm := zh hfm
    have HFg := zh hge
    clear hb hfm hge
    refine ⟨_, rfl, B1.out, ?_⟩
    simp only [ptr, Act.put, zA]
    refine wpOT_fork ?_ ?_
    ·refine wpOT_one rfl (by kernel_rfl) ?_
     refine hOp_val (.agg #[.string (sB (Qu.kwN a.val)), .bool cb, .int .i64 (mk : Int), .int .i64 (nf : Int)]) (xm_lookup fb [formE 1, formE 2, formE 3, formE 4, formE 5, formE 6, formE 7] 7 (a.val : Int) (a.val - 1) (.agg #[.string (sB (Qu.kwN a.val)), .bool cb, .int .i64 (mk : Int), .int .i64 (nf : Int)]) HFm.out ((forms_find a.val hal1 (by omega)).trans (by rw [HROW.out])) Tryd.underlying55 Tryd.underlying3 rfl rfl rfl) ⟨B1.out, ?_⟩
     simp only [ptr, Act.put, zA]
     refine wpOT_one rfl (by kernel_rfl) ?_
     refine hOp_new #[.string ByteArray.empty, .bool false, .int .i64 0, .int .i64 0] 53 (xo_alloc #[.string ByteArray.empty, .bool false, .int .i64 0, .int .i64 0] (by kernel_rfl) rfl) ?_
     intro b6 V3 hge h0 hb
     have C0_2 := zb B0 B1
     have N14_0 : Hid (b4 ≠ b6) := zh (xp_lt0 (heap_keep T4.out C0_2.out) hge)
     have Ge15 : Hid (V2.heap.size ≤ b6) := zh hge
     have B2 := zh hb
     have Fv16_6 : Hid (V3.heap[b6]? = some (.cells #[.string ByteArray.empty, .bool false, .int .i64 0, .int .i64 0] 53 (0, 0))) := zh (h0)
     have Lt17 : Hid (b6 < V3.heap.size) := zh (xp_lt Fv16_6.out)
     clear hge h0 hb
     have C1_3 := zb B1 B2
     refine ⟨C1_3.out, ?_⟩
     try simp only [ptr, Act.put, zA]
     refine wpOT_nil ?_
     have HG6 := zh (Nat.le_trans C0_2.out.size Ge15.out)
     have hfs := Fv16_6.out
     have hgb := (Nat.le_trans C0_2.out.size Ge15.out)
     have C0_3 := zb C0_2 B2
     have hbs := C0_3.out
     have hfar : ∀ k o, k ≠ b6 → V3.heap[k]? = some o → (V3.setRow b6 #[.string (sB (Qu.kwN a.val)), .bool cb, .int .i64 (mk : Int), .int .i64 (nf : Int)]).heap[k]? = some o := fun k o hk h0 => heap_farRow h0 hk _
     refine mOp_run0 _ rfl rfl (xo_storeW b6 #[.string ByteArray.empty, .bool false, .int .i64 0, .int .i64 0] #[.string (sB (Qu.kwN a.val)), .bool cb, .int .i64 (mk : Int), .int .i64 (nf : Int)] hfs (by kernel_rfl) rfl (by simp [Value.oneCell']) rfl rfl rfl) ?_
     try simp only [List.getElem_toArray, List.getElem_cons_succ, List.getElem_cons_zero, ptr, Act.put, zA]
     have hfn := setRow_heap V3 b6 _ #[.string (sB (Qu.kwN a.val)), .bool cb, .int .i64 (mk : Int), .int .i64 (nf : Int)] _ _ hfs
     have hbn := bel_setRow hbs hgb #[.string (sB (Qu.kwN a.val)), .bool cb, .int .i64 (mk : Int), .int .i64 (nf : Int)]
     clear hfar
     generalize V3.setRow b6 #[.string (sB (Qu.kwN a.val)), .bool cb, .int .i64 (mk : Int), .int .i64 (nf : Int)] = X18 at *
     have Gt19 : Hid (X1_13.heap.size ≤ b6) := zh (Nat.le_trans C0_2.out.size Ge15.out)
     have hbr := hbn
     clear B0
     have B0 := zh hbr
     clear hbr
     clear Fv16_6
     have Fv16_6 : Hid (X18.heap[b6]? = some (.cells #[.string (sB (Qu.kwN a.val)), .bool cb, .int .i64 (mk : Int), .int .i64 (nf : Int)] 53 (0, 0))) := zh hfn
     clear hfs hgb hbs hfn hbn
     refine ⟨(fb, b6), ?_, B0.out, HG6.out, Fv16_6.out⟩
     simp only [putL, ptr, Act.put, zA] <;> rfl
    ·refine wpOT_one rfl (by kernel_rfl) ?_
     refine hOp_new #[.string ByteArray.empty, .bool false, .int .i64 0, .int .i64 0] 53 (xo_alloc #[.string ByteArray.empty, .bool false, .int .i64 0, .int .i64 0] (by kernel_rfl) rfl) ?_
     intro b6 V3 hge h0 hb
     have C0_2 := zb B0 B1
     have N14_0 : Hid (b4 ≠ b6) := zh (xp_lt0 (heap_keep T4.out C0_2.out) hge)
     have Ge15 : Hid (V2.heap.size ≤ b6) := zh hge
     have B2 := zh hb
     have Fv16_6 : Hid (V3.heap[b6]? = some (.cells #[.string ByteArray.empty, .bool false, .int .i64 0, .int .i64 0] 53 (0, 0))) := zh (h0)
     have Lt17 : Hid (b6 < V3.heap.size) := zh (xp_lt Fv16_6.out)
     clear hge h0 hb
     have C1_3 := zb B1 B2
     refine ⟨C1_3.out, ?_⟩
     try simp only [ptr, Act.put, zA]
     refine wpOT_one rfl (by kernel_rfl) ?_
     refine hOp_val (.agg #[.string (sB (Qu.kwN a.val)), .bool cb, .int .i64 (mk : Int), .int .i64 (nf : Int)]) (xm_lookup fb [formE 1, formE 2, formE 3, formE 4, formE 5, formE 6, formE 7] 7 (a.val : Int) (a.val - 1) (.agg #[.string (sB (Qu.kwN a.val)), .bool cb, .int .i64 (mk : Int), .int .i64 (nf : Int)]) (heap_keep HFm.out B2.out) ((forms_find a.val hal1 (by omega)).trans (by rw [HROW.out])) Tryd.underlying55 Tryd.underlying3 rfl rfl rfl) ⟨C1_3.out, ?_⟩
     simp only [ptr, Act.put, zA]
     refine wpOT_nil ?_
     have HG6 := zh (Nat.le_trans C0_2.out.size Ge15.out)
     have hfs := Fv16_6.out
     have hgb := (Nat.le_trans C0_2.out.size Ge15.out)
     have C0_3 := zb C0_2 B2
     have hbs := C0_3.out
     have hfar : ∀ k o, k ≠ b6 → V3.heap[k]? = some o → (V3.setRow b6 #[.string (sB (Qu.kwN a.val)), .bool cb, .int .i64 (mk : Int), .int .i64 (nf : Int)]).heap[k]? = some o := fun k o hk h0 => heap_farRow h0 hk _
     refine mOp_run0 _ rfl rfl (xo_storeW b6 #[.string ByteArray.empty, .bool false, .int .i64 0, .int .i64 0] #[.string (sB (Qu.kwN a.val)), .bool cb, .int .i64 (mk : Int), .int .i64 (nf : Int)] hfs (by kernel_rfl) rfl (by simp [Value.oneCell']) rfl rfl rfl) ?_
     try simp only [List.getElem_toArray, List.getElem_cons_succ, List.getElem_cons_zero, ptr, Act.put, zA]
     have hfn := setRow_heap V3 b6 _ #[.string (sB (Qu.kwN a.val)), .bool cb, .int .i64 (mk : Int), .int .i64 (nf : Int)] _ _ hfs
     have hbn := bel_setRow hbs hgb #[.string (sB (Qu.kwN a.val)), .bool cb, .int .i64 (mk : Int), .int .i64 (nf : Int)]
     clear hfar
     generalize V3.setRow b6 #[.string (sB (Qu.kwN a.val)), .bool cb, .int .i64 (mk : Int), .int .i64 (nf : Int)] = X18 at *
     have Gt19 : Hid (X1_13.heap.size ≤ b6) := zh (Nat.le_trans C0_2.out.size Ge15.out)
     have hbr := hbn
     clear B0
     have B0 := zh hbr
     clear hbr
     clear Fv16_6
     have Fv16_6 : Hid (X18.heap[b6]? = some (.cells #[.string (sB (Qu.kwN a.val)), .bool cb, .int .i64 (mk : Int), .int .i64 (nf : Int)] 53 (0, 0))) := zh hfn
     clear hfs hgb hbs hfn hbn
     refine ⟨(fb, b6), ?_, B0.out, HG6.out, Fv16_6.out⟩
     simp only [putL, ptr, Act.put, zA] <;> rfl
   ·refine wpOT_one rfl (by kernel_rfl) ?_
    refine hOp_new #[.string ByteArray.empty, .bool false, .int .i64 0, .int .i64 0] 53 (xo_alloc #[.string ByteArray.empty, .bool false, .int .i64 0, .int .i64 0] (by kernel_rfl) rfl) ?_
    intro b6 V2 hge h0 hb
    have N14_0 : Hid (b4 ≠ b6) := zh (xp_lt0 (heap_keep T4.out B0.out) hge)
    have Ge15 : Hid (V1.heap.size ≤ b6) := zh hge
    have B1 := zh hb
    have Fv16_6 : Hid (V2.heap[b6]? = some (.cells #[.string ByteArray.empty, .bool false, .int .i64 0, .int .i64 0] 53 (0, 0))) := zh (h0)
    have Lt17 : Hid (b6 < V2.heap.size) := zh (xp_lt Fv16_6.out)
    clear hge h0 hb
    refine ⟨B1.out, ?_⟩
    try simp only [ptr, Act.put, zA]
    refine wpOT_one rfl (by kernel_rfl) ?_
    refine hOp_call 29 Tryd.func29 (by kernel_rfl) (by kernel_rfl) _ _ #[] rfl (by kernel_rfl) ?_
    refine (forms_any V2).mono ?_
    rintro e V3 ⟨fb, rfl, hge, hfm, hb⟩
    have B2 := zh hb
    have HFm := zh hfm
    have HFg := zh hge
    clear hb hfm hge
    have C1_3 := zb B1 B2
    refine ⟨_, rfl, C1_3.out, ?_⟩
    simp only [ptr, Act.put, zA]
    refine wpOT_one rfl (by kernel_rfl) ?_
    refine hOp_val (.agg #[.string (sB (Qu.kwN a.val)), .bool cb, .int .i64 (mk : Int), .int .i64 (nf : Int)]) (xm_lookup fb [formE 1, formE 2, formE 3, formE 4, formE 5, formE 6, formE 7] 7 (a.val : Int) (a.val - 1) (.agg #[.string (sB (Qu.kwN a.val)), .bool cb, .int .i64 (mk : Int), .int .i64 (nf : Int)]) HFm.out ((forms_find a.val hal1 (by omega)).trans (by rw [HROW.out])) Tryd.underlying55 Tryd.underlying3 rfl rfl rfl) ⟨C1_3.out, ?_⟩
    simp only [ptr, Act.put, zA]
    refine wpOT_nil ?_
    have HG6 := zh (Nat.le_trans B0.out.size Ge15.out)
    have hfs := (heap_keep Fv16_6.out B2.out)
    have hgb := (Nat.le_trans B0.out.size Ge15.out)
    have C0_2 := zb B0 B1
    have C0_3 := zb C0_2 B2
    have hbs := C0_3.out
    have hfar : ∀ k o, k ≠ b6 → V3.heap[k]? = some o → (V3.setRow b6 #[.string (sB (Qu.kwN a.val)), .bool cb, .int .i64 (mk : Int), .int .i64 (nf : Int)]).heap[k]? = some o := fun k o hk h0 => heap_farRow h0 hk _
    refine mOp_run0 _ rfl rfl (xo_storeW b6 #[.string ByteArray.empty, .bool false, .int .i64 0, .int .i64 0] #[.string (sB (Qu.kwN a.val)), .bool cb, .int .i64 (mk : Int), .int .i64 (nf : Int)] hfs (by kernel_rfl) rfl (by simp [Value.oneCell']) rfl rfl rfl) ?_
    try simp only [List.getElem_toArray, List.getElem_cons_succ, List.getElem_cons_zero, ptr, Act.put, zA]
    have hfn := setRow_heap V3 b6 _ #[.string (sB (Qu.kwN a.val)), .bool cb, .int .i64 (mk : Int), .int .i64 (nf : Int)] _ _ hfs
    have hbn := bel_setRow hbs hgb #[.string (sB (Qu.kwN a.val)), .bool cb, .int .i64 (mk : Int), .int .i64 (nf : Int)]
    clear hfar
    generalize V3.setRow b6 #[.string (sB (Qu.kwN a.val)), .bool cb, .int .i64 (mk : Int), .int .i64 (nf : Int)] = X18 at *
    have Gt19 : Hid (X1_13.heap.size ≤ b6) := zh (Nat.le_trans B0.out.size Ge15.out)
    have hbr := hbn
    clear B0
    have B0 := zh hbr
    clear hbr
    clear Fv16_6
    have Fv16_6 : Hid (X18.heap[b6]? = some (.cells #[.string (sB (Qu.kwN a.val)), .bool cb, .int .i64 (mk : Int), .int .i64 (nf : Int)] 53 (0, 0))) := zh hfn
    clear hfs hgb hbs hfn hbn
    refine ⟨(fb, b6), ?_, B0.out, HG6.out, Fv16_6.out⟩
    simp only [putL, ptr, Act.put, zA] <;> rfl
  rintro ⟨fb, b6⟩ V2 ⟨hb, hge, h0⟩
  simp only [putL, ptr, Act.put, zA]
  have N54_0 : Hid (bp ≠ b6) := zh (xp_lt0 Hpbp.out hge)
  have N55_1 : Hid (bs ≠ b6) := zh (xp_lt0 Hpbs.out hge)
  have N56_2 : Hid (w.heap.size ≠ b6) := zh (xp_lt0 Fx0.out hge)
  have N57_3 : Hid (b4 ≠ b6) := zh (xp_lt0 Fv4_4.out hge)
  have Ge58 : Hid (X1_13.heap.size ≤ b6) := zh hge
  have B1 := zh hb
  have Fv59_6 : Hid (V2.heap[b6]? = some (.cells #[.string (sB (Qu.kwN a.val)), .bool cb, .int .i64 (mk : Int), .int .i64 (nf : Int)] 53 (0, 0))) := zh (h0)
  have Lt60 : Hid (b6 < V2.heap.size) := zh (xp_lt Fv59_6.out)
  have Gw61 : Hid (w.heap.size ≤ b6) := zh (Nat.le_trans HF.out.size Ge58.out)
  have Nz62 : Hid (0 ≠ b6) := zh (by have := Gw61.out; have := Lpbp.out; omega)
  clear hge h0 hb
  obtain ⟨b, hb⟩ : ∃ b, (if cb = true then Qu.colN s a.st else ⟨0, 0, a.st⟩) = b := ⟨_, rfl⟩
  have HB := zh hb
  have HOB : Hid (Qu.Ok s b.st) := zh (by rw [← hb]; split; exact Qu.pickT_ok HOA.out; exact HOA.out)
  clear hb
  have HE0 := zh he
  clear he
  go_upto_region 7 with fail
  refine wp_region_lit ?_
  refine zr (.pointer (some ⟨b6, 1, none⟩)) V2 (xo_fld0 1 b6 1 (by kernel_rfl) rfl rfl) ?_
  simp only [Act.put, zA]
  refine zr (.bool cb) V2 (xo_load1 ⟨b6, 1, none⟩ _ (cells_at Fv59_6.out 1 rfl) Tryd.underlying4 rfl rfl rfl) ?_
  simp only [Act.put, zA]
  refine wpList_nil ?_
  go_upto_if 22 with fail
  go_cut [] from 21 to 32 (fun  wx => b.err = 0 ∧ wx.heap[bp]? = some (.cells #[.func (.func 41) #[.pointer (some ⟨bs, 0, none⟩)] #[], .int .i64 (b.st.tok.cls : Int), .string (sB b.st.tok.tx), .int .i64 ((b.st.off : Nat) : Int)] 72 (0, 0)) ∧ wx.heap[bs]? = some (.cells #[.string (sB s), .int .i64 ((b.st.pos : Nat) : Int)] 66 (0, 0)) ∧ wx.heap[w.heap.size]? = some (.cells #[.int .i64 0, .int .i64 0, .int .i64 0, .slice none 0 0] 24 (0, 0)) ∧ wx.heap[b4]? = some (.cells #[.int .i64 (a.val : Int), .int .i64 (b.val : Int), .int .i64 0, .slice none 0 0] 24 (0, 0)) ∧ wx.heap[b6]? = some (.cells #[.string (sB (Qu.kwN a.val)), .bool cb, .int .i64 (mk : Int), .int .i64 (nf : Int)] 53 (0, 0)) ∧ FarH bp bs w wx ∧ Gc wx ∧ Below V.heap.size V wx)
  case first =>
   cases cb with
   | true =>
    have HB2 : Hid (Qu.colN s a.st = b) := zh HB.out
    go_upto_region 8 with fail
    refine wp_region_lit ?_
    refine zr (.pointer (some ⟨bp, 0, none⟩)) V2 rfl ?_
    simp only [Act.put, zA]
    refine wpList_call (by kernel_rfl) 58 Tryd.func58 (by kernel_rfl) (by kernel_rfl) _ _ #[.pointer (some ⟨bp, 0, none⟩)] rfl (by kernel_rfl) ?_
    refine (column_as s HS4.out bp bs a.st HOA.out V2 ⟨(heap_keep Hpbs.out B1.out), (heap_keep Hpbp.out B1.out), HNE.out, HP1.out, HS1.out⟩ (HG.out.keep B1.out) b HB2.out).mono ?_
    rintro e W2_63 ⟨rfl, hps, hfc⟩
    have YFx0 : W2_63.heap[w.heap.size]? = some (.cells #[.int .i64 0, .int .i64 0, .int .i64 0, .slice none 0 0] 24 (0, 0)) := hfc.far _ _ (Ne.symm Nxbp0.out) (Ne.symm Nxbs0.out) (heap_keep Fx0.out B1.out)
    have YFv4_4 : W2_63.heap[b4]? = some (.cells #[.int .i64 (a.val : Int), .int .i64 0, .int .i64 0, .slice none 0 0] 24 (0, 0)) := hfc.far _ _ (Ne.symm N0_0.out) (Ne.symm N1_1.out) (heap_keep Fv4_4.out B1.out)
    have YFv59_6 : W2_63.heap[b6]? = some (.cells #[.string (sB (Qu.kwN a.val)), .bool true, .int .i64 (mk : Int), .int .i64 (nf : Int)] 53 (0, 0)) := hfc.far _ _ (Ne.symm N54_0.out) (Ne.symm N55_1.out) Fv59_6.out
    have YHF : FarH bp bs w W2_63 := FarH.farC (HF.out.keep B1.out) hfc
    have YHG : Gc W2_63 := rng_farC (HG.out.keep B1.out) (by have := HP1.out; omega) (by have := HS1.out; omega) hfc.toFarH
    have C0_2 := zb B0 B1
    have hb := farc_bel hV0 C0_2.out hfc
    have hbr := hb
    clear B0
    have B0 := zh hbr
    clear hbr
    clear hb
    clear Fx0
    have Fx0 : Hid (W2_63.heap[w.heap.size]? = some (.cells #[.int .i64 0, .int .i64 0, .int .i64 0, .slice none 0 0] 24 (0, 0))) := zh YFx0
    clear YFx0
    clear Fv4_4
    have Fv4_4 : Hid (W2_63.heap[b4]? = some (.cells #[.int .i64 (a.val : Int), .int .i64 0, .int .i64 0, .slice none 0 0] 24 (0, 0))) := zh YFv4_4
    clear YFv4_4
    clear Fv59_6
    have Fv59_6 : Hid (W2_63.heap[b6]? = some (.cells #[.string (sB (Qu.kwN a.val)), .bool true, .int .i64 (mk : Int), .int .i64 (nf : Int)] 53 (0, 0))) := zh YFv59_6
    clear YFv59_6
    clear HF
    have HF : Hid (FarH bp bs w W2_63) := zh YHF
    clear YHF
    clear HG
    have HG : Hid (Gc W2_63) := zh YHG
    clear YHG
    have Gv64 : Hid (V.heap.size ≤ w.heap.size) := zh (by omega)
    have Lt65 : Hid (w.heap.size < W2_63.heap.size) := zh (xp_lt Fx0.out)
    have Gv66 : Hid (V.heap.size ≤ b4) := zh (by omega)
    have Lt67 : Hid (b4 < W2_63.heap.size) := zh (xp_lt Fv4_4.out)
    have Gv68 : Hid (V.heap.size ≤ b6) := zh (by omega)
    have Lt69 : Hid (b6 < W2_63.heap.size) := zh (xp_lt Fv59_6.out)
    clear Hpbs
    have Hpbs : Hid (W2_63.heap[bs]? = some (.cells #[.string (sB s), .int .i64 ((b.st.pos : Nat) : Int)] 66 (0, 0))) := zh (hps.sc)
    clear Hpbp
    have Hpbp : Hid (W2_63.heap[bp]? = some (.cells #[.func (.func 41) #[.pointer (some ⟨bs, 0, none⟩)] #[], .int .i64 (b.st.tok.cls : Int), .string (sB b.st.tok.tx), .int .i64 ((b.st.off : Nat) : Int)] 72 (0, 0))) := zh (hps.pr)
    clear hfc hps 
    refine ⟨_, rfl, ?_⟩
    simp only [Act.put, zA]
    refine zr (.tuple #[.int .i64 (b.val : Int), .int .i64 (b.err : Int)]) W2_63 rfl ?_
    simp only [Act.put, zA]
    refine zr (.int .i64 (b.val : Int)) W2_63 rfl ?_
    simp only [Act.put, zA]
    refine zr (.int .i64 (b.err : Int)) W2_63 rfl ?_
    simp only [Act.put, zA]
    refine zr (.pointer (some ⟨b4, 1, none⟩)) W2_63 (xo_fld0 1 b4 1 (by kernel_rfl) rfl rfl) ?_
    simp only [Act.put, zA]
    refine wpList_store1 b4 1 #[.int .i64 (a.val : Int), .int .i64 0, .int .i64 0, .slice none 0 0] (.int .i64 (b.val : Int)) 24 (by kernel_rfl) Fv4_4.out (xo_store1 b4 1 #[.int .i64 (a.val : Int), .int .i64 0, .int .i64 0, .slice none 0 0] _ (.int .i64 (b.val : Int)) Fv4_4.out rfl (by kernel_rfl) rfl rfl rfl rfl) ?_
    intro X1_70 h1 hfar hbel hsz
    have YHF : FarH bp bs w X1_70 := FarH.store HF.out (.inr (.inr Gw6.out)) hsz hfar
    have YHG : Gc X1_70 := rng_store HG.out Nz7.out hfar
    have YHpbp : X1_70.heap[bp]? = some (.cells #[.func (.func 41) #[.pointer (some ⟨bs, 0, none⟩)] #[], .int .i64 (b.st.tok.cls : Int), .string (sB b.st.tok.tx), .int .i64 ((b.st.off : Nat) : Int)] 72 (0, 0)) := hfar _ _ N0_0.out Hpbp.out
    have YHpbs : X1_70.heap[bs]? = some (.cells #[.string (sB s), .int .i64 ((b.st.pos : Nat) : Int)] 66 (0, 0)) := hfar _ _ N1_1.out Hpbs.out
    have YFx0 : X1_70.heap[w.heap.size]? = some (.cells #[.int .i64 0, .int .i64 0, .int .i64 0, .slice none 0 0] 24 (0, 0)) := hfar _ _ N2_2.out Fx0.out
    have YFv59_6 : X1_70.heap[b6]? = some (.cells #[.string (sB (Qu.kwN a.val)), .bool true, .int .i64 (mk : Int), .int .i64 (nf : Int)] 53 (0, 0)) := hfar _ _ (Ne.symm N57_3.out) Fv59_6.out
    have hbr := hbel _ _ Gv66.out B0.out
    clear B0
    have B0 := zh hbr
    clear hbr
    clear Hpbp
    have Hpbp : Hid (X1_70.heap[bp]? = some (.cells #[.func (.func 41) #[.pointer (some ⟨bs, 0, none⟩)] #[], .int .i64 (b.st.tok.cls : Int), .string (sB b.st.tok.tx), .int .i64 ((b.st.off : Nat) : Int)] 72 (0, 0))) := zh YHpbp
    clear YHpbp
    clear Hpbs
    have Hpbs : Hid (X1_70.heap[bs]? = some (.cells #[.string (sB s), .int .i64 ((b.st.pos : Nat) : Int)] 66 (0, 0))) := zh YHpbs
    clear YHpbs
    clear Fx0
    have Fx0 : Hid (X1_70.heap[w.heap.size]? = some (.cells #[.int .i64 0, .int .i64 0, .int .i64 0, .slice none 0 0] 24 (0, 0))) := zh YFx0
    clear YFx0
    clear Fv59_6
    have Fv59_6 : Hid (X1_70.heap[b6]? = some (.cells #[.string (sB (Qu.kwN a.val)), .bool true, .int .i64 (mk : Int), .int .i64 (nf : Int)] 53 (0, 0))) := zh YFv59_6
    clear YFv59_6
    clear HF
    have HF := zh YHF
    clear YHF
    clear HG
    have HG := zh YHG
    clear YHG
    clear Fv4_4
    have Fv4_4 : Hid (X1_70.heap[b4]? = some (.cells #[.int .i64 (a.val : Int), .int .i64 (b.val : Int), .int .i64 0, .slice none 0 0] 24 (0, 0))) := zh (h1)
    have HszX1_70 := zh hsz
    clear h1 hfar hbel hsz
    simp only [ptr, Act.put, zA]
    refine zr (.int .i64 (b.err : Int)) X1_70 rfl ?_
    simp only [Act.put, zA]
    refine wpList_nil ?_
    by_cases hbe : b.err = 0
    ·go_upto_region 9 with fail
     refine wp_region_lit ?_
     refine zr (.int .i64 (b.err : Int)) X1_70 rfl ?_
     simp only [Act.put, zA]
     refine zr (.bool false) X1_70 (xo_neqF .i64 ((b.err : Nat) : Int) 0 (by omega) rfl rfl rfl) ?_
     simp only [Act.put, zA]
     refine wpList_nil ?_
     have hm71 := Hpbp.out
     have hm72 := Hpbs.out
     have hm73 := Fx0.out
     have hm74 := Fv4_4.out
     have hm75 := Fv59_6.out
     have hm76 := HF.out
     have hm77 := HG.out
     have hm78 := B0.out
     go_wp2_with fail
     go_meet
     case rel => exact ⟨hbe, hm71, hm72, hm73, hm74, hm75, hm76, hm77, hm78⟩
    ·go_upto_region 9 with fail
     refine wp_region_lit ?_
     refine zr (.int .i64 (b.err : Int)) X1_70 rfl ?_
     simp only [Act.put, zA]
     refine zr (.bool true) X1_70 (xo_neqT .i64 ((b.err : Nat) : Int) 0 (by omega) rfl rfl rfl) ?_
     simp only [Act.put, zA]
     refine wpList_nil ?_
     go_upto_region 10 with fail
     refine wp_region_lit ?_
     refine zr (.agg #[.int .i64 0, .int .i64 0, .int .i64 0, .slice none 0 0]) X1_70 (by unfold execOp; go_simp <;> rfl) ?_
     simp only [Act.put, zA]
     refine zr (.int .i64 (b.err : Int)) X1_70 rfl ?_
     simp only [Act.put, zA]
     refine wpList_storeW w.heap.size #[.int .i64 0, .int .i64 0, .int .i64 0, .slice none 0 0] #[.int .i64 0, .int .i64 0, .int .i64 0, .slice none 0 0] 24 (by kernel_rfl) Fx0.out (xo_storeW w.heap.size #[.int .i64 0, .int .i64 0, .int .i64 0, .slice none 0 0] #[.int .i64 0, .int .i64 0, .int .i64 0, .slice none 0 0] Fx0.out (by kernel_rfl) rfl (by simp [Value.oneCell']) rfl rfl rfl) ?_
     intro X1_71 h1 hfar hbel hsz
     have YHF : FarH bp bs w X1_71 := FarH.store HF.out (.inr (.inr Gb0.out)) hsz hfar
     have YHG : Gc X1_71 := rng_store HG.out Nz0.out hfar
     have YHpbp : X1_71.heap[bp]? = some (.cells #[.func (.func 41) #[.pointer (some ⟨bs, 0, none⟩)] #[], .int .i64 (b.st.tok.cls : Int), .string (sB b.st.tok.tx), .int .i64 ((b.st.off : Nat) : Int)] 72 (0, 0)) := hfar _ _ Nxbp0.out Hpbp.out
     have YHpbs : X1_71.heap[bs]? = some (.cells #[.string (sB s), .int .i64 ((b.st.pos : Nat) : Int)] 66 (0, 0)) := hfar _ _ Nxbs0.out Hpbs.out
     have YFv4_4 : X1_71.heap[b4]? = some (.cells #[.int .i64 (a.val : Int), .int .i64 (b.val : Int), .int .i64 0, .slice none 0 0] 24 (0, 0)) := hfar _ _ (Ne.symm N2_2.out) Fv4_4.out
     have YFv59_6 : X1_71.heap[b6]? = some (.cells #[.string (sB (Qu.kwN a.val)), .bool true, .int .i64 (mk : Int), .int .i64 (nf : Int)] 53 (0, 0)) := hfar _ _ (Ne.symm N56_2.out) Fv59_6.out
     have hbr := hbel _ _ Gv64.out B0.out
     clear B0
     have B0 := zh hbr
     clear hbr
     clear Hpbp
     have Hpbp : Hid (X1_71.heap[bp]? = some (.cells #[.func (.func 41) #[.pointer (some ⟨bs, 0, none⟩)] #[], .int .i64 (b.st.tok.cls : Int), .string (sB b.st.tok.tx), .int .i64 ((b.st.off : Nat) : Int)] 72 (0, 0))) := zh YHpbp
     clear YHpbp
     clear Hpbs
     have Hpbs : Hid (X1_71.heap[bs]? = some (.cells #[.string (sB s), .int .i64 ((b.st.pos : Nat) : Int)] 66 (0, 0))) := zh YHpbs
     clear YHpbs
     clear Fv4_4
     have Fv4_4 : Hid (X1_71.heap[b4]? = some (.cells #[.int .i64 (a.val : Int), .int .i64 (b.val : Int), .int .i64 0, .slice none 0 0] 24 (0, 0))) := zh YFv4_4
     clear YFv4_4
     clear Fv59_6
     have Fv59_6 : Hid (X1_71.heap[b6]? = some (.cells #[.string (sB (Qu.kwN a.val)), .bool true, .int .i64 (mk : Int), .int .i64 (nf : Int)] 53 (0, 0))) := zh YFv59_6
     clear YFv59_6
     clear HF
     have HF := zh YHF
     clear YHF
     clear HG
     have HG := zh YHG
     clear YHG
     clear Fx0
     have Fx0 : Hid (X1_71.heap[w.heap.size]? = some (.cells #[.int .i64 0, .int .i64 0, .int .i64 0, .slice none 0 0] 24 (0, 0))) := zh (h1)
     have HszX1_71 := zh hsz
     clear h1 hfar hbel hsz
     simp only [ptr, Act.put, zA]
     refine zr (.int .i64 (b.err : Int)) X1_71 rfl ?_
     simp only [Act.put, zA]
     refine wpList_nil ?_
     have hx : ⟨Qu.zeroQ, b.err, b.st⟩ = r := Eq.trans (Eq.symm (by simp only [Qu.queryN, HA.out, if_pos HE0.out, HCB.out, if_true, HB2.out, if_neg hbe])) HR.out
     have hsf : PSm X1_71 bp bs s _ := ⟨Hpbs.out, Hpbp.out, HNE.out, HP1.out, HS1.out⟩
     have hff := farc_mk HF.out HVW.out B0.out
     subst hx
     go_wp2_with fail
     refine bodyPost_ret (v := .tuple #[.agg #[.int .i64 0, .int .i64 0, .int .i64 0, .slice none 0 0], .int .i64 (b.err : Int)]) ?_ rfl ⟨_, _, _, rfl, fun h0 => absurd h0 hbe, hsf, hff⟩
     exact results_row_tmp rfl _ _ w.heap.size 24 _ (0, 0) _ _ rfl rfl Fx0.out Tryd.underlying24 rfl (by kernel_rfl)
   | false =>
    have e0 : ⟨0, 0, a.st⟩ = b := HB.out
    subst e0
    have hm63 := (heap_keep Hpbp.out B1.out)
    have hm64 := (heap_keep Hpbs.out B1.out)
    have hm65 := (heap_keep Fx0.out B1.out)
    have hm66 := (heap_keep Fv4_4.out B1.out)
    have hm67 := Fv59_6.out
    have hm68 := (HF.out.keep B1.out)
    have hm69 := (HG.out.keep B1.out)
    have C0_2 := zb B0 B1
    have hm70 := C0_2.out
    go_wp2_with fail
    go_meet
    case rel => exact ⟨(by first | trivial | rfl), hm63, hm64, hm65, hm66, hm67, hm68, hm69, hm70⟩
  case rest =>
   obtain ⟨wc63, rfl⟩ : ∃ W, W = wc := ⟨_, rfl⟩
   obtain ⟨hbe, hr0, hr1, hr2, hr3, hr4, hf0, hf1, hb0⟩ := hcut
   clear B0 HF HG Hpbp Hpbs Fx0 Fv4_4 Fv59_6
   have B0 := zh hb0
   have HF := zh hf0
   have HG := zh hf1
   have Hpbp := zh hr0
   have Hpbs := zh hr1
   have Fx0 := zh hr2
   have Fv4_4 := zh hr3
   have Fv59_6 := zh hr4
   clear hb0 hr0 hr1 hr2 hr3 hr4 hf0 hf1
   have Gv64 : Hid (V.heap.size ≤ w.heap.size) := zh (by omega)
   have Lt65 : Hid (w.heap.size < wc63.heap.size) := zh (xp_lt Fx0.out)
   have Gv66 : Hid (V.heap.size ≤ b4) := zh (by omega)
   have Lt67 : Hid (b4 < wc63.heap.size) := zh (xp_lt Fv4_4.out)
   have Gv68 : Hid (V.heap.size ≤ b6) := zh (by omega)
   have Lt69 : Hid (b6 < wc63.heap.size) := zh (xp_lt Fv59_6.out)
   obtain ⟨n, hn⟩ : ∃ n, (if 0 < mk then Qu.numN s 1 mk b.st else ⟨0, 0, b.st⟩) = n := ⟨_, rfl⟩
   have HN := zh hn
   have HON : Hid (Qu.Ok s n.st) := zh (by rw [← hn]; split; exact Qu.numN_ok HOB.out; exact HOB.out)
   clear hn
   go_upto_region 11 with fail
   refine wp_region_lit ?_
   refine zr (.pointer (some ⟨b6, 2, none⟩)) wc63 (xo_fld0 2 b6 2 (by kernel_rfl) rfl rfl) ?_
   simp only [Act.put, zA]
   refine zr (.int .i64 (mk : Int)) wc63 (xo_load1 ⟨b6, 2, none⟩ _ (cells_at Fv59_6.out 2 rfl) Tryd.underlying3 rfl rfl rfl) ?_
   simp only [Act.put, zA]
   refine zr (.bool (decide (0 < mk))) wc63 (xo_cmp .gtr .i64 (mk : Int) 0 (decide (0 < mk)) (.inr (.inr (.inr (.inr (.inl ⟨rfl, (by rw [decide_eq_decide]; omega)⟩))))) rfl rfl rfl) ?_
   simp only [Act.put, zA]
   refine wpList_nil ?_
   go_upto_if 35 with fail
   go_cut [] from 33 to 47 (fun  wx => n.err = 0 ∧ wx.heap[bp]? = some (.cells #[.func (.func 41) #[.pointer (some ⟨bs, 0, none⟩)] #[], .int .i64 (n.st.tok.cls : Int), .string (sB n.st.tok.tx), .int .i64 ((n.st.off : Nat) : Int)] 72 (0, 0)) ∧ wx.heap[bs]? = some (.cells #[.string (sB s), .int .i64 ((n.st.pos : Nat) : Int)] 66 (0, 0)) ∧ wx.heap[w.heap.size]? = some (.cells #[.int .i64 0, .int .i64 0, .int .i64 0, .slice none 0 0] 24 (0, 0)) ∧ wx.heap[b4]? = some (.cells #[.int .i64 (a.val : Int), .int .i64 (b.val : Int), .int .i64 (n.val : Int), .slice none 0 0] 24 (0, 0)) ∧ wx.heap[b6]? = some (.cells #[.string (sB (Qu.kwN a.val)), .bool cb, .int .i64 (mk : Int), .int .i64 (nf : Int)] 53 (0, 0)) ∧ FarH bp bs w wx ∧ Gc wx ∧ Below V.heap.size V wx)
   case first =>
    by_cases hmk : 0 < mk
    ·have hd : decide (0 < mk) = true := decide_eq_true hmk
     have HN2 : Hid (Qu.numN s 1 mk b.st = n) := zh (by rw [← HN.out, if_pos hmk])
     go_upto_region 12 with fail
     refine wp_region_lit ?_
     refine zr (.pointer (some ⟨bp, 0, none⟩)) wc63 rfl ?_
     simp only [Act.put, zA]
     refine zr (.pointer (some ⟨b6, 2, none⟩)) wc63 (xo_fld0 2 b6 2 (by kernel_rfl) rfl rfl) ?_
     simp only [Act.put, zA]
     refine zr (.int .i64 (mk : Int)) wc63 (xo_load1 ⟨b6, 2, none⟩ _ (cells_at Fv59_6.out 2 rfl) Tryd.underlying3 rfl rfl rfl) ?_
     simp only [Act.put, zA]
     refine wpList_call (by kernel_rfl) 59 Tryd.func59 (by kernel_rfl) (by kernel_rfl) _ _ #[.pointer (some ⟨bp, 0, none⟩), .int .i64 1, .int .i64 (mk : Int)] rfl (by kernel_rfl) ?_
     refine (number_as s HS4.out bp bs b.st HOB.out wc63 ⟨Hpbs.out, Hpbp.out, HNE.out, HP1.out, HS1.out⟩ 1 mk n HN2.out).mono ?_
     rintro e W1_70 ⟨rfl, hps, hfc⟩
     have YFx0 : W1_70.heap[w.heap.size]? = some (.cells #[.int .i64 0, .int .i64 0, .int .i64 0, .slice none 0 0] 24 (0, 0)) := hfc.far _ _ (Ne.symm Nxbp0.out) (Ne.symm Nxbs0.out) Fx0.out
     have YFv4_4 : W1_70.heap[b4]? = some (.cells #[.int .i64 (a.val : Int), .int .i64 (b.val : Int), .int .i64 0, .slice none 0 0] 24 (0, 0)) := hfc.far _ _ (Ne.symm N0_0.out) (Ne.symm N1_1.out) Fv4_4.out
     have YFv59_6 : W1_70.heap[b6]? = some (.cells #[.string (sB (Qu.kwN a.val)), .bool cb, .int .i64 (mk : Int), .int .i64 (nf : Int)] 53 (0, 0)) := hfc.far _ _ (Ne.symm N54_0.out) (Ne.symm N55_1.out) Fv59_6.out
     have YHF : FarH bp bs w W1_70 := FarH.farC HF.out hfc
     have YHG : Gc W1_70 := rng_farC HG.out (by have := HP1.out; omega) (by have := HS1.out; omega) hfc.toFarH
     have hb := farc_bel hV0 B0.out hfc
     have hbr := hb
     clear B0
     have B0 := zh hbr
     clear hbr
     clear hb
     clear Fx0
     have Fx0 : Hid (W1_70.heap[w.heap.size]? = some (.cells #[.int .i64 0, .int .i64 0, .int .i64 0, .slice none 0 0] 24 (0, 0))) := zh YFx0
     clear YFx0
     clear Fv4_4
     have Fv4_4 : Hid (W1_70.heap[b4]? = some (.cells #[.int .i64 (a.val : Int), .int .i64 (b.val : Int), .int .i64 0, .slice none 0 0] 24 (0, 0))) := zh YFv4_4
     clear YFv4_4
     clear Fv59_6
     have Fv59_6 : Hid (W1_70.heap[b6]? = some (.cells #[.string (sB (Qu.kwN a.val)), .bool cb, .int .i64 (mk : Int), .int .i64 (nf : Int)] 53 (0, 0))) := zh YFv59_6
     clear YFv59_6
     clear HF
     have HF : Hid (FarH bp bs w W1_70) := zh YHF
     clear YHF
     clear HG
     have HG : Hid (Gc W1_70) := zh YHG
     clear YHG
     have Gv71 : Hid (V.heap.size ≤ w.heap.size) := zh (by omega)
     have Lt72 : Hid (w.heap.size < W1_70.heap.size) := zh (xp_lt Fx0.out)
     have Gv73 : Hid (V.heap.size ≤ b4) := zh (by omega)
     have Lt74 : Hid (b4 < W1_70.heap.size) := zh (xp_lt Fv4_4.out)
     have Gv75 : Hid (V.heap.size ≤ b6) := zh (by omega)
     have Lt76 : Hid (b6 < W1_70.heap.size) := zh (xp_lt Fv59_6.out)
     clear Hpbs
     have Hpbs : Hid (W1_70.heap[bs]? = some (.cells #[.string (sB s), .int .i64 ((n.st.pos : Nat) : Int)] 66 (0, 0))) := zh (hps.sc)
     clear Hpbp
     have Hpbp : Hid (W1_70.heap[bp]? = some (.cells #[.func (.func 41) #[.pointer (some ⟨bs, 0, none⟩)] #[], .int .i64 (n.st.tok.cls : Int), .string (sB n.st.tok.tx), .int .i64 ((n.st.off : Nat) : Int)] 72 (0, 0))) := zh (hps.pr)
     clear hfc hps 
     refine ⟨_, rfl, ?_⟩
     simp only [Act.put, zA]
     refine zr (.tuple #[.int .i64 (n.val : Int), .int .i64 (n.err : Int)]) W1_70 rfl ?_
     simp only [Act.put, zA]
     refine zr (.int .i64 (n.val : Int)) W1_70 rfl ?_
     simp only [Act.put, zA]
     refine zr (.int .i64 (n.err : Int)) W1_70 rfl ?_
     simp only [Act.put, zA]
     refine zr (.pointer (some ⟨b4, 2, none⟩)) W1_70 (xo_fld0 2 b4 2 (by kernel_rfl) rfl rfl) ?_
     simp only [Act.put, zA]
     refine wpList_store1 b4 2 #[.int .i64 (a.val : Int), .int .i64 (b.val : Int), .int .i64 0, .slice none 0 0] (.int .i64 (n.val : Int)) 24 (by kernel_rfl) Fv4_4.out (xo_store1 b4 2 #[.int .i64 (a.val : Int), .int .i64 (b.val : Int), .int .i64 0, .slice none 0 0] _ (.int .i64 (n.val : Int)) Fv4_4.out rfl (by kernel_rfl) rfl rfl rfl rfl) ?_
     intro X1_77 h1 hfar hbel hsz
     have YHF : FarH bp bs w X1_77 := FarH.store HF.out (.inr (.inr Gw6.out)) hsz hfar
     have YHG : Gc X1_77 := rng_store HG.out Nz7.out hfar
     have YHpbp : X1_77.heap[bp]? = some (.cells #[.func (.func 41) #[.pointer (some ⟨bs, 0, none⟩)] #[], .int .i64 (n.st.tok.cls : Int), .string (sB n.st.tok.tx), .int .i64 ((n.st.off : Nat) : Int)] 72 (0, 0)) := hfar _ _ N0_0.out Hpbp.out
     have YHpbs : X1_77.heap[bs]? = some (.cells #[.string (sB s), .int .i64 ((n.st.pos : Nat) : Int)] 66 (0, 0)) := hfar _ _ N1_1.out Hpbs.out
     have YFx0 : X1_77.heap[w.heap.size]? = some (.cells #[.int .i64 0, .int .i64 0, .int .i64 0, .slice none 0 0] 24 (0, 0)) := hfar _ _ N2_2.out Fx0.out
     have YFv59_6 : X1_77.heap[b6]? = some (.cells #[.string (sB (Qu.kwN a.val)), .bool cb, .int .i64 (mk : Int), .int .i64 (nf : Int)] 53 (0, 0)) := hfar _ _ (Ne.symm N57_3.out) Fv59_6.out
     have hbr := hbel _ _ Gv73.out B0.out
     clear B0
     have B0 := zh hbr
     clear hbr
     clear Hpbp
     have Hpbp : Hid (X1_77.heap[bp]? = some (.cells #[.func (.func 41) #[.pointer (some ⟨bs, 0, none⟩)] #[], .int .i64 (n.st.tok.cls : Int), .string (sB n.st.tok.tx), .int .i64 ((n.st.off : Nat) : Int)] 72 (0, 0))) := zh YHpbp
     clear YHpbp
     clear Hpbs
     have Hpbs : Hid (X1_77.heap[bs]? = some (.cells #[.string (sB s), .int .i64 ((n.st.pos : Nat) : Int)] 66 (0, 0))) := zh YHpbs
     clear YHpbs
     clear Fx0
     have Fx0 : Hid (X1_77.heap[w.heap.size]? = some (.cells #[.int .i64 0, .int .i64 0, .int .i64 0, .slice none 0 0] 24 (0, 0))) := zh YFx0
     clear YFx0
     clear Fv59_6
     have Fv59_6 : Hid (X1_77.heap[b6]? = some (.cells #[.string (sB (Qu.kwN a.val)), .bool cb, .int .i64 (mk : Int), .int .i64 (nf : Int)] 53 (0, 0))) := zh YFv59_6
     clear YFv59_6
     clear HF
     have HF := zh YHF
     clear YHF
     clear HG
     have HG := zh YHG
     clear YHG
     clear Fv4_4
     have Fv4_4 : Hid (X1_77.heap[b4]? = some (.cells #[.int .i64 (a.val : Int), .int .i64 (b.val : Int), .int .i64 (n.val : Int), .slice none 0 0] 24 (0, 0))) := zh (h1)
     have HszX1_77 := zh hsz
     clear h1 hfar hbel hsz
     simp only [ptr, Act.put, zA]
     refine zr (.int .i64 (n.err : Int)) X1_77 rfl ?_
     simp only [Act.put, zA]
     refine wpList_nil ?_
     by_cases hne : n.err = 0
     ·go_upto_region 13 with fail
      refine wp_region_lit ?_
      refine zr (.int .i64 (n.err : Int)) X1_77 rfl ?_
      simp only [Act.put, zA]
      refine zr (.bool false) X1_77 (xo_neqF .i64 ((n.err : Nat) : Int) 0 (by omega) rfl rfl rfl) ?_
      simp only [Act.put, zA]
      refine wpList_nil ?_
      have hm78 := Hpbp.out
      have hm79 := Hpbs.out
      have hm80 := Fx0.out
      have hm81 := Fv4_4.out
      have hm82 := Fv59_6.out
      have hm83 := HF.out
      have hm84 := HG.out
      have hm85 := B0.out
      go_wp2_with fail
      go_meet
      case rel => exact ⟨hne, hm78, hm79, hm80, hm81, hm82, hm83, hm84, hm85⟩
     ·go_upto_region 13 with fail
      refine wp_region_lit ?_
      refine zr (.int .i64 (n.err : Int)) X1_77 rfl ?_
      simp only [Act.put, zA]
      refine zr (.bool true) X1_77 (xo_neqT .i64 ((n.err : Nat) : Int) 0 (by omega) rfl rfl rfl) ?_
      simp only [Act.put, zA]
      refine wpList_nil ?_
      go_upto_region 14 with fail
      refine wp_region_lit ?_
      refine zr (.agg #[.int .i64 0, .int .i64 0, .int .i64 0, .slice none 0 0]) X1_77 (by unfold execOp; go_simp <;> rfl) ?_
      simp only [Act.put, zA]
      refine zr (.int .i64 (n.err : Int)) X1_77 rfl ?_
      simp only [Act.put, zA]
      refine wpList_storeW w.heap.size #[.int .i64 0, .int .i64 0, .int .i64 0, .slice none 0 0] #[.int .i64 0, .int .i64 0, .int .i64 0, .slice none 0 0] 24 (by kernel_rfl) Fx0.out (xo_storeW w.heap.size #[.int .i64 0, .int .i64 0, .int .i64 0, .slice none 0 0] #[.int .i64 0, .int .i64 0, .int .i64 0, .slice none 0 0] Fx0.out (by kernel_rfl) rfl (by simp [Value.oneCell']) rfl rfl rfl) ?_
      intro X1_78 h1 hfar hbel hsz
      have YHF : FarH bp bs w X1_78 := FarH.store HF.out (.inr (.inr Gb0.out)) hsz hfar
      have YHG : Gc X1_78 := rng_store HG.out Nz0.out hfar
      have YHpbp : X1_78.heap[bp]? = some (.cells #[.func (.func 41) #[.pointer (some ⟨bs, 0, none⟩)] #[], .int .i64 (n.st.tok.cls : Int), .string (sB n.st.tok.tx), .int .i64 ((n.st.off : Nat) : Int)] 72 (0, 0)) := hfar _ _ Nxbp0.out Hpbp.out
      have YHpbs : X1_78.heap[bs]? = some (.cells #[.string (sB s), .int .i64 ((n.st.pos : Nat) : Int)] 66 (0, 0)) := hfar _ _ Nxbs0.out Hpbs.out
      have YFv4_4 : X1_78.heap[b4]? = some (.cells #[.int .i64 (a.val : Int), .int .i64 (b.val : Int), .int .i64 (n.val : Int), .slice none 0 0] 24 (0, 0)) := hfar _ _ (Ne.symm N2_2.out) Fv4_4.out
      have YFv59_6 : X1_78.heap[b6]? = some (.cells #[.string (sB (Qu.kwN a.val)), .bool cb, .int .i64 (mk : Int), .int .i64 (nf : Int)] 53 (0, 0)) := hfar _ _ (Ne.symm N56_2.out) Fv59_6.out
      have hbr := hbel _ _ Gv71.out B0.out
      clear B0
      have B0 := zh hbr
      clear hbr
      clear Hpbp
      have Hpbp : Hid (X1_78.heap[bp]? = some (.cells #[.func (.func 41) #[.pointer (some ⟨bs, 0, none⟩)] #[], .int .i64 (n.st.tok.cls : Int), .string (sB n.st.tok.tx), .int .i64 ((n.st.off : Nat) : Int)] 72 (0, 0))) := zh YHpbp
      clear YHpbp
      clear Hpbs
      have Hpbs : Hid (X1_78.heap[bs]? = some (.cells #[.string (sB s), .int .i64 ((n.st.pos : Nat) : Int)] 66 (0, 0))) := zh YHpbs
      clear YHpbs
      clear Fv4_4
      have Fv4_4 : Hid (X1_78.heap[b4]? = some (.cells #[.int .i64 (a.val : Int), .int .i64 (b.val : Int), .int .i64 (n.val : Int), .slice none 0 0] 24 (0, 0))) := zh YFv4_4
      clear YFv4_4
      clear Fv59_6
      have Fv59_6 : Hid (X1_78.heap[b6]? = some (.cells #[.string (sB (Qu.kwN a.val)), .bool cb, .int .i64 (mk : Int), .int .i64 (nf : Int)] 53 (0, 0))) := zh YFv59_6
      clear YFv59_6
      clear HF
      have HF := zh YHF
      clear YHF
      clear HG
      have HG := zh YHG
      clear YHG
      clear Fx0
      have Fx0 : Hid (X1_78.heap[w.heap.size]? = some (.cells #[.int .i64 0, .int .i64 0, .int .i64 0, .slice none 0 0] 24 (0, 0))) := zh (h1)
      have HszX1_78 := zh hsz
      clear h1 hfar hbel hsz
      simp only [ptr, Act.put, zA]
      refine zr (.int .i64 (n.err : Int)) X1_78 rfl ?_
      simp only [Act.put, zA]
      refine wpList_nil ?_
      have hx : ⟨Qu.zeroQ, n.err, n.st⟩ = r := Eq.trans (Eq.symm (by simp only [Qu.queryN, HA.out, if_pos HE0.out, HCB.out, HB.out, if_pos hbe, HMK.out, if_pos hmk, HN2.out, if_neg hne])) HR.out
      have hsf : PSm X1_78 bp bs s _ := ⟨Hpbs.out, Hpbp.out, HNE.out, HP1.out, HS1.out⟩
      have hff := farc_mk HF.out HVW.out B0.out
      subst hx
      go_wp2_with fail
      refine bodyPost_ret (v := .tuple #[.agg #[.int .i64 0, .int .i64 0, .int .i64 0, .slice none 0 0], .int .i64 (n.err : Int)]) ?_ rfl ⟨_, _, _, rfl, fun h0 => absurd h0 hne, hsf, hff⟩
      exact results_row_tmp rfl _ _ w.heap.size 24 _ (0, 0) _ _ rfl rfl Fx0.out Tryd.underlying24 rfl (by kernel_rfl)
    ·have hd : decide (0 < mk) = false := decide_eq_false hmk
     have e0 : ⟨0, 0, b.st⟩ = n := by rw [← HN.out, if_neg hmk]
     subst e0
     have hm70 := Hpbp.out
     have hm71 := Hpbs.out
     have hm72 := Fx0.out
     have hm73 := Fv4_4.out
     have hm74 := Fv59_6.out
     have hm75 := HF.out
     have hm76 := HG.out
     have hm77 := B0.out
     go_wp2_with fail
     go_meet
     case rel => exact ⟨(by first | trivial | rfl), hm70, hm71, hm72, hm73, hm74, hm75, hm76, hm77⟩
   case rest =>
    obtain ⟨wc70, rfl⟩ : ∃ W, W = wc := ⟨_, rfl⟩
    obtain ⟨hne, hr0, hr1, hr2, hr3, hr4, hf0, hf1, hb0⟩ := hcut
    clear B0 HF HG Hpbp Hpbs Fx0 Fv4_4 Fv59_6
    have B0 := zh hb0
    have HF := zh hf0
    have HG := zh hf1
    have Hpbp := zh hr0
    have Hpbs := zh hr1
    have Fx0 := zh hr2
    have Fv4_4 := zh hr3
    have Fv59_6 := zh hr4
    clear hb0 hr0 hr1 hr2 hr3 hr4 hf0 hf1
    have Gv71 : Hid (V.heap.size ≤ w.heap.size) := zh (by omega)
    have Lt72 : Hid (w.heap.size < wc70.heap.size) := zh (xp_lt Fx0.out)
    have Gv73 : Hid (V.heap.size ≤ b4) := zh (by omega)
    have Lt74 : Hid (b4 < wc70.heap.size) := zh (xp_lt Fv4_4.out)
    have Gv75 : Hid (V.heap.size ≤ b6) := zh (by omega)
    have Lt76 : Hid (b6 < wc70.heap.size) := zh (xp_lt Fv59_6.out)
    obtain ⟨d, hd⟩ : ∃ d, Qu.filtersN s nf [] n.st = d := ⟨_, rfl⟩
    have HD := zh hd
    clear hd
    have HOD : Hid (Qu.Ok s d.st) := zh (by rw [← HD.out]; exact Qu.filtersN_ok _ _ HON.out)
    go_upto_region 15 with fail
    refine wp_region_lit ?_
    refine zr (.pointer (some ⟨bp, 0, none⟩)) wc70 rfl ?_
    simp only [Act.put, zA]
    refine zr (.pointer (some ⟨b6, 3, none⟩)) wc70 (xo_fld0 3 b6 3 (by kernel_rfl) rfl rfl) ?_
    simp only [Act.put, zA]
    refine zr (.int .i64 (nf : Int)) wc70 (xo_load1 ⟨b6, 3, none⟩ _ (cells_at Fv59_6.out 3 rfl) Tryd.underlying3 rfl rfl rfl) ?_
    simp only [Act.put, zA]
    have hsz0 := zh HF.out.size
    refine wpList_call (by kernel_rfl) 60 Tryd.func60 (by kernel_rfl) (by kernel_rfl) _ _ #[.pointer (some ⟨bp, 0, none⟩), .int .i64 (nf : Int)] rfl (by kernel_rfl) ?_
    refine (filters_as s HS4.out bp bs n.st HON.out wc70 ⟨Hpbs.out, Hpbp.out, HNE.out, HP1.out, HS1.out⟩ HG.out nf HNF2.out d HD.out).mono ?_
    rintro e W1_77 ⟨Av, nv, cv, rfl, how, hps, hfc⟩
    have YFx0 : W1_77.heap[w.heap.size]? = some (.cells #[.int .i64 0, .int .i64 0, .int .i64 0, .slice none 0 0] 24 (0, 0)) := hfc.far _ _ (Ne.symm Nxbp0.out) (Ne.symm Nxbs0.out) Fx0.out
    have YFv4_4 : W1_77.heap[b4]? = some (.cells #[.int .i64 (a.val : Int), .int .i64 (b.val : Int), .int .i64 (n.val : Int), .slice none 0 0] 24 (0, 0)) := hfc.far _ _ (Ne.symm N0_0.out) (Ne.symm N1_1.out) Fv4_4.out
    have YFv59_6 : W1_77.heap[b6]? = some (.cells #[.string (sB (Qu.kwN a.val)), .bool cb, .int .i64 (mk : Int), .int .i64 (nf : Int)] 53 (0, 0)) := hfc.far _ _ (Ne.symm N54_0.out) (Ne.symm N55_1.out) Fv59_6.out
    have YHF : FarH bp bs w W1_77 := FarH.farC HF.out hfc
    have YHG : Gc W1_77 := rng_farC HG.out (by have := HP1.out; omega) (by have := HS1.out; omega) hfc.toFarH
    have hb := farc_bel hV0 B0.out hfc
    have hbr := hb
    clear B0
    have B0 := zh hbr
    clear hbr
    clear hb
    clear Fx0
    have Fx0 : Hid (W1_77.heap[w.heap.size]? = some (.cells #[.int .i64 0, .int .i64 0, .int .i64 0, .slice none 0 0] 24 (0, 0))) := zh YFx0
    clear YFx0
    clear Fv4_4
    have Fv4_4 : Hid (W1_77.heap[b4]? = some (.cells #[.int .i64 (a.val : Int), .int .i64 (b.val : Int), .int .i64 (n.val : Int), .slice none 0 0] 24 (0, 0))) := zh YFv4_4
    clear YFv4_4
    clear Fv59_6
    have Fv59_6 : Hid (W1_77.heap[b6]? = some (.cells #[.string (sB (Qu.kwN a.val)), .bool cb, .int .i64 (mk : Int), .int .i64 (nf : Int)] 53 (0, 0))) := zh YFv59_6
    clear YFv59_6
    clear HF
    have HF : Hid (FarH bp bs w W1_77) := zh YHF
    clear YHF
    clear HG
    have HG : Hid (Gc W1_77) := zh YHG
    clear YHG
    have Gv78 : Hid (V.heap.size ≤ w.heap.size) := zh (by omega)
    have Lt79 : Hid (w.heap.size < W1_77.heap.size) := zh (xp_lt Fx0.out)
    have Gv80 : Hid (V.heap.size ≤ b4) := zh (by omega)
    have Lt81 : Hid (b4 < W1_77.heap.size) := zh (xp_lt Fv4_4.out)
    have Gv82 : Hid (V.heap.size ≤ b6) := zh (by omega)
    have Lt83 : Hid (b6 < W1_77.heap.size) := zh (xp_lt Fv59_6.out)
    have hfs := FsIf.mono (n := d.err) how hsz0.out
    clear how
    try clear HFs
    have HFs := zh hfs
    clear Hpbs
    have Hpbs : Hid (W1_77.heap[bs]? = some (.cells #[.string (sB s), .int .i64 ((d.st.pos : Nat) : Int)] 66 (0, 0))) := zh (hps.sc)
    clear Hpbp
    have Hpbp : Hid (W1_77.heap[bp]? = some (.cells #[.func (.func 41) #[.pointer (some ⟨bs, 0, none⟩)] #[], .int .i64 (d.st.tok.cls : Int), .string (sB d.st.tok.tx), .int .i64 ((d.st.off : Nat) : Int)] 72 (0, 0))) := zh (hps.pr)
    clear hfc hps hfs
    refine ⟨_, rfl, ?_⟩
    simp only [Act.put, zA]
    refine zr (.tuple #[.slice Av nv cv, .int .i64 (d.err : Int)]) W1_77 rfl ?_
    simp only [Act.put, zA]
    refine zr (.slice Av nv cv) W1_77 rfl ?_
    simp only [Act.put, zA]
    refine zr (.int .i64 (d.err : Int)) W1_77 rfl ?_
    simp only [Act.put, zA]
    refine zr (.pointer (some ⟨b4, 3, none⟩)) W1_77 (xo_fld0 3 b4 3 (by kernel_rfl) rfl rfl) ?_
    simp only [Act.put, zA]
    refine wpList_store1 b4 3 #[.int .i64 (a.val : Int), .int .i64 (b.val : Int), .int .i64 (n.val : Int), .slice none 0 0] (.slice Av nv cv) 24 (by kernel_rfl) Fv4_4.out (xo_store1 b4 3 #[.int .i64 (a.val : Int), .int .i64 (b.val : Int), .int .i64 (n.val : Int), .slice none 0 0] _ (.slice Av nv cv) Fv4_4.out rfl (by kernel_rfl) rfl rfl rfl rfl) ?_
    intro X1_84 h1 hfar hbel hsz
    have YHF : FarH bp bs w X1_84 := FarH.store HF.out (.inr (.inr Gw6.out)) hsz hfar
    have YHG : Gc X1_84 := rng_store HG.out Nz7.out hfar
    have YHFs : FsIf d.err X1_84 w.heap.size (.slice Av nv cv) d.val := FsIf.store HFs.out Fv4_4.out (by decide) (by decide) hfar
    have YHpbp : X1_84.heap[bp]? = some (.cells #[.func (.func 41) #[.pointer (some ⟨bs, 0, none⟩)] #[], .int .i64 (d.st.tok.cls : Int), .string (sB d.st.tok.tx), .int .i64 ((d.st.off : Nat) : Int)] 72 (0, 0)) := hfar _ _ N0_0.out Hpbp.out
    have YHpbs : X1_84.heap[bs]? = some (.cells #[.string (sB s), .int .i64 ((d.st.pos : Nat) : Int)] 66 (0, 0)) := hfar _ _ N1_1.out Hpbs.out
    have YFx0 : X1_84.heap[w.heap.size]? = some (.cells #[.int .i64 0, .int .i64 0, .int .i64 0, .slice none 0 0] 24 (0, 0)) := hfar _ _ N2_2.out Fx0.out
    have YFv59_6 : X1_84.heap[b6]? = some (.cells #[.string (sB (Qu.kwN a.val)), .bool cb, .int .i64 (mk : Int), .int .i64 (nf : Int)] 53 (0, 0)) := hfar _ _ (Ne.symm N57_3.out) Fv59_6.out
    have hbr := hbel _ _ Gv80.out B0.out
    clear B0
    have B0 := zh hbr
    clear hbr
    clear Hpbp
    have Hpbp : Hid (X1_84.heap[bp]? = some (.cells #[.func (.func 41) #[.pointer (some ⟨bs, 0, none⟩)] #[], .int .i64 (d.st.tok.cls : Int), .string (sB d.st.tok.tx), .int .i64 ((d.st.off : Nat) : Int)] 72 (0, 0))) := zh YHpbp
    clear YHpbp
    clear Hpbs
    have Hpbs : Hid (X1_84.heap[bs]? = some (.cells #[.string (sB s), .int .i64 ((d.st.pos : Nat) : Int)] 66 (0, 0))) := zh YHpbs
    clear YHpbs
    clear Fx0
    have Fx0 : Hid (X1_84.heap[w.heap.size]? = some (.cells #[.int .i64 0, .int .i64 0, .int .i64 0, .slice none 0 0] 24 (0, 0))) := zh YFx0
    clear YFx0
    clear Fv59_6
    have Fv59_6 : Hid (X1_84.heap[b6]? = some (.cells #[.string (sB (Qu.kwN a.val)), .bool cb, .int .i64 (mk : Int), .int .i64 (nf : Int)] 53 (0, 0))) := zh YFv59_6
    clear YFv59_6
    clear HF
    have HF := zh YHF
    clear YHF
    clear HG
    have HG := zh YHG
    clear YHG
    clear HFs
    have HFs := zh YHFs
    clear YHFs
    clear Fv4_4
    have Fv4_4 : Hid (X1_84.heap[b4]? = some (.cells #[.int .i64 (a.val : Int), .int .i64 (b.val : Int), .int .i64 (n.val : Int), .slice Av nv cv] 24 (0, 0))) := zh (h1)
    have HszX1_84 := zh hsz
    clear h1 hfar hbel hsz
    simp only [ptr, Act.put, zA]
    refine zr (.int .i64 (d.err : Int)) X1_84 rfl ?_
    simp only [Act.put, zA]
    refine wpList_nil ?_
    by_cases hde : d.err = 0
    ·go_upto_region 16 with fail
     refine wp_region_lit ?_
     refine zr (.int .i64 (d.err : Int)) X1_84 rfl ?_
     simp only [Act.put, zA]
     refine zr (.bool false) X1_84 (xo_neqF .i64 ((d.err : Nat) : Int) 0 (by omega) rfl rfl rfl) ?_
     simp only [Act.put, zA]
     refine wpList_nil ?_
     by_cases ht : d.st.tok = ⟨0, []⟩
     ·go_upto_region 18 with fail
      try simp only [List.append_eq, List.cons_append, List.nil_append]
      refine wp_ordT (fun W => W.heap[b4]? = some (.cells #[.int .i64 (a.val : Int), .int .i64 (b.val : Int), .int .i64 (n.val : Int), .slice Av nv cv] 24 (0, 0))) (.q 0 (.q 1 (.q 2 (.one 3 (.one 4 (.q 5 .nil)))))) (by kernel_rfl) (by kernel_rfl) (fun _ _ dt _ _ h => by first | exact h.elim | (cases dt <;> exact h)) (by kernel_rfl) (by kernel_rfl) Fv4_4.out ?_
      have hb : Below X1_84.heap.size X1_84 X1_84.drew := (Below.refl _ _).drew
      generalize X1_84.drew = V2 at hb ⊢
      have B1 := zh hb
      clear hb
      refine wpOT_q (.agg #[.int .i64 (a.val : Int), .int .i64 (b.val : Int), .int .i64 (n.val : Int), .slice Av nv cv]) rfl (by kernel_rfl) (fun v hW => (xo_loadW b4 _ hW Tryd.underlying24 rfl (by kernel_rfl) rfl rfl)) ?_
      simp only [ptr, Act.put, zA]
      refine wpOT_q (.pointer (some ⟨bp, 0, none⟩)) rfl (by kernel_rfl) (fun v hW => rfl) ?_
      simp only [ptr, Act.put, zA]
      refine wpOT_q (.agg #[.int .i64 0, .string ByteArray.empty]) rfl (by kernel_rfl) (fun v hW => (by unfold execOp; go_simp <;> rfl)) ?_
      simp only [ptr, Act.put, zA]
      refine wpOT_one rfl (by kernel_rfl) ?_
      refine hOp_call 61 Tryd.func61 (by kernel_rfl) (by kernel_rfl) _ _ #[.pointer (some ⟨bp, 0, none⟩), .agg #[.int .i64 0, .string ByteArray.empty]] rfl (by kernel_rfl) ?_
      refine (exp_yes s HS4.out bp bs d.st HOD.out V2 ⟨(heap_keep Hpbs.out B1.out), (heap_keep Hpbp.out B1.out), HNE.out, HP1.out, HS1.out⟩ ⟨0, []⟩ ht).mono ?_
      rintro e W2_85 ⟨rfl, hps, hfc⟩
      have YFx0 : W2_85.heap[w.heap.size]? = some (.cells #[.int .i64 0, .int .i64 0, .int .i64 0, .slice none 0 0] 24 (0, 0)) := hfc.far _ _ (Ne.symm Nxbp0.out) (Ne.symm Nxbs0.out) (heap_keep Fx0.out B1.out)
      have YFv4_4 : W2_85.heap[b4]? = some (.cells #[.int .i64 (a.val : Int), .int .i64 (b.val : Int), .int .i64 (n.val : Int), .slice Av nv cv] 24 (0, 0)) := hfc.far _ _ (Ne.symm N0_0.out) (Ne.symm N1_1.out) (heap_keep Fv4_4.out B1.out)
      have YFv59_6 : W2_85.heap[b6]? = some (.cells #[.string (sB (Qu.kwN a.val)), .bool cb, .int .i64 (mk : Int), .int .i64 (nf : Int)] 53 (0, 0)) := hfc.far _ _ (Ne.symm N54_0.out) (Ne.symm N55_1.out) (heap_keep Fv59_6.out B1.out)
      have YHF : FarH bp bs w W2_85 := FarH.farC (HF.out.keep B1.out) hfc
      have YHG : Gc W2_85 := rng_farC (HG.out.keep B1.out) (by have := HP1.out; omega) (by have := HS1.out; omega) hfc.toFarH
      have YHFs : FsIf d.err W2_85 w.heap.size (.slice Av nv cv) d.val := FsIf.farC (HFs.out.keep B1.out) Lpbp.out Lpbs.out hfc.toFarH
      have C0_2 := zb B0 B1
      have hb := farc_bel hV0 C0_2.out hfc
      have hbr := hb
      clear B0
      have B0 := zh hbr
      clear hbr
      clear hb
      clear Fx0
      have Fx0 : Hid (W2_85.heap[w.heap.size]? = some (.cells #[.int .i64 0, .int .i64 0, .int .i64 0, .slice none 0 0] 24 (0, 0))) := zh YFx0
      clear YFx0
      clear Fv4_4
      have Fv4_4 : Hid (W2_85.heap[b4]? = some (.cells #[.int .i64 (a.val : Int), .int .i64 (b.val : Int), .int .i64 (n.val : Int), .slice Av nv cv] 24 (0, 0))) := zh YFv4_4
      clear YFv4_4
      clear Fv59_6
      have Fv59_6 : Hid (W2_85.heap[b6]? = some (.cells #[.string (sB (Qu.kwN a.val)), .bool cb, .int .i64 (mk : Int), .int .i64 (nf : Int)] 53 (0, 0))) := zh YFv59_6
      clear YFv59_6
      clear HF
      have HF : Hid (FarH bp bs w W2_85) := zh YHF
      clear YHF
      clear HG
      have HG : Hid (Gc W2_85) := zh YHG
      clear YHG
      clear HFs
      have HFs : Hid (FsIf d.err W2_85 w.heap.size (.slice Av nv cv) d.val) := zh YHFs
      clear YHFs
      have Gv86 : Hid (V.heap.size ≤ w.heap.size) := zh (by omega)
      have Lt87 : Hid (w.heap.size < W2_85.heap.size) := zh (xp_lt Fx0.out)
      have Gv88 : Hid (V.heap.size ≤ b4) := zh (by omega)
      have Lt89 : Hid (b4 < W2_85.heap.size) := zh (xp_lt Fv4_4.out)
      have Gv90 : Hid (V.heap.size ≤ b6) := zh (by omega)
      have Lt91 : Hid (b6 < W2_85.heap.size) := zh (xp_lt Fv59_6.out)
      clear Hpbs
      have Hpbs : Hid (W2_85.heap[bs]? = some (.cells #[.string (sB s), .int .i64 (((Qu.adv s d.st).pos : Nat) : Int)] 66 (0, 0))) := zh (hps.sc)
      clear Hpbp
      have Hpbp : Hid (W2_85.heap[bp]? = some (.cells #[.func (.func 41) #[.pointer (some ⟨bs, 0, none⟩)] #[], .int .i64 ((Qu.adv s d.st).tok.cls : Int), .string (sB ((Qu.adv s d.st).tok.tx)), .int .i64 (((Qu.adv s d.st).off : Nat) : Int)] 72 (0, 0))) := zh (hps.pr)
      clear hfc hps 
      refine ⟨_, rfl, Fv4_4.out, ?_⟩
      simp only [ptr, Act.put, zA]
      refine wpOT_one rfl (by kernel_rfl) ?_
      refine hOp_storeW w.heap.size #[.int .i64 0, .int .i64 0, .int .i64 0, .slice none 0 0] #[.int .i64 (a.val : Int), .int .i64 (b.val : Int), .int .i64 (n.val : Int), .slice Av nv cv] 24 Fx0.out (xo_storeW w.heap.size #[.int .i64 0, .int .i64 0, .int .i64 0, .slice none 0 0] #[.int .i64 (a.val : Int), .int .i64 (b.val : Int), .int .i64 (n.val : Int), .slice Av nv cv] Fx0.out (by kernel_rfl) rfl (by simp [Value.oneCell']) rfl rfl rfl) ?_
      intro X1_92 h1 hfar hbel hsz
      have YHF : FarH bp bs w X1_92 := FarH.store HF.out (.inr (.inr Gb0.out)) hsz hfar
      have YHG : Gc X1_92 := rng_store HG.out Nz0.out hfar
      have YHFs : FsIf d.err X1_92 w.heap.size (.slice Av nv cv) d.val := FsIf.store HFs.out Fx0.out (by decide) (by decide) hfar
      have YHpbp : X1_92.heap[bp]? = some (.cells #[.func (.func 41) #[.pointer (some ⟨bs, 0, none⟩)] #[], .int .i64 ((Qu.adv s d.st).tok.cls : Int), .string (sB ((Qu.adv s d.st).tok.tx)), .int .i64 (((Qu.adv s d.st).off : Nat) : Int)] 72 (0, 0)) := hfar _ _ Nxbp0.out Hpbp.out
      have YHpbs : X1_92.heap[bs]? = some (.cells #[.string (sB s), .int .i64 (((Qu.adv s d.st).pos : Nat) : Int)] 66 (0, 0)) := hfar _ _ Nxbs0.out Hpbs.out
      have YFv4_4 : X1_92.heap[b4]? = some (.cells #[.int .i64 (a.val : Int), .int .i64 (b.val : Int), .int .i64 (n.val : Int), .slice Av nv cv] 24 (0, 0)) := hfar _ _ (Ne.symm N2_2.out) Fv4_4.out
      have YFv59_6 : X1_92.heap[b6]? = some (.cells #[.string (sB (Qu.kwN a.val)), .bool cb, .int .i64 (mk : Int), .int .i64 (nf : Int)] 53 (0, 0)) := hfar _ _ (Ne.symm N56_2.out) Fv59_6.out
      have hbr := hbel _ _ Gv86.out B0.out
      clear B0
      have B0 := zh hbr
      clear hbr
      clear Hpbp
      have Hpbp : Hid (X1_92.heap[bp]? = some (.cells #[.func (.func 41) #[.pointer (some ⟨bs, 0, none⟩)] #[], .int .i64 ((Qu.adv s d.st).tok.cls : Int), .string (sB ((Qu.adv s d.st).tok.tx)), .int .i64 (((Qu.adv s d.st).off : Nat) : Int)] 72 (0, 0))) := zh YHpbp
      clear YHpbp
      clear Hpbs
      have Hpbs : Hid (X1_92.heap[bs]? = some (.cells #[.string (sB s), .int .i64 (((Qu.adv s d.st).pos : Nat) : Int)] 66 (0, 0))) := zh YHpbs
      clear YHpbs
      clear Fv4_4
      have Fv4_4 : Hid (X1_92.heap[b4]? = some (.cells #[.int .i64 (a.val : Int), .int .i64 (b.val : Int), .int .i64 (n.val : Int), .slice Av nv cv] 24 (0, 0))) := zh YFv4_4
      clear YFv4_4
      clear Fv59_6
      have Fv59_6 : Hid (X1_92.heap[b6]? = some (.cells #[.string (sB (Qu.kwN a.val)), .bool cb, .int .i64 (mk : Int), .int .i64 (nf : Int)] 53 (0, 0))) := zh YFv59_6
      clear YFv59_6
      clear HF
      have HF := zh YHF
      clear YHF
      clear HG
      have HG := zh YHG
      clear YHG
      clear HFs
      have HFs := zh YHFs
      clear YHFs
      clear Fx0
      have Fx0 : Hid (X1_92.heap[w.heap.size]? = some (.cells #[.int .i64 (a.val : Int), .int .i64 (b.val : Int), .int .i64 (n.val : Int), .slice Av nv cv] 24 (0, 0))) := zh (h1)
      have HszX1_92 := zh hsz
      clear h1 hfar hbel hsz
      simp only [ptr, Act.put, zA]
      refine ⟨Fv4_4.out, ?_⟩
      try simp only [ptr, Act.put, zA]
      refine wpOT_q (.int .i64 0) rfl (by kernel_rfl) (fun v hW => rfl) ?_
      simp only [ptr, Act.put, zA]
      refine wpOT_nil ?_
      have hx : ⟨⟨a.val, b.val, n.val, d.val⟩, 0, Qu.adv s d.st⟩ = r := Eq.trans (Eq.symm (by simp only [Qu.queryN, HA.out, if_pos HE0.out, HCB.out, HB.out, if_pos hbe, HMK.out, HN.out, if_pos hne, HNF.out, HD.out, if_pos hde, Qu.expN, Qu.accS, if_pos ht])) HR.out
      have hsf : PSm X1_92 bp bs s _ := ⟨Hpbs.out, Hpbp.out, HNE.out, HP1.out, HS1.out⟩
      have hff := farc_mk HF.out HVW.out B0.out
      have hfo := HFs.out
      subst hx
      go_wp2_with fail
      refine bodyPost_ret (v := .tuple #[.agg #[.int .i64 (a.val : Int), .int .i64 (b.val : Int), .int .i64 (n.val : Int), .slice Av nv cv], .int .i64 0]) ?_ rfl ⟨_, _, _, rfl, fun _ => hfo hde, hsf, hff⟩
      exact results_row_tmp rfl _ _ w.heap.size 24 _ (0, 0) _ _ rfl rfl Fx0.out Tryd.underlying24 rfl (by kernel_rfl)
     ·have hrn := Qu.refN_ne d.st
      go_upto_region 18 with fail
      try simp only [List.append_eq, List.cons_append, List.nil_append]
      refine wp_ordT (fun W => W.heap[b4]? = some (.cells #[.int .i64 (a.val : Int), .int .i64 (b.val : Int), .int .i64 (n.val : Int), .slice Av nv cv] 24 (0, 0))) (.q 0 (.q 1 (.q 2 (.one 3 (.one 4 (.q 5 .nil)))))) (by kernel_rfl) (by kernel_rfl) (fun _ _ dt _ _ h => by first | exact h.elim | (cases dt <;> exact h)) (by kernel_rfl) (by kernel_rfl) Fv4_4.out ?_
      have hb : Below X1_84.heap.size X1_84 X1_84.drew := (Below.refl _ _).drew
      generalize X1_84.drew = V2 at hb ⊢
      have B1 := zh hb
      clear hb
      refine wpOT_q (.agg #[.int .i64 (a.val : Int), .int .i64 (b.val : Int), .int .i64 (n.val : Int), .slice Av nv cv]) rfl (by kernel_rfl) (fun v hW => (xo_loadW b4 _ hW Tryd.underlying24 rfl (by kernel_rfl) rfl rfl)) ?_
      simp only [ptr, Act.put, zA]
      refine wpOT_q (.pointer (some ⟨bp, 0, none⟩)) rfl (by kernel_rfl) (fun v hW => rfl) ?_
      simp only [ptr, Act.put, zA]
      refine wpOT_q (.agg #[.int .i64 0, .string ByteArray.empty]) rfl (by kernel_rfl) (fun v hW => (by unfold execOp; go_simp <;> rfl)) ?_
      simp only [ptr, Act.put, zA]
      refine wpOT_one rfl (by kernel_rfl) ?_
      refine hOp_call 61 Tryd.func61 (by kernel_rfl) (by kernel_rfl) _ _ #[.pointer (some ⟨bp, 0, none⟩), .agg #[.int .i64 0, .string ByteArray.empty]] rfl (by kernel_rfl) ?_
      refine (exp_no s HS4.out bp bs d.st HOD.out V2 ⟨(heap_keep Hpbs.out B1.out), (heap_keep Hpbp.out B1.out), HNE.out, HP1.out, HS1.out⟩ ⟨0, []⟩ ht).mono ?_
      rintro e W2_85 ⟨rfl, hps, hfc⟩
      have YFx0 : W2_85.heap[w.heap.size]? = some (.cells #[.int .i64 0, .int .i64 0, .int .i64 0, .slice none 0 0] 24 (0, 0)) := hfc.far _ _ (Ne.symm Nxbp0.out) (Ne.symm Nxbs0.out) (heap_keep Fx0.out B1.out)
      have YFv4_4 : W2_85.heap[b4]? = some (.cells #[.int .i64 (a.val : Int), .int .i64 (b.val : Int), .int .i64 (n.val : Int), .slice Av nv cv] 24 (0, 0)) := hfc.far _ _ (Ne.symm N0_0.out) (Ne.symm N1_1.out) (heap_keep Fv4_4.out B1.out)
      have YFv59_6 : W2_85.heap[b6]? = some (.cells #[.string (sB (Qu.kwN a.val)), .bool cb, .int .i64 (mk : Int), .int .i64 (nf : Int)] 53 (0, 0)) := hfc.far _ _ (Ne.symm N54_0.out) (Ne.symm N55_1.out) (heap_keep Fv59_6.out B1.out)
      have YHF : FarH bp bs w W2_85 := FarH.farC (HF.out.keep B1.out) hfc
      have YHG : Gc W2_85 := rng_farC (HG.out.keep B1.out) (by have := HP1.out; omega) (by have := HS1.out; omega) hfc.toFarH
      have YHFs : FsIf d.err W2_85 w.heap.size (.slice Av nv cv) d.val := FsIf.farC (HFs.out.keep B1.out) Lpbp.out Lpbs.out hfc.toFarH
      have C0_2 := zb B0 B1
      have hb := farc_bel hV0 C0_2.out hfc
      have hbr := hb
      clear B0
      have B0 := zh hbr
      clear hbr
      clear hb
      clear Fx0
      have Fx0 : Hid (W2_85.heap[w.heap.size]? = some (.cells #[.int .i64 0, .int .i64 0, .int .i64 0, .slice none 0 0] 24 (0, 0))) := zh YFx0
      clear YFx0
      clear Fv4_4
      have Fv4_4 : Hid (W2_85.heap[b4]? = some (.cells #[.int .i64 (a.val : Int), .int .i64 (b.val : Int), .int .i64 (n.val : Int), .slice Av nv cv] 24 (0, 0))) := zh YFv4_4
      clear YFv4_4
      clear Fv59_6
      have Fv59_6 : Hid (W2_85.heap[b6]? = some (.cells #[.string (sB (Qu.kwN a.val)), .bool cb, .int .i64 (mk : Int), .int .i64 (nf : Int)] 53 (0, 0))) := zh YFv59_6
      clear YFv59_6
      clear HF
      have HF : Hid (FarH bp bs w W2_85) := zh YHF
      clear YHF
      clear HG
      have HG : Hid (Gc W2_85) := zh YHG
      clear YHG
      clear HFs
      have HFs : Hid (FsIf d.err W2_85 w.heap.size (.slice Av nv cv) d.val) := zh YHFs
      clear YHFs
      have Gv86 : Hid (V.heap.size ≤ w.heap.size) := zh (by omega)
      have Lt87 : Hid (w.heap.size < W2_85.heap.size) := zh (xp_lt Fx0.out)
      have Gv88 : Hid (V.heap.size ≤ b4) := zh (by omega)
      have Lt89 : Hid (b4 < W2_85.heap.size) := zh (xp_lt Fv4_4.out)
      have Gv90 : Hid (V.heap.size ≤ b6) := zh (by omega)
      have Lt91 : Hid (b6 < W2_85.heap.size) := zh (xp_lt Fv59_6.out)
      clear Hpbs
      have Hpbs : Hid (W2_85.heap[bs]? = some (.cells #[.string (sB s), .int .i64 ((d.st.pos : Nat) : Int)] 66 (0, 0))) := zh (hps.sc)
      clear Hpbp
      have Hpbp : Hid (W2_85.heap[bp]? = some (.cells #[.func (.func 41) #[.pointer (some ⟨bs, 0, none⟩)] #[], .int .i64 (d.st.tok.cls : Int), .string (sB d.st.tok.tx), .int .i64 ((d.st.off : Nat) : Int)] 72 (0, 0))) := zh (hps.pr)
      clear hfc hps 
      refine ⟨_, rfl, Fv4_4.out, ?_⟩
      simp only [ptr, Act.put, zA]
      refine wpOT_one rfl (by kernel_rfl) ?_
      refine hOp_storeW w.heap.size #[.int .i64 0, .int .i64 0, .int .i64 0, .slice none 0 0] #[.int .i64 (a.val : Int), .int .i64 (b.val : Int), .int .i64 (n.val : Int), .slice Av nv cv] 24 Fx0.out (xo_storeW w.heap.size #[.int .i64 0, .int .i64 0, .int .i64 0, .slice none 0 0] #[.int .i64 (a.val : Int), .int .i64 (b.val : Int), .int .i64 (n.val : Int), .slice Av nv cv] Fx0.out (by kernel_rfl) rfl (by simp [Value.oneCell']) rfl rfl rfl) ?_
      intro X1_92 h1 hfar hbel hsz
      have YHF : FarH bp bs w X1_92 := FarH.store HF.out (.inr (.inr Gb0.out)) hsz hfar
      have YHG : Gc X1_92 := rng_store HG.out Nz0.out hfar
      have YHFs : FsIf d.err X1_92 w.heap.size (.slice Av nv cv) d.val := FsIf.store HFs.out Fx0.out (by decide) (by decide) hfar
      have YHpbp : X1_92.heap[bp]? = some (.cells #[.func (.func 41) #[.pointer (some ⟨bs, 0, none⟩)] #[], .int .i64 (d.st.tok.cls : Int), .string (sB d.st.tok.tx), .int .i64 ((d.st.off : Nat) : Int)] 72 (0, 0)) := hfar _ _ Nxbp0.out Hpbp.out
      have YHpbs : X1_92.heap[bs]? = some (.cells #[.string (sB s), .int .i64 ((d.st.pos : Nat) : Int)] 66 (0, 0)) := hfar _ _ Nxbs0.out Hpbs.out
      have YFv4_4 : X1_92.heap[b4]? = some (.cells #[.int .i64 (a.val : Int), .int .i64 (b.val : Int), .int .i64 (n.val : Int), .slice Av nv cv] 24 (0, 0)) := hfar _ _ (Ne.symm N2_2.out) Fv4_4.out
      have YFv59_6 : X1_92.heap[b6]? = some (.cells #[.string (sB (Qu.kwN a.val)), .bool cb, .int .i64 (mk : Int), .int .i64 (nf : Int)] 53 (0, 0)) := hfar _ _ (Ne.symm N56_2.out) Fv59_6.out
      have hbr := hbel _ _ Gv86.out B0.out
      clear B0
      have B0 := zh hbr
      clear hbr
      clear Hpbp
      have Hpbp : Hid (X1_92.heap[bp]? = some (.cells #[.func (.func 41) #[.pointer (some ⟨bs, 0, none⟩)] #[], .int .i64 (d.st.tok.cls : Int), .string (sB d.st.tok.tx), .int .i64 ((d.st.off : Nat) : Int)] 72 (0, 0))) := zh YHpbp
      clear YHpbp
      clear Hpbs
      have Hpbs : Hid (X1_92.heap[bs]? = some (.cells #[.string (sB s), .int .i64 ((d.st.pos : Nat) : Int)] 66 (0, 0))) := zh YHpbs
      clear YHpbs
      clear Fv4_4
      have Fv4_4 : Hid (X1_92.heap[b4]? = some (.cells #[.int .i64 (a.val : Int), .int .i64 (b.val : Int), .int .i64 (n.val : Int), .slice Av nv cv] 24 (0, 0))) := zh YFv4_4
      clear YFv4_4
      clear Fv59_6
      have Fv59_6 : Hid (X1_92.heap[b6]? = some (.cells #[.string (sB (Qu.kwN a.val)), .bool cb, .int .i64 (mk : Int), .int .i64 (nf : Int)] 53 (0, 0))) := zh YFv59_6
      clear YFv59_6
      clear HF
      have HF := zh YHF
      clear YHF
      clear HG
      have HG := zh YHG
      clear YHG
      clear HFs
      have HFs := zh YHFs
      clear YHFs
      clear Fx0
      have Fx0 : Hid (X1_92.heap[w.heap.size]? = some (.cells #[.int .i64 (a.val : Int), .int .i64 (b.val : Int), .int .i64 (n.val : Int), .slice Av nv cv] 24 (0, 0))) := zh (h1)
      have HszX1_92 := zh hsz
      clear h1 hfar hbel hsz
      simp only [ptr, Act.put, zA]
      refine ⟨Fv4_4.out, ?_⟩
      try simp only [ptr, Act.put, zA]
      refine wpOT_q (.int .i64 (Qu.refN d.st : Int)) rfl (by kernel_rfl) (fun v hW => rfl) ?_
      simp only [ptr, Act.put, zA]
      refine wpOT_nil ?_
      have hx : ⟨⟨a.val, b.val, n.val, d.val⟩, Qu.refN d.st, d.st⟩ = r := Eq.trans (Eq.symm (by simp only [Qu.queryN, HA.out, if_pos HE0.out, HCB.out, HB.out, if_pos hbe, HMK.out, HN.out, if_pos hne, HNF.out, HD.out, if_pos hde, Qu.expN, Qu.accS, if_neg ht])) HR.out
      have hsf : PSm X1_92 bp bs s _ := ⟨Hpbs.out, Hpbp.out, HNE.out, HP1.out, HS1.out⟩
      have hff := farc_mk HF.out HVW.out B0.out
      subst hx
      go_wp2_with fail
      refine bodyPost_ret (v := .tuple #[.agg #[.int .i64 (a.val : Int), .int .i64 (b.val : Int), .int .i64 (n.val : Int), .slice Av nv cv], .int .i64 (Qu.refN d.st : Int)]) ?_ rfl ⟨_, _, _, rfl, fun h0 => absurd h0 hrn, hsf, hff⟩
      exact results_row_tmp rfl _ _ w.heap.size 24 _ (0, 0) _ _ rfl rfl Fx0.out Tryd.underlying24 rfl (by kernel_rfl)
    ·go_upto_region 16 with fail
     refine wp_region_lit ?_
     refine zr (.int .i64 (d.err : Int)) X1_84 rfl ?_
     simp only [Act.put, zA]
     refine zr (.bool true) X1_84 (xo_neqT .i64 ((d.err : Nat) : Int) 0 (by omega) rfl rfl rfl) ?_
     simp only [Act.put, zA]
     refine wpList_nil ?_
     go_upto_region 17 with fail
     refine wp_region_lit ?_
     refine zr (.agg #[.int .i64 0, .int .i64 0, .int .i64 0, .slice none 0 0]) X1_84 (by unfold execOp; go_simp <;> rfl) ?_
     simp only [Act.put, zA]
     refine zr (.int .i64 (d.err : Int)) X1_84 rfl ?_
     simp only [Act.put, zA]
     refine wpList_storeW w.heap.size #[.int .i64 0, .int .i64 0, .int .i64 0, .slice none 0 0] #[.int .i64 0, .int .i64 0, .int .i64 0, .slice none 0 0] 24 (by kernel_rfl) Fx0.out (xo_storeW w.heap.size #[.int .i64 0, .int .i64 0, .int .i64 0, .slice none 0 0] #[.int .i64 0, .int .i64 0, .int .i64 0, .slice none 0 0] Fx0.out (by kernel_rfl) rfl (by simp [Value.oneCell']) rfl rfl rfl) ?_
     intro X1_85 h1 hfar hbel hsz
     have YHF : FarH bp bs w X1_85 := FarH.store HF.out (.inr (.inr Gb0.out)) hsz hfar
     have YHG : Gc X1_85 := rng_store HG.out Nz0.out hfar
     have YHFs : FsIf d.err X1_85 w.heap.size (.slice Av nv cv) d.val := FsIf.store HFs.out Fx0.out (by decide) (by decide) hfar
     have YHpbp : X1_85.heap[bp]? = some (.cells #[.func (.func 41) #[.pointer (some ⟨bs, 0, none⟩)] #[], .int .i64 (d.st.tok.cls : Int), .string (sB d.st.tok.tx), .int .i64 ((d.st.off : Nat) : Int)] 72 (0, 0)) := hfar _ _ Nxbp0.out Hpbp.out
     have YHpbs : X1_85.heap[bs]? = some (.cells #[.string (sB s), .int .i64 ((d.st.pos : Nat) : Int)] 66 (0, 0)) := hfar _ _ Nxbs0.out Hpbs.out
     have YFv4_4 : X1_85.heap[b4]? = some (.cells #[.int .i64 (a.val : Int), .int .i64 (b.val : Int), .int .i64 (n.val : Int), .slice Av nv cv] 24 (0, 0)) := hfar _ _ (Ne.symm N2_2.out) Fv4_4.out
     have YFv59_6 : X1_85.heap[b6]? = some (.cells #[.string (sB (Qu.kwN a.val)), .bool cb, .int .i64 (mk : Int), .int .i64 (nf : Int)] 53 (0, 0)) := hfar _ _ (Ne.symm N56_2.out) Fv59_6.out
     have hbr := hbel _ _ Gv78.out B0.out
     clear B0
     have B0 := zh hbr
     clear hbr
     clear Hpbp
     have Hpbp : Hid (X1_85.heap[bp]? = some (.cells #[.func (.func 41) #[.pointer (some ⟨bs, 0, none⟩)] #[], .int .i64 (d.st.tok.cls : Int), .string (sB d.st.tok.tx), .int .i64 ((d.st.off : Nat) : Int)] 72 (0, 0))) := zh YHpbp
     clear YHpbp
     clear Hpbs
     have Hpbs : Hid (X1_85.heap[bs]? = some (.cells #[.string (sB s), .int .i64 ((d.st.pos : Nat) : Int)] 66 (0, 0))) := zh YHpbs
     clear YHpbs
     clear Fv4_4
     have Fv4_4 : Hid (X1_85.heap[b4]? = some (.cells #[.int .i64 (a.val : Int), .int .i64 (b.val : Int), .int .i64 (n.val : Int), .slice Av nv cv] 24 (0, 0))) := zh YFv4_4
     clear YFv4_4
     clear Fv59_6
     have Fv59_6 : Hid (X1_85.heap[b6]? = some (.cells #[.string (sB (Qu.kwN a.val)), .bool cb, .int .i64 (mk : Int), .int .i64 (nf : Int)] 53 (0, 0))) := zh YFv59_6
     clear YFv59_6
     clear HF
     have HF := zh YHF
     clear YHF
     clear HG
     have HG := zh YHG
     clear YHG
     clear HFs
     have HFs := zh YHFs
     clear YHFs
     clear Fx0
     have Fx0 : Hid (X1_85.heap[w.heap.size]? = some (.cells #[.int .i64 0, .int .i64 0, .int .i64 0, .slice none 0 0] 24 (0, 0))) := zh (h1)
     have HszX1_85 := zh hsz
     clear h1 hfar hbel hsz
     simp only [ptr, Act.put, zA]
     refine zr (.int .i64 (d.err : Int)) X1_85 rfl ?_
     simp only [Act.put, zA]
     refine wpList_nil ?_
     have hx : ⟨Qu.zeroQ, d.err, d.st⟩ = r := Eq.trans (Eq.symm (by simp only [Qu.queryN, HA.out, if_pos HE0.out, HCB.out, HB.out, if_pos hbe, HMK.out, HN.out, if_pos hne, HNF.out, HD.out, if_neg hde])) HR.out
     have hsf : PSm X1_85 bp bs s _ := ⟨Hpbs.out, Hpbp.out, HNE.out, HP1.out, HS1.out⟩
     have hff := farc_mk HF.out HVW.out B0.out
     subst hx
     go_wp2_with fail
     refine bodyPost_ret (v := .tuple #[.agg #[.int .i64 0, .int .i64 0, .int .i64 0, .slice none 0 0], .int .i64 (d.err : Int)]) ?_ rfl ⟨_, _, _, rfl, fun h0 => absurd h0 hde, hsf, hff⟩
     exact results_row_tmp rfl _ _ w.heap.size 24 _ (0, 0) _ _ rfl rfl Fx0.out Tryd.underlying24 rfl (by kernel_rfl)
 ·go_upto_region 4 with fail
  refine wp_region_lit ?_
  refine zr (.int .i64 (a.err : Int)) X1_13 rfl ?_
  simp only [Act.put, zA]
  refine zr (.bool true) X1_13 (xo_neqT .i64 ((a.err : Nat) : Int) 0 (by omega) rfl rfl rfl) ?_
  simp only [Act.put, zA]
  refine wpList_nil ?_
  go_upto_region 5 with fail
  refine wp_region_lit ?_
  refine zr (.agg #[.int .i64 0, .int .i64 0, .int .i64 0, .slice none 0 0]) X1_13 (by unfold execOp; go_simp <;> rfl) ?_
  simp only [Act.put, zA]
  refine zr (.int .i64 (a.err : Int)) X1_13 rfl ?_
  simp only [Act.put, zA]
  refine wpList_storeW w.heap.size #[.int .i64 0, .int .i64 0, .int .i64 0, .slice none 0 0] #[.int .i64 0, .int .i64 0, .int .i64 0, .slice none 0 0] 24 (by kernel_rfl) Fx0.out (xo_storeW w.heap.size #[.int .i64 0, .int .i64 0, .int .i64 0, .slice none 0 0] #[.int .i64 0, .int .i64 0, .int .i64 0, .slice none 0 0] Fx0.out (by kernel_rfl) rfl (by simp [Value.oneCell']) rfl rfl rfl) ?_
  intro X1_14 h1 hfar hbel hsz
  have YHF : FarH bp bs w X1_14 := FarH.store HF.out (.inr (.inr Gb0.out)) hsz hfar
  have YHG : Gc X1_14 := rng_store HG.out Nz0.out hfar
  have YHpbp : X1_14.heap[bp]? = some (.cells #[.func (.func 41) #[.pointer (some ⟨bs, 0, none⟩)] #[], .int .i64 (a.st.tok.cls : Int), .string (sB a.st.tok.tx), .int .i64 ((a.st.off : Nat) : Int)] 72 (0, 0)) := hfar _ _ Nxbp0.out Hpbp.out
  have YHpbs : X1_14.heap[bs]? = some (.cells #[.string (sB s), .int .i64 ((a.st.pos : Nat) : Int)] 66 (0, 0)) := hfar _ _ Nxbs0.out Hpbs.out
  have YFv4_4 : X1_14.heap[b4]? = some (.cells #[.int .i64 (a.val : Int), .int .i64 0, .int .i64 0, .slice none 0 0] 24 (0, 0)) := hfar _ _ (Ne.symm N2_2.out) Fv4_4.out
  have hbr := hbel _ _ Gv9.out B0.out
  clear B0
  have B0 := zh hbr
  clear hbr
  clear Hpbp
  have Hpbp : Hid (X1_14.heap[bp]? = some (.cells #[.func (.func 41) #[.pointer (some ⟨bs, 0, none⟩)] #[], .int .i64 (a.st.tok.cls : Int), .string (sB a.st.tok.tx), .int .i64 ((a.st.off : Nat) : Int)] 72 (0, 0))) := zh YHpbp
  clear YHpbp
  clear Hpbs
  have Hpbs : Hid (X1_14.heap[bs]? = some (.cells #[.string (sB s), .int .i64 ((a.st.pos : Nat) : Int)] 66 (0, 0))) := zh YHpbs
  clear YHpbs
  clear Fv4_4
  have Fv4_4 : Hid (X1_14.heap[b4]? = some (.cells #[.int .i64 (a.val : Int), .int .i64 0, .int .i64 0, .slice none 0 0] 24 (0, 0))) := zh YFv4_4
  clear YFv4_4
  clear HF
  have HF := zh YHF
  clear YHF
  clear HG
  have HG := zh YHG
  clear YHG
  clear Fx0
  have Fx0 : Hid (X1_14.heap[w.heap.size]? = some (.cells #[.int .i64 0, .int .i64 0, .int .i64 0, .slice none 0 0] 24 (0, 0))) := zh (h1)
  have HszX1_14 := zh hsz
  clear h1 hfar hbel hsz
  simp only [ptr, Act.put, zA]
  refine zr (.int .i64 (a.err : Int)) X1_14 rfl ?_
  simp only [Act.put, zA]
  refine wpList_nil ?_
  have hx : ⟨Qu.zeroQ, a.err, a.st⟩ = r := Eq.trans (Eq.symm (by simp only [Qu.queryN, HA.out, if_neg he])) HR.out
  have hsf : PSm X1_14 bp bs s _ := ⟨Hpbs.out, Hpbp.out, HNE.out, HP1.out, HS1.out⟩
  have hff := farc_mk HF.out HVW.out B0.out
  subst hx
  go_wp2_with fail
  refine bodyPost_ret (v := .tuple #[.agg #[.int .i64 0, .int .i64 0, .int .i64 0, .slice none 0 0], .int .i64 (a.err : Int)]) ?_ rfl ⟨_, _, _, rfl, fun h0 => absurd h0 he, hsf, hff⟩
  exact results_row_tmp rfl _ _ w.heap.size 24 _ (0, 0) _ _ rfl rfl Fx0.out Tryd.underlying24 rfl (by kernel_rfl)
end Go.Proofs.YtlicfidcfhbmpaaDoor

