/- Several texts in one: Yi. -/
import Derived.Test.YtlicfidcfhbmpaaDoorE07
set_option linter.unusedVariables false
set_option linter.unusedSimpArgs false
set_option linter.unusedSectionVars false
namespace Go.Proofs.YtlicfidcfhbmpaaDoor
set_option maxRecDepth 8000
open Go.RowKit Go.Proofs.YtlicfidcfhbmpaaDoor.K
attribute [local irreducible] wpList wpQuiet
theorem xc_iad {ev : Operand → Value} {o : Oper} {w : World} {x y : Operand} (i : Nat) (hi : i < 4) (ho : o.op = .indexAddr 63 x y) (hx : ev x = .pointer (some ⟨0, 0, none⟩)) (hy : ev y = .int .i64 (i : Int)) :
  (execOp ev o).run Tryd.prog w = .ok (.value (.pointer (some ⟨0, i * 2, none⟩))) w := by
 unfold execOp
 simp only [ho, hx, hy]
 rcases i with _ | _ | _ | _ | i
 ·rfl
 ·rfl
 ·rfl
 ·rfl
 ·omega
theorem Gc.max {w : World} (h : Gc w) (i : Nat) (hi : i < 4) : w.cell? ⟨0, i * 2 + 1, none⟩ = some (.int .i64 (Qu.maxN i : Int)) := by
 rcases i with _ | _ | _ | _ | i
 ·exact h 1 _ rfl
 ·exact h 3 _ rfl
 ·exact h 5 _ rfl
 ·exact h 7 _ rfl
 ·omega
theorem _root_.Qu.pickT_lt0 {s : List UInt8} {f : Nat → List UInt8} {i n : Nat} {st : Qu.St} (h : (Qu.pickT s f i n st).err = 0) : i ≤ (Qu.pickT s f i n st).val ∧ (Qu.pickT s f i n st).val < i + n := by
 unfold Qu.pickT at h ⊢
 split
 ·next j hj => exact Qu.findT_lt hj
 ·next hj => rw [hj] at h; exact absurd h (Qu.refN_ne st)
set_option maxRecDepth 100000 in
set_option maxHeartbeats 16000000 in
theorem single_as (s : List UInt8) (hs4 : s.length ≤ 1000) (bp bs : Nat) (st : Qu.St) (hst : Qu.Ok s st) (w : World) (hP : PSm w bp bs s st) (hG : Gc w) (col : Nat) (hcol : col < 4) (r : Qu.Rs Qu.Cd) (hr : Qu.singleN s col st = r) :
  Calls Tryd.prog 70 #[.pointer (some ⟨bp, 0, none⟩), .int .i64 (col : Int)] w fun e w' => e = .returned (.tuple #[.agg #[.int .i64 (r.val.col : Int), .int .i64 (r.val.lo : Int), .int .i64 (r.val.hi : Int)], .int .i64 (r.err : Int)]) ∧ PSm w' bp bs s r.st ∧ FarC bp bs w w' := by
 have HG := zh hG
 clear hG
 obtain ⟨V, hV0, hV⟩ := base_world w
 have B0 := zh hV
 have HVW := zh hV
 clear hV
 have HF := zh (FarH.refl bp bs w)
 have HS4 := zh hs4
 have HOK := zh hst
 have HNE := zh hP.ne
 have HP1 := zh hP.p1
 have HS1 := zh hP.s1
 have hne := hP.ne
 have Hpbp : Hid (w.heap[bp]? = some (.cells #[.func (.func 41) #[.pointer (some ⟨bs, 0, none⟩)] #[], .int .i64 (st.tok.cls : Int), .string (sB st.tok.tx), .int .i64 ((st.off : Nat) : Int)] 72 (0, 0))) := zh (hP.pr)
 have Gpbp : Hid (V.heap.size ≤ bp) := zh (by omega)
 have Lpbp : Hid (bp < w.heap.size) := zh (xp_lt Hpbp.out)
 have Hpbs : Hid (w.heap[bs]? = some (.cells #[.string (sB s), .int .i64 ((st.pos : Nat) : Int)] 66 (0, 0))) := zh (hP.sc)
 have Gpbs : Hid (V.heap.size ≤ bs) := zh (by omega)
 have Lpbs : Hid (bs < w.heap.size) := zh (xp_lt Hpbs.out)
 have Npbpbs : Hid (bp ≠ bs) := zh (by omega)
 clear hs4 hst hP hne
 go_enter Tryd.func70, Tryd.ntmps70
 go_upto_region 1 with fail
 refine wp_named1 (fun V2 hb g0 hlt => ?_)
 have B1 := zh hb
 have Fx0 : Hid (V2.heap[w.heap.size]? = some (.cells #[.int .i64 0, .int .i64 0, .int .i64 0] 46 (0, 0))) := zh (g0)
 have Gb0 : Hid (w.heap.size ≤ w.heap.size) := zh (by omega)
 have Lx0 : Hid (w.heap.size < V2.heap.size) := zh (xp_lt Fx0.out)
 have Nxbp0 : Hid (bp ≠ w.heap.size) := zh (by have := Lpbp.out; omega)
 have Nxbs0 : Hid (bs ≠ w.heap.size) := zh (by have := Lpbs.out; omega)
 have Nz0 : Hid (0 ≠ w.heap.size) := zh (by have := Lpbp.out; omega)
 clear hb g0 hlt
 have HR := zh hr
 clear hr
 obtain ⟨a, ha⟩ : ∃ a, Qu.numN s 0 (Qu.maxN col) st = a := ⟨_, rfl⟩
 have HA := zh ha
 clear ha
 refine wp_region_lit ?_
 refine zr (.pointer (some ⟨bp, 0, none⟩)) V2 rfl ?_
 simp only [Act.put, zA]
 refine zr (.int .i64 (col : Int)) V2 rfl ?_
 simp only [Act.put, zA]
 refine zr (.pointer (some ⟨0, col * 2, none⟩)) V2 (xc_iad col (by omega) rfl rfl rfl) ?_
 simp only [Act.put, zA]
 refine zr (.pointer (some ⟨0, col * 2 + 1, none⟩)) V2 (xo_fld 1 0 (col * 2) 1 (by kernel_rfl) rfl rfl) ?_
 simp only [Act.put, zA]
 refine zr (.int .i64 (Qu.maxN col : Int)) V2 (xo_load1 ⟨0, col * 2 + 1, none⟩ _ (Gc.max (HG.out.keep B1.out) col (by omega)) Tryd.underlying3 rfl rfl rfl) ?_
 simp only [Act.put, zA]
 refine wpList_call (by kernel_rfl) 59 Tryd.func59 (by kernel_rfl) (by kernel_rfl) _ _ #[.pointer (some ⟨bp, 0, none⟩), .int .i64 0, .int .i64 (Qu.maxN col : Int)] rfl (by kernel_rfl) ?_
 refine (number_as s HS4.out bp bs st HOK.out V2 ⟨(heap_keep Hpbs.out B1.out), (heap_keep Hpbp.out B1.out), HNE.out, HP1.out, HS1.out⟩ 0 (Qu.maxN col) a HA.out).mono ?_
 rintro e W2_0 ⟨rfl, hps, hfc⟩
 have YFx0 : W2_0.heap[w.heap.size]? = some (.cells #[.int .i64 0, .int .i64 0, .int .i64 0] 46 (0, 0)) := hfc.far _ _ (Ne.symm Nxbp0.out) (Ne.symm Nxbs0.out) Fx0.out
 have YHF : FarH bp bs w W2_0 := FarH.farC (HF.out.keep B1.out) hfc
 have YHG : Gc W2_0 := rng_farC (HG.out.keep B1.out) (by have := HP1.out; omega) (by have := HS1.out; omega) hfc.toFarH
 have C0_2 := zb B0 B1
 have hb := farc_bel hV0 C0_2.out hfc
 have hbr := hb
 clear B0
 have B0 := zh hbr
 clear hbr
 clear hb
 clear Fx0
 have Fx0 : Hid (W2_0.heap[w.heap.size]? = some (.cells #[.int .i64 0, .int .i64 0, .int .i64 0] 46 (0, 0))) := zh YFx0
 clear YFx0
 clear HF
 have HF : Hid (FarH bp bs w W2_0) := zh YHF
 clear YHF
 clear HG
 have HG : Hid (Gc W2_0) := zh YHG
 clear YHG
 have Gv1 : Hid (V.heap.size ≤ w.heap.size) := zh (by omega)
 have Lt2 : Hid (w.heap.size < W2_0.heap.size) := zh (xp_lt Fx0.out)
 clear Hpbs
 have Hpbs : Hid (W2_0.heap[bs]? = some (.cells #[.string (sB s), .int .i64 ((a.st.pos : Nat) : Int)] 66 (0, 0))) := zh (hps.sc)
 clear Hpbp
 have Hpbp : Hid (W2_0.heap[bp]? = some (.cells #[.func (.func 41) #[.pointer (some ⟨bs, 0, none⟩)] #[], .int .i64 (a.st.tok.cls : Int), .string (sB a.st.tok.tx), .int .i64 ((a.st.off : Nat) : Int)] 72 (0, 0))) := zh (hps.pr)
 clear hfc hps 
 refine ⟨_, rfl, ?_⟩
 simp only [Act.put, zA]
 refine zr (.tuple #[.int .i64 (a.val : Int), .int .i64 (a.err : Int)]) W2_0 rfl ?_
 simp only [Act.put, zA]
 refine zr (.int .i64 (a.val : Int)) W2_0 rfl ?_
 simp only [Act.put, zA]
 refine zr (.int .i64 (a.err : Int)) W2_0 rfl ?_
 simp only [Act.put, zA]
 refine zr (.int .i64 (a.val : Int)) W2_0 rfl ?_
 simp only [Act.put, zA]
 refine zr (.int .i64 (a.err : Int)) W2_0 rfl ?_
 simp only [Act.put, zA]
 refine wpList_nil ?_
 by_cases he : a.err = 0
 ·go_upto_region 2 with fail
  refine wp_region_lit ?_
  refine zr (.int .i64 (a.err : Int)) W2_0 rfl ?_
  simp only [Act.put, zA]
  refine zr (.bool false) W2_0 (xo_neqF .i64 ((a.err : Nat) : Int) 0 (by omega) rfl rfl rfl) ?_
  simp only [Act.put, zA]
  refine wpList_nil ?_
  go_upto_region 4 with fail
  refine wp_region_lit ?_
  refine zr (.int .i64 (col : Int)) W2_0 rfl ?_
  simp only [Act.put, zA]
  refine zr (.int .i64 (a.val : Int)) W2_0 rfl ?_
  simp only [Act.put, zA]
  refine zr (.int .i64 (a.val : Int)) W2_0 rfl ?_
  simp only [Act.put, zA]
  refine zr (.agg #[.int .i64 (col : Int), .int .i64 (a.val : Int), .int .i64 (a.val : Int)]) W2_0 (by unfold execOp; go_simp <;> rfl) ?_
  simp only [Act.put, zA]
  refine wpList_storeW w.heap.size #[.int .i64 0, .int .i64 0, .int .i64 0] #[.int .i64 (col : Int), .int .i64 (a.val : Int), .int .i64 (a.val : Int)] 46 (by kernel_rfl) Fx0.out (xo_storeW w.heap.size #[.int .i64 0, .int .i64 0, .int .i64 0] #[.int .i64 (col : Int), .int .i64 (a.val : Int), .int .i64 (a.val : Int)] Fx0.out (by kernel_rfl) rfl (by simp [Value.oneCell']) rfl rfl rfl) ?_
  intro X1_3 h1 hfar hbel hsz
  have YHF : FarH bp bs w X1_3 := FarH.store HF.out (.inr (.inr Gb0.out)) hsz hfar
  have YHG : Gc X1_3 := rng_store HG.out Nz0.out hfar
  have YHpbp : X1_3.heap[bp]? = some (.cells #[.func (.func 41) #[.pointer (some ⟨bs, 0, none⟩)] #[], .int .i64 (a.st.tok.cls : Int), .string (sB a.st.tok.tx), .int .i64 ((a.st.off : Nat) : Int)] 72 (0, 0)) := hfar _ _ Nxbp0.out Hpbp.out
  have YHpbs : X1_3.heap[bs]? = some (.cells #[.string (sB s), .int .i64 ((a.st.pos : Nat) : Int)] 66 (0, 0)) := hfar _ _ Nxbs0.out Hpbs.out
  have hbr := hbel _ _ Gv1.out B0.out
  clear B0
  have B0 := zh hbr
  clear hbr
  clear Hpbp
  have Hpbp : Hid (X1_3.heap[bp]? = some (.cells #[.func (.func 41) #[.pointer (some ⟨bs, 0, none⟩)] #[], .int .i64 (a.st.tok.cls : Int), .string (sB a.st.tok.tx), .int .i64 ((a.st.off : Nat) : Int)] 72 (0, 0))) := zh YHpbp
  clear YHpbp
  clear Hpbs
  have Hpbs : Hid (X1_3.heap[bs]? = some (.cells #[.string (sB s), .int .i64 ((a.st.pos : Nat) : Int)] 66 (0, 0))) := zh YHpbs
  clear YHpbs
  clear HF
  have HF := zh YHF
  clear YHF
  clear HG
  have HG := zh YHG
  clear YHG
  clear Fx0
  have Fx0 : Hid (X1_3.heap[w.heap.size]? = some (.cells #[.int .i64 (col : Int), .int .i64 (a.val : Int), .int .i64 (a.val : Int)] 46 (0, 0))) := zh (h1)
  have HszX1_3 := zh hsz
  clear h1 hfar hbel hsz
  simp only [ptr, Act.put, zA]
  refine zr (.int .i64 0) X1_3 rfl ?_
  simp only [Act.put, zA]
  refine wpList_nil ?_
  have hx : ⟨⟨col, a.val, a.val⟩, 0, a.st⟩ = r := Eq.trans (Eq.symm (by simp only [Qu.singleN, HA.out, if_pos he])) HR.out
  have hsf : PSm X1_3 bp bs s _ := ⟨Hpbs.out, Hpbp.out, HNE.out, HP1.out, HS1.out⟩
  have hff := farc_mk HF.out HVW.out B0.out
  subst hx
  go_wp2_with fail
  refine bodyPost_ret (v := .tuple #[.agg #[.int .i64 (col : Int), .int .i64 (a.val : Int), .int .i64 (a.val : Int)], .int .i64 0]) ?_ rfl ⟨rfl, hsf, hff⟩
  exact results_row_tmp rfl _ _ w.heap.size 46 _ (0, 0) _ _ rfl rfl Fx0.out Tryd.underlying46 rfl (by kernel_rfl)
 ·go_upto_region 2 with fail
  refine wp_region_lit ?_
  refine zr (.int .i64 (a.err : Int)) W2_0 rfl ?_
  simp only [Act.put, zA]
  refine zr (.bool true) W2_0 (xo_neqT .i64 ((a.err : Nat) : Int) 0 (by omega) rfl rfl rfl) ?_
  simp only [Act.put, zA]
  refine wpList_nil ?_
  go_upto_region 3 with fail
  refine wp_region_lit ?_
  refine zr (.agg #[.int .i64 0, .int .i64 0, .int .i64 0]) W2_0 (by unfold execOp; go_simp <;> rfl) ?_
  simp only [Act.put, zA]
  refine zr (.int .i64 (a.err : Int)) W2_0 rfl ?_
  simp only [Act.put, zA]
  refine wpList_storeW w.heap.size #[.int .i64 0, .int .i64 0, .int .i64 0] #[.int .i64 0, .int .i64 0, .int .i64 0] 46 (by kernel_rfl) Fx0.out (xo_storeW w.heap.size #[.int .i64 0, .int .i64 0, .int .i64 0] #[.int .i64 0, .int .i64 0, .int .i64 0] Fx0.out (by kernel_rfl) rfl (by simp [Value.oneCell']) rfl rfl rfl) ?_
  intro X1_3 h1 hfar hbel hsz
  have YHF : FarH bp bs w X1_3 := FarH.store HF.out (.inr (.inr Gb0.out)) hsz hfar
  have YHG : Gc X1_3 := rng_store HG.out Nz0.out hfar
  have YHpbp : X1_3.heap[bp]? = some (.cells #[.func (.func 41) #[.pointer (some ⟨bs, 0, none⟩)] #[], .int .i64 (a.st.tok.cls : Int), .string (sB a.st.tok.tx), .int .i64 ((a.st.off : Nat) : Int)] 72 (0, 0)) := hfar _ _ Nxbp0.out Hpbp.out
  have YHpbs : X1_3.heap[bs]? = some (.cells #[.string (sB s), .int .i64 ((a.st.pos : Nat) : Int)] 66 (0, 0)) := hfar _ _ Nxbs0.out Hpbs.out
  have hbr := hbel _ _ Gv1.out B0.out
  clear B0
  have B0 := zh hbr
  clear hbr
  clear Hpbp
  have Hpbp : Hid (X1_3.heap[bp]? = some (.cells #[.func (.func 41) #[.pointer (some ⟨bs, 0, none⟩)] #[], .int .i64 (a.st.tok.cls : Int), .string (sB a.st.tok.tx), .int .i64 ((a.st.off : Nat) : Int)] 72 (0, 0))) := zh YHpbp
  clear YHpbp
  clear Hpbs
  have Hpbs : Hid (X1_3.heap[bs]? = some (.cells #[.string (sB s), .int .i64 ((a.st.pos : Nat) : Int)] 66 (0, 0))) := zh YHpbs
  clear YHpbs
  clear HF
  have HF := zh YHF
  clear YHF
  clear HG
  have HG := zh YHG
  clear YHG
  clear Fx0
  have Fx0 : Hid (X1_3.heap[w.heap.size]? = some (.cells #[.int .i64 0, .int .i64 0, .int .i64 0] 46 (0, 0))) := zh (h1)
  have HszX1_3 := zh hsz
  clear h1 hfar hbel hsz
  simp only [ptr, Act.put, zA]
  refine zr (.int .i64 (a.err : Int)) X1_3 rfl ?_
  simp only [Act.put, zA]
  refine wpList_nil ?_
  have hx : ⟨⟨0, 0, 0⟩, a.err, a.st⟩ = r := Eq.trans (Eq.symm (by simp only [Qu.singleN, HA.out, if_neg he])) HR.out
  have hsf : PSm X1_3 bp bs s _ := ⟨Hpbs.out, Hpbp.out, HNE.out, HP1.out, HS1.out⟩
  have hff := farc_mk HF.out HVW.out B0.out
  subst hx
  go_wp2_with fail
  refine bodyPost_ret (v := .tuple #[.agg #[.int .i64 0, .int .i64 0, .int .i64 0], .int .i64 (a.err : Int)]) ?_ rfl ⟨rfl, hsf, hff⟩
  exact results_row_tmp rfl _ _ w.heap.size 46 _ (0, 0) _ _ rfl rfl Fx0.out Tryd.underlying46 rfl (by kernel_rfl)
set_option maxRecDepth 100000 in
set_option maxHeartbeats 16000000 in
theorem interval_as (s : List UInt8) (hs4 : s.length ≤ 1000) (bp bs : Nat) (st : Qu.St) (hst : Qu.Ok s st) (w : World) (hP : PSm w bp bs s st) (hG : Gc w) (col : Nat) (hcol : col < 4) (r : Qu.Rs Qu.Cd) (hr : Qu.rangeN s col st = r) :
  Calls Tryd.prog 71 #[.pointer (some ⟨bp, 0, none⟩), .int .i64 (col : Int)] w fun e w' => e = .returned (.tuple #[.agg #[.int .i64 (r.val.col : Int), .int .i64 (r.val.lo : Int), .int .i64 (r.val.hi : Int)], .int .i64 (r.err : Int)]) ∧ PSm w' bp bs s r.st ∧ FarC bp bs w w' := by
 have HG := zh hG
 clear hG
 obtain ⟨V, hV0, hV⟩ := base_world w
 have B0 := zh hV
 have HVW := zh hV
 clear hV
 have HF := zh (FarH.refl bp bs w)
 have HS4 := zh hs4
 have HOK := zh hst
 have HNE := zh hP.ne
 have HP1 := zh hP.p1
 have HS1 := zh hP.s1
 have hne := hP.ne
 have Hpbp : Hid (w.heap[bp]? = some (.cells #[.func (.func 41) #[.pointer (some ⟨bs, 0, none⟩)] #[], .int .i64 (st.tok.cls : Int), .string (sB st.tok.tx), .int .i64 ((st.off : Nat) : Int)] 72 (0, 0))) := zh (hP.pr)
 have Gpbp : Hid (V.heap.size ≤ bp) := zh (by omega)
 have Lpbp : Hid (bp < w.heap.size) := zh (xp_lt Hpbp.out)
 have Hpbs : Hid (w.heap[bs]? = some (.cells #[.string (sB s), .int .i64 ((st.pos : Nat) : Int)] 66 (0, 0))) := zh (hP.sc)
 have Gpbs : Hid (V.heap.size ≤ bs) := zh (by omega)
 have Lpbs : Hid (bs < w.heap.size) := zh (xp_lt Hpbs.out)
 have Npbpbs : Hid (bp ≠ bs) := zh (by omega)
 clear hs4 hst hP hne
 go_enter Tryd.func71, Tryd.ntmps71
 go_upto_region 1 with fail
 refine wp_named1 (fun V2 hb g0 hlt => ?_)
 have B1 := zh hb
 have Fx0 : Hid (V2.heap[w.heap.size]? = some (.cells #[.int .i64 0, .int .i64 0, .int .i64 0] 46 (0, 0))) := zh (g0)
 have Gb0 : Hid (w.heap.size ≤ w.heap.size) := zh (by omega)
 have Lx0 : Hid (w.heap.size < V2.heap.size) := zh (xp_lt Fx0.out)
 have Nxbp0 : Hid (bp ≠ w.heap.size) := zh (by have := Lpbp.out; omega)
 have Nxbs0 : Hid (bs ≠ w.heap.size) := zh (by have := Lpbs.out; omega)
 have Nz0 : Hid (0 ≠ w.heap.size) := zh (by have := Lpbp.out; omega)
 clear hb g0 hlt
 have HR := zh hr
 clear hr
 obtain ⟨a, ha⟩ : ∃ a, Qu.numN s 0 (Qu.maxN col) st = a := ⟨_, rfl⟩
 have HA := zh ha
 clear ha
 have HOA : Hid (Qu.Ok s a.st) := zh (by rw [← HA.out]; exact Qu.numN_ok HOK.out)
 refine wp_region_lit ?_
 refine zr (.pointer (some ⟨bp, 0, none⟩)) V2 rfl ?_
 simp only [Act.put, zA]
 refine zr (.int .i64 (col : Int)) V2 rfl ?_
 simp only [Act.put, zA]
 refine zr (.pointer (some ⟨0, col * 2, none⟩)) V2 (xc_iad col (by omega) rfl rfl rfl) ?_
 simp only [Act.put, zA]
 refine zr (.pointer (some ⟨0, col * 2 + 1, none⟩)) V2 (xo_fld 1 0 (col * 2) 1 (by kernel_rfl) rfl rfl) ?_
 simp only [Act.put, zA]
 refine zr (.int .i64 (Qu.maxN col : Int)) V2 (xo_load1 ⟨0, col * 2 + 1, none⟩ _ (Gc.max (HG.out.keep B1.out) col (by omega)) Tryd.underlying3 rfl rfl rfl) ?_
 simp only [Act.put, zA]
 refine wpList_call (by kernel_rfl) 59 Tryd.func59 (by kernel_rfl) (by kernel_rfl) _ _ #[.pointer (some ⟨bp, 0, none⟩), .int .i64 0, .int .i64 (Qu.maxN col : Int)] rfl (by kernel_rfl) ?_
 refine (number_as s HS4.out bp bs st HOK.out V2 ⟨(heap_keep Hpbs.out B1.out), (heap_keep Hpbp.out B1.out), HNE.out, HP1.out, HS1.out⟩ 0 (Qu.maxN col) a HA.out).mono ?_
 rintro e W2_0 ⟨rfl, hps, hfc⟩
 have YFx0 : W2_0.heap[w.heap.size]? = some (.cells #[.int .i64 0, .int .i64 0, .int .i64 0] 46 (0, 0)) := hfc.far _ _ (Ne.symm Nxbp0.out) (Ne.symm Nxbs0.out) Fx0.out
 have YHF : FarH bp bs w W2_0 := FarH.farC (HF.out.keep B1.out) hfc
 have YHG : Gc W2_0 := rng_farC (HG.out.keep B1.out) (by have := HP1.out; omega) (by have := HS1.out; omega) hfc.toFarH
 have C0_2 := zb B0 B1
 have hb := farc_bel hV0 C0_2.out hfc
 have hbr := hb
 clear B0
 have B0 := zh hbr
 clear hbr
 clear hb
 clear Fx0
 have Fx0 : Hid (W2_0.heap[w.heap.size]? = some (.cells #[.int .i64 0, .int .i64 0, .int .i64 0] 46 (0, 0))) := zh YFx0
 clear YFx0
 clear HF
 have HF : Hid (FarH bp bs w W2_0) := zh YHF
 clear YHF
 clear HG
 have HG : Hid (Gc W2_0) := zh YHG
 clear YHG
 have Gv1 : Hid (V.heap.size ≤ w.heap.size) := zh (by omega)
 have Lt2 : Hid (w.heap.size < W2_0.heap.size) := zh (xp_lt Fx0.out)
 clear Hpbs
 have Hpbs : Hid (W2_0.heap[bs]? = some (.cells #[.string (sB s), .int .i64 ((a.st.pos : Nat) : Int)] 66 (0, 0))) := zh (hps.sc)
 clear Hpbp
 have Hpbp : Hid (W2_0.heap[bp]? = some (.cells #[.func (.func 41) #[.pointer (some ⟨bs, 0, none⟩)] #[], .int .i64 (a.st.tok.cls : Int), .string (sB a.st.tok.tx), .int .i64 ((a.st.off : Nat) : Int)] 72 (0, 0))) := zh (hps.pr)
 clear hfc hps 
 refine ⟨_, rfl, ?_⟩
 simp only [Act.put, zA]
 refine zr (.tuple #[.int .i64 (a.val : Int), .int .i64 (a.err : Int)]) W2_0 rfl ?_
 simp only [Act.put, zA]
 refine zr (.int .i64 (a.val : Int)) W2_0 rfl ?_
 simp only [Act.put, zA]
 refine zr (.int .i64 (a.err : Int)) W2_0 rfl ?_
 simp only [Act.put, zA]
 refine zr (.int .i64 (a.val : Int)) W2_0 rfl ?_
 simp only [Act.put, zA]
 refine zr (.int .i64 (a.err : Int)) W2_0 rfl ?_
 simp only [Act.put, zA]
 refine wpList_nil ?_
 by_cases he : a.err = 0
 ·go_upto_region 2 with fail
  refine wp_region_lit ?_
  refine zr (.int .i64 (a.err : Int)) W2_0 rfl ?_
  simp only [Act.put, zA]
  refine zr (.bool false) W2_0 (xo_neqF .i64 ((a.err : Nat) : Int) 0 (by omega) rfl rfl rfl) ?_
  simp only [Act.put, zA]
  refine wpList_nil ?_
  by_cases ht : a.st.tok = ⟨4, []⟩
  ·go_upto_region 4 with fail
   refine wp_region_lit ?_
   refine zr (.pointer (some ⟨bp, 0, none⟩)) W2_0 rfl ?_
   simp only [Act.put, zA]
   refine zr (.agg #[.int .i64 4, .string ByteArray.empty]) W2_0 (by unfold execOp; go_simp <;> rfl) ?_
   simp only [Act.put, zA]
   refine wpList_call (by kernel_rfl) 61 Tryd.func61 (by kernel_rfl) (by kernel_rfl) _ _ #[.pointer (some ⟨bp, 0, none⟩), .agg #[.int .i64 4, .string ByteArray.empty]] rfl (by kernel_rfl) ?_
   refine (exp_yes s HS4.out bp bs a.st HOA.out W2_0 ⟨Hpbs.out, Hpbp.out, HNE.out, HP1.out, HS1.out⟩ ⟨4, []⟩ ht).mono ?_
   rintro e W1_3 ⟨rfl, hps, hfc⟩
   have YFx0 : W1_3.heap[w.heap.size]? = some (.cells #[.int .i64 0, .int .i64 0, .int .i64 0] 46 (0, 0)) := hfc.far _ _ (Ne.symm Nxbp0.out) (Ne.symm Nxbs0.out) Fx0.out
   have YHF : FarH bp bs w W1_3 := FarH.farC HF.out hfc
   have YHG : Gc W1_3 := rng_farC HG.out (by have := HP1.out; omega) (by have := HS1.out; omega) hfc.toFarH
   have hb := farc_bel hV0 B0.out hfc
   have hbr := hb
   clear B0
   have B0 := zh hbr
   clear hbr
   clear hb
   clear Fx0
   have Fx0 : Hid (W1_3.heap[w.heap.size]? = some (.cells #[.int .i64 0, .int .i64 0, .int .i64 0] 46 (0, 0))) := zh YFx0
   clear YFx0
   clear HF
   have HF : Hid (FarH bp bs w W1_3) := zh YHF
   clear YHF
   clear HG
   have HG : Hid (Gc W1_3) := zh YHG
   clear YHG
   have Gv4 : Hid (V.heap.size ≤ w.heap.size) := zh (by omega)
   have Lt5 : Hid (w.heap.size < W1_3.heap.size) := zh (xp_lt Fx0.out)
   clear Hpbs
   have Hpbs : Hid (W1_3.heap[bs]? = some (.cells #[.string (sB s), .int .i64 (((Qu.adv s a.st).pos : Nat) : Int)] 66 (0, 0))) := zh (hps.sc)
   clear Hpbp
   have Hpbp : Hid (W1_3.heap[bp]? = some (.cells #[.func (.func 41) #[.pointer (some ⟨bs, 0, none⟩)] #[], .int .i64 ((Qu.adv s a.st).tok.cls : Int), .string (sB ((Qu.adv s a.st).tok.tx)), .int .i64 (((Qu.adv s a.st).off : Nat) : Int)] 72 (0, 0))) := zh (hps.pr)
   clear hfc hps 
   refine ⟨_, rfl, ?_⟩
   simp only [Act.put, zA]
   refine zr (.int .i64 0) W1_3 rfl ?_
   simp only [Act.put, zA]
   refine wpList_nil ?_
   go_upto_region 5 with fail
   refine wp_region_lit ?_
   refine zr (.int .i64 0) W1_3 rfl ?_
   simp only [Act.put, zA]
   refine zr (.bool false) W1_3 (xo_neqF .i64 0 0 (by omega) rfl rfl rfl) ?_
   simp only [Act.put, zA]
   refine wpList_nil ?_
   obtain ⟨b, hb⟩ : ∃ b, Qu.numN s a.val (Qu.maxN col) (Qu.adv s a.st) = b := ⟨_, rfl⟩
   have HB := zh hb
   clear hb
   go_upto_region 7 with fail
   refine wp_region_lit ?_
   refine zr (.pointer (some ⟨bp, 0, none⟩)) W1_3 rfl ?_
   simp only [Act.put, zA]
   refine zr (.int .i64 (a.val : Int)) W1_3 rfl ?_
   simp only [Act.put, zA]
   refine zr (.int .i64 (col : Int)) W1_3 rfl ?_
   simp only [Act.put, zA]
   refine zr (.pointer (some ⟨0, col * 2, none⟩)) W1_3 (xc_iad col (by omega) rfl rfl rfl) ?_
   simp only [Act.put, zA]
   refine zr (.pointer (some ⟨0, col * 2 + 1, none⟩)) W1_3 (xo_fld 1 0 (col * 2) 1 (by kernel_rfl) rfl rfl) ?_
   simp only [Act.put, zA]
   refine zr (.int .i64 (Qu.maxN col : Int)) W1_3 (xo_load1 ⟨0, col * 2 + 1, none⟩ _ (Gc.max HG.out col (by omega)) Tryd.underlying3 rfl rfl rfl) ?_
   simp only [Act.put, zA]
   refine wpList_call (by kernel_rfl) 59 Tryd.func59 (by kernel_rfl) (by kernel_rfl) _ _ #[.pointer (some ⟨bp, 0, none⟩), .int .i64 (a.val : Int), .int .i64 (Qu.maxN col : Int)] rfl (by kernel_rfl) ?_
   refine (number_as s HS4.out bp bs (Qu.adv s a.st) (Qu.adv_ok HOA.out) W1_3 ⟨Hpbs.out, Hpbp.out, HNE.out, HP1.out, HS1.out⟩ a.val (Qu.maxN col) b HB.out).mono ?_
   rintro e W1_6 ⟨rfl, hps, hfc⟩
   have YFx0 : W1_6.heap[w.heap.size]? = some (.cells #[.int .i64 0, .int .i64 0, .int .i64 0] 46 (0, 0)) := hfc.far _ _ (Ne.symm Nxbp0.out) (Ne.symm Nxbs0.out) Fx0.out
   have YHF : FarH bp bs w W1_6 := FarH.farC HF.out hfc
   have YHG : Gc W1_6 := rng_farC HG.out (by have := HP1.out; omega) (by have := HS1.out; omega) hfc.toFarH
   have hb := farc_bel hV0 B0.out hfc
   have hbr := hb
   clear B0
   have B0 := zh hbr
   clear hbr
   clear hb
   clear Fx0
   have Fx0 : Hid (W1_6.heap[w.heap.size]? = some (.cells #[.int .i64 0, .int .i64 0, .int .i64 0] 46 (0, 0))) := zh YFx0
   clear YFx0
   clear HF
   have HF : Hid (FarH bp bs w W1_6) := zh YHF
   clear YHF
   clear HG
   have HG : Hid (Gc W1_6) := zh YHG
   clear YHG
   have Gv7 : Hid (V.heap.size ≤ w.heap.size) := zh (by omega)
   have Lt8 : Hid (w.heap.size < W1_6.heap.size) := zh (xp_lt Fx0.out)
   clear Hpbs
   have Hpbs : Hid (W1_6.heap[bs]? = some (.cells #[.string (sB s), .int .i64 ((b.st.pos : Nat) : Int)] 66 (0, 0))) := zh (hps.sc)
   clear Hpbp
   have Hpbp : Hid (W1_6.heap[bp]? = some (.cells #[.func (.func 41) #[.pointer (some ⟨bs, 0, none⟩)] #[], .int .i64 (b.st.tok.cls : Int), .string (sB b.st.tok.tx), .int .i64 ((b.st.off : Nat) : Int)] 72 (0, 0))) := zh (hps.pr)
   clear hfc hps 
   refine ⟨_, rfl, ?_⟩
   simp only [Act.put, zA]
   refine zr (.tuple #[.int .i64 (b.val : Int), .int .i64 (b.err : Int)]) W1_6 rfl ?_
   simp only [Act.put, zA]
   refine zr (.int .i64 (b.val : Int)) W1_6 rfl ?_
   simp only [Act.put, zA]
   refine zr (.int .i64 (b.err : Int)) W1_6 rfl ?_
   simp only [Act.put, zA]
   refine zr (.int .i64 (b.val : Int)) W1_6 rfl ?_
   simp only [Act.put, zA]
   refine zr (.int .i64 (b.err : Int)) W1_6 rfl ?_
   simp only [Act.put, zA]
   refine wpList_nil ?_
   by_cases hf : b.err = 0
   ·go_upto_region 8 with fail
    refine wp_region_lit ?_
    refine zr (.int .i64 (b.err : Int)) W1_6 rfl ?_
    simp only [Act.put, zA]
    refine zr (.bool false) W1_6 (xo_neqF .i64 ((b.err : Nat) : Int) 0 (by omega) rfl rfl rfl) ?_
    simp only [Act.put, zA]
    refine wpList_nil ?_
    go_upto_region 10 with fail
    refine wp_region_lit ?_
    refine zr (.int .i64 (col : Int)) W1_6 rfl ?_
    simp only [Act.put, zA]
    refine zr (.int .i64 (a.val : Int)) W1_6 rfl ?_
    simp only [Act.put, zA]
    refine zr (.int .i64 (b.val : Int)) W1_6 rfl ?_
    simp only [Act.put, zA]
    refine zr (.agg #[.int .i64 (col : Int), .int .i64 (a.val : Int), .int .i64 (b.val : Int)]) W1_6 (by unfold execOp; go_simp <;> rfl) ?_
    simp only [Act.put, zA]
    refine wpList_storeW w.heap.size #[.int .i64 0, .int .i64 0, .int .i64 0] #[.int .i64 (col : Int), .int .i64 (a.val : Int), .int .i64 (b.val : Int)] 46 (by kernel_rfl) Fx0.out (xo_storeW w.heap.size #[.int .i64 0, .int .i64 0, .int .i64 0] #[.int .i64 (col : Int), .int .i64 (a.val : Int), .int .i64 (b.val : Int)] Fx0.out (by kernel_rfl) rfl (by simp [Value.oneCell']) rfl rfl rfl) ?_
    intro X1_9 h1 hfar hbel hsz
    have YHF : FarH bp bs w X1_9 := FarH.store HF.out (.inr (.inr Gb0.out)) hsz hfar
    have YHG : Gc X1_9 := rng_store HG.out Nz0.out hfar
    have YHpbp : X1_9.heap[bp]? = some (.cells #[.func (.func 41) #[.pointer (some ⟨bs, 0, none⟩)] #[], .int .i64 (b.st.tok.cls : Int), .string (sB b.st.tok.tx), .int .i64 ((b.st.off : Nat) : Int)] 72 (0, 0)) := hfar _ _ Nxbp0.out Hpbp.out
    have YHpbs : X1_9.heap[bs]? = some (.cells #[.string (sB s), .int .i64 ((b.st.pos : Nat) : Int)] 66 (0, 0)) := hfar _ _ Nxbs0.out Hpbs.out
    have hbr := hbel _ _ Gv7.out B0.out
    clear B0
    have B0 := zh hbr
    clear hbr
    clear Hpbp
    have Hpbp : Hid (X1_9.heap[bp]? = some (.cells #[.func (.func 41) #[.pointer (some ⟨bs, 0, none⟩)] #[], .int .i64 (b.st.tok.cls : Int), .string (sB b.st.tok.tx), .int .i64 ((b.st.off : Nat) : Int)] 72 (0, 0))) := zh YHpbp
    clear YHpbp
    clear Hpbs
    have Hpbs : Hid (X1_9.heap[bs]? = some (.cells #[.string (sB s), .int .i64 ((b.st.pos : Nat) : Int)] 66 (0, 0))) := zh YHpbs
    clear YHpbs
    clear HF
    have HF := zh YHF
    clear YHF
    clear HG
    have HG := zh YHG
    clear YHG
    clear Fx0
    have Fx0 : Hid (X1_9.heap[w.heap.size]? = some (.cells #[.int .i64 (col : Int), .int .i64 (a.val : Int), .int .i64 (b.val : Int)] 46 (0, 0))) := zh (h1)
    have HszX1_9 := zh hsz
    clear h1 hfar hbel hsz
    simp only [ptr, Act.put, zA]
    refine zr (.int .i64 0) X1_9 rfl ?_
    simp only [Act.put, zA]
    refine wpList_nil ?_
    have hx : ⟨⟨col, a.val, b.val⟩, 0, b.st⟩ = r := Eq.trans (Eq.symm (by simp only [Qu.rangeN, Qu.expN, Qu.accS, HA.out, if_pos he, if_pos ht, HB.out, if_pos hf, if_true])) HR.out
    have hsf : PSm X1_9 bp bs s _ := ⟨Hpbs.out, Hpbp.out, HNE.out, HP1.out, HS1.out⟩
    have hff := farc_mk HF.out HVW.out B0.out
    subst hx
    go_wp2_with fail
    refine bodyPost_ret (v := .tuple #[.agg #[.int .i64 (col : Int), .int .i64 (a.val : Int), .int .i64 (b.val : Int)], .int .i64 0]) ?_ rfl ⟨rfl, hsf, hff⟩
    exact results_row_tmp rfl _ _ w.heap.size 46 _ (0, 0) _ _ rfl rfl Fx0.out Tryd.underlying46 rfl (by kernel_rfl)
   ·go_upto_region 8 with fail
    refine wp_region_lit ?_
    refine zr (.int .i64 (b.err : Int)) W1_6 rfl ?_
    simp only [Act.put, zA]
    refine zr (.bool true) W1_6 (xo_neqT .i64 ((b.err : Nat) : Int) 0 (by omega) rfl rfl rfl) ?_
    simp only [Act.put, zA]
    refine wpList_nil ?_
    go_upto_region 9 with fail
    refine wp_region_lit ?_
    refine zr (.agg #[.int .i64 0, .int .i64 0, .int .i64 0]) W1_6 (by unfold execOp; go_simp <;> rfl) ?_
    simp only [Act.put, zA]
    refine zr (.int .i64 (b.err : Int)) W1_6 rfl ?_
    simp only [Act.put, zA]
    refine wpList_storeW w.heap.size #[.int .i64 0, .int .i64 0, .int .i64 0] #[.int .i64 0, .int .i64 0, .int .i64 0] 46 (by kernel_rfl) Fx0.out (xo_storeW w.heap.size #[.int .i64 0, .int .i64 0, .int .i64 0] #[.int .i64 0, .int .i64 0, .int .i64 0] Fx0.out (by kernel_rfl) rfl (by simp [Value.oneCell']) rfl rfl rfl) ?_
    intro X1_9 h1 hfar hbel hsz
    have YHF : FarH bp bs w X1_9 := FarH.store HF.out (.inr (.inr Gb0.out)) hsz hfar
    have YHG : Gc X1_9 := rng_store HG.out Nz0.out hfar
    have YHpbp : X1_9.heap[bp]? = some (.cells #[.func (.func 41) #[.pointer (some ⟨bs, 0, none⟩)] #[], .int .i64 (b.st.tok.cls : Int), .string (sB b.st.tok.tx), .int .i64 ((b.st.off : Nat) : Int)] 72 (0, 0)) := hfar _ _ Nxbp0.out Hpbp.out
    have YHpbs : X1_9.heap[bs]? = some (.cells #[.string (sB s), .int .i64 ((b.st.pos : Nat) : Int)] 66 (0, 0)) := hfar _ _ Nxbs0.out Hpbs.out
    have hbr := hbel _ _ Gv7.out B0.out
    clear B0
    have B0 := zh hbr
    clear hbr
    clear Hpbp
    have Hpbp : Hid (X1_9.heap[bp]? = some (.cells #[.func (.func 41) #[.pointer (some ⟨bs, 0, none⟩)] #[], .int .i64 (b.st.tok.cls : Int), .string (sB b.st.tok.tx), .int .i64 ((b.st.off : Nat) : Int)] 72 (0, 0))) := zh YHpbp
    clear YHpbp
    clear Hpbs
    have Hpbs : Hid (X1_9.heap[bs]? = some (.cells #[.string (sB s), .int .i64 ((b.st.pos : Nat) : Int)] 66 (0, 0))) := zh YHpbs
    clear YHpbs
    clear HF
    have HF := zh YHF
    clear YHF
    clear HG
    have HG := zh YHG
    clear YHG
    clear Fx0
    have Fx0 : Hid (X1_9.heap[w.heap.size]? = some (.cells #[.int .i64 0, .int .i64 0, .int .i64 0] 46 (0, 0))) := zh (h1)
    have HszX1_9 := zh hsz
    clear h1 hfar hbel hsz
    simp only [ptr, Act.put, zA]
    refine zr (.int .i64 (b.err : Int)) X1_9 rfl ?_
    simp only [Act.put, zA]
    refine wpList_nil ?_
    have hx : ⟨⟨0, 0, 0⟩, b.err, b.st⟩ = r := Eq.trans (Eq.symm (by simp only [Qu.rangeN, Qu.expN, Qu.accS, HA.out, if_pos he, if_pos ht, HB.out, if_neg hf, if_true])) HR.out
    have hsf : PSm X1_9 bp bs s _ := ⟨Hpbs.out, Hpbp.out, HNE.out, HP1.out, HS1.out⟩
    have hff := farc_mk HF.out HVW.out B0.out
    subst hx
    go_wp2_with fail
    refine bodyPost_ret (v := .tuple #[.agg #[.int .i64 0, .int .i64 0, .int .i64 0], .int .i64 (b.err : Int)]) ?_ rfl ⟨rfl, hsf, hff⟩
    exact results_row_tmp rfl _ _ w.heap.size 46 _ (0, 0) _ _ rfl rfl Fx0.out Tryd.underlying46 rfl (by kernel_rfl)
  ·have hrn := Qu.refN_ne a.st
   go_upto_region 4 with fail
   refine wp_region_lit ?_
   refine zr (.pointer (some ⟨bp, 0, none⟩)) W2_0 rfl ?_
   simp only [Act.put, zA]
   refine zr (.agg #[.int .i64 4, .string ByteArray.empty]) W2_0 (by unfold execOp; go_simp <;> rfl) ?_
   simp only [Act.put, zA]
   refine wpList_call (by kernel_rfl) 61 Tryd.func61 (by kernel_rfl) (by kernel_rfl) _ _ #[.pointer (some ⟨bp, 0, none⟩), .agg #[.int .i64 4, .string ByteArray.empty]] rfl (by kernel_rfl) ?_
   refine (exp_no s HS4.out bp bs a.st HOA.out W2_0 ⟨Hpbs.out, Hpbp.out, HNE.out, HP1.out, HS1.out⟩ ⟨4, []⟩ ht).mono ?_
   rintro e W1_3 ⟨rfl, hps, hfc⟩
   have YFx0 : W1_3.heap[w.heap.size]? = some (.cells #[.int .i64 0, .int .i64 0, .int .i64 0] 46 (0, 0)) := hfc.far _ _ (Ne.symm Nxbp0.out) (Ne.symm Nxbs0.out) Fx0.out
   have YHF : FarH bp bs w W1_3 := FarH.farC HF.out hfc
   have YHG : Gc W1_3 := rng_farC HG.out (by have := HP1.out; omega) (by have := HS1.out; omega) hfc.toFarH
   have hb := farc_bel hV0 B0.out hfc
   have hbr := hb
   clear B0
   have B0 := zh hbr
   clear hbr
   clear hb
   clear Fx0
   have Fx0 : Hid (W1_3.heap[w.heap.size]? = some (.cells #[.int .i64 0, .int .i64 0, .int .i64 0] 46 (0, 0))) := zh YFx0
   clear YFx0
   clear HF
   have HF : Hid (FarH bp bs w W1_3) := zh YHF
   clear YHF
   clear HG
   have HG : Hid (Gc W1_3) := zh YHG
   clear YHG
   have Gv4 : Hid (V.heap.size ≤ w.heap.size) := zh (by omega)
   have Lt5 : Hid (w.heap.size < W1_3.heap.size) := zh (xp_lt Fx0.out)
   clear Hpbs
   have Hpbs : Hid (W1_3.heap[bs]? = some (.cells #[.string (sB s), .int .i64 ((a.st.pos : Nat) : Int)] 66 (0, 0))) := zh (hps.sc)
   clear Hpbp
   have Hpbp : Hid (W1_3.heap[bp]? = some (.cells #[.func (.func 41) #[.pointer (some ⟨bs, 0, none⟩)] #[], .int .i64 (a.st.tok.cls : Int), .string (sB a.st.tok.tx), .int .i64 ((a.st.off : Nat) : Int)] 72 (0, 0))) := zh (hps.pr)
   clear hfc hps 
   refine ⟨_, rfl, ?_⟩
   simp only [Act.put, zA]
   refine zr (.int .i64 (Qu.refN a.st : Int)) W1_3 rfl ?_
   simp only [Act.put, zA]
   refine wpList_nil ?_
   go_upto_region 5 with fail
   refine wp_region_lit ?_
   refine zr (.int .i64 (Qu.refN a.st : Int)) W1_3 rfl ?_
   simp only [Act.put, zA]
   refine zr (.bool true) W1_3 (xo_neqT .i64 ((Qu.refN a.st : Nat) : Int) 0 (by omega) rfl rfl rfl) ?_
   simp only [Act.put, zA]
   refine wpList_nil ?_
   go_upto_region 6 with fail
   refine wp_region_lit ?_
   refine zr (.agg #[.int .i64 0, .int .i64 0, .int .i64 0]) W1_3 (by unfold execOp; go_simp <;> rfl) ?_
   simp only [Act.put, zA]
   refine zr (.int .i64 (Qu.refN a.st : Int)) W1_3 rfl ?_
   simp only [Act.put, zA]
   refine wpList_storeW w.heap.size #[.int .i64 0, .int .i64 0, .int .i64 0] #[.int .i64 0, .int .i64 0, .int .i64 0] 46 (by kernel_rfl) Fx0.out (xo_storeW w.heap.size #[.int .i64 0, .int .i64 0, .int .i64 0] #[.int .i64 0, .int .i64 0, .int .i64 0] Fx0.out (by kernel_rfl) rfl (by simp [Value.oneCell']) rfl rfl rfl) ?_
   intro X1_6 h1 hfar hbel hsz
   have YHF : FarH bp bs w X1_6 := FarH.store HF.out (.inr (.inr Gb0.out)) hsz hfar
   have YHG : Gc X1_6 := rng_store HG.out Nz0.out hfar
   have YHpbp : X1_6.heap[bp]? = some (.cells #[.func (.func 41) #[.pointer (some ⟨bs, 0, none⟩)] #[], .int .i64 (a.st.tok.cls : Int), .string (sB a.st.tok.tx), .int .i64 ((a.st.off : Nat) : Int)] 72 (0, 0)) := hfar _ _ Nxbp0.out Hpbp.out
   have YHpbs : X1_6.heap[bs]? = some (.cells #[.string (sB s), .int .i64 ((a.st.pos : Nat) : Int)] 66 (0, 0)) := hfar _ _ Nxbs0.out Hpbs.out
   have hbr := hbel _ _ Gv4.out B0.out
   clear B0
   have B0 := zh hbr
   clear hbr
   clear Hpbp
   have Hpbp : Hid (X1_6.heap[bp]? = some (.cells #[.func (.func 41) #[.pointer (some ⟨bs, 0, none⟩)] #[], .int .i64 (a.st.tok.cls : Int), .string (sB a.st.tok.tx), .int .i64 ((a.st.off : Nat) : Int)] 72 (0, 0))) := zh YHpbp
   clear YHpbp
   clear Hpbs
   have Hpbs : Hid (X1_6.heap[bs]? = some (.cells #[.string (sB s), .int .i64 ((a.st.pos : Nat) : Int)] 66 (0, 0))) := zh YHpbs
   clear YHpbs
   clear HF
   have HF := zh YHF
   clear YHF
   clear HG
   have HG := zh YHG
   clear YHG
   clear Fx0
   have Fx0 : Hid (X1_6.heap[w.heap.size]? = some (.cells #[.int .i64 0, .int .i64 0, .int .i64 0] 46 (0, 0))) := zh (h1)
   have HszX1_6 := zh hsz
   clear h1 hfar hbel hsz
   simp only [ptr, Act.put, zA]
   refine zr (.int .i64 (Qu.refN a.st : Int)) X1_6 rfl ?_
   simp only [Act.put, zA]
   refine wpList_nil ?_
   have hx : ⟨⟨0, 0, 0⟩, Qu.refN a.st, a.st⟩ = r := Eq.trans (Eq.symm (by simp only [Qu.rangeN, Qu.expN, Qu.accS, HA.out, if_pos he, if_neg ht, if_neg hrn])) HR.out
   have hsf : PSm X1_6 bp bs s _ := ⟨Hpbs.out, Hpbp.out, HNE.out, HP1.out, HS1.out⟩
   have hff := farc_mk HF.out HVW.out B0.out
   subst hx
   go_wp2_with fail
   refine bodyPost_ret (v := .tuple #[.agg #[.int .i64 0, .int .i64 0, .int .i64 0], .int .i64 (Qu.refN a.st : Int)]) ?_ rfl ⟨rfl, hsf, hff⟩
   exact results_row_tmp rfl _ _ w.heap.size 46 _ (0, 0) _ _ rfl rfl Fx0.out Tryd.underlying46 rfl (by kernel_rfl)
 ·go_upto_region 2 with fail
  refine wp_region_lit ?_
  refine zr (.int .i64 (a.err : Int)) W2_0 rfl ?_
  simp only [Act.put, zA]
  refine zr (.bool true) W2_0 (xo_neqT .i64 ((a.err : Nat) : Int) 0 (by omega) rfl rfl rfl) ?_
  simp only [Act.put, zA]
  refine wpList_nil ?_
  go_upto_region 3 with fail
  refine wp_region_lit ?_
  refine zr (.agg #[.int .i64 0, .int .i64 0, .int .i64 0]) W2_0 (by unfold execOp; go_simp <;> rfl) ?_
  simp only [Act.put, zA]
  refine zr (.int .i64 (a.err : Int)) W2_0 rfl ?_
  simp only [Act.put, zA]
  refine wpList_storeW w.heap.size #[.int .i64 0, .int .i64 0, .int .i64 0] #[.int .i64 0, .int .i64 0, .int .i64 0] 46 (by kernel_rfl) Fx0.out (xo_storeW w.heap.size #[.int .i64 0, .int .i64 0, .int .i64 0] #[.int .i64 0, .int .i64 0, .int .i64 0] Fx0.out (by kernel_rfl) rfl (by simp [Value.oneCell']) rfl rfl rfl) ?_
  intro X1_3 h1 hfar hbel hsz
  have YHF : FarH bp bs w X1_3 := FarH.store HF.out (.inr (.inr Gb0.out)) hsz hfar
  have YHG : Gc X1_3 := rng_store HG.out Nz0.out hfar
  have YHpbp : X1_3.heap[bp]? = some (.cells #[.func (.func 41) #[.pointer (some ⟨bs, 0, none⟩)] #[], .int .i64 (a.st.tok.cls : Int), .string (sB a.st.tok.tx), .int .i64 ((a.st.off : Nat) : Int)] 72 (0, 0)) := hfar _ _ Nxbp0.out Hpbp.out
  have YHpbs : X1_3.heap[bs]? = some (.cells #[.string (sB s), .int .i64 ((a.st.pos : Nat) : Int)] 66 (0, 0)) := hfar _ _ Nxbs0.out Hpbs.out
  have hbr := hbel _ _ Gv1.out B0.out
  clear B0
  have B0 := zh hbr
  clear hbr
  clear Hpbp
  have Hpbp : Hid (X1_3.heap[bp]? = some (.cells #[.func (.func 41) #[.pointer (some ⟨bs, 0, none⟩)] #[], .int .i64 (a.st.tok.cls : Int), .string (sB a.st.tok.tx), .int .i64 ((a.st.off : Nat) : Int)] 72 (0, 0))) := zh YHpbp
  clear YHpbp
  clear Hpbs
  have Hpbs : Hid (X1_3.heap[bs]? = some (.cells #[.string (sB s), .int .i64 ((a.st.pos : Nat) : Int)] 66 (0, 0))) := zh YHpbs
  clear YHpbs
  clear HF
  have HF := zh YHF
  clear YHF
  clear HG
  have HG := zh YHG
  clear YHG
  clear Fx0
  have Fx0 : Hid (X1_3.heap[w.heap.size]? = some (.cells #[.int .i64 0, .int .i64 0, .int .i64 0] 46 (0, 0))) := zh (h1)
  have HszX1_3 := zh hsz
  clear h1 hfar hbel hsz
  simp only [ptr, Act.put, zA]
  refine zr (.int .i64 (a.err : Int)) X1_3 rfl ?_
  simp only [Act.put, zA]
  refine wpList_nil ?_
  have hx : ⟨⟨0, 0, 0⟩, a.err, a.st⟩ = r := Eq.trans (Eq.symm (by simp only [Qu.rangeN, HA.out, if_neg he])) HR.out
  have hsf : PSm X1_3 bp bs s _ := ⟨Hpbs.out, Hpbp.out, HNE.out, HP1.out, HS1.out⟩
  have hff := farc_mk HF.out HVW.out B0.out
  subst hx
  go_wp2_with fail
  refine bodyPost_ret (v := .tuple #[.agg #[.int .i64 0, .int .i64 0, .int .i64 0], .int .i64 (a.err : Int)]) ?_ rfl ⟨rfl, hsf, hff⟩
  exact results_row_tmp rfl _ _ w.heap.size 46 _ (0, 0) _ _ rfl rfl Fx0.out Tryd.underlying46 rfl (by kernel_rfl)
set_option maxRecDepth 100000 in
set_option maxHeartbeats 16000000 in
theorem condition_as (s : List UInt8) (hs4 : s.length ≤ 1000) (bp bs : Nat) (st : Qu.St) (hst : Qu.Ok s st) (w : World) (hP : PSm w bp bs s st) (hG : Gc w) (r : Qu.Rs Qu.Cd) (hr : Qu.condN s st = r) :
  Calls Tryd.prog 69 #[.pointer (some ⟨bp, 0, none⟩)] w fun e w' => e = .returned (.tuple #[.agg #[.int .i64 (r.val.col : Int), .int .i64 (r.val.lo : Int), .int .i64 (r.val.hi : Int)], .int .i64 (r.err : Int)]) ∧ PSm w' bp bs s r.st ∧ FarC bp bs w w' := by
 have HG := zh hG
 clear hG
 obtain ⟨V, hV0, hV⟩ := base_world w
 have B0 := zh hV
 have HVW := zh hV
 clear hV
 have HF := zh (FarH.refl bp bs w)
 have HS4 := zh hs4
 have HOK := zh hst
 have HNE := zh hP.ne
 have HP1 := zh hP.p1
 have HS1 := zh hP.s1
 have hne := hP.ne
 have Hpbp : Hid (w.heap[bp]? = some (.cells #[.func (.func 41) #[.pointer (some ⟨bs, 0, none⟩)] #[], .int .i64 (st.tok.cls : Int), .string (sB st.tok.tx), .int .i64 ((st.off : Nat) : Int)] 72 (0, 0))) := zh (hP.pr)
 have Gpbp : Hid (V.heap.size ≤ bp) := zh (by omega)
 have Lpbp : Hid (bp < w.heap.size) := zh (xp_lt Hpbp.out)
 have Hpbs : Hid (w.heap[bs]? = some (.cells #[.string (sB s), .int .i64 ((st.pos : Nat) : Int)] 66 (0, 0))) := zh (hP.sc)
 have Gpbs : Hid (V.heap.size ≤ bs) := zh (by omega)
 have Lpbs : Hid (bs < w.heap.size) := zh (xp_lt Hpbs.out)
 have Npbpbs : Hid (bp ≠ bs) := zh (by omega)
 clear hs4 hst hP hne
 go_enter Tryd.func69, Tryd.ntmps69
 go_upto_region 1 with fail
 refine wp_named1 (fun V2 hb g0 hlt => ?_)
 have B1 := zh hb
 have Fx0 : Hid (V2.heap[w.heap.size]? = some (.cells #[.int .i64 0, .int .i64 0, .int .i64 0] 46 (0, 0))) := zh (g0)
 have Gb0 : Hid (w.heap.size ≤ w.heap.size) := zh (by omega)
 have Lx0 : Hid (w.heap.size < V2.heap.size) := zh (xp_lt Fx0.out)
 have Nxbp0 : Hid (bp ≠ w.heap.size) := zh (by have := Lpbp.out; omega)
 have Nxbs0 : Hid (bs ≠ w.heap.size) := zh (by have := Lpbs.out; omega)
 have Nz0 : Hid (0 ≠ w.heap.size) := zh (by have := Lpbp.out; omega)
 clear hb g0 hlt
 have HR := zh hr
 clear hr
 obtain ⟨a, ha⟩ : ∃ a, Qu.colN s st = a := ⟨_, rfl⟩
 have HA := zh ha
 clear ha
 have HOA : Hid (Qu.Ok s a.st) := zh (by rw [← HA.out]; exact Qu.pickT_ok HOK.out)
 refine wp_region_lit ?_
 refine zr (.pointer (some ⟨bp, 0, none⟩)) V2 rfl ?_
 simp only [Act.put, zA]
 refine wpList_call (by kernel_rfl) 58 Tryd.func58 (by kernel_rfl) (by kernel_rfl) _ _ #[.pointer (some ⟨bp, 0, none⟩)] rfl (by kernel_rfl) ?_
 refine (column_as s HS4.out bp bs st HOK.out V2 ⟨(heap_keep Hpbs.out B1.out), (heap_keep Hpbp.out B1.out), HNE.out, HP1.out, HS1.out⟩ (HG.out.keep B1.out) a HA.out).mono ?_
 rintro e W2_0 ⟨rfl, hps, hfc⟩
 have YFx0 : W2_0.heap[w.heap.size]? = some (.cells #[.int .i64 0, .int .i64 0, .int .i64 0] 46 (0, 0)) := hfc.far _ _ (Ne.symm Nxbp0.out) (Ne.symm Nxbs0.out) Fx0.out
 have YHF : FarH bp bs w W2_0 := FarH.farC (HF.out.keep B1.out) hfc
 have YHG : Gc W2_0 := rng_farC (HG.out.keep B1.out) (by have := HP1.out; omega) (by have := HS1.out; omega) hfc.toFarH
 have C0_2 := zb B0 B1
 have hb := farc_bel hV0 C0_2.out hfc
 have hbr := hb
 clear B0
 have B0 := zh hbr
 clear hbr
 clear hb
 clear Fx0
 have Fx0 : Hid (W2_0.heap[w.heap.size]? = some (.cells #[.int .i64 0, .int .i64 0, .int .i64 0] 46 (0, 0))) := zh YFx0
 clear YFx0
 clear HF
 have HF : Hid (FarH bp bs w W2_0) := zh YHF
 clear YHF
 clear HG
 have HG : Hid (Gc W2_0) := zh YHG
 clear YHG
 have Gv1 : Hid (V.heap.size ≤ w.heap.size) := zh (by omega)
 have Lt2 : Hid (w.heap.size < W2_0.heap.size) := zh (xp_lt Fx0.out)
 clear Hpbs
 have Hpbs : Hid (W2_0.heap[bs]? = some (.cells #[.string (sB s), .int .i64 ((a.st.pos : Nat) : Int)] 66 (0, 0))) := zh (hps.sc)
 clear Hpbp
 have Hpbp : Hid (W2_0.heap[bp]? = some (.cells #[.func (.func 41) #[.pointer (some ⟨bs, 0, none⟩)] #[], .int .i64 (a.st.tok.cls : Int), .string (sB a.st.tok.tx), .int .i64 ((a.st.off : Nat) : Int)] 72 (0, 0))) := zh (hps.pr)
 clear hfc hps 
 refine ⟨_, rfl, ?_⟩
 simp only [Act.put, zA]
 refine zr (.tuple #[.int .i64 (a.val : Int), .int .i64 (a.err : Int)]) W2_0 rfl ?_
 simp only [Act.put, zA]
 refine zr (.int .i64 (a.val : Int)) W2_0 rfl ?_
 simp only [Act.put, zA]
 refine zr (.int .i64 (a.err : Int)) W2_0 rfl ?_
 simp only [Act.put, zA]
 refine zr (.int .i64 (a.val : Int)) W2_0 rfl ?_
 simp only [Act.put, zA]
 refine zr (.int .i64 (a.err : Int)) W2_0 rfl ?_
 simp only [Act.put, zA]
 refine wpList_nil ?_
 by_cases he : a.err = 0
 ·go_upto_region 2 with fail
  refine wp_region_lit ?_
  refine zr (.int .i64 (a.err : Int)) W2_0 rfl ?_
  simp only [Act.put, zA]
  refine zr (.bool false) W2_0 (xo_neqF .i64 ((a.err : Nat) : Int) 0 (by omega) rfl rfl rfl) ?_
  simp only [Act.put, zA]
  refine wpList_nil ?_
  have hlt : a.val < 4 := by have h0 := he; rw [← HA.out] at h0 ⊢; have := (Qu.pickT_lt0 h0).2; exact this
  have HLT := zh hlt
  clear hlt
  by_cases ht : a.st.tok = ⟨5, []⟩
  ·go_upto_region 4 with fail
   refine wp_region_lit ?_
   refine zr (.pointer (some ⟨bp, 0, none⟩)) W2_0 rfl ?_
   simp only [Act.put, zA]
   refine zr (.agg #[.int .i64 5, .string ByteArray.empty]) W2_0 (by unfold execOp; go_simp <;> rfl) ?_
   simp only [Act.put, zA]
   refine wpList_call (by kernel_rfl) 65 Tryd.func65 (by kernel_rfl) (by kernel_rfl) _ _ #[.pointer (some ⟨bp, 0, none⟩), .agg #[.int .i64 5, .string ByteArray.empty]] rfl (by kernel_rfl) ?_
   refine (acc_yes s HS4.out bp bs a.st HOA.out W2_0 ⟨Hpbs.out, Hpbp.out, HNE.out, HP1.out, HS1.out⟩ ⟨5, []⟩ ht).mono ?_
   rintro e W1_3 ⟨rfl, hps, hfc⟩
   have YFx0 : W1_3.heap[w.heap.size]? = some (.cells #[.int .i64 0, .int .i64 0, .int .i64 0] 46 (0, 0)) := hfc.far _ _ (Ne.symm Nxbp0.out) (Ne.symm Nxbs0.out) Fx0.out
   have YHF : FarH bp bs w W1_3 := FarH.farC HF.out hfc
   have YHG : Gc W1_3 := rng_farC HG.out (by have := HP1.out; omega) (by have := HS1.out; omega) hfc.toFarH
   have hb := farc_bel hV0 B0.out hfc
   have hbr := hb
   clear B0
   have B0 := zh hbr
   clear hbr
   clear hb
   clear Fx0
   have Fx0 : Hid (W1_3.heap[w.heap.size]? = some (.cells #[.int .i64 0, .int .i64 0, .int .i64 0] 46 (0, 0))) := zh YFx0
   clear YFx0
   clear HF
   have HF : Hid (FarH bp bs w W1_3) := zh YHF
   clear YHF
   clear HG
   have HG : Hid (Gc W1_3) := zh YHG
   clear YHG
   have Gv4 : Hid (V.heap.size ≤ w.heap.size) := zh (by omega)
   have Lt5 : Hid (w.heap.size < W1_3.heap.size) := zh (xp_lt Fx0.out)
   clear Hpbs
   have Hpbs : Hid (W1_3.heap[bs]? = some (.cells #[.string (sB s), .int .i64 (((Qu.adv s a.st).pos : Nat) : Int)] 66 (0, 0))) := zh (hps.sc)
   clear Hpbp
   have Hpbp : Hid (W1_3.heap[bp]? = some (.cells #[.func (.func 41) #[.pointer (some ⟨bs, 0, none⟩)] #[], .int .i64 ((Qu.adv s a.st).tok.cls : Int), .string (sB ((Qu.adv s a.st).tok.tx)), .int .i64 (((Qu.adv s a.st).off : Nat) : Int)] 72 (0, 0))) := zh (hps.pr)
   clear hfc hps 
   refine ⟨_, rfl, ?_⟩
   simp only [Act.put, zA]
   refine wpList_nil ?_
   obtain ⟨c, hc⟩ : ∃ c, Qu.singleN s a.val (Qu.adv s a.st) = c := ⟨_, rfl⟩
   have HC := zh hc
   clear hc
   go_upto_region 5 with fail
   refine wp_region_lit ?_
   refine zr (.pointer (some ⟨bp, 0, none⟩)) W1_3 rfl ?_
   simp only [Act.put, zA]
   refine zr (.int .i64 (a.val : Int)) W1_3 rfl ?_
   simp only [Act.put, zA]
   refine wpList_call (by kernel_rfl) 70 Tryd.func70 (by kernel_rfl) (by kernel_rfl) _ _ #[.pointer (some ⟨bp, 0, none⟩), .int .i64 (a.val : Int)] rfl (by kernel_rfl) ?_
   refine (single_as s HS4.out bp bs (Qu.adv s a.st) (Qu.adv_ok HOA.out) W1_3 ⟨Hpbs.out, Hpbp.out, HNE.out, HP1.out, HS1.out⟩ HG.out a.val HLT.out c HC.out).mono ?_
   rintro e W1_6 ⟨rfl, hps, hfc⟩
   have YFx0 : W1_6.heap[w.heap.size]? = some (.cells #[.int .i64 0, .int .i64 0, .int .i64 0] 46 (0, 0)) := hfc.far _ _ (Ne.symm Nxbp0.out) (Ne.symm Nxbs0.out) Fx0.out
   have YHF : FarH bp bs w W1_6 := FarH.farC HF.out hfc
   have YHG : Gc W1_6 := rng_farC HG.out (by have := HP1.out; omega) (by have := HS1.out; omega) hfc.toFarH
   have hb := farc_bel hV0 B0.out hfc
   have hbr := hb
   clear B0
   have B0 := zh hbr
   clear hbr
   clear hb
   clear Fx0
   have Fx0 : Hid (W1_6.heap[w.heap.size]? = some (.cells #[.int .i64 0, .int .i64 0, .int .i64 0] 46 (0, 0))) := zh YFx0
   clear YFx0
   clear HF
   have HF : Hid (FarH bp bs w W1_6) := zh YHF
   clear YHF
   clear HG
   have HG : Hid (Gc W1_6) := zh YHG
   clear YHG
   have Gv7 : Hid (V.heap.size ≤ w.heap.size) := zh (by omega)
   have Lt8 : Hid (w.heap.size < W1_6.heap.size) := zh (xp_lt Fx0.out)
   clear Hpbs
   have Hpbs : Hid (W1_6.heap[bs]? = some (.cells #[.string (sB s), .int .i64 ((c.st.pos : Nat) : Int)] 66 (0, 0))) := zh (hps.sc)
   clear Hpbp
   have Hpbp : Hid (W1_6.heap[bp]? = some (.cells #[.func (.func 41) #[.pointer (some ⟨bs, 0, none⟩)] #[], .int .i64 (c.st.tok.cls : Int), .string (sB c.st.tok.tx), .int .i64 ((c.st.off : Nat) : Int)] 72 (0, 0))) := zh (hps.pr)
   clear hfc hps 
   refine ⟨_, rfl, ?_⟩
   simp only [Act.put, zA]
   refine zr (.agg #[.int .i64 (c.val.col : Int), .int .i64 (c.val.lo : Int), .int .i64 (c.val.hi : Int)]) W1_6 rfl ?_
   simp only [Act.put, zA]
   refine zr (.int .i64 (c.err : Int)) W1_6 rfl ?_
   simp only [Act.put, zA]
   refine wpList_storeW w.heap.size #[.int .i64 0, .int .i64 0, .int .i64 0] #[.int .i64 (c.val.col : Int), .int .i64 (c.val.lo : Int), .int .i64 (c.val.hi : Int)] 46 (by kernel_rfl) Fx0.out (xo_storeW w.heap.size #[.int .i64 0, .int .i64 0, .int .i64 0] #[.int .i64 (c.val.col : Int), .int .i64 (c.val.lo : Int), .int .i64 (c.val.hi : Int)] Fx0.out (by kernel_rfl) rfl (by simp [Value.oneCell']) rfl rfl rfl) ?_
   intro X1_9 h1 hfar hbel hsz
   have YHF : FarH bp bs w X1_9 := FarH.store HF.out (.inr (.inr Gb0.out)) hsz hfar
   have YHG : Gc X1_9 := rng_store HG.out Nz0.out hfar
   have YHpbp : X1_9.heap[bp]? = some (.cells #[.func (.func 41) #[.pointer (some ⟨bs, 0, none⟩)] #[], .int .i64 (c.st.tok.cls : Int), .string (sB c.st.tok.tx), .int .i64 ((c.st.off : Nat) : Int)] 72 (0, 0)) := hfar _ _ Nxbp0.out Hpbp.out
   have YHpbs : X1_9.heap[bs]? = some (.cells #[.string (sB s), .int .i64 ((c.st.pos : Nat) : Int)] 66 (0, 0)) := hfar _ _ Nxbs0.out Hpbs.out
   have hbr := hbel _ _ Gv7.out B0.out
   clear B0
   have B0 := zh hbr
   clear hbr
   clear Hpbp
   have Hpbp : Hid (X1_9.heap[bp]? = some (.cells #[.func (.func 41) #[.pointer (some ⟨bs, 0, none⟩)] #[], .int .i64 (c.st.tok.cls : Int), .string (sB c.st.tok.tx), .int .i64 ((c.st.off : Nat) : Int)] 72 (0, 0))) := zh YHpbp
   clear YHpbp
   clear Hpbs
   have Hpbs : Hid (X1_9.heap[bs]? = some (.cells #[.string (sB s), .int .i64 ((c.st.pos : Nat) : Int)] 66 (0, 0))) := zh YHpbs
   clear YHpbs
   clear HF
   have HF := zh YHF
   clear YHF
   clear HG
   have HG := zh YHG
   clear YHG
   clear Fx0
   have Fx0 : Hid (X1_9.heap[w.heap.size]? = some (.cells #[.int .i64 (c.val.col : Int), .int .i64 (c.val.lo : Int), .int .i64 (c.val.hi : Int)] 46 (0, 0))) := zh (h1)
   have HszX1_9 := zh hsz
   clear h1 hfar hbel hsz
   simp only [ptr, Act.put, zA]
   refine zr (.int .i64 (c.err : Int)) X1_9 rfl ?_
   simp only [Act.put, zA]
   refine wpList_nil ?_
   have hx : c = r := Eq.trans (Eq.symm (by simp only [Qu.condN, HA.out, if_pos he, if_pos ht, HC.out])) HR.out
   have hsf : PSm X1_9 bp bs s _ := ⟨Hpbs.out, Hpbp.out, HNE.out, HP1.out, HS1.out⟩
   have hff := farc_mk HF.out HVW.out B0.out
   subst hx
   go_wp2_with fail
   refine bodyPost_ret (v := .tuple #[.agg #[.int .i64 (c.val.col : Int), .int .i64 (c.val.lo : Int), .int .i64 (c.val.hi : Int)], .int .i64 (c.err : Int)]) ?_ rfl ⟨rfl, hsf, hff⟩
   exact results_row_tmp rfl _ _ w.heap.size 46 _ (0, 0) _ _ rfl rfl Fx0.out Tryd.underlying46 rfl (by kernel_rfl)
  ·go_upto_region 4 with fail
   refine wp_region_lit ?_
   refine zr (.pointer (some ⟨bp, 0, none⟩)) W2_0 rfl ?_
   simp only [Act.put, zA]
   refine zr (.agg #[.int .i64 5, .string ByteArray.empty]) W2_0 (by unfold execOp; go_simp <;> rfl) ?_
   simp only [Act.put, zA]
   refine wpList_call (by kernel_rfl) 65 Tryd.func65 (by kernel_rfl) (by kernel_rfl) _ _ #[.pointer (some ⟨bp, 0, none⟩), .agg #[.int .i64 5, .string ByteArray.empty]] rfl (by kernel_rfl) ?_
   refine (acc_no s HS4.out bp bs a.st HOA.out W2_0 ⟨Hpbs.out, Hpbp.out, HNE.out, HP1.out, HS1.out⟩ ⟨5, []⟩ ht).mono ?_
   rintro e W1_3 ⟨rfl, hps, hfc⟩
   have YFx0 : W1_3.heap[w.heap.size]? = some (.cells #[.int .i64 0, .int .i64 0, .int .i64 0] 46 (0, 0)) := hfc.far _ _ (Ne.symm Nxbp0.out) (Ne.symm Nxbs0.out) Fx0.out
   have YHF : FarH bp bs w W1_3 := FarH.farC HF.out hfc
   have YHG : Gc W1_3 := rng_farC HG.out (by have := HP1.out; omega) (by have := HS1.out; omega) hfc.toFarH
   have hb := farc_bel hV0 B0.out hfc
   have hbr := hb
   clear B0
   have B0 := zh hbr
   clear hbr
   clear hb
   clear Fx0
   have Fx0 : Hid (W1_3.heap[w.heap.size]? = some (.cells #[.int .i64 0, .int .i64 0, .int .i64 0] 46 (0, 0))) := zh YFx0
   clear YFx0
   clear HF
   have HF : Hid (FarH bp bs w W1_3) := zh YHF
   clear YHF
   clear HG
   have HG : Hid (Gc W1_3) := zh YHG
   clear YHG
   have Gv4 : Hid (V.heap.size ≤ w.heap.size) := zh (by omega)
   have Lt5 : Hid (w.heap.size < W1_3.heap.size) := zh (xp_lt Fx0.out)
   clear Hpbs
   have Hpbs : Hid (W1_3.heap[bs]? = some (.cells #[.string (sB s), .int .i64 ((a.st.pos : Nat) : Int)] 66 (0, 0))) := zh (hps.sc)
   clear Hpbp
   have Hpbp : Hid (W1_3.heap[bp]? = some (.cells #[.func (.func 41) #[.pointer (some ⟨bs, 0, none⟩)] #[], .int .i64 (a.st.tok.cls : Int), .string (sB a.st.tok.tx), .int .i64 ((a.st.off : Nat) : Int)] 72 (0, 0))) := zh (hps.pr)
   clear hfc hps 
   refine ⟨_, rfl, ?_⟩
   simp only [Act.put, zA]
   refine wpList_nil ?_
   by_cases hu : a.st.tok = ⟨2, [105, 110]⟩
   ·go_upto_region 6 with fail
    refine wp_region_lit ?_
    refine zr (.pointer (some ⟨bp, 0, none⟩)) W1_3 rfl ?_
    simp only [Act.put, zA]
    refine zr (.agg #[.int .i64 2, .string (sB ([105, 110]))]) W1_3 (by unfold execOp; go_simp <;> rfl) ?_
    simp only [Act.put, zA]
    refine wpList_call (by kernel_rfl) 61 Tryd.func61 (by kernel_rfl) (by kernel_rfl) _ _ #[.pointer (some ⟨bp, 0, none⟩), .agg #[.int .i64 2, .string (sB ([105, 110]))]] rfl (by kernel_rfl) ?_
    refine (exp_yes s HS4.out bp bs a.st HOA.out W1_3 ⟨Hpbs.out, Hpbp.out, HNE.out, HP1.out, HS1.out⟩ ⟨2, [105, 110]⟩ hu).mono ?_
    rintro e W1_6 ⟨rfl, hps, hfc⟩
    have YFx0 : W1_6.heap[w.heap.size]? = some (.cells #[.int .i64 0, .int .i64 0, .int .i64 0] 46 (0, 0)) := hfc.far _ _ (Ne.symm Nxbp0.out) (Ne.symm Nxbs0.out) Fx0.out
    have YHF : FarH bp bs w W1_6 := FarH.farC HF.out hfc
    have YHG : Gc W1_6 := rng_farC HG.out (by have := HP1.out; omega) (by have := HS1.out; omega) hfc.toFarH
    have hb := farc_bel hV0 B0.out hfc
    have hbr := hb
    clear B0
    have B0 := zh hbr
    clear hbr
    clear hb
    clear Fx0
    have Fx0 : Hid (W1_6.heap[w.heap.size]? = some (.cells #[.int .i64 0, .int .i64 0, .int .i64 0] 46 (0, 0))) := zh YFx0
    clear YFx0
    clear HF
    have HF : Hid (FarH bp bs w W1_6) := zh YHF
    clear YHF
    clear HG
    have HG : Hid (Gc W1_6) := zh YHG
    clear YHG
    have Gv7 : Hid (V.heap.size ≤ w.heap.size) := zh (by omega)
    have Lt8 : Hid (w.heap.size < W1_6.heap.size) := zh (xp_lt Fx0.out)
    clear Hpbs
    have Hpbs : Hid (W1_6.heap[bs]? = some (.cells #[.string (sB s), .int .i64 (((Qu.adv s a.st).pos : Nat) : Int)] 66 (0, 0))) := zh (hps.sc)
    clear Hpbp
    have Hpbp : Hid (W1_6.heap[bp]? = some (.cells #[.func (.func 41) #[.pointer (some ⟨bs, 0, none⟩)] #[], .int .i64 ((Qu.adv s a.st).tok.cls : Int), .string (sB ((Qu.adv s a.st).tok.tx)), .int .i64 (((Qu.adv s a.st).off : Nat) : Int)] 72 (0, 0))) := zh (hps.pr)
    clear hfc hps 
    refine ⟨_, rfl, ?_⟩
    simp only [Act.put, zA]
    refine zr (.int .i64 0) W1_6 rfl ?_
    simp only [Act.put, zA]
    refine wpList_nil ?_
    go_upto_region 7 with fail
    refine wp_region_lit ?_
    refine zr (.int .i64 0) W1_6 rfl ?_
    simp only [Act.put, zA]
    refine zr (.bool false) W1_6 (xo_neqF .i64 0 0 (by omega) rfl rfl rfl) ?_
    simp only [Act.put, zA]
    refine wpList_nil ?_
    obtain ⟨c, hc⟩ : ∃ c, Qu.rangeN s a.val (Qu.adv s a.st) = c := ⟨_, rfl⟩
    have HC := zh hc
    clear hc
    go_upto_region 9 with fail
    refine wp_region_lit ?_
    refine zr (.pointer (some ⟨bp, 0, none⟩)) W1_6 rfl ?_
    simp only [Act.put, zA]
    refine zr (.int .i64 (a.val : Int)) W1_6 rfl ?_
    simp only [Act.put, zA]
    refine wpList_call (by kernel_rfl) 71 Tryd.func71 (by kernel_rfl) (by kernel_rfl) _ _ #[.pointer (some ⟨bp, 0, none⟩), .int .i64 (a.val : Int)] rfl (by kernel_rfl) ?_
    refine (interval_as s HS4.out bp bs (Qu.adv s a.st) (Qu.adv_ok HOA.out) W1_6 ⟨Hpbs.out, Hpbp.out, HNE.out, HP1.out, HS1.out⟩ HG.out a.val HLT.out c HC.out).mono ?_
    rintro e W1_9 ⟨rfl, hps, hfc⟩
    have YFx0 : W1_9.heap[w.heap.size]? = some (.cells #[.int .i64 0, .int .i64 0, .int .i64 0] 46 (0, 0)) := hfc.far _ _ (Ne.symm Nxbp0.out) (Ne.symm Nxbs0.out) Fx0.out
    have YHF : FarH bp bs w W1_9 := FarH.farC HF.out hfc
    have YHG : Gc W1_9 := rng_farC HG.out (by have := HP1.out; omega) (by have := HS1.out; omega) hfc.toFarH
    have hb := farc_bel hV0 B0.out hfc
    have hbr := hb
    clear B0
    have B0 := zh hbr
    clear hbr
    clear hb
    clear Fx0
    have Fx0 : Hid (W1_9.heap[w.heap.size]? = some (.cells #[.int .i64 0, .int .i64 0, .int .i64 0] 46 (0, 0))) := zh YFx0
    clear YFx0
    clear HF
    have HF : Hid (FarH bp bs w W1_9) := zh YHF
    clear YHF
    clear HG
    have HG : Hid (Gc W1_9) := zh YHG
    clear YHG
    have Gv10 : Hid (V.heap.size ≤ w.heap.size) := zh (by omega)
    have Lt11 : Hid (w.heap.size < W1_9.heap.size) := zh (xp_lt Fx0.out)
    clear Hpbs
    have Hpbs : Hid (W1_9.heap[bs]? = some (.cells #[.string (sB s), .int .i64 ((c.st.pos : Nat) : Int)] 66 (0, 0))) := zh (hps.sc)
    clear Hpbp
    have Hpbp : Hid (W1_9.heap[bp]? = some (.cells #[.func (.func 41) #[.pointer (some ⟨bs, 0, none⟩)] #[], .int .i64 (c.st.tok.cls : Int), .string (sB c.st.tok.tx), .int .i64 ((c.st.off : Nat) : Int)] 72 (0, 0))) := zh (hps.pr)
    clear hfc hps 
    refine ⟨_, rfl, ?_⟩
    simp only [Act.put, zA]
    refine zr (.agg #[.int .i64 (c.val.col : Int), .int .i64 (c.val.lo : Int), .int .i64 (c.val.hi : Int)]) W1_9 rfl ?_
    simp only [Act.put, zA]
    refine zr (.int .i64 (c.err : Int)) W1_9 rfl ?_
    simp only [Act.put, zA]
    refine wpList_storeW w.heap.size #[.int .i64 0, .int .i64 0, .int .i64 0] #[.int .i64 (c.val.col : Int), .int .i64 (c.val.lo : Int), .int .i64 (c.val.hi : Int)] 46 (by kernel_rfl) Fx0.out (xo_storeW w.heap.size #[.int .i64 0, .int .i64 0, .int .i64 0] #[.int .i64 (c.val.col : Int), .int .i64 (c.val.lo : Int), .int .i64 (c.val.hi : Int)] Fx0.out (by kernel_rfl) rfl (by simp [Value.oneCell']) rfl rfl rfl) ?_
    intro X1_12 h1 hfar hbel hsz
    have YHF : FarH bp bs w X1_12 := FarH.store HF.out (.inr (.inr Gb0.out)) hsz hfar
    have YHG : Gc X1_12 := rng_store HG.out Nz0.out hfar
    have YHpbp : X1_12.heap[bp]? = some (.cells #[.func (.func 41) #[.pointer (some ⟨bs, 0, none⟩)] #[], .int .i64 (c.st.tok.cls : Int), .string (sB c.st.tok.tx), .int .i64 ((c.st.off : Nat) : Int)] 72 (0, 0)) := hfar _ _ Nxbp0.out Hpbp.out
    have YHpbs : X1_12.heap[bs]? = some (.cells #[.string (sB s), .int .i64 ((c.st.pos : Nat) : Int)] 66 (0, 0)) := hfar _ _ Nxbs0.out Hpbs.out
    have hbr := hbel _ _ Gv10.out B0.out
    clear B0
    have B0 := zh hbr
    clear hbr
    clear Hpbp
    have Hpbp : Hid (X1_12.heap[bp]? = some (.cells #[.func (.func 41) #[.pointer (some ⟨bs, 0, none⟩)] #[], .int .i64 (c.st.tok.cls : Int), .string (sB c.st.tok.tx), .int .i64 ((c.st.off : Nat) : Int)] 72 (0, 0))) := zh YHpbp
    clear YHpbp
    clear Hpbs
    have Hpbs : Hid (X1_12.heap[bs]? = some (.cells #[.string (sB s), .int .i64 ((c.st.pos : Nat) : Int)] 66 (0, 0))) := zh YHpbs
    clear YHpbs
    clear HF
    have HF := zh YHF
    clear YHF
    clear HG
    have HG := zh YHG
    clear YHG
    clear Fx0
    have Fx0 : Hid (X1_12.heap[w.heap.size]? = some (.cells #[.int .i64 (c.val.col : Int), .int .i64 (c.val.lo : Int), .int .i64 (c.val.hi : Int)] 46 (0, 0))) := zh (h1)
    have HszX1_12 := zh hsz
    clear h1 hfar hbel hsz
    simp only [ptr, Act.put, zA]
    refine zr (.int .i64 (c.err : Int)) X1_12 rfl ?_
    simp only [Act.put, zA]
    refine wpList_nil ?_
    have hx : c = r := Eq.trans (Eq.symm (by simp only [Qu.condN, Qu.expN, Qu.accS, HA.out, if_pos he, if_neg ht, if_pos hu, HC.out, if_true])) HR.out
    have hsf : PSm X1_12 bp bs s _ := ⟨Hpbs.out, Hpbp.out, HNE.out, HP1.out, HS1.out⟩
    have hff := farc_mk HF.out HVW.out B0.out
    subst hx
    go_wp2_with fail
    refine bodyPost_ret (v := .tuple #[.agg #[.int .i64 (c.val.col : Int), .int .i64 (c.val.lo : Int), .int .i64 (c.val.hi : Int)], .int .i64 (c.err : Int)]) ?_ rfl ⟨rfl, hsf, hff⟩
    exact results_row_tmp rfl _ _ w.heap.size 46 _ (0, 0) _ _ rfl rfl Fx0.out Tryd.underlying46 rfl (by kernel_rfl)
   ·have hrn := Qu.refN_ne a.st
    go_upto_region 6 with fail
    refine wp_region_lit ?_
    refine zr (.pointer (some ⟨bp, 0, none⟩)) W1_3 rfl ?_
    simp only [Act.put, zA]
    refine zr (.agg #[.int .i64 2, .string (sB ([105, 110]))]) W1_3 (by unfold execOp; go_simp <;> rfl) ?_
    simp only [Act.put, zA]
    refine wpList_call (by kernel_rfl) 61 Tryd.func61 (by kernel_rfl) (by kernel_rfl) _ _ #[.pointer (some ⟨bp, 0, none⟩), .agg #[.int .i64 2, .string (sB ([105, 110]))]] rfl (by kernel_rfl) ?_
    refine (exp_no s HS4.out bp bs a.st HOA.out W1_3 ⟨Hpbs.out, Hpbp.out, HNE.out, HP1.out, HS1.out⟩ ⟨2, [105, 110]⟩ hu).mono ?_
    rintro e W1_6 ⟨rfl, hps, hfc⟩
    have YFx0 : W1_6.heap[w.heap.size]? = some (.cells #[.int .i64 0, .int .i64 0, .int .i64 0] 46 (0, 0)) := hfc.far _ _ (Ne.symm Nxbp0.out) (Ne.symm Nxbs0.out) Fx0.out
    have YHF : FarH bp bs w W1_6 := FarH.farC HF.out hfc
    have YHG : Gc W1_6 := rng_farC HG.out (by have := HP1.out; omega) (by have := HS1.out; omega) hfc.toFarH
    have hb := farc_bel hV0 B0.out hfc
    have hbr := hb
    clear B0
    have B0 := zh hbr
    clear hbr
    clear hb
    clear Fx0
    have Fx0 : Hid (W1_6.heap[w.heap.size]? = some (.cells #[.int .i64 0, .int .i64 0, .int .i64 0] 46 (0, 0))) := zh YFx0
    clear YFx0
    clear HF
    have HF : Hid (FarH bp bs w W1_6) := zh YHF
    clear YHF
    clear HG
    have HG : Hid (Gc W1_6) := zh YHG
    clear YHG
    have Gv7 : Hid (V.heap.size ≤ w.heap.size) := zh (by omega)
    have Lt8 : Hid (w.heap.size < W1_6.heap.size) := zh (xp_lt Fx0.out)
    clear Hpbs
    have Hpbs : Hid (W1_6.heap[bs]? = some (.cells #[.string (sB s), .int .i64 ((a.st.pos : Nat) : Int)] 66 (0, 0))) := zh (hps.sc)
    clear Hpbp
    have Hpbp : Hid (W1_6.heap[bp]? = some (.cells #[.func (.func 41) #[.pointer (some ⟨bs, 0, none⟩)] #[], .int .i64 (a.st.tok.cls : Int), .string (sB a.st.tok.tx), .int .i64 ((a.st.off : Nat) : Int)] 72 (0, 0))) := zh (hps.pr)
    clear hfc hps 
    refine ⟨_, rfl, ?_⟩
    simp only [Act.put, zA]
    refine zr (.int .i64 (Qu.refN a.st : Int)) W1_6 rfl ?_
    simp only [Act.put, zA]
    refine wpList_nil ?_
    go_upto_region 7 with fail
    refine wp_region_lit ?_
    refine zr (.int .i64 (Qu.refN a.st : Int)) W1_6 rfl ?_
    simp only [Act.put, zA]
    refine zr (.bool true) W1_6 (xo_neqT .i64 ((Qu.refN a.st : Nat) : Int) 0 (by omega) rfl rfl rfl) ?_
    simp only [Act.put, zA]
    refine wpList_nil ?_
    go_upto_region 8 with fail
    refine wp_region_lit ?_
    refine zr (.agg #[.int .i64 0, .int .i64 0, .int .i64 0]) W1_6 (by unfold execOp; go_simp <;> rfl) ?_
    simp only [Act.put, zA]
    refine zr (.int .i64 (Qu.refN a.st : Int)) W1_6 rfl ?_
    simp only [Act.put, zA]
    refine wpList_storeW w.heap.size #[.int .i64 0, .int .i64 0, .int .i64 0] #[.int .i64 0, .int .i64 0, .int .i64 0] 46 (by kernel_rfl) Fx0.out (xo_storeW w.heap.size #[.int .i64 0, .int .i64 0, .int .i64 0] #[.int .i64 0, .int .i64 0, .int .i64 0] Fx0.out (by kernel_rfl) rfl (by simp [Value.oneCell']) rfl rfl rfl) ?_
    intro X1_9 h1 hfar hbel hsz
    have YHF : FarH bp bs w X1_9 := FarH.store HF.out (.inr (.inr Gb0.out)) hsz hfar
    have YHG : Gc X1_9 := rng_store HG.out Nz0.out hfar
    have YHpbp : X1_9.heap[bp]? = some (.cells #[.func (.func 41) #[.pointer (some ⟨bs, 0, none⟩)] #[], .int .i64 (a.st.tok.cls : Int), .string (sB a.st.tok.tx), .int .i64 ((a.st.off : Nat) : Int)] 72 (0, 0)) := hfar _ _ Nxbp0.out Hpbp.out
    have YHpbs : X1_9.heap[bs]? = some (.cells #[.string (sB s), .int .i64 ((a.st.pos : Nat) : Int)] 66 (0, 0)) := hfar _ _ Nxbs0.out Hpbs.out
    have hbr := hbel _ _ Gv7.out B0.out
    clear B0
    have B0 := zh hbr
    clear hbr
    clear Hpbp
    have Hpbp : Hid (X1_9.heap[bp]? = some (.cells #[.func (.func 41) #[.pointer (some ⟨bs, 0, none⟩)] #[], .int .i64 (a.st.tok.cls : Int), .string (sB a.st.tok.tx), .int .i64 ((a.st.off : Nat) : Int)] 72 (0, 0))) := zh YHpbp
    clear YHpbp
    clear Hpbs
    have Hpbs : Hid (X1_9.heap[bs]? = some (.cells #[.string (sB s), .int .i64 ((a.st.pos : Nat) : Int)] 66 (0, 0))) := zh YHpbs
    clear YHpbs
    clear HF
    have HF := zh YHF
    clear YHF
    clear HG
    have HG := zh YHG
    clear YHG
    clear Fx0
    have Fx0 : Hid (X1_9.heap[w.heap.size]? = some (.cells #[.int .i64 0, .int .i64 0, .int .i64 0] 46 (0, 0))) := zh (h1)
    have HszX1_9 := zh hsz
    clear h1 hfar hbel hsz
    simp only [ptr, Act.put, zA]
    refine zr (.int .i64 (Qu.refN a.st : Int)) X1_9 rfl ?_
    simp only [Act.put, zA]
    refine wpList_nil ?_
    have hx : ⟨⟨0, 0, 0⟩, Qu.refN a.st, a.st⟩ = r := Eq.trans (Eq.symm (by simp only [Qu.condN, Qu.expN, Qu.accS, HA.out, if_pos he, if_neg ht, if_neg hu, if_neg hrn])) HR.out
    have hsf : PSm X1_9 bp bs s _ := ⟨Hpbs.out, Hpbp.out, HNE.out, HP1.out, HS1.out⟩
    have hff := farc_mk HF.out HVW.out B0.out
    subst hx
    go_wp2_with fail
    refine bodyPost_ret (v := .tuple #[.agg #[.int .i64 0, .int .i64 0, .int .i64 0], .int .i64 (Qu.refN a.st : Int)]) ?_ rfl ⟨rfl, hsf, hff⟩
    exact results_row_tmp rfl _ _ w.heap.size 46 _ (0, 0) _ _ rfl rfl Fx0.out Tryd.underlying46 rfl (by kernel_rfl)
 ·go_upto_region 2 with fail
  refine wp_region_lit ?_
  refine zr (.int .i64 (a.err : Int)) W2_0 rfl ?_
  simp only [Act.put, zA]
  refine zr (.bool true) W2_0 (xo_neqT .i64 ((a.err : Nat) : Int) 0 (by omega) rfl rfl rfl) ?_
  simp only [Act.put, zA]
  refine wpList_nil ?_
  go_upto_region 3 with fail
  refine wp_region_lit ?_
  refine zr (.agg #[.int .i64 0, .int .i64 0, .int .i64 0]) W2_0 (by unfold execOp; go_simp <;> rfl) ?_
  simp only [Act.put, zA]
  refine zr (.int .i64 (a.err : Int)) W2_0 rfl ?_
  simp only [Act.put, zA]
  refine wpList_storeW w.heap.size #[.int .i64 0, .int .i64 0, .int .i64 0] #[.int .i64 0, .int .i64 0, .int .i64 0] 46 (by kernel_rfl) Fx0.out (xo_storeW w.heap.size #[.int .i64 0, .int .i64 0, .int .i64 0] #[.int .i64 0, .int .i64 0, .int .i64 0] Fx0.out (by kernel_rfl) rfl (by simp [Value.oneCell']) rfl rfl rfl) ?_
  intro X1_3 h1 hfar hbel hsz
  have YHF : FarH bp bs w X1_3 := FarH.store HF.out (.inr (.inr Gb0.out)) hsz hfar
  have YHG : Gc X1_3 := rng_store HG.out Nz0.out hfar
  have YHpbp : X1_3.heap[bp]? = some (.cells #[.func (.func 41) #[.pointer (some ⟨bs, 0, none⟩)] #[], .int .i64 (a.st.tok.cls : Int), .string (sB a.st.tok.tx), .int .i64 ((a.st.off : Nat) : Int)] 72 (0, 0)) := hfar _ _ Nxbp0.out Hpbp.out
  have YHpbs : X1_3.heap[bs]? = some (.cells #[.string (sB s), .int .i64 ((a.st.pos : Nat) : Int)] 66 (0, 0)) := hfar _ _ Nxbs0.out Hpbs.out
  have hbr := hbel _ _ Gv1.out B0.out
  clear B0
  have B0 := zh hbr
  clear hbr
  clear Hpbp
  have Hpbp : Hid (X1_3.heap[bp]? = some (.cells #[.func (.func 41) #[.pointer (some ⟨bs, 0, none⟩)] #[], .int .i64 (a.st.tok.cls : Int), .string (sB a.st.tok.tx), .int .i64 ((a.st.off : Nat) : Int)] 72 (0, 0))) := zh YHpbp
  clear YHpbp
  clear Hpbs
  have Hpbs : Hid (X1_3.heap[bs]? = some (.cells #[.string (sB s), .int .i64 ((a.st.pos : Nat) : Int)] 66 (0, 0))) := zh YHpbs
  clear YHpbs
  clear HF
  have HF := zh YHF
  clear YHF
  clear HG
  have HG := zh YHG
  clear YHG
  clear Fx0
  have Fx0 : Hid (X1_3.heap[w.heap.size]? = some (.cells #[.int .i64 0, .int .i64 0, .int .i64 0] 46 (0, 0))) := zh (h1)
  have HszX1_3 := zh hsz
  clear h1 hfar hbel hsz
  simp only [ptr, Act.put, zA]
  refine zr (.int .i64 (a.err : Int)) X1_3 rfl ?_
  simp only [Act.put, zA]
  refine wpList_nil ?_
  have hx : ⟨⟨0, 0, 0⟩, a.err, a.st⟩ = r := Eq.trans (Eq.symm (by simp only [Qu.condN, HA.out, if_neg he])) HR.out
  have hsf : PSm X1_3 bp bs s _ := ⟨Hpbs.out, Hpbp.out, HNE.out, HP1.out, HS1.out⟩
  have hff := farc_mk HF.out HVW.out B0.out
  subst hx
  go_wp2_with fail
  refine bodyPost_ret (v := .tuple #[.agg #[.int .i64 0, .int .i64 0, .int .i64 0], .int .i64 (a.err : Int)]) ?_ rfl ⟨rfl, hsf, hff⟩
  exact results_row_tmp rfl _ _ w.heap.size 46 _ (0, 0) _ _ rfl rfl Fx0.out Tryd.underlying46 rfl (by kernel_rfl)
end Go.Proofs.YtlicfidcfhbmpaaDoor

