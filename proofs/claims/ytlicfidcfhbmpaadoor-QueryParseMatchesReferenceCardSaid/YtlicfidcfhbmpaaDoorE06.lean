/- Several texts in one: Yf, Yg. -/
import Derived.Test.YtlicfidcfhbmpaaDoorE05
set_option linter.unusedVariables false
set_option linter.unusedSimpArgs false
set_option linter.unusedSectionVars false
namespace Go.Proofs.YtlicfidcfhbmpaaDoor
set_option maxRecDepth 8000
open Go.RowKit Go.Proofs.YtlicfidcfhbmpaaDoor.K
attribute [local irreducible] wpList wpQuiet
theorem K.FarC.wideR {q : Nat} {w w' : World} (h : FarC q q w w') (p : Nat) : FarC p q w w' := ⟨⟨h.size, fun k o _ hq ho => h.far k o hq hq ho⟩, h.os, h.tape, h.output⟩
set_option maxRecDepth 100000 in
set_option maxHeartbeats 16000000 in
theorem advance_any (s : List UInt8) (hs4 : s.length ≤ 1000) (bp bs : Nat) (st : Qu.St) (hst : Qu.Ok s st) (w : World) (hP : PSm w bp bs s st) :
  Calls Tryd.prog 42 #[.pointer (some ⟨bp, 0, none⟩)] w fun e w' => e = .returned (.tuple #[]) ∧ PSm w' bp bs s (Qu.adv s st) ∧ FarC bp bs w w' := by
 obtain ⟨V, hV0, hV⟩ := base_world w
 have B0 := zh hV
 have HVW := zh hV
 clear hV
 have HF := zh (FarH.refl bp bs w)
 have HS4 := zh hs4
 have HOK := zh hst
 have HNE := zh hP.ne
 have HP1 := zh hP.p1
 have HS1 := zh hP.s1
 have hne := hP.ne
 have Hpbp : Hid (w.heap[bp]? = some (.cells #[.func (.func 41) #[.pointer (some ⟨bs, 0, none⟩)] #[], .int .i64 (st.tok.cls : Int), .string (sB st.tok.tx), .int .i64 ((st.off : Nat) : Int)] 72 (0, 0))) := zh (hP.pr)
 have Gpbp : Hid (V.heap.size ≤ bp) := zh (by omega)
 have Lpbp : Hid (bp < w.heap.size) := zh (xp_lt Hpbp.out)
 have Hpbs : Hid (w.heap[bs]? = some (.cells #[.string (sB s), .int .i64 ((st.pos : Nat) : Int)] 66 (0, 0))) := zh (hP.sc)
 have Gpbs : Hid (V.heap.size ≤ bs) := zh (by omega)
 have Lpbs : Hid (bs < w.heap.size) := zh (xp_lt Hpbs.out)
 have Npbpbs : Hid (bp ≠ bs) := zh (by omega)
 clear hs4 hst hP hne
 go_enter Tryd.func42, Tryd.ntmps42
 go_upto_region 0 with fail
 refine wp_region_lit ?_
 refine zr (.pointer (some ⟨bp, 0, none⟩)) w rfl ?_
 simp only [Act.put, zA]
 refine zr (.pointer (some ⟨bp, 0, none⟩)) w rfl ?_
 simp only [Act.put, zA]
 refine zr (.pointer (some ⟨bp, 0, none⟩)) w rfl ?_
 simp only [Act.put, zA]
 refine zr (.pointer (some ⟨bp, 0, none⟩)) w (xo_nil _ rfl rfl) ?_
 simp only [Act.put, zA]
 refine zr (.pointer (some ⟨bp, 0, none⟩)) w (xo_fld0 0 bp 0 (by kernel_rfl) rfl rfl) ?_
 simp only [Act.put, zA]
 refine zr (.func (.func 41) #[.pointer (some ⟨bs, 0, none⟩)] #[]) w (xo_load1 ⟨bp, 0, none⟩ _ (cells_at Hpbp.out 0 rfl) Tryd.underlying67 rfl rfl rfl) ?_
 simp only [Act.put, zA]
 refine wpList_op (by kernel_rfl) ?_
 refine hOp_callF 41 Tryd.func41 (by kernel_rfl) (by kernel_rfl) 8 _ #[.pointer (some ⟨bs, 0, none⟩)] _ rfl rfl #[] (by kernel_rfl) ?_
 try simp only [List.append_toArray, List.append_nil, List.nil_append, List.cons_append]
 refine (next_any s HS4.out bs st.pos HOK.out.1 w Hpbs.out).mono ?_
 rintro e W1_0 ⟨rfl, hsc, hfc⟩
 have YHpbp : W1_0.heap[bp]? = some (.cells #[.func (.func 41) #[.pointer (some ⟨bs, 0, none⟩)] #[], .int .i64 (st.tok.cls : Int), .string (sB st.tok.tx), .int .i64 ((st.off : Nat) : Int)] 72 (0, 0)) := hfc.far _ _ Npbpbs.out Npbpbs.out Hpbp.out
 have YHF : FarH bp bs w W1_0 := FarH.farC HF.out (hfc.wideR bp)
 have hb := farc_bel hV0 B0.out hfc
 have hbr := hb
 clear B0
 have B0 := zh hbr
 clear hbr
 clear hb
 clear Hpbp
 have Hpbp : Hid (W1_0.heap[bp]? = some (.cells #[.func (.func 41) #[.pointer (some ⟨bs, 0, none⟩)] #[], .int .i64 (st.tok.cls : Int), .string (sB st.tok.tx), .int .i64 ((st.off : Nat) : Int)] 72 (0, 0))) := zh YHpbp
 clear YHpbp
 clear HF
 have HF : Hid (FarH bp bs w W1_0) := zh YHF
 clear YHF
 clear Hpbs
 have Hpbs : Hid (W1_0.heap[bs]? = some (.cells #[.string (sB s), .int .i64 (((Qu.nxt s st.pos).pos : Nat) : Int)] 66 (0, 0))) := zh (hsc)
 clear hfc 
 refine ⟨_, rfl, ?_⟩
 simp only [ptr, Act.put, zA]
 refine zr (.tuple #[.agg #[.int .i64 (((Qu.nxt s st.pos).tok.cls : Nat) : Int), .string (sB ((Qu.nxt s st.pos).tok.tx))], .int .i64 (((Qu.nxt s st.pos).off : Nat) : Int)]) W1_0 rfl ?_
 simp only [Act.put, zA]
 refine zr (.agg #[.int .i64 (((Qu.nxt s st.pos).tok.cls : Nat) : Int), .string (sB ((Qu.nxt s st.pos).tok.tx))]) W1_0 rfl ?_
 simp only [Act.put, zA]
 refine zr (.int .i64 (((Qu.nxt s st.pos).off : Nat) : Int)) W1_0 rfl ?_
 simp only [Act.put, zA]
 refine zr (.pointer (some ⟨bp, 0, none⟩)) W1_0 (xo_nil _ rfl rfl) ?_
 simp only [Act.put, zA]
 refine zr (.pointer (some ⟨bp, 1, none⟩)) W1_0 (xo_fld0 1 bp 1 (by kernel_rfl) rfl rfl) ?_
 simp only [Act.put, zA]
 refine wpList_storeW bp #[.func (.func 41) #[.pointer (some ⟨bs, 0, none⟩)] #[], .int .i64 (st.tok.cls : Int), .string (sB st.tok.tx), .int .i64 ((st.off : Nat) : Int)] #[.func (.func 41) #[.pointer (some ⟨bs, 0, none⟩)] #[], .int .i64 (((Qu.nxt s st.pos).tok.cls : Nat) : Int), .string (sB ((Qu.nxt s st.pos).tok.tx)), .int .i64 ((st.off : Nat) : Int)] 72 (by kernel_rfl) Hpbp.out (xo_storeM bp 1 #[.func (.func 41) #[.pointer (some ⟨bs, 0, none⟩)] #[], .int .i64 (st.tok.cls : Int), .string (sB st.tok.tx), .int .i64 ((st.off : Nat) : Int)] #[.func (.func 41) #[.pointer (some ⟨bs, 0, none⟩)] #[], .int .i64 (((Qu.nxt s st.pos).tok.cls : Nat) : Int), .string (sB ((Qu.nxt s st.pos).tok.tx)), .int .i64 ((st.off : Nat) : Int)] [.int .i64 (((Qu.nxt s st.pos).tok.cls : Nat) : Int), .string (sB ((Qu.nxt s st.pos).tok.tx))] Hpbp.out rfl (by simp) (by kernel_rfl) (by simp [Value.oneCell']) rfl rfl rfl) ?_
 intro X1_1 h1 hfar hbel hsz
 have YHF : FarH bp bs w X1_1 := FarH.store HF.out (.inl rfl) hsz hfar
 have YHpbs : X1_1.heap[bs]? = some (.cells #[.string (sB s), .int .i64 (((Qu.nxt s st.pos).pos : Nat) : Int)] 66 (0, 0)) := hfar _ _ (Ne.symm Npbpbs.out) Hpbs.out
 have hbr := hbel _ _ Gpbp.out B0.out
 clear B0
 have B0 := zh hbr
 clear hbr
 clear Hpbs
 have Hpbs : Hid (X1_1.heap[bs]? = some (.cells #[.string (sB s), .int .i64 (((Qu.nxt s st.pos).pos : Nat) : Int)] 66 (0, 0))) := zh YHpbs
 clear YHpbs
 clear HF
 have HF := zh YHF
 clear YHF
 clear Hpbp
 have Hpbp : Hid (X1_1.heap[bp]? = some (.cells #[.func (.func 41) #[.pointer (some ⟨bs, 0, none⟩)] #[], .int .i64 (((Qu.nxt s st.pos).tok.cls : Nat) : Int), .string (sB ((Qu.nxt s st.pos).tok.tx)), .int .i64 ((st.off : Nat) : Int)] 72 (0, 0))) := zh (h1)
 have HszX1_1 := zh hsz
 clear h1 hfar hbel hsz
 simp only [ptr, Act.put, zA]
 refine zr (.pointer (some ⟨bp, 0, none⟩)) X1_1 (xo_nil _ rfl rfl) ?_
 simp only [Act.put, zA]
 refine zr (.pointer (some ⟨bp, 3, none⟩)) X1_1 (xo_fld0 2 bp 3 (by kernel_rfl) rfl rfl) ?_
 simp only [Act.put, zA]
 refine wpList_store1 bp 3 #[.func (.func 41) #[.pointer (some ⟨bs, 0, none⟩)] #[], .int .i64 (((Qu.nxt s st.pos).tok.cls : Nat) : Int), .string (sB ((Qu.nxt s st.pos).tok.tx)), .int .i64 ((st.off : Nat) : Int)] (.int .i64 (((Qu.nxt s st.pos).off : Nat) : Int)) 72 (by kernel_rfl) Hpbp.out (xo_store1 bp 3 #[.func (.func 41) #[.pointer (some ⟨bs, 0, none⟩)] #[], .int .i64 (((Qu.nxt s st.pos).tok.cls : Nat) : Int), .string (sB ((Qu.nxt s st.pos).tok.tx)), .int .i64 ((st.off : Nat) : Int)] _ (.int .i64 (((Qu.nxt s st.pos).off : Nat) : Int)) Hpbp.out rfl (by kernel_rfl) rfl rfl rfl rfl) ?_
 intro X1_2 h1 hfar hbel hsz
 have YHF : FarH bp bs w X1_2 := FarH.store HF.out (.inl rfl) hsz hfar
 have YHpbs : X1_2.heap[bs]? = some (.cells #[.string (sB s), .int .i64 (((Qu.nxt s st.pos).pos : Nat) : Int)] 66 (0, 0)) := hfar _ _ (Ne.symm Npbpbs.out) Hpbs.out
 have hbr := hbel _ _ Gpbp.out B0.out
 clear B0
 have B0 := zh hbr
 clear hbr
 clear Hpbs
 have Hpbs : Hid (X1_2.heap[bs]? = some (.cells #[.string (sB s), .int .i64 (((Qu.nxt s st.pos).pos : Nat) : Int)] 66 (0, 0))) := zh YHpbs
 clear YHpbs
 clear HF
 have HF := zh YHF
 clear YHF
 clear Hpbp
 have Hpbp : Hid (X1_2.heap[bp]? = some (.cells #[.func (.func 41) #[.pointer (some ⟨bs, 0, none⟩)] #[], .int .i64 (((Qu.nxt s st.pos).tok.cls : Nat) : Int), .string (sB ((Qu.nxt s st.pos).tok.tx)), .int .i64 (((Qu.nxt s st.pos).off : Nat) : Int)] 72 (0, 0))) := zh (h1)
 have HszX1_2 := zh hsz
 clear h1 hfar hbel hsz
 simp only [ptr, Act.put, zA]
 refine wpList_nil ?_
 have hsf : PSm X1_2 bp bs s _ := ⟨Hpbs.out, Hpbp.out, HNE.out, HP1.out, HS1.out⟩
 have hff := farc_mk HF.out HVW.out B0.out
 go_wp2_with fail
 go_end0
 exact ⟨rfl, hsf, hff⟩
set_option maxRecDepth 100000 in
set_option maxHeartbeats 8000000 in
theorem refuse_yes (s : List UInt8) (hs4 : s.length ≤ 1000) (bp bs : Nat) (st : Qu.St) (hst : Qu.Ok s st) (w : World) (hP : PSm w bp bs s st) (ht : st.tok = ⟨0, []⟩) :
  Calls Tryd.prog 66 #[.pointer (some ⟨bp, 0, none⟩)] w fun e w' => e = .returned (.int .i64 (Qu.refN st : Int)) ∧ w' = w := by
 obtain ⟨V, hV0, hV⟩ := base_world w
 have B0 := zh hV
 have HVW := zh hV
 clear hV
 have HF := zh (FarH.refl bp bs w)
 have HS4 := zh hs4
 have HOK := zh hst
 have HNE := zh hP.ne
 have HP1 := zh hP.p1
 have HS1 := zh hP.s1
 have hne := hP.ne
 have Hpbp : Hid (w.heap[bp]? = some (.cells #[.func (.func 41) #[.pointer (some ⟨bs, 0, none⟩)] #[], .int .i64 (st.tok.cls : Int), .string (sB st.tok.tx), .int .i64 ((st.off : Nat) : Int)] 72 (0, 0))) := zh (hP.pr)
 have Gpbp : Hid (V.heap.size ≤ bp) := zh (by omega)
 have Lpbp : Hid (bp < w.heap.size) := zh (xp_lt Hpbp.out)
 have Hpbs : Hid (w.heap[bs]? = some (.cells #[.string (sB s), .int .i64 ((st.pos : Nat) : Int)] 66 (0, 0))) := zh (hP.sc)
 have Gpbs : Hid (V.heap.size ≤ bs) := zh (by omega)
 have Lpbs : Hid (bs < w.heap.size) := zh (xp_lt Hpbs.out)
 have Npbpbs : Hid (bp ≠ bs) := zh (by omega)
 clear hs4 hst hP hne
 go_enter Tryd.func66, Tryd.ntmps66
 go_upto_region 1 with fail
 go_upto_region 1 with fail
 refine wp_region_lit ?_
 refine zr (.pointer (some ⟨bp, 0, none⟩)) w rfl ?_
 simp only [Act.put, zA]
 refine zr (.pointer (some ⟨bp, 0, none⟩)) w (xo_nil _ rfl rfl) ?_
 simp only [Act.put, zA]
 refine zr (.pointer (some ⟨bp, 1, none⟩)) w (xo_fld0 1 bp 1 (by kernel_rfl) rfl rfl) ?_
 simp only [Act.put, zA]
 refine zr (.agg #[.int .i64 (st.tok.cls : Int), .string (sB st.tok.tx)]) w (xo_loadR bp 1 [.int .i64 (st.tok.cls : Int), .string (sB st.tok.tx)] (rng_of Hpbp.out 1 _ (fun j v hv => by rcases j with _ | _ | _ | _ | j <;> first | exact hv | cases hv)) Tryd.underlying70 rfl (by kernel_rfl) rfl rfl) ?_
 simp only [Act.put, zA]
 refine zr (.agg #[.int .i64 0, .string ByteArray.empty]) w (by unfold execOp; go_simp <;> rfl) ?_
 simp only [Act.put, zA]
 refine zr (.bool true) w (xt_eq st.tok ⟨0, []⟩ true (decide_eq_true ht) rfl rfl rfl) ?_
 simp only [Act.put, zA]
 refine wpList_nil ?_
 go_upto_region 2 with fail
 refine wp_region_lit ?_
 refine zr (.int .i64 131) w rfl ?_
 simp only [Act.put, zA]
 refine wpList_nil ?_
 go_wp2_with fail
 go_ret
 exact ⟨by unfold Qu.refN; rw [if_pos ht]; rfl, rfl⟩
set_option maxRecDepth 100000 in
set_option maxHeartbeats 8000000 in
theorem refuse_no (s : List UInt8) (hs4 : s.length ≤ 1000) (bp bs : Nat) (st : Qu.St) (hst : Qu.Ok s st) (w : World) (hP : PSm w bp bs s st) (ht : ¬ st.tok = ⟨0, []⟩) :
  Calls Tryd.prog 66 #[.pointer (some ⟨bp, 0, none⟩)] w fun e w' => e = .returned (.int .i64 (Qu.refN st : Int)) ∧ w' = w := by
 obtain ⟨V, hV0, hV⟩ := base_world w
 have B0 := zh hV
 have HVW := zh hV
 clear hV
 have HF := zh (FarH.refl bp bs w)
 have HS4 := zh hs4
 have HOK := zh hst
 have HNE := zh hP.ne
 have HP1 := zh hP.p1
 have HS1 := zh hP.s1
 have hne := hP.ne
 have Hpbp : Hid (w.heap[bp]? = some (.cells #[.func (.func 41) #[.pointer (some ⟨bs, 0, none⟩)] #[], .int .i64 (st.tok.cls : Int), .string (sB st.tok.tx), .int .i64 ((st.off : Nat) : Int)] 72 (0, 0))) := zh (hP.pr)
 have Gpbp : Hid (V.heap.size ≤ bp) := zh (by omega)
 have Lpbp : Hid (bp < w.heap.size) := zh (xp_lt Hpbp.out)
 have Hpbs : Hid (w.heap[bs]? = some (.cells #[.string (sB s), .int .i64 ((st.pos : Nat) : Int)] 66 (0, 0))) := zh (hP.sc)
 have Gpbs : Hid (V.heap.size ≤ bs) := zh (by omega)
 have Lpbs : Hid (bs < w.heap.size) := zh (xp_lt Hpbs.out)
 have Npbpbs : Hid (bp ≠ bs) := zh (by omega)
 clear hs4 hst hP hne
 go_enter Tryd.func66, Tryd.ntmps66
 go_upto_region 1 with fail
 go_upto_region 1 with fail
 refine wp_region_lit ?_
 refine zr (.pointer (some ⟨bp, 0, none⟩)) w rfl ?_
 simp only [Act.put, zA]
 refine zr (.pointer (some ⟨bp, 0, none⟩)) w (xo_nil _ rfl rfl) ?_
 simp only [Act.put, zA]
 refine zr (.pointer (some ⟨bp, 1, none⟩)) w (xo_fld0 1 bp 1 (by kernel_rfl) rfl rfl) ?_
 simp only [Act.put, zA]
 refine zr (.agg #[.int .i64 (st.tok.cls : Int), .string (sB st.tok.tx)]) w (xo_loadR bp 1 [.int .i64 (st.tok.cls : Int), .string (sB st.tok.tx)] (rng_of Hpbp.out 1 _ (fun j v hv => by rcases j with _ | _ | _ | _ | j <;> first | exact hv | cases hv)) Tryd.underlying70 rfl (by kernel_rfl) rfl rfl) ?_
 simp only [Act.put, zA]
 refine zr (.agg #[.int .i64 0, .string ByteArray.empty]) w (by unfold execOp; go_simp <;> rfl) ?_
 simp only [Act.put, zA]
 refine zr (.bool false) w (xt_eq st.tok ⟨0, []⟩ false (decide_eq_false ht) rfl rfl rfl) ?_
 simp only [Act.put, zA]
 refine wpList_nil ?_
 go_upto_region 3 with fail
 refine wp_region_lit ?_
 refine zr (.int .i64 130) w rfl ?_
 simp only [Act.put, zA]
 refine wpList_nil ?_
 go_wp2_with fail
 go_ret
 exact ⟨by unfold Qu.refN; rw [if_neg ht]; rfl, rfl⟩
theorem refuse_any (s : List UInt8) (hs4 : s.length ≤ 1000) (bp bs : Nat) (st : Qu.St) (hst : Qu.Ok s st) (w : World) (hP : PSm w bp bs s st) : Calls Tryd.prog 66 #[.pointer (some ⟨bp, 0, none⟩)] w fun e w' => e = .returned (.int .i64 (Qu.refN st : Int)) ∧ w' = w := by
 by_cases ht : st.tok = ⟨0, []⟩
 ·exact refuse_yes s hs4 bp bs st hst w hP ht
 ·exact refuse_no s hs4 bp bs st hst w hP ht
set_option maxRecDepth 100000 in
set_option maxHeartbeats 16000000 in
theorem acc_yes (s : List UInt8) (hs4 : s.length ≤ 1000) (bp bs : Nat) (st : Qu.St) (hst : Qu.Ok s st) (w : World) (hP : PSm w bp bs s st) (t : Qu.Tk) (ht : st.tok = t) :
  Calls Tryd.prog 65 #[.pointer (some ⟨bp, 0, none⟩), tkV t] w fun e w' => e = .returned (.bool true) ∧ PSm w' bp bs s (Qu.adv s st) ∧ FarC bp bs w w' := by
 obtain ⟨V, hV0, hV⟩ := base_world w
 have B0 := zh hV
 have HVW := zh hV
 clear hV
 have HF := zh (FarH.refl bp bs w)
 have HS4 := zh hs4
 have HOK := zh hst
 have HNE := zh hP.ne
 have HP1 := zh hP.p1
 have HS1 := zh hP.s1
 have hne := hP.ne
 have Hpbp : Hid (w.heap[bp]? = some (.cells #[.func (.func 41) #[.pointer (some ⟨bs, 0, none⟩)] #[], .int .i64 (st.tok.cls : Int), .string (sB st.tok.tx), .int .i64 ((st.off : Nat) : Int)] 72 (0, 0))) := zh (hP.pr)
 have Gpbp : Hid (V.heap.size ≤ bp) := zh (by omega)
 have Lpbp : Hid (bp < w.heap.size) := zh (xp_lt Hpbp.out)
 have Hpbs : Hid (w.heap[bs]? = some (.cells #[.string (sB s), .int .i64 ((st.pos : Nat) : Int)] 66 (0, 0))) := zh (hP.sc)
 have Gpbs : Hid (V.heap.size ≤ bs) := zh (by omega)
 have Lpbs : Hid (bs < w.heap.size) := zh (xp_lt Hpbs.out)
 have Npbpbs : Hid (bp ≠ bs) := zh (by omega)
 clear hs4 hst hP hne
 go_enter Tryd.func65, Tryd.ntmps65
 go_upto_region 1 with fail
 refine wp_named1 (fun V2 hb g0 hlt => ?_)
 have B1 := zh hb
 have Fx0 : Hid (V2.heap[w.heap.size]? = some (.cells #[.int .i64 (t.cls : Int), .string (sB t.tx)] 70 (0, 0))) := zh (g0)
 have Gb0 : Hid (w.heap.size ≤ w.heap.size) := zh (by omega)
 have Lx0 : Hid (w.heap.size < V2.heap.size) := zh (xp_lt Fx0.out)
 have Nxbp0 : Hid (bp ≠ w.heap.size) := zh (by have := Lpbp.out; omega)
 have Nxbs0 : Hid (bs ≠ w.heap.size) := zh (by have := Lpbs.out; omega)
 clear hb g0 hlt
 refine wp_later_lex (by kernel_rfl) (lexOK_of (by kernel_rfl) (by kernel_rfl)) ?_
 refine zv (.pointer (some ⟨bp, 0, none⟩)) (fun v hv => rfl) ?_
 simp only [Act.put, zA]
 refine zv (.pointer (some ⟨bp, 0, none⟩)) (fun v hv => (xo_nil _ rfl rfl)) ?_
 simp only [Act.put, zA]
 refine zv (.pointer (some ⟨bp, 1, none⟩)) (fun v hv => (xo_fld0 1 bp 1 (by kernel_rfl) rfl rfl)) ?_
 simp only [Act.put, zA]
 refine zv (.agg #[.int .i64 (st.tok.cls : Int), .string (sB st.tok.tx)]) (fun v hv => (xo_loadR bp 1 [.int .i64 (st.tok.cls : Int), .string (sB st.tok.tx)] (rng_of (heap_keep (heap_keep Hpbp.out B1.out) (later_bel hv)) 1 _ (fun j v hv => by rcases j with _ | _ | _ | _ | j <;> first | exact hv | cases hv)) Tryd.underlying70 rfl (by kernel_rfl) rfl rfl)) ?_
 simp only [Act.put, zA]
 refine zv (.agg #[.int .i64 (t.cls : Int), .string (sB t.tx)]) (fun v hv => (xo_loadW w.heap.size _ (heap_keep Fx0.out (later_bel hv)) Tryd.underlying70 rfl (by kernel_rfl) rfl rfl)) ?_
 simp only [Act.put, zA]
 refine zv (.bool false) (fun v hv => (xt_ne st.tok t false (by rw [decide_eq_true ht]; rfl) rfl rfl rfl)) ?_
 simp only [Act.put, zA]
 refine wpQuiet_nil ?_
 intro X2_0
 have hb := X2_0.below
 generalize X2_0.at = V3 at *
 have B2 := zh hb
 clear hb
 go_upto_region 3 with fail
 refine wp_region_lit ?_
 refine zr (.pointer (some ⟨bp, 0, none⟩)) V3 rfl ?_
 simp only [Act.put, zA]
 have C1_3 := zb B1 B2
 refine wpList_call (by kernel_rfl) 42 Tryd.func42 (by kernel_rfl) (by kernel_rfl) _ _ #[.pointer (some ⟨bp, 0, none⟩)] rfl (by kernel_rfl) ?_
 refine (advance_any s HS4.out bp bs st HOK.out V3 ⟨(heap_keep Hpbs.out C1_3.out), (heap_keep Hpbp.out C1_3.out), HNE.out, HP1.out, HS1.out⟩).mono ?_
 rintro e W3_1 ⟨rfl, hps, hfc⟩
 have YFx0 : W3_1.heap[w.heap.size]? = some (.cells #[.int .i64 (t.cls : Int), .string (sB t.tx)] 70 (0, 0)) := hfc.far _ _ (Ne.symm Nxbp0.out) (Ne.symm Nxbs0.out) (heap_keep Fx0.out B2.out)
 have YHF : FarH bp bs w W3_1 := FarH.farC (HF.out.keep C1_3.out) hfc
 have C0_2 := zb B0 B1
 have C0_3 := zb C0_2 B2
 have hb := farc_bel hV0 C0_3.out hfc
 have hbr := hb
 clear B0
 have B0 := zh hbr
 clear hbr
 clear hb
 clear Fx0
 have Fx0 : Hid (W3_1.heap[w.heap.size]? = some (.cells #[.int .i64 (t.cls : Int), .string (sB t.tx)] 70 (0, 0))) := zh YFx0
 clear YFx0
 clear HF
 have HF : Hid (FarH bp bs w W3_1) := zh YHF
 clear YHF
 have Gv2 : Hid (V.heap.size ≤ w.heap.size) := zh (by omega)
 have Lt3 : Hid (w.heap.size < W3_1.heap.size) := zh (xp_lt Fx0.out)
 clear Hpbs
 have Hpbs : Hid (W3_1.heap[bs]? = some (.cells #[.string (sB s), .int .i64 (((Qu.adv s st).pos : Nat) : Int)] 66 (0, 0))) := zh (hps.sc)
 clear Hpbp
 have Hpbp : Hid (W3_1.heap[bp]? = some (.cells #[.func (.func 41) #[.pointer (some ⟨bs, 0, none⟩)] #[], .int .i64 ((Qu.adv s st).tok.cls : Int), .string (sB ((Qu.adv s st).tok.tx)), .int .i64 (((Qu.adv s st).off : Nat) : Int)] 72 (0, 0))) := zh (hps.pr)
 clear hfc hps 
 refine ⟨_, rfl, ?_⟩
 simp only [Act.put, zA]
 refine wpList_nil ?_
 go_upto_region 4 with fail
 refine wp_region_lit ?_
 refine zr (.bool true) W3_1 rfl ?_
 simp only [Act.put, zA]
 refine wpList_nil ?_
 have hsf : PSm W3_1 bp bs s _ := ⟨Hpbs.out, Hpbp.out, HNE.out, HP1.out, HS1.out⟩
 have hff := farc_mk HF.out HVW.out B0.out
 go_wp2_with fail
 go_ret
 exact ⟨rfl, hsf, hff⟩
set_option maxRecDepth 100000 in
set_option maxHeartbeats 16000000 in
theorem acc_no (s : List UInt8) (hs4 : s.length ≤ 1000) (bp bs : Nat) (st : Qu.St) (hst : Qu.Ok s st) (w : World) (hP : PSm w bp bs s st) (t : Qu.Tk) (ht : ¬ st.tok = t) :
  Calls Tryd.prog 65 #[.pointer (some ⟨bp, 0, none⟩), tkV t] w fun e w' => e = .returned (.bool false) ∧ PSm w' bp bs s st ∧ FarC bp bs w w' := by
 obtain ⟨V, hV0, hV⟩ := base_world w
 have B0 := zh hV
 have HVW := zh hV
 clear hV
 have HF := zh (FarH.refl bp bs w)
 have HS4 := zh hs4
 have HOK := zh hst
 have HNE := zh hP.ne
 have HP1 := zh hP.p1
 have HS1 := zh hP.s1
 have hne := hP.ne
 have Hpbp : Hid (w.heap[bp]? = some (.cells #[.func (.func 41) #[.pointer (some ⟨bs, 0, none⟩)] #[], .int .i64 (st.tok.cls : Int), .string (sB st.tok.tx), .int .i64 ((st.off : Nat) : Int)] 72 (0, 0))) := zh (hP.pr)
 have Gpbp : Hid (V.heap.size ≤ bp) := zh (by omega)
 have Lpbp : Hid (bp < w.heap.size) := zh (xp_lt Hpbp.out)
 have Hpbs : Hid (w.heap[bs]? = some (.cells #[.string (sB s), .int .i64 ((st.pos : Nat) : Int)] 66 (0, 0))) := zh (hP.sc)
 have Gpbs : Hid (V.heap.size ≤ bs) := zh (by omega)
 have Lpbs : Hid (bs < w.heap.size) := zh (xp_lt Hpbs.out)
 have Npbpbs : Hid (bp ≠ bs) := zh (by omega)
 clear hs4 hst hP hne
 go_enter Tryd.func65, Tryd.ntmps65
 go_upto_region 1 with fail
 refine wp_named1 (fun V2 hb g0 hlt => ?_)
 have B1 := zh hb
 have Fx0 : Hid (V2.heap[w.heap.size]? = some (.cells #[.int .i64 (t.cls : Int), .string (sB t.tx)] 70 (0, 0))) := zh (g0)
 have Gb0 : Hid (w.heap.size ≤ w.heap.size) := zh (by omega)
 have Lx0 : Hid (w.heap.size < V2.heap.size) := zh (xp_lt Fx0.out)
 have Nxbp0 : Hid (bp ≠ w.heap.size) := zh (by have := Lpbp.out; omega)
 have Nxbs0 : Hid (bs ≠ w.heap.size) := zh (by have := Lpbs.out; omega)
 clear hb g0 hlt
 refine wp_later_lex (by kernel_rfl) (lexOK_of (by kernel_rfl) (by kernel_rfl)) ?_
 refine zv (.pointer (some ⟨bp, 0, none⟩)) (fun v hv => rfl) ?_
 simp only [Act.put, zA]
 refine zv (.pointer (some ⟨bp, 0, none⟩)) (fun v hv => (xo_nil _ rfl rfl)) ?_
 simp only [Act.put, zA]
 refine zv (.pointer (some ⟨bp, 1, none⟩)) (fun v hv => (xo_fld0 1 bp 1 (by kernel_rfl) rfl rfl)) ?_
 simp only [Act.put, zA]
 refine zv (.agg #[.int .i64 (st.tok.cls : Int), .string (sB st.tok.tx)]) (fun v hv => (xo_loadR bp 1 [.int .i64 (st.tok.cls : Int), .string (sB st.tok.tx)] (rng_of (heap_keep (heap_keep Hpbp.out B1.out) (later_bel hv)) 1 _ (fun j v hv => by rcases j with _ | _ | _ | _ | j <;> first | exact hv | cases hv)) Tryd.underlying70 rfl (by kernel_rfl) rfl rfl)) ?_
 simp only [Act.put, zA]
 refine zv (.agg #[.int .i64 (t.cls : Int), .string (sB t.tx)]) (fun v hv => (xo_loadW w.heap.size _ (heap_keep Fx0.out (later_bel hv)) Tryd.underlying70 rfl (by kernel_rfl) rfl rfl)) ?_
 simp only [Act.put, zA]
 refine zv (.bool true) (fun v hv => (xt_ne st.tok t true (by rw [decide_eq_false ht]; rfl) rfl rfl rfl)) ?_
 simp only [Act.put, zA]
 refine wpQuiet_nil ?_
 intro X2_0
 have hb := X2_0.below
 generalize X2_0.at = V3 at *
 have B2 := zh hb
 clear hb
 go_upto_region 2 with fail
 refine wp_region_lit ?_
 refine zr (.bool false) V3 rfl ?_
 simp only [Act.put, zA]
 refine wpList_nil ?_
 have C1_3 := zb B1 B2
 have hsf : PSm V3 bp bs s _ := ⟨(heap_keep Hpbs.out C1_3.out), (heap_keep Hpbp.out C1_3.out), HNE.out, HP1.out, HS1.out⟩
 have C0_2 := zb B0 B1
 have C0_3 := zb C0_2 B2
 have hff := farc_mk (HF.out.keep C1_3.out) HVW.out C0_3.out
 go_wp2_with fail
 go_ret
 exact ⟨rfl, hsf, hff⟩
set_option maxRecDepth 100000 in
set_option maxHeartbeats 16000000 in
theorem exp_yes (s : List UInt8) (hs4 : s.length ≤ 1000) (bp bs : Nat) (st : Qu.St) (hst : Qu.Ok s st) (w : World) (hP : PSm w bp bs s st) (t : Qu.Tk) (ht : st.tok = t) :
  Calls Tryd.prog 61 #[.pointer (some ⟨bp, 0, none⟩), tkV t] w fun e w' => e = .returned (.int .i64 0) ∧ PSm w' bp bs s (Qu.adv s st) ∧ FarC bp bs w w' := by
 obtain ⟨V, hV0, hV⟩ := base_world w
 have B0 := zh hV
 have HVW := zh hV
 clear hV
 have HF := zh (FarH.refl bp bs w)
 have HS4 := zh hs4
 have HOK := zh hst
 have HNE := zh hP.ne
 have HP1 := zh hP.p1
 have HS1 := zh hP.s1
 have hne := hP.ne
 have Hpbp : Hid (w.heap[bp]? = some (.cells #[.func (.func 41) #[.pointer (some ⟨bs, 0, none⟩)] #[], .int .i64 (st.tok.cls : Int), .string (sB st.tok.tx), .int .i64 ((st.off : Nat) : Int)] 72 (0, 0))) := zh (hP.pr)
 have Gpbp : Hid (V.heap.size ≤ bp) := zh (by omega)
 have Lpbp : Hid (bp < w.heap.size) := zh (xp_lt Hpbp.out)
 have Hpbs : Hid (w.heap[bs]? = some (.cells #[.string (sB s), .int .i64 ((st.pos : Nat) : Int)] 66 (0, 0))) := zh (hP.sc)
 have Gpbs : Hid (V.heap.size ≤ bs) := zh (by omega)
 have Lpbs : Hid (bs < w.heap.size) := zh (xp_lt Hpbs.out)
 have Npbpbs : Hid (bp ≠ bs) := zh (by omega)
 clear hs4 hst hP hne
 go_enter Tryd.func61, Tryd.ntmps61
 go_upto_region 1 with fail
 refine wp_named1 (fun V2 hb g0 hlt => ?_)
 have B1 := zh hb
 have Fx0 : Hid (V2.heap[w.heap.size]? = some (.cells #[.int .i64 (t.cls : Int), .string (sB t.tx)] 70 (0, 0))) := zh (g0)
 have Gb0 : Hid (w.heap.size ≤ w.heap.size) := zh (by omega)
 have Lx0 : Hid (w.heap.size < V2.heap.size) := zh (xp_lt Fx0.out)
 have Nxbp0 : Hid (bp ≠ w.heap.size) := zh (by have := Lpbp.out; omega)
 have Nxbs0 : Hid (bs ≠ w.heap.size) := zh (by have := Lpbs.out; omega)
 clear hb g0 hlt
 refine wp_region_lit ?_
 refine zr (.pointer (some ⟨bp, 0, none⟩)) V2 rfl ?_
 simp only [Act.put, zA]
 refine zr (.agg #[.int .i64 (t.cls : Int), .string (sB t.tx)]) V2 (xo_loadW w.heap.size _ Fx0.out Tryd.underlying70 rfl (by kernel_rfl) rfl rfl) ?_
 simp only [Act.put, zA]
 refine wpList_call (by kernel_rfl) 65 Tryd.func65 (by kernel_rfl) (by kernel_rfl) _ _ #[.pointer (some ⟨bp, 0, none⟩), .agg #[.int .i64 (t.cls : Int), .string (sB t.tx)]] rfl (by kernel_rfl) ?_
 refine (acc_yes s HS4.out bp bs st HOK.out V2 ⟨(heap_keep Hpbs.out B1.out), (heap_keep Hpbp.out B1.out), HNE.out, HP1.out, HS1.out⟩ t ht).mono ?_
 rintro e W2_0 ⟨rfl, hps, hfc⟩
 have YFx0 : W2_0.heap[w.heap.size]? = some (.cells #[.int .i64 (t.cls : Int), .string (sB t.tx)] 70 (0, 0)) := hfc.far _ _ (Ne.symm Nxbp0.out) (Ne.symm Nxbs0.out) Fx0.out
 have YHF : FarH bp bs w W2_0 := FarH.farC (HF.out.keep B1.out) hfc
 have C0_2 := zb B0 B1
 have hb := farc_bel hV0 C0_2.out hfc
 have hbr := hb
 clear B0
 have B0 := zh hbr
 clear hbr
 clear hb
 clear Fx0
 have Fx0 : Hid (W2_0.heap[w.heap.size]? = some (.cells #[.int .i64 (t.cls : Int), .string (sB t.tx)] 70 (0, 0))) := zh YFx0
 clear YFx0
 clear HF
 have HF : Hid (FarH bp bs w W2_0) := zh YHF
 clear YHF
 have Gv1 : Hid (V.heap.size ≤ w.heap.size) := zh (by omega)
 have Lt2 : Hid (w.heap.size < W2_0.heap.size) := zh (xp_lt Fx0.out)
 clear Hpbs
 have Hpbs : Hid (W2_0.heap[bs]? = some (.cells #[.string (sB s), .int .i64 (((Qu.adv s st).pos : Nat) : Int)] 66 (0, 0))) := zh (hps.sc)
 clear Hpbp
 have Hpbp : Hid (W2_0.heap[bp]? = some (.cells #[.func (.func 41) #[.pointer (some ⟨bs, 0, none⟩)] #[], .int .i64 ((Qu.adv s st).tok.cls : Int), .string (sB ((Qu.adv s st).tok.tx)), .int .i64 (((Qu.adv s st).off : Nat) : Int)] 72 (0, 0))) := zh (hps.pr)
 clear hfc hps 
 refine ⟨_, rfl, ?_⟩
 simp only [Act.put, zA]
 refine zr (.bool false) W2_0 rfl ?_
 simp only [Act.put, zA]
 refine wpList_nil ?_
 go_upto_region 3 with fail
 refine wp_region_lit ?_
 refine zr (.int .i64 0) W2_0 rfl ?_
 simp only [Act.put, zA]
 refine wpList_nil ?_
 have hsf : PSm W2_0 bp bs s _ := ⟨Hpbs.out, Hpbp.out, HNE.out, HP1.out, HS1.out⟩
 have hff := farc_mk HF.out HVW.out B0.out
 go_wp2_with fail
 go_ret
 exact ⟨rfl, hsf, hff⟩
set_option maxRecDepth 100000 in
set_option maxHeartbeats 16000000 in
theorem exp_no (s : List UInt8) (hs4 : s.length ≤ 1000) (bp bs : Nat) (st : Qu.St) (hst : Qu.Ok s st) (w : World) (hP : PSm w bp bs s st) (t : Qu.Tk) (ht : ¬ st.tok = t) :
  Calls Tryd.prog 61 #[.pointer (some ⟨bp, 0, none⟩), tkV t] w fun e w' => e = .returned (.int .i64 (Qu.refN st : Int)) ∧ PSm w' bp bs s st ∧ FarC bp bs w w' := by
 obtain ⟨V, hV0, hV⟩ := base_world w
 have B0 := zh hV
 have HVW := zh hV
 clear hV
 have HF := zh (FarH.refl bp bs w)
 have HS4 := zh hs4
 have HOK := zh hst
 have HNE := zh hP.ne
 have HP1 := zh hP.p1
 have HS1 := zh hP.s1
 have hne := hP.ne
 have Hpbp : Hid (w.heap[bp]? = some (.cells #[.func (.func 41) #[.pointer (some ⟨bs, 0, none⟩)] #[], .int .i64 (st.tok.cls : Int), .string (sB st.tok.tx), .int .i64 ((st.off : Nat) : Int)] 72 (0, 0))) := zh (hP.pr)
 have Gpbp : Hid (V.heap.size ≤ bp) := zh (by omega)
 have Lpbp : Hid (bp < w.heap.size) := zh (xp_lt Hpbp.out)
 have Hpbs : Hid (w.heap[bs]? = some (.cells #[.string (sB s), .int .i64 ((st.pos : Nat) : Int)] 66 (0, 0))) := zh (hP.sc)
 have Gpbs : Hid (V.heap.size ≤ bs) := zh (by omega)
 have Lpbs : Hid (bs < w.heap.size) := zh (xp_lt Hpbs.out)
 have Npbpbs : Hid (bp ≠ bs) := zh (by omega)
 clear hs4 hst hP hne
 go_enter Tryd.func61, Tryd.ntmps61
 go_upto_region 1 with fail
 refine wp_named1 (fun V2 hb g0 hlt => ?_)
 have B1 := zh hb
 have Fx0 : Hid (V2.heap[w.heap.size]? = some (.cells #[.int .i64 (t.cls : Int), .string (sB t.tx)] 70 (0, 0))) := zh (g0)
 have Gb0 : Hid (w.heap.size ≤ w.heap.size) := zh (by omega)
 have Lx0 : Hid (w.heap.size < V2.heap.size) := zh (xp_lt Fx0.out)
 have Nxbp0 : Hid (bp ≠ w.heap.size) := zh (by have := Lpbp.out; omega)
 have Nxbs0 : Hid (bs ≠ w.heap.size) := zh (by have := Lpbs.out; omega)
 clear hb g0 hlt
 refine wp_region_lit ?_
 refine zr (.pointer (some ⟨bp, 0, none⟩)) V2 rfl ?_
 simp only [Act.put, zA]
 refine zr (.agg #[.int .i64 (t.cls : Int), .string (sB t.tx)]) V2 (xo_loadW w.heap.size _ Fx0.out Tryd.underlying70 rfl (by kernel_rfl) rfl rfl) ?_
 simp only [Act.put, zA]
 refine wpList_call (by kernel_rfl) 65 Tryd.func65 (by kernel_rfl) (by kernel_rfl) _ _ #[.pointer (some ⟨bp, 0, none⟩), .agg #[.int .i64 (t.cls : Int), .string (sB t.tx)]] rfl (by kernel_rfl) ?_
 refine (acc_no s HS4.out bp bs st HOK.out V2 ⟨(heap_keep Hpbs.out B1.out), (heap_keep Hpbp.out B1.out), HNE.out, HP1.out, HS1.out⟩ t ht).mono ?_
 rintro e W2_0 ⟨rfl, hps, hfc⟩
 have YFx0 : W2_0.heap[w.heap.size]? = some (.cells #[.int .i64 (t.cls : Int), .string (sB t.tx)] 70 (0, 0)) := hfc.far _ _ (Ne.symm Nxbp0.out) (Ne.symm Nxbs0.out) Fx0.out
 have YHF : FarH bp bs w W2_0 := FarH.farC (HF.out.keep B1.out) hfc
 have C0_2 := zb B0 B1
 have hb := farc_bel hV0 C0_2.out hfc
 have hbr := hb
 clear B0
 have B0 := zh hbr
 clear hbr
 clear hb
 clear Fx0
 have Fx0 : Hid (W2_0.heap[w.heap.size]? = some (.cells #[.int .i64 (t.cls : Int), .string (sB t.tx)] 70 (0, 0))) := zh YFx0
 clear YFx0
 clear HF
 have HF : Hid (FarH bp bs w W2_0) := zh YHF
 clear YHF
 have Gv1 : Hid (V.heap.size ≤ w.heap.size) := zh (by omega)
 have Lt2 : Hid (w.heap.size < W2_0.heap.size) := zh (xp_lt Fx0.out)
 clear Hpbs
 have Hpbs : Hid (W2_0.heap[bs]? = some (.cells #[.string (sB s), .int .i64 ((st.pos : Nat) : Int)] 66 (0, 0))) := zh (hps.sc)
 clear Hpbp
 have Hpbp : Hid (W2_0.heap[bp]? = some (.cells #[.func (.func 41) #[.pointer (some ⟨bs, 0, none⟩)] #[], .int .i64 (st.tok.cls : Int), .string (sB st.tok.tx), .int .i64 ((st.off : Nat) : Int)] 72 (0, 0))) := zh (hps.pr)
 clear hfc hps 
 refine ⟨_, rfl, ?_⟩
 simp only [Act.put, zA]
 refine zr (.bool true) W2_0 rfl ?_
 simp only [Act.put, zA]
 refine wpList_nil ?_
 go_upto_region 2 with fail
 refine wp_region_lit ?_
 refine zr (.pointer (some ⟨bp, 0, none⟩)) W2_0 rfl ?_
 simp only [Act.put, zA]
 refine wpList_call (by kernel_rfl) 66 Tryd.func66 (by kernel_rfl) (by kernel_rfl) _ _ #[.pointer (some ⟨bp, 0, none⟩)] rfl (by kernel_rfl) ?_
 refine (refuse_any s HS4.out bp bs st HOK.out W2_0 ⟨Hpbs.out, Hpbp.out, HNE.out, HP1.out, HS1.out⟩).mono ?_
 rintro e W1 ⟨rfl, hw1⟩
 rw [hw1]
 clear hw1 W1
 refine ⟨_, rfl, ?_⟩
 simp only [Act.put, zA]
 refine zr (.int .i64 (Qu.refN st : Int)) W2_0 rfl ?_
 simp only [Act.put, zA]
 refine wpList_nil ?_
 have hsf : PSm W2_0 bp bs s _ := ⟨Hpbs.out, Hpbp.out, HNE.out, HP1.out, HS1.out⟩
 have hff := farc_mk HF.out HVW.out B0.out
 go_wp2_with fail
 go_ret
 exact ⟨rfl, hsf, hff⟩
theorem numOf_succ {l : List UInt8} {i : Nat} {b : UInt8} (h : l[i]? = some b) : Qu.numOf (l.take (i + 1)) = min (10 * Qu.numOf (l.take i) + (b - 48).toNat) 65537 := by
 unfold Qu.numOf
 rw [List.take_add_one, h]
 simp [List.foldl_append]
set_option maxRecDepth 100000 in
set_option maxHeartbeats 16000000 in
theorem numberOf_any (l : List UInt8) (hl : l.length ≤ 1000) (w : World) :
  Calls Tryd.prog 67 #[.string (sB l)] w fun e w' => e = .returned (.int .i64 (Qu.numOf l : Int)) ∧ Below w.heap.size w w' := by
 obtain ⟨n, hn⟩ : ∃ n, l.length = n := ⟨_, rfl⟩
 have HN := zh hn
 rw [hn] at hl
 clear hn
 go_enter Tryd.func67, Tryd.ntmps67
 go_upto_region 1 with fail
 refine wp_region_lit ?_
 refine zr (.int .i64 0) w rfl ?_
 simp only [Act.put, zA]
 refine wpList_nil ?_
 go_upto_region 2 with fail
 refine wp_region_lit ?_
 refine zr (.string (sB l)) w rfl ?_
 simp only [Act.put, zA]
 refine zr (.int .i64 (n : Int)) w (xs_lenN l n HN.out Tryd.underlying9 rfl rfl) ?_
 simp only [Act.put, zA]
 refine zr (.int .i64 0) w rfl ?_
 simp only [Act.put, zA]
 refine wpList_nil ?_
 have O0 := (Below.refl w.heap.size w)
 have B0 := zh (Below.refl w.heap.size w)
 go_wp2_with fail
 go_loopw [7, 3] (fun p a wr => ∃ i : Nat, i ≤ n ∧ p = .int .i64 i ∧ a = .int .i64 ((Qu.numOf (l.take i) : Nat) : Int) ∧ Below w.heap.size w wr) (fun p _ _ => n - (intOf p).toNat)
 case atStart => exact ⟨0, Nat.zero_le _, rfl, rfl, O0⟩
 case round =>
  clear O0
  obtain ⟨wo, rfl⟩ : ∃ wo : World, wo = wr := ⟨_, rfl⟩
  obtain ⟨i, hi, rfl, hHA, hb0⟩ := hrel
  have hbr := hb0
  clear B0
  have B0 := zh hbr
  clear hbr
  have HA := zh hHA
  clear hb0 hHA
  have ea := HA.out
  subst ea
  clear HA
  obtain ⟨m, hm⟩ : ∃ m, Qu.numOf (l.take i) = m := ⟨_, rfl⟩
  have hm5 : m ≤ 65537 := by rw [← hm]; exact Qu.numOf_le _
  rw [hm]
  have HM := zh hm
  clear hm
  by_cases hlt : i < n
  ·have hci2 : ((i : Int) < (n : Int)) := by omega
   obtain ⟨b, hb⟩ : ∃ b, l[i]? = some b := ⟨_, List.getElem?_eq_getElem (by rw [HN.out]; exact hlt)⟩
   have HEb := zh hb
   clear hb
   obtain ⟨d, hd⟩ : ∃ d, (b - 48).toNat = d := ⟨_, rfl⟩
   have hd2 : d < 256 := by rw [← hd]; exact UInt8.toNat_lt _
   have HD := zh hd
   clear hd
   go_upto_region 3 with fail
   refine wp_region_lit ?_
   refine zr (.bool true) wo (xo_lssT .i64 (i : Int) (n : Int) (by omega) rfl rfl rfl) ?_
   simp only [Act.put, zA]
   refine wpList_nil ?_
   go_upto_region 4 with fail
   refine wp_region_lit ?_
   refine zr (.int .i64 (i : Int)) wo rfl ?_
   simp only [Act.put, zA]
   refine zr (.int .i64 (i : Int)) wo rfl ?_
   simp only [Act.put, zA]
   refine wpList_nil ?_
   go_upto_region 5 with fail
   refine wp_region_lit ?_
   refine zr (.int .i64 (m : Int)) wo rfl ?_
   simp only [Act.put, zA]
   refine zr (.int .i64 ((10 * m : Nat) : Int)) wo (xo_mulI 10 (m : Int) ((10 * m : Nat) : Int) (by omega) (by omega) (by omega) rfl rfl rfl) ?_
   simp only [Act.put, zA]
   refine zr (.string (sB l)) wo rfl ?_
   simp only [Act.put, zA]
   refine zr (.int .i64 (i : Int)) wo rfl ?_
   simp only [Act.put, zA]
   refine zr (.int .u8 ((b.toNat : Nat) : Int)) wo (xs_idx l i b HEb.out Tryd.underlying9 rfl rfl rfl) ?_
   simp only [Act.put, zA]
   refine zr (.int .u8 (d : Int)) wo (xo_sub .u8 (b.toNat : Int) 48 (d : Int) (by rw [IntKind.wrap_u8, ← HD.out, UInt8.toNat_sub]; show ((b.toNat : Int) - 48) % 256 = (((2 ^ 8 - 48 + b.toNat) % 2 ^ 8 : Nat) : Int); omega) rfl rfl rfl) ?_
   simp only [Act.put, zA]
   refine zr (.int .i64 (d : Int)) wo (xo_cvt .u8 .i64 (d : Int) (d : Int) (by rw [IntKind.wrap_i64]; omega) Tryd.underlying3 Tryd.underlying5 rfl rfl) ?_
   simp only [Act.put, zA]
   refine zr (.int .i64 (((10 * m) + d : Nat) : Int)) wo (xo_addI ((10 * m : Nat) : Int) (d : Int) (((10 * m) + d : Nat) : Int) (by omega) (by omega) (by omega) rfl rfl rfl) ?_
   simp only [Act.put, zA]
   refine zr (.int .i64 ((min ((10 * m) + d) 65537 : Nat) : Int)) wo (xo_min .i64 (((10 * m) + d : Nat) : Int) 65537 ((min ((10 * m) + d) 65537 : Nat) : Int) (by split <;> omega) rfl rfl rfl) ?_
   simp only [Act.put, zA]
   refine zr (.int .i64 ((min ((10 * m) + d) 65537 : Nat) : Int)) wo rfl ?_
   simp only [Act.put, zA]
   refine wpList_nil ?_
   go_upto_region 6 with fail
   refine wp_region_lit ?_
   refine zr (.int .i64 ((i + 1 : Nat) : Int)) wo (xo_addI (i : Int) 1 ((i + 1 : Nat) : Int) (by omega) (by omega) (by omega) rfl rfl rfl) ?_
   simp only [Act.put, zA]
   refine zr (.int .i64 ((i + 1 : Nat) : Int)) wo rfl ?_
   simp only [Act.put, zA]
   refine wpList_nil ?_
   have hq3 := B0.out
   go_wp2_with fail
   go_roundw
   case rel => exact ⟨i + 1, by omega, by go_num, by rw [numOf_succ HEb.out, HM.out, HD.out] <;> rfl, hq3⟩
   case measure => simp [intOf]; omega
  ·have hci2 : ¬ ((i : Int) < (n : Int)) := by omega
   obtain rfl : n = i := by omega
   have hci3 : ¬ ((n : Int) < (n : Int)) := by omega
   go_upto_region 3 with fail
   refine wp_region_lit ?_
   refine zr (.bool false) wo (xo_lssF .i64 (n : Int) (n : Int) (by omega) rfl rfl rfl) ?_
   simp only [Act.put, zA]
   refine wpList_nil ?_
   go_upto_region 7 with fail
   refine wp_region_lit ?_
   refine zr (.int .i64 (m : Int)) wo rfl ?_
   simp only [Act.put, zA]
   refine zr (.int .i64 (m : Int)) wo rfl ?_
   simp only [Act.put, zA]
   refine wpList_nil ?_
   have hr : Qu.numOf l = m := by rw [← HM.out, ← HN.out, List.take_length]
   have hbf := B0.out
   go_wp2_with fail
   go_ret
   subst hr
   exact ⟨rfl, hbf⟩
theorem numberOf_as (l : List UInt8) (n : Nat) (h : Qu.numOf l = n) (hl : l.length ≤ 1000) (w : World) :
  Calls Tryd.prog 67 #[.string (sB l)] w fun e w' => e = .returned (.int .i64 (n : Int)) ∧ Below w.heap.size w w' := by
 subst h
 exact numberOf_any l hl w
set_option maxRecDepth 100000 in
set_option maxHeartbeats 16000000 in
theorem number_as (s : List UInt8) (hs4 : s.length ≤ 1000) (bp bs : Nat) (st : Qu.St) (hst : Qu.Ok s st) (w : World) (hP : PSm w bp bs s st) (lo hi : Nat) (r : Qu.Rs Nat) (hr : Qu.numN s lo hi st = r) :
  Calls Tryd.prog 59 #[.pointer (some ⟨bp, 0, none⟩), .int .i64 (lo : Int), .int .i64 (hi : Int)] w fun e w' => e = .returned (.tuple #[.int .i64 (r.val : Int), .int .i64 (r.err : Int)]) ∧ PSm w' bp bs s r.st ∧ FarC bp bs w w' := by
 obtain ⟨V, hV0, hV⟩ := base_world w
 have B0 := zh hV
 have HVW := zh hV
 clear hV
 have HF := zh (FarH.refl bp bs w)
 have HS4 := zh hs4
 have HOK := zh hst
 have HNE := zh hP.ne
 have HP1 := zh hP.p1
 have HS1 := zh hP.s1
 have hne := hP.ne
 have Hpbp : Hid (w.heap[bp]? = some (.cells #[.func (.func 41) #[.pointer (some ⟨bs, 0, none⟩)] #[], .int .i64 (st.tok.cls : Int), .string (sB st.tok.tx), .int .i64 ((st.off : Nat) : Int)] 72 (0, 0))) := zh (hP.pr)
 have Gpbp : Hid (V.heap.size ≤ bp) := zh (by omega)
 have Lpbp : Hid (bp < w.heap.size) := zh (xp_lt Hpbp.out)
 have Hpbs : Hid (w.heap[bs]? = some (.cells #[.string (sB s), .int .i64 ((st.pos : Nat) : Int)] 66 (0, 0))) := zh (hP.sc)
 have Gpbs : Hid (V.heap.size ≤ bs) := zh (by omega)
 have Lpbs : Hid (bs < w.heap.size) := zh (xp_lt Hpbs.out)
 have Npbpbs : Hid (bp ≠ bs) := zh (by omega)
 clear hs4 hst hP hne
 go_enter Tryd.func59, Tryd.ntmps59
 go_upto_region 1 with fail
 obtain ⟨n, hn⟩ : ∃ n, Qu.numOf st.tok.tx = n := ⟨_, rfl⟩
 have hn5 : n ≤ 65537 := by rw [← hn]; exact Qu.numOf_le _
 have HNm := zh hn
 clear hn
 have h1s := rfl (a := r)
 clear h1s
 have HR := zh hr
 clear hr
 by_cases hc : st.tok.cls = 3
 ·have hci0 : ¬ (((st.tok.cls : Nat) : Int) ≠ 3) := by omega
  go_upto_region 1 with fail
  refine wp_region_lit ?_
  refine zr (.pointer (some ⟨bp, 0, none⟩)) w rfl ?_
  simp only [Act.put, zA]
  refine zr (.pointer (some ⟨bp, 0, none⟩)) w (xo_nil _ rfl rfl) ?_
  simp only [Act.put, zA]
  refine zr (.pointer (some ⟨bp, 1, none⟩)) w (xo_fld0 1 bp 1 (by kernel_rfl) rfl rfl) ?_
  simp only [Act.put, zA]
  refine zr (.pointer (some ⟨bp, 1, none⟩)) w (xo_fld 0 bp 1 0 (by kernel_rfl) rfl rfl) ?_
  simp only [Act.put, zA]
  refine zr (.int .i64 (st.tok.cls : Int)) w (xo_load1 ⟨bp, 1, none⟩ _ (cells_at Hpbp.out 1 rfl) Tryd.underlying68 rfl rfl rfl) ?_
  simp only [Act.put, zA]
  refine zr (.bool false) w (xo_neqF .i64 ((st.tok.cls : Nat) : Int) 3 (by omega) rfl rfl rfl) ?_
  simp only [Act.put, zA]
  refine wpList_nil ?_
  go_upto_region 3 with fail
  refine wp_region_lit ?_
  refine zr (.pointer (some ⟨bp, 0, none⟩)) w rfl ?_
  simp only [Act.put, zA]
  refine zr (.pointer (some ⟨bp, 0, none⟩)) w (xo_nil _ rfl rfl) ?_
  simp only [Act.put, zA]
  refine zr (.pointer (some ⟨bp, 1, none⟩)) w (xo_fld0 1 bp 1 (by kernel_rfl) rfl rfl) ?_
  simp only [Act.put, zA]
  refine zr (.pointer (some ⟨bp, 2, none⟩)) w (xo_fld 1 bp 1 1 (by kernel_rfl) rfl rfl) ?_
  simp only [Act.put, zA]
  refine zr (.string (sB st.tok.tx)) w (xo_load1 ⟨bp, 2, none⟩ _ (cells_at Hpbp.out 2 rfl) Tryd.underlying9 rfl rfl rfl) ?_
  simp only [Act.put, zA]
  refine wpList_call (by kernel_rfl) 67 Tryd.func67 (by kernel_rfl) (by kernel_rfl) _ _ #[.string (sB st.tok.tx)] rfl (by kernel_rfl) ?_
  refine (numberOf_as st.tok.tx n HNm.out (Nat.le_trans HOK.out.2.2 HS4.out) w).mono ?_
  rintro e V2 ⟨rfl, hb⟩
  have B1 := zh hb
  clear hb 
  refine ⟨_, rfl, ?_⟩
  simp only [Act.put, zA]
  refine zr (.int .i64 (n : Int)) V2 rfl ?_
  simp only [Act.put, zA]
  refine wpList_nil ?_
  by_cases hlo : n < lo
  ·have hci1 : ((n : Int) < (lo : Int)) := by omega
   go_upto_region 4 with fail
   refine wp_region_lit ?_
   refine zr (.int .i64 (n : Int)) V2 rfl ?_
   simp only [Act.put, zA]
   refine zr (.int .i64 (lo : Int)) V2 rfl ?_
   simp only [Act.put, zA]
   refine zr (.bool true) V2 (xo_lssT .i64 (n : Int) (lo : Int) (by omega) rfl rfl rfl) ?_
   simp only [Act.put, zA]
   refine zr (.bool true) V2 rfl ?_
   simp only [Act.put, zA]
   refine zl ?_
   try simp only [Act.put, zA]
   refine zl ?_
   try simp only [Act.put, zA]
   refine zl ?_
   try simp only [Act.put, zA]
   refine zr (.bool true) V2 rfl ?_
   simp only [Act.put, zA]
   refine wpList_nil ?_
   go_upto_region 5 with fail
   refine wp_region_lit ?_
   refine zr (.int .i64 0) V2 rfl ?_
   simp only [Act.put, zA]
   refine zr (.int .i64 1) V2 rfl ?_
   simp only [Act.put, zA]
   refine wpList_nil ?_
   have hx : r = ⟨0, 1, st⟩ := HR.out.symm.trans (by unfold Qu.numN; rw [if_pos hc, HNm.out, if_pos (.inl hlo)])
   have hsf : PSm V2 bp bs s _ := ⟨(heap_keep Hpbs.out B1.out), (heap_keep Hpbp.out B1.out), HNE.out, HP1.out, HS1.out⟩
   have C0_2 := zb B0 B1
   have hff := farc_mk (HF.out.keep B1.out) HVW.out C0_2.out
   go_wp2_with fail
   go_ret2
   subst hx
   exact ⟨rfl, hsf, hff⟩
  ·have hci1 : ¬ ((n : Int) < (lo : Int)) := by omega
   by_cases hhi : hi < n
   ·have hci2 : ((n : Int) > (hi : Int)) := by omega
    go_upto_region 4 with fail
    refine wp_region_lit ?_
    refine zr (.int .i64 (n : Int)) V2 rfl ?_
    simp only [Act.put, zA]
    refine zr (.int .i64 (lo : Int)) V2 rfl ?_
    simp only [Act.put, zA]
    refine zr (.bool false) V2 (xo_lssF .i64 (n : Int) (lo : Int) (by omega) rfl rfl rfl) ?_
    simp only [Act.put, zA]
    refine zr (.bool false) V2 rfl ?_
    simp only [Act.put, zA]
    refine zr (.int .i64 (n : Int)) V2 rfl ?_
    simp only [Act.put, zA]
    refine zr (.int .i64 (hi : Int)) V2 rfl ?_
    simp only [Act.put, zA]
    refine zr (.bool true) V2 (xo_gtrT .i64 (n : Int) (hi : Int) (by omega) rfl rfl rfl) ?_
    simp only [Act.put, zA]
    refine zr (.bool true) V2 rfl ?_
    simp only [Act.put, zA]
    refine wpList_nil ?_
    go_upto_region 5 with fail
    refine wp_region_lit ?_
    refine zr (.int .i64 0) V2 rfl ?_
    simp only [Act.put, zA]
    refine zr (.int .i64 1) V2 rfl ?_
    simp only [Act.put, zA]
    refine wpList_nil ?_
    have hx : r = ⟨0, 1, st⟩ := HR.out.symm.trans (by unfold Qu.numN; rw [if_pos hc, HNm.out, if_pos (.inr hhi)])
    have hsf : PSm V2 bp bs s _ := ⟨(heap_keep Hpbs.out B1.out), (heap_keep Hpbp.out B1.out), HNE.out, HP1.out, HS1.out⟩
    have C0_2 := zb B0 B1
    have hff := farc_mk (HF.out.keep B1.out) HVW.out C0_2.out
    go_wp2_with fail
    go_ret2
    subst hx
    exact ⟨rfl, hsf, hff⟩
   ·have hci2 : ¬ ((n : Int) > (hi : Int)) := by omega
    go_upto_region 4 with fail
    refine wp_region_lit ?_
    refine zr (.int .i64 (n : Int)) V2 rfl ?_
    simp only [Act.put, zA]
    refine zr (.int .i64 (lo : Int)) V2 rfl ?_
    simp only [Act.put, zA]
    refine zr (.bool false) V2 (xo_lssF .i64 (n : Int) (lo : Int) (by omega) rfl rfl rfl) ?_
    simp only [Act.put, zA]
    refine zr (.bool false) V2 rfl ?_
    simp only [Act.put, zA]
    refine zr (.int .i64 (n : Int)) V2 rfl ?_
    simp only [Act.put, zA]
    refine zr (.int .i64 (hi : Int)) V2 rfl ?_
    simp only [Act.put, zA]
    refine zr (.bool false) V2 (xo_gtrF .i64 (n : Int) (hi : Int) (by omega) rfl rfl rfl) ?_
    simp only [Act.put, zA]
    refine zr (.bool false) V2 rfl ?_
    simp only [Act.put, zA]
    refine wpList_nil ?_
    go_upto_region 6 with fail
    refine wp_region_lit ?_
    refine zr (.pointer (some ⟨bp, 0, none⟩)) V2 rfl ?_
    simp only [Act.put, zA]
    refine wpList_call (by kernel_rfl) 42 Tryd.func42 (by kernel_rfl) (by kernel_rfl) _ _ #[.pointer (some ⟨bp, 0, none⟩)] rfl (by kernel_rfl) ?_
    refine (advance_any s HS4.out bp bs st HOK.out V2 ⟨(heap_keep Hpbs.out B1.out), (heap_keep Hpbp.out B1.out), HNE.out, HP1.out, HS1.out⟩).mono ?_
    rintro e W2_3 ⟨rfl, hps, hfc⟩
    have YHF : FarH bp bs w W2_3 := FarH.farC (HF.out.keep B1.out) hfc
    have C0_2 := zb B0 B1
    have hb := farc_bel hV0 C0_2.out hfc
    have hbr := hb
    clear B0
    have B0 := zh hbr
    clear hbr
    clear hb
    clear HF
    have HF : Hid (FarH bp bs w W2_3) := zh YHF
    clear YHF
    clear Hpbs
    have Hpbs : Hid (W2_3.heap[bs]? = some (.cells #[.string (sB s), .int .i64 (((Qu.adv s st).pos : Nat) : Int)] 66 (0, 0))) := zh (hps.sc)
    clear Hpbp
    have Hpbp : Hid (W2_3.heap[bp]? = some (.cells #[.func (.func 41) #[.pointer (some ⟨bs, 0, none⟩)] #[], .int .i64 ((Qu.adv s st).tok.cls : Int), .string (sB ((Qu.adv s st).tok.tx)), .int .i64 (((Qu.adv s st).off : Nat) : Int)] 72 (0, 0))) := zh (hps.pr)
    clear hfc hps 
    refine ⟨_, rfl, ?_⟩
    simp only [Act.put, zA]
    refine wpList_nil ?_
    go_upto_region 7 with fail
    refine wp_region_lit ?_
    refine zr (.int .i64 (n : Int)) W2_3 rfl ?_
    simp only [Act.put, zA]
    refine zr (.int .i64 (n : Int)) W2_3 rfl ?_
    simp only [Act.put, zA]
    refine zr (.int .i64 0) W2_3 rfl ?_
    simp only [Act.put, zA]
    refine wpList_nil ?_
    have hx : r = ⟨n, 0, Qu.adv s st⟩ := HR.out.symm.trans (by unfold Qu.numN; rw [if_pos hc, HNm.out, if_neg (by omega)])
    have hsf : PSm W2_3 bp bs s _ := ⟨Hpbs.out, Hpbp.out, HNE.out, HP1.out, HS1.out⟩
    have hff := farc_mk HF.out HVW.out B0.out
    go_wp2_with fail
    go_ret2
    subst hx
    exact ⟨rfl, hsf, hff⟩
 ·have hci0 : (((st.tok.cls : Nat) : Int) ≠ 3) := by omega
  go_upto_region 1 with fail
  refine wp_region_lit ?_
  refine zr (.pointer (some ⟨bp, 0, none⟩)) w rfl ?_
  simp only [Act.put, zA]
  refine zr (.pointer (some ⟨bp, 0, none⟩)) w (xo_nil _ rfl rfl) ?_
  simp only [Act.put, zA]
  refine zr (.pointer (some ⟨bp, 1, none⟩)) w (xo_fld0 1 bp 1 (by kernel_rfl) rfl rfl) ?_
  simp only [Act.put, zA]
  refine zr (.pointer (some ⟨bp, 1, none⟩)) w (xo_fld 0 bp 1 0 (by kernel_rfl) rfl rfl) ?_
  simp only [Act.put, zA]
  refine zr (.int .i64 (st.tok.cls : Int)) w (xo_load1 ⟨bp, 1, none⟩ _ (cells_at Hpbp.out 1 rfl) Tryd.underlying68 rfl rfl rfl) ?_
  simp only [Act.put, zA]
  refine zr (.bool true) w (xo_neqT .i64 ((st.tok.cls : Nat) : Int) 3 (by omega) rfl rfl rfl) ?_
  simp only [Act.put, zA]
  refine wpList_nil ?_
  go_upto_region 2 with fail
  refine wp_region_lit ?_
  refine zr (.pointer (some ⟨bp, 0, none⟩)) w rfl ?_
  simp only [Act.put, zA]
  refine wpList_call (by kernel_rfl) 66 Tryd.func66 (by kernel_rfl) (by kernel_rfl) _ _ #[.pointer (some ⟨bp, 0, none⟩)] rfl (by kernel_rfl) ?_
  refine (refuse_any s HS4.out bp bs st HOK.out w ⟨Hpbs.out, Hpbp.out, HNE.out, HP1.out, HS1.out⟩).mono ?_
  rintro e W1 ⟨rfl, hw1⟩
  rw [hw1]
  clear hw1 W1
  refine ⟨_, rfl, ?_⟩
  simp only [Act.put, zA]
  refine zr (.int .i64 0) w rfl ?_
  simp only [Act.put, zA]
  refine zr (.int .i64 (Qu.refN st : Int)) w rfl ?_
  simp only [Act.put, zA]
  refine wpList_nil ?_
  have hx : r = ⟨0, Qu.refN st, st⟩ := HR.out.symm.trans (by unfold Qu.numN; rw [if_neg hc])
  have hsf : PSm w bp bs s _ := ⟨Hpbs.out, Hpbp.out, HNE.out, HP1.out, HS1.out⟩
  have hff := farc_mk HF.out HVW.out B0.out
  go_wp2_with fail
  go_ret2
  subst hx
  exact ⟨rfl, hsf, hff⟩
end Go.Proofs.YtlicfidcfhbmpaaDoor

namespace Go.Proofs.YtlicfidcfhbmpaaDoor.K
set_option maxRecDepth 8000
open Go.RowKit
section
theorem getObjM {P : Program} {w : World} {r : Nat} {es : Array MapEntry} {clock : Nat} (hb : w.heap[r]? = some (.map es clock)) : (getObj r).run P w = .ok (.map es clock) w := by
 simp [getObj, Sem.run, hb]
theorem setObjM {P : Program} {w : World} {r : Nat} {es : Array MapEntry} {clock : Nat} (o : Obj) (hb : w.heap[r]? = some (.map es clock)) : (setObj r o).run P w = .ok () { w with heap := w.heap.setIfInBounds r o } := by
 simp [setObj, Sem.run, hb]
variable {P : Program} {ops : Array Oper} {Q : Exit → Act → World → Prop}
theorem checkKeyI {k : TypeId} (hk : P.underlying k = some (.int .i64)) (e : Bool) (n : Nat) (v : Int) (w : World) : (Instr.checkKey e (n + 1) k (.int .i64 v)).run P w = .ok () w := by
 unfold Instr.checkKey
 simp only [Sem.run_bind]
 rw [run_underlying hk, Result.andThen_ok]
 rfl
theorem wpList_mkmap {rest : List Oper} {o : Oper} {a : Act} {w : World} {ty : TypeId} (hw : Region.wanted o (yielded ops a.tmps) = true) (ho : o.op = .makeMap ty none)
  (h : ∀ b W, w.heap.size ≤ b → W.heap[b]? = some (.map ([] : List MapEntry).toArray 0) → Below w.heap.size w W → wpList P ops Q rest (a.put o.dst (.map (some b))) W) : wpList P ops Q (o :: rest) a w :=
 wpList_run hw (.map (some w.heap.size)) (w.alloc (.map #[] 0)) (by unfold execOp; simp [ho, Instr.makeMap, Sem.run_bind]) (h _ _ (Nat.le_refl _) (heap_new w _) ((Below.refl _ _).alloc (Nat.le_refl _) _))
set_option maxRecDepth 100000 in
theorem wpList_ins {rest : List Oper} {o : Oper} {a : Act} {w : World} {ty kt et : TypeId} {m k x : Operand} (hw : Region.wanted o (yielded ops a.tmps) = true) (b : Nat) (es : List MapEntry) (c : Nat) (kv : Int) (v : Value) (hb : w.heap[b]? = some (.map es.toArray c))
  (hn : Instr.findNow (.int .i64) (.int .i64 kv) es 0 = some none) (hu : P.underlying ty = some (.map kt et)) (hk : P.underlying kt = some (.int .i64)) (ho : o.op = .insert ty m k x) (hm : a.eval m = .map (some b)) (hk' : a.eval k = .int .i64 kv) (hx : a.eval x = v)
  (h : ∀ W, W.heap[b]? = some (.map (es ++ [MapEntry.mk (.int .i64 kv) v c]).toArray (c + 1)) → (∀ B v0, B ≤ b → Below B v0 w → Below B v0 W) → wpList P ops Q rest (a.put o.dst undef) W) : wpList P ops Q (o :: rest) a w := by
 have hlt := (Array.getElem?_eq_some_iff.1 hb).1
 refine wpList_run0 hw { w with heap := w.heap.setIfInBounds b (.map (es ++ [MapEntry.mk (.int .i64 kv) v c]).toArray (c + 1)) } ?_ (h _ ?_ (fun B v0 hB hbl => ?_))
 ·unfold execOp
  simp only [ho, hm, hk', hx, Instr.mapUpdate, Sem.run_bind]
  rw [run_underlying hu, Result.andThen_ok]
  simp only [Sem.run_bind, getObjM hb, Result.andThen_ok, checkKeyI hk, Instr.findKey, run_underlying hk, hn, Sem.run_pure]
  simp only [Array.push, List.toList_toArray] 
  rw [setObjM _ hb]
  simp [Result.andThen_ok]
 ·simp [hlt]
 ·refine ⟨hbl.os, hbl.tape, hbl.output, by simpa using hbl.size, fun j hj => ?_⟩
  rw [← hbl.block j hj]
  simp only [Array.getElem?_setIfInBounds]
  rw [if_neg (by omega)]
set_option maxRecDepth 100000 in
theorem xm_lookup {ev : Operand → Value} {o : Oper} {w : World} {ty kt et : TypeId} {m k : Operand} (b : Nat) (es : List MapEntry) (c : Nat) (kv : Int) (j : Nat) (v : Value) (hb : w.heap[b]? = some (.map es.toArray c))
  (hn : Instr.findNow (.int .i64) (.int .i64 kv) es 0 = some (some (j, v))) (hu : P.underlying ty = some (.map kt et)) (hk : P.underlying kt = some (.int .i64)) (ho : o.op = .lookup ty m k false) (hm : ev m = .map (some b)) (hk' : ev k = .int .i64 kv) : (execOp ev o).run P w = .ok (.value v) w := by
 unfold execOp
 simp only [ho, hm, hk', Instr.lookup, Sem.run_bind]
 rw [run_underlying hu, Result.andThen_ok]
 simp [Sem.run_bind, getObjM hb, Result.andThen_ok, checkKeyI hk, Instr.findKey, run_underlying hk, hn, Sem.run_pure]
end
end Go.Proofs.YtlicfidcfhbmpaaDoor.K
namespace Go.Proofs.YtlicfidcfhbmpaaDoor
open Go.RowKit Go.Proofs.YtlicfidcfhbmpaaDoor.K
def formV (i : Nat) : Value := .agg #[.string (sB (Qu.kwN i)), .bool (Qu.hasC i), .int .i64 (Qu.maxK i : Int), .int .i64 (Qu.numF i : Int)]
def formE (i : Nat) : MapEntry := ⟨.int .i64 (i : Int), formV i, i - 1⟩
def formsM : Obj := .map [formE 1, formE 2, formE 3, formE 4, formE 5, formE 6, formE 7].toArray 7
theorem forms_find (i : Nat) (h1 : 1 ≤ i) (h7 : i ≤ 7) : Instr.findNow (.int .i64) (.int .i64 (i : Int)) [formE 1, formE 2, formE 3, formE 4, formE 5, formE 6, formE 7] 0 = some (some (i - 1, formV i)) := by
 rcases i with _ | _ | _ | _ | _ | _ | _ | _ | i
 ·omega
 all_goals first | rfl | omega
theorem forms_miss (i : Int) (h : i < 1 ∨ 7 < i) : Instr.findNow (.int .i64) (.int .i64 i) [formE 1, formE 2, formE 3, formE 4, formE 5, formE 6, formE 7] 0 = some none := by
 have e : ∀ j : Nat, 1 ≤ j → j ≤ 7 → (i == ((j : Nat) : Int)) = false := fun j h1 h7 => by
  rw [beq_eq_false_iff_ne]
  omega
 simp only [Instr.findNow, Instr.sameNow, formE, e 1 (by omega) (by omega), e 2 (by omega) (by omega), e 3 (by omega) (by omega), e 4 (by omega) (by omega), e 5 (by omega) (by omega), e 6 (by omega) (by omega), e 7 (by omega) (by omega), if_true]
set_option maxRecDepth 100000 in
theorem xc_index {ev : Operand → Value} {o : Oper} {w : World} {x y : Operand} (i : Nat) (hi : i < 4) (ho : o.op = .index 63 x y)
  (hx : ev x = .agg #[.string (sB (Qu.nameN 0)), .int .i64 15, .string (sB (Qu.nameN 1)), .int .i64 255, .string (sB (Qu.nameN 2)), .int .i64 15, .string (sB (Qu.nameN 3)), .int .i64 255]) (hy : ev y = .int .i64 (i : Int)) :
  (execOp ev o).run Tryd.prog w = .ok (.value (.agg #[.string (sB (Qu.nameN i)), .int .i64 (Qu.maxN i : Int)])) w := by
 unfold execOp
 simp only [ho, hx, hy]
 rcases i with _ | _ | _ | _ | i
 ·rfl
 ·rfl
 ·rfl
 ·rfl
 ·omega
end Go.Proofs.YtlicfidcfhbmpaaDoor

