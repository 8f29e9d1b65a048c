/- Several texts in one: Yr, Yat. -/
import Derived.Test.YtlicfidcfhbmpaaDoorE14
set_option linter.unusedVariables false
set_option linter.unusedSimpArgs false
set_option linter.unusedSectionVars false
namespace Go.Proofs.YtlicfidcfhbmpaaDoor
set_option maxRecDepth 8000
open Go.RowKit Go.Proofs.YtlicfidcfhbmpaaDoor.K
attribute [local irreducible] wpList wpQuiet
def _root_.Qu.withT : List UInt8 := [32, 119, 105, 116, 104]
def _root_.Qu.fsG : Bool → List (List Qu.Cd) → List UInt8
 | _, [] => []
 | b, l :: ls => (if b then [] else Qu.withT) ++ Qu.ftN l ++ Qu.fsG false ls
def _root_.Qu.fsN (fs : List (List Qu.Cd)) : List UInt8 := Qu.fsG true fs
def _root_.Qu.hdN (kind col k : Nat) : List UInt8 := (if Qu.hasC kind then Qu.kwN kind ++ ([32] ++ Qu.nameN col) else Qu.kwN kind) ++ (if 0 < Qu.maxK kind then [32] ++ Qu.decN k else [])
def _root_.Qu.fmtN (q : Qu.Qy) : List UInt8 := Qu.hdN q.kind q.col q.k ++ Qu.fsN q.fs
theorem _root_.Qu.fsG_snoc (l : List Qu.Cd) : ∀ (b : Bool) (ls : List (List Qu.Cd)), Qu.fsG b (ls ++ [l]) = Qu.fsG b ls ++ ((if ls.length = 0 ∧ b = true then [] else Qu.withT) ++ Qu.ftN l)
 | b, [] => by cases b <;> simp [Qu.fsG]
 | b, a :: ls => by
  show (if b then [] else Qu.withT) ++ Qu.ftN a ++ Qu.fsG false (ls ++ [l]) = _
  rw [Qu.fsG_snoc l false ls]
  simp [Qu.fsG]
theorem _root_.Qu.fsN_take {fs : List (List Qu.Cd)} {i : Nat} {l : List Qu.Cd} (h : fs[i]? = some l) : Qu.fsN (fs.take (i + 1)) = Qu.fsN (fs.take i) ++ ((if i = 0 then [] else Qu.withT) ++ Qu.ftN l) := by
 have hi := (List.getElem?_eq_some_iff.1 h).1
 rw [List.take_add_one, h]
 show Qu.fsG true (_ ++ [l]) = _
 rw [Qu.fsG_snoc, List.length_take, Nat.min_eq_left (by omega)]
 simp [Qu.fsN]
theorem _root_.Qu.kwN_le (k : Nat) : (Qu.kwN k).length ≤ 8 := by
 unfold Qu.kwN
 split <;> decide
theorem _root_.Qu.maxN_le (k : Nat) : Qu.maxN k ≤ 255 := by
 unfold Qu.maxN
 split <;> decide
theorem _root_.Qu.maxK_le (k : Nat) : Qu.maxK k ≤ 65536 := by
 unfold Qu.maxK
 split <;> decide
/-- a valid filter of numbers -/
theorem _root_.Qu.vL_ok {l : List Qu.Cd} (h : Qu.vL (l.map Qu.Cd.ci) = true) : l.length ≤ 3 ∧ ∀ e ∈ l, e.col < 4 ∧ e.lo ≤ 255 ∧ e.hi ≤ 255 := by
 unfold Qu.vL at h
 simp only [Bool.and_eq_true, List.all_eq_true, decide_eq_true_eq, List.length_map] at h
 refine ⟨h.2, fun e he => ?_⟩
 have h1 := h.1 _ (List.mem_map_of_mem he)
 unfold Qu.vC Qu.isC at h1
 simp only [Bool.and_eq_true, decide_eq_true_eq, Qu.Cd.ci, Int.toNat_natCast] at h1
 obtain ⟨⟨h2, h3⟩, h4, h5, h6⟩ := h1
 have h3' : (e.col : Int) < 4 := of_decide_eq_true h3
 have h5' : (e.lo : Int) ≤ (e.hi : Int) := of_decide_eq_true h5
 have h6' : (e.hi : Int) ≤ (Qu.maxN e.col : Int) := of_decide_eq_true h6
 have := Qu.maxN_le e.col
 omega
theorem fsG_len : ∀ (b : Bool) (ls : List (List Qu.Cd)), (∀ l ∈ ls, l.length ≤ 3) → (Qu.fsG b ls).length ≤ 130 * ls.length
 | _, [], _ => Nat.zero_le _
 | b, a :: ls, h => by
  have h1 := fsG_len false ls (fun l hl => h l (List.mem_cons_of_mem _ hl))
  have h2 := Qu.ftG_le (w := Qu.whereT) (by decide) a
  have h3 := h a (List.mem_cons_self ..)
  have h4 : ((if b then [] else Qu.withT) : List UInt8).length ≤ 5 := by cases b <;> decide
  simp only [Qu.fsG, Qu.ftN, List.length_append, List.length_cons]
  omega
theorem fsN_len {fs : List (List Qu.Cd)} {i : Nat} (h : ∀ l ∈ fs, l.length ≤ 3) : (Qu.fsN (fs.take i)).length ≤ 130 * i :=
 Nat.le_trans (fsG_len true _ fun l hl => h l (List.mem_of_mem_take hl)) (by rw [List.length_take]; omega)
theorem filterText_as (A : Option Addr) (n c : Nat) (hn3 : n ≤ 3) (l : List Qu.Cd) (hok : ∀ e ∈ l, e.col < 4 ∧ e.lo ≤ 255 ∧ e.hi ≤ 255) (x : List UInt8) (hx : Qu.ftN l = x) (w : World) (hG : Gc w) (hL : Sg ciC 3 w A n c (l.map Qu.Cd.ci)) :
  Calls Tryd.prog 38 #[.slice A n c] w fun e w' => e = .returned (.string (sB x)) ∧ Below w.heap.size w w' := by
 subst hx
 exact filterText_any A n c hn3 l hok w hG hL
set_option maxRecDepth 100000 in
set_option maxHeartbeats 32000000 in
theorem format_any (kd col k : Nat) (A : Option Addr) (n c : Nat) (hs : List Hd) (fs : List (List Qu.Cd)) (hv : Qu.vQ (kd : Int) (col : Int) (k : Int) (fs.map (List.map Qu.Cd.ci)) = true) (w : World) (hG : Gc w) (hF : FsR w A n c hs (fs.map (List.map Qu.Cd.ci))) :
  Calls Tryd.prog 18 #[.agg #[.int .i64 (kd : Int), .int .i64 (col : Int), .int .i64 (k : Int), .slice A n c]] w fun e w' => e = .returned (.string (sB (Qu.fmtN ⟨kd, col, k, fs⟩))) ∧ Below w.heap.size w w' := by
 have HFR := zh hF
 have HG := zh hG
 have hln := hF.sg.len
 have hlc := hF.sg.cap
 have hlt := hF.sg.top
 have hfl := hF.len
 rw [List.length_map] at hfl
 clear hF hG
 have HV := zh hv
 have hv2 := hv
 unfold Qu.vQ Qu.mF Qu.isC at hv2
 simp only [Bool.and_eq_true, decide_eq_true_eq, Int.toNat_natCast, List.all_eq_true, List.length_map] at hv2
 obtain ⟨hk1, hk7, ⟨⟨hc0, hc4⟩, hcol0, hkk1, hkk2, hnf⟩, hall⟩ := hv2
 have HALL := zh hall
 have hmk5 := Qu.maxK_le kd
 have hn2 : fs.length ≤ 2 := by rw [hnf]; exact Qu.numF_le _
 clear hall hv hcol0 hkk1
 go_enter Tryd.func18, Tryd.ntmps18
 go_upto_region 1 with fail
 refine wp_named1 (fun V1 hb g0 hlt => ?_)
 have B0 := zh hb
 have Fv0_1 : Hid (V1.heap[w.heap.size]? = some (.cells #[.int .i64 (kd : Int), .int .i64 (col : Int), .int .i64 (k : Int), .slice A n c] 24 (0, 0))) := zh (g0)
 have Gb0 : Hid (w.heap.size ≤ w.heap.size) := zh (by omega)
 clear hb g0 hlt
 have Lt0 : Hid (w.heap.size < V1.heap.size) := zh (xp_lt Fv0_1.out)
 refine wp_region_lit ?_
 refine zr (.agg #[.int .i64 (kd : Int), .int .i64 (col : Int), .int .i64 (k : Int), .slice A n c]) V1 (xo_loadW w.heap.size _ Fv0_1.out Tryd.underlying24 rfl (by kernel_rfl) rfl rfl) ?_
 simp only [Act.put, zA]
 refine wpList_call (by kernel_rfl) 12 Tryd.func12 (by kernel_rfl) (by kernel_rfl) _ _ #[.agg #[.int .i64 (kd : Int), .int .i64 (col : Int), .int .i64 (k : Int), .slice A n c]] rfl (by kernel_rfl) ?_
 refine (valid_as (kd : Int) (col : Int) (k : Int) A n c hs (fs.map (List.map Qu.Cd.ci)) true HV.out V1 (HG.out.keep B0.out) (HFR.out.keep B0.out)).mono ?_
 rintro e V2 ⟨rfl, hb⟩
 have B1 := zh hb
 clear hb 
 refine ⟨_, rfl, ?_⟩
 simp only [Act.put, zA]
 refine zr (.bool false) V2 rfl ?_
 simp only [Act.put, zA]
 refine wpList_nil ?_
 obtain ⟨kw, hkw⟩ : ∃ kw, Qu.kwN kd = kw := ⟨_, rfl⟩
 have HKW := zh hkw
 clear hkw
 obtain ⟨cb, hcb⟩ : ∃ cb, Qu.hasC kd = cb := ⟨_, rfl⟩
 have HCB := zh hcb
 clear hcb
 obtain ⟨mk, hmk⟩ : ∃ mk, Qu.maxK kd = mk := ⟨_, rfl⟩
 have HMK := zh hmk
 clear hmk
 obtain ⟨nf, hnf⟩ : ∃ nf, Qu.numF kd = nf := ⟨_, rfl⟩
 have HNF := zh hnf
 clear hnf
 obtain ⟨nm, hnm⟩ : ∃ nm, Qu.nameN col = nm := ⟨_, rfl⟩
 have Hnm := zh hnm
 clear hnm
 obtain ⟨dk, hdk⟩ : ∃ dk, Qu.decN k = dk := ⟨_, rfl⟩
 have HDK := zh hdk
 clear hdk
 have hkwl : kw.length ≤ 8 := by rw [← HKW.out]; exact Qu.kwN_le _
 have hnml : nm.length ≤ 5 := by rw [← Hnm.out]; exact Qu.nameN_le _
 have hdkl : dk.length ≤ 6 := by rw [← HDK.out]; exact Qu.decF_le 6 _
 have HROW : Hid (formV kd = .agg #[.string (sB kw), .bool cb, .int .i64 (mk : Int), .int .i64 (nf : Int)]) := zh (by rw [formV, HKW.out, HCB.out, HMK.out, HNF.out])
 go_upto_region 3 with fail
 refine wp_cutP (α := Nat × Nat) (fun ⟨fb, b3⟩ => [(10, .map (some fb)), (11, .pointer (some ⟨w.heap.size, 0, none⟩)), (12, .int .i64 (kd : Int)), (13, .agg #[.string (sB kw), .bool cb, .int .i64 (mk : Int), .int .i64 (nf : Int)]), (3, .pointer (some ⟨b3, 0, none⟩))]) (fun ⟨_, b3⟩ W => Below V2.heap.size V2 W ∧ V2.heap.size ≤ b3 ∧ W.heap[b3]? = some (.cells #[.string (sB kw), .bool cb, .int .i64 (mk : Int), .int .i64 (nf : Int)] 53 (0, 0))) ?_ ?_
 ·have T4 := zh (heap_keep Fv0_1.out B1.out)
  have T4l : Hid (w.heap.size < V2.heap.size) := zh (xp_lt T4.out)
  try simp only [List.append_eq, List.cons_append, List.nil_append]
  refine wp_ordM 5 (.q 1 (.q 2 (.fork 0 (.fork 3 (.one 4 .nil) 4 (.one 3 .nil)) 4 (.one 0 (.one 3 .nil))))) (by kernel_rfl) (by kernel_rfl) (by kernel_rfl) (by kernel_rfl) (by kernel_rfl) (by kernel_rfl) (by kernel_rfl) (fun V1 hb => ?_)
  have B0 := zh hb
  clear hb
  refine wpOT_q (.pointer (some ⟨w.heap.size, 0, none⟩)) rfl (by kernel_rfl) (fun v hW => (xo_fld0 0 w.heap.size 0 (by kernel_rfl) rfl rfl)) ?_
  simp only [ptr, Act.put, zA]
  refine wpOT_q (.int .i64 (kd : Int)) rfl (by kernel_rfl) (fun v hW => (xo_load1 ⟨w.heap.size, 0, none⟩ _ (cells_at (heap_keep (heap_keep T4.out B0.out) hW) 0 rfl) Tryd.underlying3 rfl rfl rfl)) ?_
  simp only [ptr, Act.put, zA]
  refine wpOT_fork ?_ ?_
  ·refine wpOT_one rfl (by kernel_rfl) ?_
   refine hOp_call 29 Tryd.func29 (by kernel_rfl) (by kernel_rfl) _ _ #[] rfl (by kernel_rfl) ?_
   refine (forms_any V1).mono ?_
   rintro e V2 ⟨fb, rfl, hge, hfm, hb⟩
   have B1 := zh hb
   have HFm := zh hfm
   have HFg := zh hge
   clear hb hfm hge
   refine ⟨_, rfl, B1.out, ?_⟩
   simp only [ptr, Act.put, zA]
   refine wpOT_fork ?_ ?_
   ·refine wpOT_one rfl (by kernel_rfl) ?_
    refine hOp_val (.agg #[.string (sB kw), .bool cb, .int .i64 (mk : Int), .int .i64 (nf : Int)]) (xm_lookup fb [formE 1, formE 2, formE 3, formE 4, formE 5, formE 6, formE 7] 7 (kd : Int) (kd - 1) (.agg #[.string (sB kw), .bool cb, .int .i64 (mk : Int), .int .i64 (nf : Int)]) HFm.out ((forms_find kd (by omega) (by omega)).trans (by rw [HROW.out])) Tryd.underlying55 Tryd.underlying3 rfl rfl rfl) ⟨B1.out, ?_⟩
    simp only [ptr, Act.put, zA]
    refine wpOT_one rfl (by kernel_rfl) ?_
    refine hOp_new #[.string ByteArray.empty, .bool false, .int .i64 0, .int .i64 0] 53 (xo_alloc #[.string ByteArray.empty, .bool false, .int .i64 0, .int .i64 0] (by kernel_rfl) rfl) ?_
    intro b3 V3 hge h0 hb
    have C0_2 := zb B0 B1
    have N1_0 : Hid (w.heap.size ≠ b3) := zh (xp_lt0 (heap_keep T4.out C0_2.out) hge)
    have Ge2 : Hid (V2.heap.size ≤ b3) := zh hge
    have B2 := zh hb
    have Fv3_3 : Hid (V3.heap[b3]? = some (.cells #[.string ByteArray.empty, .bool false, .int .i64 0, .int .i64 0] 53 (0, 0))) := zh (h0)
    have Lt4 : Hid (b3 < V3.heap.size) := zh (xp_lt Fv3_3.out)
    clear hge h0 hb
    have C1_3 := zb B1 B2
    refine ⟨C1_3.out, ?_⟩
    try simp only [ptr, Act.put, zA]
    refine wpOT_nil ?_
    have HG6 := zh (Nat.le_trans C0_2.out.size Ge2.out)
    have hfs := Fv3_3.out
    have hgb := (Nat.le_trans C0_2.out.size Ge2.out)
    have C0_3 := zb C0_2 B2
    have hbs := C0_3.out
    have hfar : ∀ k o, k ≠ b3 → V3.heap[k]? = some o → (V3.setRow b3 #[.string (sB kw), .bool cb, .int .i64 (mk : Int), .int .i64 (nf : Int)]).heap[k]? = some o := fun k o hk h0 => heap_farRow h0 hk _
    refine mOp_run0 _ rfl rfl (xo_storeW b3 #[.string ByteArray.empty, .bool false, .int .i64 0, .int .i64 0] #[.string (sB kw), .bool cb, .int .i64 (mk : Int), .int .i64 (nf : Int)] hfs (by kernel_rfl) rfl (by simp [Value.oneCell']) rfl rfl rfl) ?_
    try simp only [List.getElem_toArray, List.getElem_cons_succ, List.getElem_cons_zero, ptr, Act.put, zA]
    have hfn := setRow_heap V3 b3 _ #[.string (sB kw), .bool cb, .int .i64 (mk : Int), .int .i64 (nf : Int)] _ _ hfs
    have hbn := bel_setRow hbs hgb #[.string (sB kw), .bool cb, .int .i64 (mk : Int), .int .i64 (nf : Int)]
    clear hfar
    generalize V3.setRow b3 #[.string (sB kw), .bool cb, .int .i64 (mk : Int), .int .i64 (nf : Int)] = X5 at *
    have hbr := hbn
    clear B0
    have B0 := zh hbr
    clear hbr
    clear Fv3_3
    have Fv3_3 : Hid (X5.heap[b3]? = some (.cells #[.string (sB kw), .bool cb, .int .i64 (mk : Int), .int .i64 (nf : Int)] 53 (0, 0))) := zh hfn
    clear hfs hgb hbs hfn hbn
    refine ⟨(fb, b3), ?_, B0.out, HG6.out, Fv3_3.out⟩
    simp only [putL, ptr, Act.put, zA] <;> rfl
   ·refine wpOT_one rfl (by kernel_rfl) ?_
    refine hOp_new #[.string ByteArray.empty, .bool false, .int .i64 0, .int .i64 0] 53 (xo_alloc #[.string ByteArray.empty, .bool false, .int .i64 0, .int .i64 0] (by kernel_rfl) rfl) ?_
    intro b3 V3 hge h0 hb
    have C0_2 := zb B0 B1
    have N1_0 : Hid (w.heap.size ≠ b3) := zh (xp_lt0 (heap_keep T4.out C0_2.out) hge)
    have Ge2 : Hid (V2.heap.size ≤ b3) := zh hge
    have B2 := zh hb
    have Fv3_3 : Hid (V3.heap[b3]? = some (.cells #[.string ByteArray.empty, .bool false, .int .i64 0, .int .i64 0] 53 (0, 0))) := zh (h0)
    have Lt4 : Hid (b3 < V3.heap.size) := zh (xp_lt Fv3_3.out)
    clear hge h0 hb
    have C1_3 := zb B1 B2
    refine ⟨C1_3.out, ?_⟩
    try simp only [ptr, Act.put, zA]
    refine wpOT_one rfl (by kernel_rfl) ?_
    refine hOp_val (.agg #[.string (sB kw), .bool cb, .int .i64 (mk : Int), .int .i64 (nf : Int)]) (xm_lookup fb [formE 1, formE 2, formE 3, formE 4, formE 5, formE 6, formE 7] 7 (kd : Int) (kd - 1) (.agg #[.string (sB kw), .bool cb, .int .i64 (mk : Int), .int .i64 (nf : Int)]) (heap_keep HFm.out B2.out) ((forms_find kd (by omega) (by omega)).trans (by rw [HROW.out])) Tryd.underlying55 Tryd.underlying3 rfl rfl rfl) ⟨C1_3.out, ?_⟩
    simp only [ptr, Act.put, zA]
    refine wpOT_nil ?_
    have HG6 := zh (Nat.le_trans C0_2.out.size Ge2.out)
    have hfs := Fv3_3.out
    have hgb := (Nat.le_trans C0_2.out.size Ge2.out)
    have C0_3 := zb C0_2 B2
    have hbs := C0_3.out
    have hfar : ∀ k o, k ≠ b3 → V3.heap[k]? = some o → (V3.setRow b3 #[.string (sB kw), .bool cb, .int .i64 (mk : Int), .int .i64 (nf : Int)]).heap[k]? = some o := fun k o hk h0 => heap_farRow h0 hk _
    refine mOp_run0 _ rfl rfl (xo_storeW b3 #[.string ByteArray.empty, .bool false, .int .i64 0, .int .i64 0] #[.string (sB kw), .bool cb, .int .i64 (mk : Int), .int .i64 (nf : Int)] hfs (by kernel_rfl) rfl (by simp [Value.oneCell']) rfl rfl rfl) ?_
    try simp only [List.getElem_toArray, List.getElem_cons_succ, List.getElem_cons_zero, ptr, Act.put, zA]
    have hfn := setRow_heap V3 b3 _ #[.string (sB kw), .bool cb, .int .i64 (mk : Int), .int .i64 (nf : Int)] _ _ hfs
    have hbn := bel_setRow hbs hgb #[.string (sB kw), .bool cb, .int .i64 (mk : Int), .int .i64 (nf : Int)]
    clear hfar
    generalize V3.setRow b3 #[.string (sB kw), .bool cb, .int .i64 (mk : Int), .int .i64 (nf : Int)] = X5 at *
    have hbr := hbn
    clear B0
    have B0 := zh hbr
    clear hbr
    clear Fv3_3
    have Fv3_3 : Hid (X5.heap[b3]? = some (.cells #[.string (sB kw), .bool cb, .int .i64 (mk : Int), .int .i64 (nf : Int)] 53 (0, 0))) := zh hfn
    clear hfs hgb hbs hfn hbn
    refine ⟨(fb, b3), ?_, B0.out, HG6.out, Fv3_3.out⟩
    simp only [putL, ptr, Act.put, zA] <;> rfl
  ·refine wpOT_one rfl (by kernel_rfl) ?_
   refine hOp_new #[.string ByteArray.empty, .bool false, .int .i64 0, .int .i64 0] 53 (xo_alloc #[.string ByteArray.empty, .bool false, .int .i64 0, .int .i64 0] (by kernel_rfl) rfl) ?_
   intro b3 V2 hge h0 hb
   have N1_0 : Hid (w.heap.size ≠ b3) := zh (xp_lt0 (heap_keep T4.out B0.out) hge)
   have Ge2 : Hid (V1.heap.size ≤ b3) := zh hge
   have B1 := zh hb
   have Fv3_3 : Hid (V2.heap[b3]? = some (.cells #[.string ByteArray.empty, .bool false, .int .i64 0, .int .i64 0] 53 (0, 0))) := zh (h0)
   have Lt4 : Hid (b3 < V2.heap.size) := zh (xp_lt Fv3_3.out)
   clear hge h0 hb
   refine ⟨B1.out, ?_⟩
   try simp only [ptr, Act.put, zA]
   refine wpOT_one rfl (by kernel_rfl) ?_
   refine hOp_call 29 Tryd.func29 (by kernel_rfl) (by kernel_rfl) _ _ #[] rfl (by kernel_rfl) ?_
   refine (forms_any V2).mono ?_
   rintro e V3 ⟨fb, rfl, hge, hfm, hb⟩
   have B2 := zh hb
   have HFm := zh hfm
   have HFg := zh hge
   clear hb hfm hge
   have C1_3 := zb B1 B2
   refine ⟨_, rfl, C1_3.out, ?_⟩
   simp only [ptr, Act.put, zA]
   refine wpOT_one rfl (by kernel_rfl) ?_
   refine hOp_val (.agg #[.string (sB kw), .bool cb, .int .i64 (mk : Int), .int .i64 (nf : Int)]) (xm_lookup fb [formE 1, formE 2, formE 3, formE 4, formE 5, formE 6, formE 7] 7 (kd : Int) (kd - 1) (.agg #[.string (sB kw), .bool cb, .int .i64 (mk : Int), .int .i64 (nf : Int)]) HFm.out ((forms_find kd (by omega) (by omega)).trans (by rw [HROW.out])) Tryd.underlying55 Tryd.underlying3 rfl rfl rfl) ⟨C1_3.out, ?_⟩
   simp only [ptr, Act.put, zA]
   refine wpOT_nil ?_
   have HG6 := zh (Nat.le_trans B0.out.size Ge2.out)
   have hfs := (heap_keep Fv3_3.out B2.out)
   have hgb := (Nat.le_trans B0.out.size Ge2.out)
   have C0_2 := zb B0 B1
   have C0_3 := zb C0_2 B2
   have hbs := C0_3.out
   have hfar : ∀ k o, k ≠ b3 → V3.heap[k]? = some o → (V3.setRow b3 #[.string (sB kw), .bool cb, .int .i64 (mk : Int), .int .i64 (nf : Int)]).heap[k]? = some o := fun k o hk h0 => heap_farRow h0 hk _
   refine mOp_run0 _ rfl rfl (xo_storeW b3 #[.string ByteArray.empty, .bool false, .int .i64 0, .int .i64 0] #[.string (sB kw), .bool cb, .int .i64 (mk : Int), .int .i64 (nf : Int)] hfs (by kernel_rfl) rfl (by simp [Value.oneCell']) rfl rfl rfl) ?_
   try simp only [List.getElem_toArray, List.getElem_cons_succ, List.getElem_cons_zero, ptr, Act.put, zA]
   have hfn := setRow_heap V3 b3 _ #[.string (sB kw), .bool cb, .int .i64 (mk : Int), .int .i64 (nf : Int)] _ _ hfs
   have hbn := bel_setRow hbs hgb #[.string (sB kw), .bool cb, .int .i64 (mk : Int), .int .i64 (nf : Int)]
   clear hfar
   generalize V3.setRow b3 #[.string (sB kw), .bool cb, .int .i64 (mk : Int), .int .i64 (nf : Int)] = X5 at *
   have hbr := hbn
   clear B0
   have B0 := zh hbr
   clear hbr
   clear Fv3_3
   have Fv3_3 : Hid (X5.heap[b3]? = some (.cells #[.string (sB kw), .bool cb, .int .i64 (mk : Int), .int .i64 (nf : Int)] 53 (0, 0))) := zh hfn
   clear hfs hgb hbs hfn hbn
   refine ⟨(fb, b3), ?_, B0.out, HG6.out, Fv3_3.out⟩
   simp only [putL, ptr, Act.put, zA] <;> rfl
 rintro ⟨fb, b3⟩ V3 ⟨hb0, hge, h0⟩
 simp only [putL, ptr, Act.put, zA]
 have hb := hb0
 clear hb0
 have N41_0 : Hid (w.heap.size ≠ b3) := zh (xp_lt0 (heap_keep Fv0_1.out B1.out) hge)
 have Ge42 : Hid (V2.heap.size ≤ b3) := zh hge
 have B2 := zh hb
 have Fv43_3 : Hid (V3.heap[b3]? = some (.cells #[.string (sB kw), .bool cb, .int .i64 (mk : Int), .int .i64 (nf : Int)] 53 (0, 0))) := zh (h0)
 have Lt44 : Hid (b3 < V3.heap.size) := zh (xp_lt Fv43_3.out)
 clear hge h0 hb
 go_upto_region 4 with fail
 refine wp_region_lit ?_
 refine zr (.pointer (some ⟨b3, 0, none⟩)) V3 (xo_fld0 0 b3 0 (by kernel_rfl) rfl rfl) ?_
 simp only [Act.put, zA]
 refine zr (.string (sB kw)) V3 (xo_load1 ⟨b3, 0, none⟩ _ (cells_at Fv43_3.out 0 rfl) Tryd.underlying9 rfl rfl rfl) ?_
 simp only [Act.put, zA]
 refine zr (.string (sB kw)) V3 rfl ?_
 simp only [Act.put, zA]
 refine wpList_nil ?_
 cases cb with
 | true =>
  go_upto_region 5 with fail
  refine wp_region_lit ?_
  refine zr (.pointer (some ⟨b3, 1, none⟩)) V3 (xo_fld0 1 b3 1 (by kernel_rfl) rfl rfl) ?_
  simp only [Act.put, zA]
  refine zr (.bool true) V3 (xo_load1 ⟨b3, 1, none⟩ _ (cells_at Fv43_3.out 1 rfl) Tryd.underlying4 rfl rfl rfl) ?_
  simp only [Act.put, zA]
  refine wpList_nil ?_
  go_upto_region 6 with fail
  refine wp_region_lit ?_
  refine zr (.string (sB kw)) V3 rfl ?_
  simp only [Act.put, zA]
  refine zr (.pointer (some ⟨w.heap.size, 1, none⟩)) V3 (xo_fld0 1 w.heap.size 1 (by kernel_rfl) rfl rfl) ?_
  simp only [Act.put, zA]
  have C1_3 := zb B1 B2
  refine zr (.int .i64 (col : Int)) V3 (xo_load1 ⟨w.heap.size, 1, none⟩ _ (cells_at (heap_keep Fv0_1.out C1_3.out) 1 rfl) Tryd.underlying3 rfl rfl rfl) ?_
  simp only [Act.put, zA]
  refine zr (.pointer (some ⟨0, col * 2, none⟩)) V3 (xc_iad col (by omega) rfl rfl rfl) ?_
  simp only [Act.put, zA]
  refine zr (.pointer (some ⟨0, col * 2 + 0, none⟩)) V3 (xo_fld 0 0 (col * 2) 0 (by kernel_rfl) rfl rfl) ?_
  simp only [Act.put, zA]
  have C0_2 := zb B0 B1
  have C0_3 := zb C0_2 B2
  refine zr (.string (sB nm)) V3 (xo_load1 ⟨0, col * 2 + 0, none⟩ _ (Hnm.out ▸ Gc.name (HG.out.keep C0_3.out) col (by omega)) Tryd.underlying9 rfl rfl rfl) ?_
  simp only [Act.put, zA]
  refine zr (.string (sB (([32]) ++ nm))) V3 (xs_add ([32]) nm (by (try simp only [List.length_append, List.length_cons, List.length_nil]); omega) Tryd.underlying9 rfl rfl rfl) ?_
  simp only [Act.put, zA]
  refine zr (.string (sB (kw ++ (([32]) ++ nm)))) V3 (xs_add kw (([32]) ++ nm) (by (try simp only [List.length_append, List.length_cons, List.length_nil]); omega) Tryd.underlying9 rfl rfl rfl) ?_
  simp only [Act.put, zA]
  refine zr (.string (sB (kw ++ (([32]) ++ nm)))) V3 rfl ?_
  simp only [Act.put, zA]
  refine wpList_nil ?_
  by_cases hmk0 : 0 < mk
  ·have hci45 : ((mk : Int) > 0) := by omega
   go_upto_region 7 with fail
   refine wp_region_lit ?_
   refine zr (.pointer (some ⟨b3, 2, none⟩)) V3 (xo_fld0 2 b3 2 (by kernel_rfl) rfl rfl) ?_
   simp only [Act.put, zA]
   refine zr (.int .i64 (mk : Int)) V3 (xo_load1 ⟨b3, 2, none⟩ _ (cells_at Fv43_3.out 2 rfl) Tryd.underlying3 rfl rfl rfl) ?_
   simp only [Act.put, zA]
   refine zr (.bool true) V3 (xo_gtrT .i64 (mk : Int) 0 (by omega) rfl rfl rfl) ?_
   simp only [Act.put, zA]
   refine wpList_nil ?_
   go_upto_region 8 with fail
   refine wp_region_lit ?_
   refine zr (.string (sB (kw ++ (([32]) ++ nm)))) V3 rfl ?_
   simp only [Act.put, zA]
   refine zr (.pointer (some ⟨w.heap.size, 2, none⟩)) V3 (xo_fld0 2 w.heap.size 2 (by kernel_rfl) rfl rfl) ?_
   simp only [Act.put, zA]
   refine zr (.int .i64 (k : Int)) V3 (xo_load1 ⟨w.heap.size, 2, none⟩ _ (cells_at (heap_keep Fv0_1.out C1_3.out) 2 rfl) Tryd.underlying3 rfl rfl rfl) ?_
   simp only [Act.put, zA]
   refine wpList_call (by kernel_rfl) 37 Tryd.func37 (by kernel_rfl) (by kernel_rfl) _ _ #[.int .i64 (k : Int)] rfl (by kernel_rfl) ?_
   refine (decimal_as k dk HDK.out (by omega) V3).mono ?_
   rintro e V4 ⟨rfl, hb⟩
   have B3 := zh hb
   clear hb 
   refine ⟨_, rfl, ?_⟩
   simp only [Act.put, zA]
   refine zr (.string (sB (([32]) ++ dk))) V4 (xs_add ([32]) dk (by (try simp only [List.length_append, List.length_cons, List.length_nil]); omega) Tryd.underlying9 rfl rfl rfl) ?_
   simp only [Act.put, zA]
   refine zr (.string (sB ((kw ++ (([32]) ++ nm)) ++ (([32]) ++ dk)))) V4 (xs_add (kw ++ (([32]) ++ nm)) (([32]) ++ dk) (by (try simp only [List.length_append, List.length_cons, List.length_nil]); omega) Tryd.underlying9 rfl rfl rfl) ?_
   simp only [Act.put, zA]
   refine zr (.string (sB ((kw ++ (([32]) ++ nm)) ++ (([32]) ++ dk)))) V4 rfl ?_
   simp only [Act.put, zA]
   refine wpList_nil ?_
   obtain ⟨hd, hhd⟩ : ∃ x, (kw ++ ([32] ++ nm)) ++ ([32] ++ dk) = x := ⟨_, rfl⟩
   have hhdl : hd.length ≤ 30 := by rw [← hhd]; (try simp only [List.length_append, List.length_cons, List.length_nil]); omega
   have HHD : Hid (Qu.hdN kd col k = hd) := zh (by rw [← hhd]; simp only [Qu.hdN, HKW.out, HCB.out, HMK.out, Hnm.out, HDK.out, if_true, if_pos hmk0, List.append_assoc, List.append_nil])
   rw [hhd]
   clear hhd
   go_upto_region 9 with fail
   refine wp_region_lit ?_
   refine zr (.pointer (some ⟨w.heap.size, 3, none⟩)) V4 (xo_fld0 3 w.heap.size 3 (by kernel_rfl) rfl rfl) ?_
   simp only [Act.put, zA]
   have C1_4 := zb C1_3 B3
   refine zr (.slice A n c) V4 (xo_load1 ⟨w.heap.size, 3, none⟩ _ (cells_at (heap_keep Fv0_1.out C1_4.out) 3 rfl) Tryd.underlying22 rfl rfl rfl) ?_
   simp only [Act.put, zA]
   refine zr (.int .i64 (n : Int)) V4 (xo_len A n c Tryd.underlying22 rfl rfl) ?_
   simp only [Act.put, zA]
   refine zr (.int .i64 0) V4 rfl ?_
   simp only [Act.put, zA]
   refine wpList_nil ?_
   have O46 := (heap_keep Fv0_1.out C1_4.out)
   have C0_4 := zb C0_3 B3
   have O47 := C0_4.out
   go_wp2_with fail
   go_loopw [38, 4] (fun p a wr => ∃ i : Nat, i ≤ n ∧ p = .int .i64 i ∧ a = .string (sB (hd ++ Qu.fsN (fs.take i))) ∧ wr.heap[w.heap.size]? = some (.cells #[.int .i64 (kd : Int), .int .i64 (col : Int), .int .i64 (k : Int), .slice A n c] 24 (0, 0)) ∧ Below w.heap.size w wr) (fun p _ _ => n - (intOf p).toNat)
   case atStart => exact ⟨0, Nat.zero_le _, rfl, (by simp [Qu.fsN, Qu.fsG]), O46, O47⟩
   case round =>
    clear O46 O47
    obtain ⟨wo, rfl⟩ : ∃ wo : World, wo = wr := ⟨_, rfl⟩
    obtain ⟨i, hi, rfl, hHA, hr0, hb0⟩ := hrel
    have hbr := hb0
    clear B0
    have B0 := zh hbr
    clear hbr
    clear Fv0_1
    have Fv0_1 : Hid (wo.heap[w.heap.size]? = some (.cells #[.int .i64 (kd : Int), .int .i64 (col : Int), .int .i64 (k : Int), .slice A n c] 24 (0, 0))) := zh (hr0)
    have HA := zh hHA
    clear hb0 hr0 hHA
    have ea := HA.out
    subst ea
    clear HA
    obtain ⟨tx, htx⟩ : ∃ x, hd ++ Qu.fsN (fs.take i) = x := ⟨_, rfl⟩
    have HTX := zh htx
    rw [htx]
    clear htx
    have htl : tx.length ≤ 30 + 130 * i := by rw [← HTX.out, List.length_append]; have := fsN_len (fs := fs) (i := i) (fun l hl => (Qu.vL_ok (HALL.out _ (List.mem_map_of_mem hl))).1); omega
    by_cases hlt2 : i < n
    ·have hci49 : ((i : Int) < (n : Int)) := by omega
     obtain ⟨h, hh⟩ : ∃ h, hs[i]? = some h := ⟨_, List.getElem?_eq_getElem (by omega)⟩
     obtain ⟨l, hxs⟩ : ∃ x, fs[i]? = some x := ⟨_, List.getElem?_eq_getElem (by omega)⟩
     have HH := zh hh
     have HX := zh hxs
     obtain ⟨hl3, hlok⟩ := Qu.vL_ok (HALL.out _ (List.mem_map_of_mem (List.mem_of_getElem? hxs)))
     have HLO := zh hlok
     clear hh hxs hlok
     have HXM : Hid ((fs.map (List.map Qu.Cd.ci))[i]? = some (l.map Qu.Cd.ci)) := zh (by rw [List.getElem?_map, HX.out]; rfl)
     have hhn : h.n ≤ 3 := by have := ((HFR.out.keep B0.out).row i h _ HH.out HXM.out).len; rw [List.length_map] at this; omega
     obtain ⟨ft, hft⟩ : ∃ x, Qu.ftN l = x := ⟨_, rfl⟩
     have hftl : ft.length ≤ 120 := by rw [← hft]; exact Nat.le_trans (Qu.ftG_le (by decide) l) (by omega)
     have HFT := zh hft
     clear hft
     go_upto_region 10 with fail
     refine wp_region_lit ?_
     refine zr (.bool true) wo (xo_lssT .i64 (i : Int) (n : Int) (by omega) rfl rfl rfl) ?_
     simp only [Act.put, zA]
     refine wpList_nil ?_
     go_upto_region 11 with fail
     refine wp_region_lit ?_
     refine zr (.int .i64 (i : Int)) wo rfl ?_
     simp only [Act.put, zA]
     refine zr (.pointer (some (gad A (i * 1)))) wo (xg_idx .i64 (HFR.out.keep B0.out).sg HH.out Tryd.underlying22 (by kernel_rfl) rfl rfl rfl) ?_
     simp only [Act.put, zA]
     refine zr (.slice h.A h.n h.c) wo (xg_load1 (E := hdC) (i := i) (j := 0) (HFR.out.keep B0.out).sg HH.out rfl rfl Tryd.underlying28 rfl rfl rfl) ?_
     simp only [Act.put, zA]
     refine zr (.int .i64 (i : Int)) wo rfl ?_
     simp only [Act.put, zA]
     refine zr (.slice h.A h.n h.c) wo rfl ?_
     simp only [Act.put, zA]
     refine wpList_nil ?_
     by_cases hi0 : i = 0
     ·have hci50 : ¬ ((i : Int) > 0) := by omega
      go_upto_region 12 with fail
      refine wp_region_lit ?_
      refine zr (.int .i64 (i : Int)) wo rfl ?_
      simp only [Act.put, zA]
      refine zr (.bool false) wo (xo_gtrF .i64 (i : Int) 0 (by omega) rfl rfl rfl) ?_
      simp only [Act.put, zA]
      refine wpList_nil ?_
      go_upto_region 14 with fail
      refine wp_region_lit ?_
      refine zr (.string (sB tx)) wo rfl ?_
      simp only [Act.put, zA]
      refine zr (.slice h.A h.n h.c) wo rfl ?_
      simp only [Act.put, zA]
      refine wpList_call (by kernel_rfl) 38 Tryd.func38 (by kernel_rfl) (by kernel_rfl) _ _ #[.slice h.A h.n h.c] rfl (by kernel_rfl) ?_
      refine (filterText_as h.A h.n h.c hhn l HLO.out ft HFT.out wo (HG.out.keep B0.out) ((HFR.out.keep B0.out).row i h _ HH.out HXM.out)).mono ?_
      rintro e V2 ⟨rfl, hb⟩
      have B1 := zh hb
      clear hb 
      refine ⟨_, rfl, ?_⟩
      simp only [Act.put, zA]
      refine zr (.string (sB (tx ++ ft))) V2 (xs_add tx ft (by (try simp only [List.length_append, List.length_cons, List.length_nil]); omega) Tryd.underlying9 rfl rfl rfl) ?_
      simp only [Act.put, zA]
      refine zr (.string (sB (tx ++ ft))) V2 rfl ?_
      simp only [Act.put, zA]
      refine wpList_nil ?_
      go_upto_region 15 with fail
      refine wp_region_lit ?_
      refine zr (.int .i64 ((i + 1 : Nat) : Int)) V2 (xo_addI (i : Int) 1 ((i + 1 : Nat) : Int) (by omega) (by omega) (by omega) rfl rfl rfl) ?_
      simp only [Act.put, zA]
      refine zr (.int .i64 ((i + 1 : Nat) : Int)) V2 rfl ?_
      simp only [Act.put, zA]
      refine wpList_nil ?_
      have he : hd ++ Qu.fsN (fs.take (i + 1)) = tx ++ ft := by rw [Qu.fsN_take HX.out, if_pos hi0, HFT.out, ← List.append_assoc hd, HTX.out] <;> simp [Qu.withT]
      have hq51 := (heap_keep Fv0_1.out B1.out)
      have C0_2 := zb B0 B1
      have hq52 := C0_2.out
      go_wp2_with fail
      go_roundw
      case rel => exact ⟨i + 1, by omega, by go_num, by first | rfl | rw [he], hq51, hq52⟩
      case measure => simp [intOf]; omega
     ·have hci50 : ((i : Int) > 0) := by omega
      go_upto_region 12 with fail
      refine wp_region_lit ?_
      refine zr (.int .i64 (i : Int)) wo rfl ?_
      simp only [Act.put, zA]
      refine zr (.bool true) wo (xo_gtrT .i64 (i : Int) 0 (by omega) rfl rfl rfl) ?_
      simp only [Act.put, zA]
      refine wpList_nil ?_
      go_upto_region 13 with fail
      refine wp_region_lit ?_
      refine zr (.string (sB tx)) wo rfl ?_
      simp only [Act.put, zA]
      refine zr (.string (sB (tx ++ ([32, 119, 105, 116, 104])))) wo (xs_add tx ([32, 119, 105, 116, 104]) (by (try simp only [List.length_append, List.length_cons, List.length_nil]); omega) Tryd.underlying9 rfl rfl rfl) ?_
      simp only [Act.put, zA]
      refine zr (.string (sB (tx ++ ([32, 119, 105, 116, 104])))) wo rfl ?_
      simp only [Act.put, zA]
      refine wpList_nil ?_
      go_upto_region 14 with fail
      refine wp_region_lit ?_
      refine zr (.string (sB (tx ++ ([32, 119, 105, 116, 104])))) wo rfl ?_
      simp only [Act.put, zA]
      refine zr (.slice h.A h.n h.c) wo rfl ?_
      simp only [Act.put, zA]
      refine wpList_call (by kernel_rfl) 38 Tryd.func38 (by kernel_rfl) (by kernel_rfl) _ _ #[.slice h.A h.n h.c] rfl (by kernel_rfl) ?_
      refine (filterText_as h.A h.n h.c hhn l HLO.out ft HFT.out wo (HG.out.keep B0.out) ((HFR.out.keep B0.out).row i h _ HH.out HXM.out)).mono ?_
      rintro e V2 ⟨rfl, hb⟩
      have B1 := zh hb
      clear hb 
      refine ⟨_, rfl, ?_⟩
      simp only [Act.put, zA]
      refine zr (.string (sB ((tx ++ ([32, 119, 105, 116, 104])) ++ ft))) V2 (xs_add (tx ++ ([32, 119, 105, 116, 104])) ft (by (try simp only [List.length_append, List.length_cons, List.length_nil]); omega) Tryd.underlying9 rfl rfl rfl) ?_
      simp only [Act.put, zA]
      refine zr (.string (sB ((tx ++ ([32, 119, 105, 116, 104])) ++ ft))) V2 rfl ?_
      simp only [Act.put, zA]
      refine wpList_nil ?_
      go_upto_region 15 with fail
      refine wp_region_lit ?_
      refine zr (.int .i64 ((i + 1 : Nat) : Int)) V2 (xo_addI (i : Int) 1 ((i + 1 : Nat) : Int) (by omega) (by omega) (by omega) rfl rfl rfl) ?_
      simp only [Act.put, zA]
      refine zr (.int .i64 ((i + 1 : Nat) : Int)) V2 rfl ?_
      simp only [Act.put, zA]
      refine wpList_nil ?_
      have he : hd ++ Qu.fsN (fs.take (i + 1)) = (tx ++ [32, 119, 105, 116, 104]) ++ ft := by rw [Qu.fsN_take HX.out, if_neg hi0, HFT.out, ← List.append_assoc hd, HTX.out] <;> simp [Qu.withT]
      have hq51 := (heap_keep Fv0_1.out B1.out)
      have C0_2 := zb B0 B1
      have hq52 := C0_2.out
      go_wp2_with fail
      go_roundw
      case rel => exact ⟨i + 1, by omega, by go_num, by first | rfl | rw [he], hq51, hq52⟩
      case measure => simp [intOf]; omega
    ·have hci49 : ¬ ((i : Int) < (n : Int)) := by omega
     go_upto_region 10 with fail
     refine wp_region_lit ?_
     refine zr (.bool false) wo (xo_lssF .i64 (i : Int) (n : Int) (by omega) rfl rfl rfl) ?_
     simp only [Act.put, zA]
     refine wpList_nil ?_
     go_upto_region 16 with fail
     refine wp_region_lit ?_
     refine zr (.string (sB tx)) wo rfl ?_
     simp only [Act.put, zA]
     refine zr (.string (sB tx)) wo rfl ?_
     simp only [Act.put, zA]
     refine wpList_nil ?_
     have he : Qu.fmtN ⟨kd, col, k, fs⟩ = tx := by show Qu.hdN kd col k ++ Qu.fsN fs = tx; rw [HHD.out, ← HTX.out, List.take_of_length_le (by omega)]
     have hbf := B0.out
     go_wp2_with fail
     go_ret
     exact ⟨by first | rfl | (rw [he] <;> rfl), hbf⟩
  ·have hci45 : ¬ ((mk : Int) > 0) := by omega
   go_upto_region 7 with fail
   refine wp_region_lit ?_
   refine zr (.pointer (some ⟨b3, 2, none⟩)) V3 (xo_fld0 2 b3 2 (by kernel_rfl) rfl rfl) ?_
   simp only [Act.put, zA]
   refine zr (.int .i64 (mk : Int)) V3 (xo_load1 ⟨b3, 2, none⟩ _ (cells_at Fv43_3.out 2 rfl) Tryd.underlying3 rfl rfl rfl) ?_
   simp only [Act.put, zA]
   refine zr (.bool false) V3 (xo_gtrF .i64 (mk : Int) 0 (by omega) rfl rfl rfl) ?_
   simp only [Act.put, zA]
   refine wpList_nil ?_
   obtain ⟨hd, hhd⟩ : ∃ x, kw ++ ([32] ++ nm) = x := ⟨_, rfl⟩
   have hhdl : hd.length ≤ 30 := by rw [← hhd]; (try simp only [List.length_append, List.length_cons, List.length_nil]); omega
   have HHD : Hid (Qu.hdN kd col k = hd) := zh (by rw [← hhd]; simp only [Qu.hdN, HKW.out, HCB.out, HMK.out, Hnm.out, HDK.out, if_true, if_neg hmk0, List.append_assoc, List.append_nil])
   rw [hhd]
   clear hhd
   go_upto_region 9 with fail
   refine wp_region_lit ?_
   refine zr (.pointer (some ⟨w.heap.size, 3, none⟩)) V3 (xo_fld0 3 w.heap.size 3 (by kernel_rfl) rfl rfl) ?_
   simp only [Act.put, zA]
   refine zr (.slice A n c) V3 (xo_load1 ⟨w.heap.size, 3, none⟩ _ (cells_at (heap_keep Fv0_1.out C1_3.out) 3 rfl) Tryd.underlying22 rfl rfl rfl) ?_
   simp only [Act.put, zA]
   refine zr (.int .i64 (n : Int)) V3 (xo_len A n c Tryd.underlying22 rfl rfl) ?_
   simp only [Act.put, zA]
   refine zr (.int .i64 0) V3 rfl ?_
   simp only [Act.put, zA]
   refine wpList_nil ?_
   have O46 := (heap_keep Fv0_1.out C1_3.out)
   have O47 := C0_3.out
   go_wp2_with fail
   go_loopw [38, 4] (fun p a wr => ∃ i : Nat, i ≤ n ∧ p = .int .i64 i ∧ a = .string (sB (hd ++ Qu.fsN (fs.take i))) ∧ wr.heap[w.heap.size]? = some (.cells #[.int .i64 (kd : Int), .int .i64 (col : Int), .int .i64 (k : Int), .slice A n c] 24 (0, 0)) ∧ Below w.heap.size w wr) (fun p _ _ => n - (intOf p).toNat)
   case atStart => exact ⟨0, Nat.zero_le _, rfl, (by simp [Qu.fsN, Qu.fsG]), O46, O47⟩
   case round =>
    clear O46 O47
    obtain ⟨wo, rfl⟩ : ∃ wo : World, wo = wr := ⟨_, rfl⟩
    obtain ⟨i, hi, rfl, hHA, hr0, hb0⟩ := hrel
    have hbr := hb0
    clear B0
    have B0 := zh hbr
    clear hbr
    clear Fv0_1
    have Fv0_1 : Hid (wo.heap[w.heap.size]? = some (.cells #[.int .i64 (kd : Int), .int .i64 (col : Int), .int .i64 (k : Int), .slice A n c] 24 (0, 0))) := zh (hr0)
    have HA := zh hHA
    clear hb0 hr0 hHA
    have ea := HA.out
    subst ea
    clear HA
    obtain ⟨tx, htx⟩ : ∃ x, hd ++ Qu.fsN (fs.take i) = x := ⟨_, rfl⟩
    have HTX := zh htx
    rw [htx]
    clear htx
    have htl : tx.length ≤ 30 + 130 * i := by rw [← HTX.out, List.length_append]; have := fsN_len (fs := fs) (i := i) (fun l hl => (Qu.vL_ok (HALL.out _ (List.mem_map_of_mem hl))).1); omega
    by_cases hlt2 : i < n
    ·have hci49 : ((i : Int) < (n : Int)) := by omega
     obtain ⟨h, hh⟩ : ∃ h, hs[i]? = some h := ⟨_, List.getElem?_eq_getElem (by omega)⟩
     obtain ⟨l, hxs⟩ : ∃ x, fs[i]? = some x := ⟨_, List.getElem?_eq_getElem (by omega)⟩
     have HH := zh hh
     have HX := zh hxs
     obtain ⟨hl3, hlok⟩ := Qu.vL_ok (HALL.out _ (List.mem_map_of_mem (List.mem_of_getElem? hxs)))
     have HLO := zh hlok
     clear hh hxs hlok
     have HXM : Hid ((fs.map (List.map Qu.Cd.ci))[i]? = some (l.map Qu.Cd.ci)) := zh (by rw [List.getElem?_map, HX.out]; rfl)
     have hhn : h.n ≤ 3 := by have := ((HFR.out.keep B0.out).row i h _ HH.out HXM.out).len; rw [List.length_map] at this; omega
     obtain ⟨ft, hft⟩ : ∃ x, Qu.ftN l = x := ⟨_, rfl⟩
     have hftl : ft.length ≤ 120 := by rw [← hft]; exact Nat.le_trans (Qu.ftG_le (by decide) l) (by omega)
     have HFT := zh hft
     clear hft
     go_upto_region 10 with fail
     refine wp_region_lit ?_
     refine zr (.bool true) wo (xo_lssT .i64 (i : Int) (n : Int) (by omega) rfl rfl rfl) ?_
     simp only [Act.put, zA]
     refine wpList_nil ?_
     go_upto_region 11 with fail
     refine wp_region_lit ?_
     refine zr (.int .i64 (i : Int)) wo rfl ?_
     simp only [Act.put, zA]
     refine zr (.pointer (some (gad A (i * 1)))) wo (xg_idx .i64 (HFR.out.keep B0.out).sg HH.out Tryd.underlying22 (by kernel_rfl) rfl rfl rfl) ?_
     simp only [Act.put, zA]
     refine zr (.slice h.A h.n h.c) wo (xg_load1 (E := hdC) (i := i) (j := 0) (HFR.out.keep B0.out).sg HH.out rfl rfl Tryd.underlying28 rfl rfl rfl) ?_
     simp only [Act.put, zA]
     refine zr (.int .i64 (i : Int)) wo rfl ?_
     simp only [Act.put, zA]
     refine zr (.slice h.A h.n h.c) wo rfl ?_
     simp only [Act.put, zA]
     refine wpList_nil ?_
     by_cases hi0 : i = 0
     ·have hci50 : ¬ ((i : Int) > 0) := by omega
      go_upto_region 12 with fail
      refine wp_region_lit ?_
      refine zr (.int .i64 (i : Int)) wo rfl ?_
      simp only [Act.put, zA]
      refine zr (.bool false) wo (xo_gtrF .i64 (i : Int) 0 (by omega) rfl rfl rfl) ?_
      simp only [Act.put, zA]
      refine wpList_nil ?_
      go_upto_region 14 with fail
      refine wp_region_lit ?_
      refine zr (.string (sB tx)) wo rfl ?_
      simp only [Act.put, zA]
      refine zr (.slice h.A h.n h.c) wo rfl ?_
      simp only [Act.put, zA]
      refine wpList_call (by kernel_rfl) 38 Tryd.func38 (by kernel_rfl) (by kernel_rfl) _ _ #[.slice h.A h.n h.c] rfl (by kernel_rfl) ?_
      refine (filterText_as h.A h.n h.c hhn l HLO.out ft HFT.out wo (HG.out.keep B0.out) ((HFR.out.keep B0.out).row i h _ HH.out HXM.out)).mono ?_
      rintro e V2 ⟨rfl, hb⟩
      have B1 := zh hb
      clear hb 
      refine ⟨_, rfl, ?_⟩
      simp only [Act.put, zA]
      refine zr (.string (sB (tx ++ ft))) V2 (xs_add tx ft (by (try simp only [List.length_append, List.length_cons, List.length_nil]); omega) Tryd.underlying9 rfl rfl rfl) ?_
      simp only [Act.put, zA]
      refine zr (.string (sB (tx ++ ft))) V2 rfl ?_
      simp only [Act.put, zA]
      refine wpList_nil ?_
      go_upto_region 15 with fail
      refine wp_region_lit ?_
      refine zr (.int .i64 ((i + 1 : Nat) : Int)) V2 (xo_addI (i : Int) 1 ((i + 1 : Nat) : Int) (by omega) (by omega) (by omega) rfl rfl rfl) ?_
      simp only [Act.put, zA]
      refine zr (.int .i64 ((i + 1 : Nat) : Int)) V2 rfl ?_
      simp only [Act.put, zA]
      refine wpList_nil ?_
      have he : hd ++ Qu.fsN (fs.take (i + 1)) = tx ++ ft := by rw [Qu.fsN_take HX.out, if_pos hi0, HFT.out, ← List.append_assoc hd, HTX.out] <;> simp [Qu.withT]
      have hq51 := (heap_keep Fv0_1.out B1.out)
      have C0_2 := zb B0 B1
      have hq52 := C0_2.out
      go_wp2_with fail
      go_roundw
      case rel => exact ⟨i + 1, by omega, by go_num, by first | rfl | rw [he], hq51, hq52⟩
      case measure => simp [intOf]; omega
     ·have hci50 : ((i : Int) > 0) := by omega
      go_upto_region 12 with fail
      refine wp_region_lit ?_
      refine zr (.int .i64 (i : Int)) wo rfl ?_
      simp only [Act.put, zA]
      refine zr (.bool true) wo (xo_gtrT .i64 (i : Int) 0 (by omega) rfl rfl rfl) ?_
      simp only [Act.put, zA]
      refine wpList_nil ?_
      go_upto_region 13 with fail
      refine wp_region_lit ?_
      refine zr (.string (sB tx)) wo rfl ?_
      simp only [Act.put, zA]
      refine zr (.string (sB (tx ++ ([32, 119, 105, 116, 104])))) wo (xs_add tx ([32, 119, 105, 116, 104]) (by (try simp only [List.length_append, List.length_cons, List.length_nil]); omega) Tryd.underlying9 rfl rfl rfl) ?_
      simp only [Act.put, zA]
      refine zr (.string (sB (tx ++ ([32, 119, 105, 116, 104])))) wo rfl ?_
      simp only [Act.put, zA]
      refine wpList_nil ?_
      go_upto_region 14 with fail
      refine wp_region_lit ?_
      refine zr (.string (sB (tx ++ ([32, 119, 105, 116, 104])))) wo rfl ?_
      simp only [Act.put, zA]
      refine zr (.slice h.A h.n h.c) wo rfl ?_
      simp only [Act.put, zA]
      refine wpList_call (by kernel_rfl) 38 Tryd.func38 (by kernel_rfl) (by kernel_rfl) _ _ #[.slice h.A h.n h.c] rfl (by kernel_rfl) ?_
      refine (filterText_as h.A h.n h.c hhn l HLO.out ft HFT.out wo (HG.out.keep B0.out) ((HFR.out.keep B0.out).row i h _ HH.out HXM.out)).mono ?_
      rintro e V2 ⟨rfl, hb⟩
      have B1 := zh hb
      clear hb 
      refine ⟨_, rfl, ?_⟩
      simp only [Act.put, zA]
      refine zr (.string (sB ((tx ++ ([32, 119, 105, 116, 104])) ++ ft))) V2 (xs_add (tx ++ ([32, 119, 105, 116, 104])) ft (by (try simp only [List.length_append, List.length_cons, List.length_nil]); omega) Tryd.underlying9 rfl rfl rfl) ?_
      simp only [Act.put, zA]
      refine zr (.string (sB ((tx ++ ([32, 119, 105, 116, 104])) ++ ft))) V2 rfl ?_
      simp only [Act.put, zA]
      refine wpList_nil ?_
      go_upto_region 15 with fail
      refine wp_region_lit ?_
      refine zr (.int .i64 ((i + 1 : Nat) : Int)) V2 (xo_addI (i : Int) 1 ((i + 1 : Nat) : Int) (by omega) (by omega) (by omega) rfl rfl rfl) ?_
      simp only [Act.put, zA]
      refine zr (.int .i64 ((i + 1 : Nat) : Int)) V2 rfl ?_
      simp only [Act.put, zA]
      refine wpList_nil ?_
      have he : hd ++ Qu.fsN (fs.take (i + 1)) = (tx ++ [32, 119, 105, 116, 104]) ++ ft := by rw [Qu.fsN_take HX.out, if_neg hi0, HFT.out, ← List.append_assoc hd, HTX.out] <;> simp [Qu.withT]
      have hq51 := (heap_keep Fv0_1.out B1.out)
      have C0_2 := zb B0 B1
      have hq52 := C0_2.out
      go_wp2_with fail
      go_roundw
      case rel => exact ⟨i + 1, by omega, by go_num, by first | rfl | rw [he], hq51, hq52⟩
      case measure => simp [intOf]; omega
    ·have hci49 : ¬ ((i : Int) < (n : Int)) := by omega
     go_upto_region 10 with fail
     refine wp_region_lit ?_
     refine zr (.bool false) wo (xo_lssF .i64 (i : Int) (n : Int) (by omega) rfl rfl rfl) ?_
     simp only [Act.put, zA]
     refine wpList_nil ?_
     go_upto_region 16 with fail
     refine wp_region_lit ?_
     refine zr (.string (sB tx)) wo rfl ?_
     simp only [Act.put, zA]
     refine zr (.string (sB tx)) wo rfl ?_
     simp only [Act.put, zA]
     refine wpList_nil ?_
     have he : Qu.fmtN ⟨kd, col, k, fs⟩ = tx := by show Qu.hdN kd col k ++ Qu.fsN fs = tx; rw [HHD.out, ← HTX.out, List.take_of_length_le (by omega)]
     have hbf := B0.out
     go_wp2_with fail
     go_ret
     exact ⟨by first | rfl | (rw [he] <;> rfl), hbf⟩
 | false =>
  go_upto_region 5 with fail
  refine wp_region_lit ?_
  refine zr (.pointer (some ⟨b3, 1, none⟩)) V3 (xo_fld0 1 b3 1 (by kernel_rfl) rfl rfl) ?_
  simp only [Act.put, zA]
  refine zr (.bool false) V3 (xo_load1 ⟨b3, 1, none⟩ _ (cells_at Fv43_3.out 1 rfl) Tryd.underlying4 rfl rfl rfl) ?_
  simp only [Act.put, zA]
  refine wpList_nil ?_
  by_cases hmk0 : 0 < mk
  ·have hci45 : ((mk : Int) > 0) := by omega
   go_upto_region 7 with fail
   refine wp_region_lit ?_
   refine zr (.pointer (some ⟨b3, 2, none⟩)) V3 (xo_fld0 2 b3 2 (by kernel_rfl) rfl rfl) ?_
   simp only [Act.put, zA]
   refine zr (.int .i64 (mk : Int)) V3 (xo_load1 ⟨b3, 2, none⟩ _ (cells_at Fv43_3.out 2 rfl) Tryd.underlying3 rfl rfl rfl) ?_
   simp only [Act.put, zA]
   refine zr (.bool true) V3 (xo_gtrT .i64 (mk : Int) 0 (by omega) rfl rfl rfl) ?_
   simp only [Act.put, zA]
   refine wpList_nil ?_
   go_upto_region 8 with fail
   refine wp_region_lit ?_
   refine zr (.string (sB kw)) V3 rfl ?_
   simp only [Act.put, zA]
   refine zr (.pointer (some ⟨w.heap.size, 2, none⟩)) V3 (xo_fld0 2 w.heap.size 2 (by kernel_rfl) rfl rfl) ?_
   simp only [Act.put, zA]
   have C1_3 := zb B1 B2
   refine zr (.int .i64 (k : Int)) V3 (xo_load1 ⟨w.heap.size, 2, none⟩ _ (cells_at (heap_keep Fv0_1.out C1_3.out) 2 rfl) Tryd.underlying3 rfl rfl rfl) ?_
   simp only [Act.put, zA]
   refine wpList_call (by kernel_rfl) 37 Tryd.func37 (by kernel_rfl) (by kernel_rfl) _ _ #[.int .i64 (k : Int)] rfl (by kernel_rfl) ?_
   refine (decimal_as k dk HDK.out (by omega) V3).mono ?_
   rintro e V4 ⟨rfl, hb⟩
   have B3 := zh hb
   clear hb 
   refine ⟨_, rfl, ?_⟩
   simp only [Act.put, zA]
   refine zr (.string (sB (([32]) ++ dk))) V4 (xs_add ([32]) dk (by (try simp only [List.length_append, List.length_cons, List.length_nil]); omega) Tryd.underlying9 rfl rfl rfl) ?_
   simp only [Act.put, zA]
   refine zr (.string (sB (kw ++ (([32]) ++ dk)))) V4 (xs_add kw (([32]) ++ dk) (by (try simp only [List.length_append, List.length_cons, List.length_nil]); omega) Tryd.underlying9 rfl rfl rfl) ?_
   simp only [Act.put, zA]
   refine zr (.string (sB (kw ++ (([32]) ++ dk)))) V4 rfl ?_
   simp only [Act.put, zA]
   refine wpList_nil ?_
   obtain ⟨hd, hhd⟩ : ∃ x, (kw) ++ ([32] ++ dk) = x := ⟨_, rfl⟩
   have hhdl : hd.length ≤ 30 := by rw [← hhd]; (try simp only [List.length_append, List.length_cons, List.length_nil]); omega
   have HHD : Hid (Qu.hdN kd col k = hd) := zh (by rw [← hhd]; simp only [Qu.hdN, HKW.out, HCB.out, HMK.out, Hnm.out, HDK.out, Bool.false_eq_true, if_false, if_pos hmk0, List.append_assoc, List.append_nil])
   rw [hhd]
   clear hhd
   go_upto_region 9 with fail
   refine wp_region_lit ?_
   refine zr (.pointer (some ⟨w.heap.size, 3, none⟩)) V4 (xo_fld0 3 w.heap.size 3 (by kernel_rfl) rfl rfl) ?_
   simp only [Act.put, zA]
   have C1_4 := zb C1_3 B3
   refine zr (.slice A n c) V4 (xo_load1 ⟨w.heap.size, 3, none⟩ _ (cells_at (heap_keep Fv0_1.out C1_4.out) 3 rfl) Tryd.underlying22 rfl rfl rfl) ?_
   simp only [Act.put, zA]
   refine zr (.int .i64 (n : Int)) V4 (xo_len A n c Tryd.underlying22 rfl rfl) ?_
   simp only [Act.put, zA]
   refine zr (.int .i64 0) V4 rfl ?_
   simp only [Act.put, zA]
   refine wpList_nil ?_
   have O46 := (heap_keep Fv0_1.out C1_4.out)
   have C0_2 := zb B0 B1
   have C0_3 := zb C0_2 B2
   have C0_4 := zb C0_3 B3
   have O47 := C0_4.out
   go_wp2_with fail
   go_loopw [38, 4] (fun p a wr => ∃ i : Nat, i ≤ n ∧ p = .int .i64 i ∧ a = .string (sB (hd ++ Qu.fsN (fs.take i))) ∧ wr.heap[w.heap.size]? = some (.cells #[.int .i64 (kd : Int), .int .i64 (col : Int), .int .i64 (k : Int), .slice A n c] 24 (0, 0)) ∧ Below w.heap.size w wr) (fun p _ _ => n - (intOf p).toNat)
   case atStart => exact ⟨0, Nat.zero_le _, rfl, (by simp [Qu.fsN, Qu.fsG]), O46, O47⟩
   case round =>
    clear O46 O47
    obtain ⟨wo, rfl⟩ : ∃ wo : World, wo = wr := ⟨_, rfl⟩
    obtain ⟨i, hi, rfl, hHA, hr0, hb0⟩ := hrel
    have hbr := hb0
    clear B0
    have B0 := zh hbr
    clear hbr
    clear Fv0_1
    have Fv0_1 : Hid (wo.heap[w.heap.size]? = some (.cells #[.int .i64 (kd : Int), .int .i64 (col : Int), .int .i64 (k : Int), .slice A n c] 24 (0, 0))) := zh (hr0)
    have HA := zh hHA
    clear hb0 hr0 hHA
    have ea := HA.out
    subst ea
    clear HA
    obtain ⟨tx, htx⟩ : ∃ x, hd ++ Qu.fsN (fs.take i) = x := ⟨_, rfl⟩
    have HTX := zh htx
    rw [htx]
    clear htx
    have htl : tx.length ≤ 30 + 130 * i := by rw [← HTX.out, List.length_append]; have := fsN_len (fs := fs) (i := i) (fun l hl => (Qu.vL_ok (HALL.out _ (List.mem_map_of_mem hl))).1); omega
    by_cases hlt2 : i < n
    ·have hci49 : ((i : Int) < (n : Int)) := by omega
     obtain ⟨h, hh⟩ : ∃ h, hs[i]? = some h := ⟨_, List.getElem?_eq_getElem (by omega)⟩
     obtain ⟨l, hxs⟩ : ∃ x, fs[i]? = some x := ⟨_, List.getElem?_eq_getElem (by omega)⟩
     have HH := zh hh
     have HX := zh hxs
     obtain ⟨hl3, hlok⟩ := Qu.vL_ok (HALL.out _ (List.mem_map_of_mem (List.mem_of_getElem? hxs)))
     have HLO := zh hlok
     clear hh hxs hlok
     have HXM : Hid ((fs.map (List.map Qu.Cd.ci))[i]? = some (l.map Qu.Cd.ci)) := zh (by rw [List.getElem?_map, HX.out]; rfl)
     have hhn : h.n ≤ 3 := by have := ((HFR.out.keep B0.out).row i h _ HH.out HXM.out).len; rw [List.length_map] at this; omega
     obtain ⟨ft, hft⟩ : ∃ x, Qu.ftN l = x := ⟨_, rfl⟩
     have hftl : ft.length ≤ 120 := by rw [← hft]; exact Nat.le_trans (Qu.ftG_le (by decide) l) (by omega)
     have HFT := zh hft
     clear hft
     go_upto_region 10 with fail
     refine wp_region_lit ?_
     refine zr (.bool true) wo (xo_lssT .i64 (i : Int) (n : Int) (by omega) rfl rfl rfl) ?_
     simp only [Act.put, zA]
     refine wpList_nil ?_
     go_upto_region 11 with fail
     refine wp_region_lit ?_
     refine zr (.int .i64 (i : Int)) wo rfl ?_
     simp only [Act.put, zA]
     refine zr (.pointer (some (gad A (i * 1)))) wo (xg_idx .i64 (HFR.out.keep B0.out).sg HH.out Tryd.underlying22 (by kernel_rfl) rfl rfl rfl) ?_
     simp only [Act.put, zA]
     refine zr (.slice h.A h.n h.c) wo (xg_load1 (E := hdC) (i := i) (j := 0) (HFR.out.keep B0.out).sg HH.out rfl rfl Tryd.underlying28 rfl rfl rfl) ?_
     simp only [Act.put, zA]
     refine zr (.int .i64 (i : Int)) wo rfl ?_
     simp only [Act.put, zA]
     refine zr (.slice h.A h.n h.c) wo rfl ?_
     simp only [Act.put, zA]
     refine wpList_nil ?_
     by_cases hi0 : i = 0
     ·have hci50 : ¬ ((i : Int) > 0) := by omega
      go_upto_region 12 with fail
      refine wp_region_lit ?_
      refine zr (.int .i64 (i : Int)) wo rfl ?_
      simp only [Act.put, zA]
      refine zr (.bool false) wo (xo_gtrF .i64 (i : Int) 0 (by omega) rfl rfl rfl) ?_
      simp only [Act.put, zA]
      refine wpList_nil ?_
      go_upto_region 14 with fail
      refine wp_region_lit ?_
      refine zr (.string (sB tx)) wo rfl ?_
      simp only [Act.put, zA]
      refine zr (.slice h.A h.n h.c) wo rfl ?_
      simp only [Act.put, zA]
      refine wpList_call (by kernel_rfl) 38 Tryd.func38 (by kernel_rfl) (by kernel_rfl) _ _ #[.slice h.A h.n h.c] rfl (by kernel_rfl) ?_
      refine (filterText_as h.A h.n h.c hhn l HLO.out ft HFT.out wo (HG.out.keep B0.out) ((HFR.out.keep B0.out).row i h _ HH.out HXM.out)).mono ?_
      rintro e V2 ⟨rfl, hb⟩
      have B1 := zh hb
      clear hb 
      refine ⟨_, rfl, ?_⟩
      simp only [Act.put, zA]
      refine zr (.string (sB (tx ++ ft))) V2 (xs_add tx ft (by (try simp only [List.length_append, List.length_cons, List.length_nil]); omega) Tryd.underlying9 rfl rfl rfl) ?_
      simp only [Act.put, zA]
      refine zr (.string (sB (tx ++ ft))) V2 rfl ?_
      simp only [Act.put, zA]
      refine wpList_nil ?_
      go_upto_region 15 with fail
      refine wp_region_lit ?_
      refine zr (.int .i64 ((i + 1 : Nat) : Int)) V2 (xo_addI (i : Int) 1 ((i + 1 : Nat) : Int) (by omega) (by omega) (by omega) rfl rfl rfl) ?_
      simp only [Act.put, zA]
      refine zr (.int .i64 ((i + 1 : Nat) : Int)) V2 rfl ?_
      simp only [Act.put, zA]
      refine wpList_nil ?_
      have he : hd ++ Qu.fsN (fs.take (i + 1)) = tx ++ ft := by rw [Qu.fsN_take HX.out, if_pos hi0, HFT.out, ← List.append_assoc hd, HTX.out] <;> simp [Qu.withT]
      have hq51 := (heap_keep Fv0_1.out B1.out)
      have C0_2 := zb B0 B1
      have hq52 := C0_2.out
      go_wp2_with fail
      go_roundw
      case rel => exact ⟨i + 1, by omega, by go_num, by first | rfl | rw [he], hq51, hq52⟩
      case measure => simp [intOf]; omega
     ·have hci50 : ((i : Int) > 0) := by omega
      go_upto_region 12 with fail
      refine wp_region_lit ?_
      refine zr (.int .i64 (i : Int)) wo rfl ?_
      simp only [Act.put, zA]
      refine zr (.bool true) wo (xo_gtrT .i64 (i : Int) 0 (by omega) rfl rfl rfl) ?_
      simp only [Act.put, zA]
      refine wpList_nil ?_
      go_upto_region 13 with fail
      refine wp_region_lit ?_
      refine zr (.string (sB tx)) wo rfl ?_
      simp only [Act.put, zA]
      refine zr (.string (sB (tx ++ ([32, 119, 105, 116, 104])))) wo (xs_add tx ([32, 119, 105, 116, 104]) (by (try simp only [List.length_append, List.length_cons, List.length_nil]); omega) Tryd.underlying9 rfl rfl rfl) ?_
      simp only [Act.put, zA]
      refine zr (.string (sB (tx ++ ([32, 119, 105, 116, 104])))) wo rfl ?_
      simp only [Act.put, zA]
      refine wpList_nil ?_
      go_upto_region 14 with fail
      refine wp_region_lit ?_
      refine zr (.string (sB (tx ++ ([32, 119, 105, 116, 104])))) wo rfl ?_
      simp only [Act.put, zA]
      refine zr (.slice h.A h.n h.c) wo rfl ?_
      simp only [Act.put, zA]
      refine wpList_call (by kernel_rfl) 38 Tryd.func38 (by kernel_rfl) (by kernel_rfl) _ _ #[.slice h.A h.n h.c] rfl (by kernel_rfl) ?_
      refine (filterText_as h.A h.n h.c hhn l HLO.out ft HFT.out wo (HG.out.keep B0.out) ((HFR.out.keep B0.out).row i h _ HH.out HXM.out)).mono ?_
      rintro e V2 ⟨rfl, hb⟩
      have B1 := zh hb
      clear hb 
      refine ⟨_, rfl, ?_⟩
      simp only [Act.put, zA]
      refine zr (.string (sB ((tx ++ ([32, 119, 105, 116, 104])) ++ ft))) V2 (xs_add (tx ++ ([32, 119, 105, 116, 104])) ft (by (try simp only [List.length_append, List.length_cons, List.length_nil]); omega) Tryd.underlying9 rfl rfl rfl) ?_
      simp only [Act.put, zA]
      refine zr (.string (sB ((tx ++ ([32, 119, 105, 116, 104])) ++ ft))) V2 rfl ?_
      simp only [Act.put, zA]
      refine wpList_nil ?_
      go_upto_region 15 with fail
      refine wp_region_lit ?_
      refine zr (.int .i64 ((i + 1 : Nat) : Int)) V2 (xo_addI (i : Int) 1 ((i + 1 : Nat) : Int) (by omega) (by omega) (by omega) rfl rfl rfl) ?_
      simp only [Act.put, zA]
      refine zr (.int .i64 ((i + 1 : Nat) : Int)) V2 rfl ?_
      simp only [Act.put, zA]
      refine wpList_nil ?_
      have he : hd ++ Qu.fsN (fs.take (i + 1)) = (tx ++ [32, 119, 105, 116, 104]) ++ ft := by rw [Qu.fsN_take HX.out, if_neg hi0, HFT.out, ← List.append_assoc hd, HTX.out] <;> simp [Qu.withT]
      have hq51 := (heap_keep Fv0_1.out B1.out)
      have C0_2 := zb B0 B1
      have hq52 := C0_2.out
      go_wp2_with fail
      go_roundw
      case rel => exact ⟨i + 1, by omega, by go_num, by first | rfl | rw [he], hq51, hq52⟩
      case measure => simp [intOf]; omega
    ·have hci49 : ¬ ((i : Int) < (n : Int)) := by omega
     go_upto_region 10 with fail
     refine wp_region_lit ?_
     refine zr (.bool false) wo (xo_lssF .i64 (i : Int) (n : Int) (by omega) rfl rfl rfl) ?_
     simp only [Act.put, zA]
     refine wpList_nil ?_
     go_upto_region 16 with fail
     refine wp_region_lit ?_
     refine zr (.string (sB tx)) wo rfl ?_
     simp only [Act.put, zA]
     refine zr (.string (sB tx)) wo rfl ?_
     simp only [Act.put, zA]
     refine wpList_nil ?_
     have he : Qu.fmtN ⟨kd, col, k, fs⟩ = tx := by show Qu.hdN kd col k ++ Qu.fsN fs = tx; rw [HHD.out, ← HTX.out, List.take_of_length_le (by omega)]
     have hbf := B0.out
     go_wp2_with fail
     go_ret
     exact ⟨by first | rfl | (rw [he] <;> rfl), hbf⟩
  ·have hci45 : ¬ ((mk : Int) > 0) := by omega
   go_upto_region 7 with fail
   refine wp_region_lit ?_
   refine zr (.pointer (some ⟨b3, 2, none⟩)) V3 (xo_fld0 2 b3 2 (by kernel_rfl) rfl rfl) ?_
   simp only [Act.put, zA]
   refine zr (.int .i64 (mk : Int)) V3 (xo_load1 ⟨b3, 2, none⟩ _ (cells_at Fv43_3.out 2 rfl) Tryd.underlying3 rfl rfl rfl) ?_
   simp only [Act.put, zA]
   refine zr (.bool false) V3 (xo_gtrF .i64 (mk : Int) 0 (by omega) rfl rfl rfl) ?_
   simp only [Act.put, zA]
   refine wpList_nil ?_
   obtain ⟨hd, hhd⟩ : ∃ x, kw = x := ⟨_, rfl⟩
   have hhdl : hd.length ≤ 30 := by rw [← hhd]; (try simp only [List.length_append, List.length_cons, List.length_nil]); omega
   have HHD : Hid (Qu.hdN kd col k = hd) := zh (by rw [← hhd]; simp only [Qu.hdN, HKW.out, HCB.out, HMK.out, Hnm.out, HDK.out, Bool.false_eq_true, if_false, if_neg hmk0, List.append_assoc, List.append_nil])
   rw [hhd]
   clear hhd
   go_upto_region 9 with fail
   refine wp_region_lit ?_
   refine zr (.pointer (some ⟨w.heap.size, 3, none⟩)) V3 (xo_fld0 3 w.heap.size 3 (by kernel_rfl) rfl rfl) ?_
   simp only [Act.put, zA]
   have C1_3 := zb B1 B2
   refine zr (.slice A n c) V3 (xo_load1 ⟨w.heap.size, 3, none⟩ _ (cells_at (heap_keep Fv0_1.out C1_3.out) 3 rfl) Tryd.underlying22 rfl rfl rfl) ?_
   simp only [Act.put, zA]
   refine zr (.int .i64 (n : Int)) V3 (xo_len A n c Tryd.underlying22 rfl rfl) ?_
   simp only [Act.put, zA]
   refine zr (.int .i64 0) V3 rfl ?_
   simp only [Act.put, zA]
   refine wpList_nil ?_
   have O46 := (heap_keep Fv0_1.out C1_3.out)
   have C0_2 := zb B0 B1
   have C0_3 := zb C0_2 B2
   have O47 := C0_3.out
   go_wp2_with fail
   go_loopw [38, 4] (fun p a wr => ∃ i : Nat, i ≤ n ∧ p = .int .i64 i ∧ a = .string (sB (hd ++ Qu.fsN (fs.take i))) ∧ wr.heap[w.heap.size]? = some (.cells #[.int .i64 (kd : Int), .int .i64 (col : Int), .int .i64 (k : Int), .slice A n c] 24 (0, 0)) ∧ Below w.heap.size w wr) (fun p _ _ => n - (intOf p).toNat)
   case atStart => exact ⟨0, Nat.zero_le _, rfl, (by simp [Qu.fsN, Qu.fsG]), O46, O47⟩
   case round =>
    clear O46 O47
    obtain ⟨wo, rfl⟩ : ∃ wo : World, wo = wr := ⟨_, rfl⟩
    obtain ⟨i, hi, rfl, hHA, hr0, hb0⟩ := hrel
    have hbr := hb0
    clear B0
    have B0 := zh hbr
    clear hbr
    clear Fv0_1
    have Fv0_1 : Hid (wo.heap[w.heap.size]? = some (.cells #[.int .i64 (kd : Int), .int .i64 (col : Int), .int .i64 (k : Int), .slice A n c] 24 (0, 0))) := zh (hr0)
    have HA := zh hHA
    clear hb0 hr0 hHA
    have ea := HA.out
    subst ea
    clear HA
    obtain ⟨tx, htx⟩ : ∃ x, hd ++ Qu.fsN (fs.take i) = x := ⟨_, rfl⟩
    have HTX := zh htx
    rw [htx]
    clear htx
    have htl : tx.length ≤ 30 + 130 * i := by rw [← HTX.out, List.length_append]; have := fsN_len (fs := fs) (i := i) (fun l hl => (Qu.vL_ok (HALL.out _ (List.mem_map_of_mem hl))).1); omega
    by_cases hlt2 : i < n
    ·have hci49 : ((i : Int) < (n : Int)) := by omega
     obtain ⟨h, hh⟩ : ∃ h, hs[i]? = some h := ⟨_, List.getElem?_eq_getElem (by omega)⟩
     obtain ⟨l, hxs⟩ : ∃ x, fs[i]? = some x := ⟨_, List.getElem?_eq_getElem (by omega)⟩
     have HH := zh hh
     have HX := zh hxs
     obtain ⟨hl3, hlok⟩ := Qu.vL_ok (HALL.out _ (List.mem_map_of_mem (List.mem_of_getElem? hxs)))
     have HLO := zh hlok
     clear hh hxs hlok
     have HXM : Hid ((fs.map (List.map Qu.Cd.ci))[i]? = some (l.map Qu.Cd.ci)) := zh (by rw [List.getElem?_map, HX.out]; rfl)
     have hhn : h.n ≤ 3 := by have := ((HFR.out.keep B0.out).row i h _ HH.out HXM.out).len; rw [List.length_map] at this; omega
     obtain ⟨ft, hft⟩ : ∃ x, Qu.ftN l = x := ⟨_, rfl⟩
     have hftl : ft.length ≤ 120 := by rw [← hft]; exact Nat.le_trans (Qu.ftG_le (by decide) l) (by omega)
     have HFT := zh hft
     clear hft
     go_upto_region 10 with fail
     refine wp_region_lit ?_
     refine zr (.bool true) wo (xo_lssT .i64 (i : Int) (n : Int) (by omega) rfl rfl rfl) ?_
     simp only [Act.put, zA]
     refine wpList_nil ?_
     go_upto_region 11 with fail
     refine wp_region_lit ?_
     refine zr (.int .i64 (i : Int)) wo rfl ?_
     simp only [Act.put, zA]
     refine zr (.pointer (some (gad A (i * 1)))) wo (xg_idx .i64 (HFR.out.keep B0.out).sg HH.out Tryd.underlying22 (by kernel_rfl) rfl rfl rfl) ?_
     simp only [Act.put, zA]
     refine zr (.slice h.A h.n h.c) wo (xg_load1 (E := hdC) (i := i) (j := 0) (HFR.out.keep B0.out).sg HH.out rfl rfl Tryd.underlying28 rfl rfl rfl) ?_
     simp only [Act.put, zA]
     refine zr (.int .i64 (i : Int)) wo rfl ?_
     simp only [Act.put, zA]
     refine zr (.slice h.A h.n h.c) wo rfl ?_
     simp only [Act.put, zA]
     refine wpList_nil ?_
     by_cases hi0 : i = 0
     ·have hci50 : ¬ ((i : Int) > 0) := by omega
      go_upto_region 12 with fail
      refine wp_region_lit ?_
      refine zr (.int .i64 (i : Int)) wo rfl ?_
      simp only [Act.put, zA]
      refine zr (.bool false) wo (xo_gtrF .i64 (i : Int) 0 (by omega) rfl rfl rfl) ?_
      simp only [Act.put, zA]
      refine wpList_nil ?_
      go_upto_region 14 with fail
      refine wp_region_lit ?_
      refine zr (.string (sB tx)) wo rfl ?_
      simp only [Act.put, zA]
      refine zr (.slice h.A h.n h.c) wo rfl ?_
      simp only [Act.put, zA]
      refine wpList_call (by kernel_rfl) 38 Tryd.func38 (by kernel_rfl) (by kernel_rfl) _ _ #[.slice h.A h.n h.c] rfl (by kernel_rfl) ?_
      refine (filterText_as h.A h.n h.c hhn l HLO.out ft HFT.out wo (HG.out.keep B0.out) ((HFR.out.keep B0.out).row i h _ HH.out HXM.out)).mono ?_
      rintro e V2 ⟨rfl, hb⟩
      have B1 := zh hb
      clear hb 
      refine ⟨_, rfl, ?_⟩
      simp only [Act.put, zA]
      refine zr (.string (sB (tx ++ ft))) V2 (xs_add tx ft (by (try simp only [List.length_append, List.length_cons, List.length_nil]); omega) Tryd.underlying9 rfl rfl rfl) ?_
      simp only [Act.put, zA]
      refine zr (.string (sB (tx ++ ft))) V2 rfl ?_
      simp only [Act.put, zA]
      refine wpList_nil ?_
      go_upto_region 15 with fail
      refine wp_region_lit ?_
      refine zr (.int .i64 ((i + 1 : Nat) : Int)) V2 (xo_addI (i : Int) 1 ((i + 1 : Nat) : Int) (by omega) (by omega) (by omega) rfl rfl rfl) ?_
      simp only [Act.put, zA]
      refine zr (.int .i64 ((i + 1 : Nat) : Int)) V2 rfl ?_
      simp only [Act.put, zA]
      refine wpList_nil ?_
      have he : hd ++ Qu.fsN (fs.take (i + 1)) = tx ++ ft := by rw [Qu.fsN_take HX.out, if_pos hi0, HFT.out, ← List.append_assoc hd, HTX.out] <;> simp [Qu.withT]
      have hq51 := (heap_keep Fv0_1.out B1.out)
      have C0_2 := zb B0 B1
      have hq52 := C0_2.out
      go_wp2_with fail
      go_roundw
      case rel => exact ⟨i + 1, by omega, by go_num, by first | rfl | rw [he], hq51, hq52⟩
      case measure => simp [intOf]; omega
     ·have hci50 : ((i : Int) > 0) := by omega
      go_upto_region 12 with fail
      refine wp_region_lit ?_
      refine zr (.int .i64 (i : Int)) wo rfl ?_
      simp only [Act.put, zA]
      refine zr (.bool true) wo (xo_gtrT .i64 (i : Int) 0 (by omega) rfl rfl rfl) ?_
      simp only [Act.put, zA]
      refine wpList_nil ?_
      go_upto_region 13 with fail
      refine wp_region_lit ?_
      refine zr (.string (sB tx)) wo rfl ?_
      simp only [Act.put, zA]
      refine zr (.string (sB (tx ++ ([32, 119, 105, 116, 104])))) wo (xs_add tx ([32, 119, 105, 116, 104]) (by (try simp only [List.length_append, List.length_cons, List.length_nil]); omega) Tryd.underlying9 rfl rfl rfl) ?_
      simp only [Act.put, zA]
      refine zr (.string (sB (tx ++ ([32, 119, 105, 116, 104])))) wo rfl ?_
      simp only [Act.put, zA]
      refine wpList_nil ?_
      go_upto_region 14 with fail
      refine wp_region_lit ?_
      refine zr (.string (sB (tx ++ ([32, 119, 105, 116, 104])))) wo rfl ?_
      simp only [Act.put, zA]
      refine zr (.slice h.A h.n h.c) wo rfl ?_
      simp only [Act.put, zA]
      refine wpList_call (by kernel_rfl) 38 Tryd.func38 (by kernel_rfl) (by kernel_rfl) _ _ #[.slice h.A h.n h.c] rfl (by kernel_rfl) ?_
      refine (filterText_as h.A h.n h.c hhn l HLO.out ft HFT.out wo (HG.out.keep B0.out) ((HFR.out.keep B0.out).row i h _ HH.out HXM.out)).mono ?_
      rintro e V2 ⟨rfl, hb⟩
      have B1 := zh hb
      clear hb 
      refine ⟨_, rfl, ?_⟩
      simp only [Act.put, zA]
      refine zr (.string (sB ((tx ++ ([32, 119, 105, 116, 104])) ++ ft))) V2 (xs_add (tx ++ ([32, 119, 105, 116, 104])) ft (by (try simp only [List.length_append, List.length_cons, List.length_nil]); omega) Tryd.underlying9 rfl rfl rfl) ?_
      simp only [Act.put, zA]
      refine zr (.string (sB ((tx ++ ([32, 119, 105, 116, 104])) ++ ft))) V2 rfl ?_
      simp only [Act.put, zA]
      refine wpList_nil ?_
      go_upto_region 15 with fail
      refine wp_region_lit ?_
      refine zr (.int .i64 ((i + 1 : Nat) : Int)) V2 (xo_addI (i : Int) 1 ((i + 1 : Nat) : Int) (by omega) (by omega) (by omega) rfl rfl rfl) ?_
      simp only [Act.put, zA]
      refine zr (.int .i64 ((i + 1 : Nat) : Int)) V2 rfl ?_
      simp only [Act.put, zA]
      refine wpList_nil ?_
      have he : hd ++ Qu.fsN (fs.take (i + 1)) = (tx ++ [32, 119, 105, 116, 104]) ++ ft := by rw [Qu.fsN_take HX.out, if_neg hi0, HFT.out, ← List.append_assoc hd, HTX.out] <;> simp [Qu.withT]
      have hq51 := (heap_keep Fv0_1.out B1.out)
      have C0_2 := zb B0 B1
      have hq52 := C0_2.out
      go_wp2_with fail
      go_roundw
      case rel => exact ⟨i + 1, by omega, by go_num, by first | rfl | rw [he], hq51, hq52⟩
      case measure => simp [intOf]; omega
    ·have hci49 : ¬ ((i : Int) < (n : Int)) := by omega
     go_upto_region 10 with fail
     refine wp_region_lit ?_
     refine zr (.bool false) wo (xo_lssF .i64 (i : Int) (n : Int) (by omega) rfl rfl rfl) ?_
     simp only [Act.put, zA]
     refine wpList_nil ?_
     go_upto_region 16 with fail
     refine wp_region_lit ?_
     refine zr (.string (sB tx)) wo rfl ?_
     simp only [Act.put, zA]
     refine zr (.string (sB tx)) wo rfl ?_
     simp only [Act.put, zA]
     refine wpList_nil ?_
     have he : Qu.fmtN ⟨kd, col, k, fs⟩ = tx := by show Qu.hdN kd col k ++ Qu.fsN fs = tx; rw [HHD.out, ← HTX.out, List.take_of_length_le (by omega)]
     have hbf := B0.out
     go_wp2_with fail
     go_ret
     exact ⟨by first | rfl | (rw [he] <;> rfl), hbf⟩
end Go.Proofs.YtlicfidcfhbmpaaDoor

namespace Go.Proofs.YtlicfidcfhbmpaaDoor
set_option maxRecDepth 8000
/-- a state: at the end if and only if the token is the end's -/
structure Gd (s : List UInt8) (st : Qu.St) : Prop where
 ok : Qu.Ok s st
 fin : st.tok.cls = 0 → st.off = s.length ∧ st.tok = ⟨0, []⟩
 inn : st.tok.cls ≠ 0 → st.off < s.length
/-- an error and its place -/
def Ebad (s : List UInt8) (e off : Nat) : Prop := (e = 131 ∧ off = s.length) ∨ ((e = 130 ∨ e = 1) ∧ off < s.length)
theorem Gd.nxt {s : List UInt8} {q : Nat} (h : q ≤ s.length) : Gd s (Qu.nxt s q) := by
 have h1 : Qu.runE Qu.isSp s q ≤ s.length := Qu.runE_le h
 refine ⟨Qu.nxt_ok h, ?_, ?_⟩
 ·unfold Qu.nxt
  split
  ·next hn =>
   intro _
   have := List.getElem?_eq_none_iff.1 hn
   exact ⟨by show Qu.runE Qu.isSp s q = s.length; omega, rfl⟩
  ·split
   ·intro h0; cases h0
   ·split
    ·intro h0; cases h0
    ·split
     ·intro h0; cases h0
     ·split <;> (intro h0; cases h0)
 ·unfold Qu.nxt
  split
  ·intro h0; exact absurd rfl h0
  ·next b hb =>
   have hlt := (List.getElem?_eq_some_iff.1 hb).1
   split
   ·intro _; exact hlt
   ·split
    ·intro _; exact hlt
    ·split
     ·intro _; exact hlt
     ·split <;> (intro _; exact hlt)
section
variable {s : List UInt8} {st : Qu.St}
theorem Gd.adv (h : Gd s st) : Gd s (Qu.adv s st) := Gd.nxt h.ok.1
theorem Gd.cls (h : Gd s st) {c : Nat} (hc : st.tok.cls = c) (h0 : c ≠ 0) : st.off < s.length := h.inn (by rw [hc]; exact h0)
/-- a result that is fine: the state behind, the value, the error's place -/
structure Fine {α : Type} (s : List UInt8) (P : α → Prop) (r : Qu.Rs α) : Prop where
 g : Gd s r.st
 v : r.err = 0 → P r.val
 e : r.err ≠ 0 → Ebad s r.err r.st.off
theorem Fine.bad {α : Type} {P : α → Prop} {v : α} {e : Nat} (g : Gd s st) (h : e ≠ 0) (b : Ebad s e st.off) : Fine s P ⟨v, e, st⟩ := ⟨g, fun h0 => absurd h0 h, fun _ => b⟩
end
end Go.Proofs.YtlicfidcfhbmpaaDoor

