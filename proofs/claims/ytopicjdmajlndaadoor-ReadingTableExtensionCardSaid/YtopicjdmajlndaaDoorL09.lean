/- Several texts in one: Qp, Qq. -/
import Derived.Test.YtopicjdmajlndaaDoorL08
import Derived.Sort.CutIn
namespace Go.Proofs.YtopicjdmajlndaaDoor
set_option linter.unusedVariables false
set_option linter.unusedSimpArgs false
set_option linter.unusedSectionVars false
set_option maxRecDepth 8000
open Go.RowKit Go.Proofs.YtopicjdmajlndaaDoor.K
attribute [local irreducible] wpList wpQuiet
theorem madeS_take (most : Nat) {l : List Opn} {i : Nat} {o : Opn} (h : l[i]? = some o) : madeS most (l.take (i + 1)) = opS most (madeS most (l.take i)) o := by
  obtain ⟨hi, rfl⟩ := List.getElem?_eq_some_iff.1 h
  rw [List.take_succ_eq_append_getElem hi, madeS, List.foldl_append]
  rfl
theorem madeS_ok (most : Nat) (l : List Opn) (h : ∀ o ∈ l, o.b0 < 256 ∧ o.b1 < 256 ∧ o.b2 < 256) : StO most (madeS most l).1 (madeS most l).2 := by
  suffices hg : ∀ (l : List Opn) (s : List Rd × List Bool), StO most s.1 s.2 → (∀ o ∈ l, o.b0 < 256 ∧ o.b1 < 256 ∧ o.b2 < 256) → StO most (l.foldl (opS most) s).1 (l.foldl (opS most) s).2 from hg l ([], []) (StO.nil most) h
  intro l
  induction l with
  | nil => intro s hs _; exact hs
  | cons o l ih =>
    intro s hs hl
    have ho := hl o (List.mem_cons_self ..)
    exact ih _ (hs.op o ho.1 ho.2.1 ho.2.2) (fun p hp => hl p (List.mem_cons_of_mem _ hp))
set_option maxRecDepth 100000 in
set_option maxHeartbeats 16000000 in
theorem rmade_any (A : Option Addr) (n c : Nat) (ops : List Opn) (most : Nat) (hmost : most ≤ 1000) (hby : ∀ o ∈ ops, o.b0 < 256 ∧ o.b1 < 256 ∧ o.b2 < 256) (w : World) (h : Sg opC 4 w A n c ops) :
    Calls Tryd.prog 11 #[.slice A n c, .int .i64 (most : Int)] w fun e w' => ∃ rs gs m A2 c2 E2 d2, e = .returned (.agg #[.slice A2 m c2, .slice E2 m d2]) ∧ madeS most ops = (rs, gs) ∧ StO most rs gs ∧ Sg rdC 4 w' A2 m c2 rs ∧ Sg boC 1 w' E2 m d2 gs ∧ Below w.heap.size w w' := by
  have HX := Lib.hid h
  have hln := h.len
  have hcap := h.cap
  have htop := h.top
  have HB := Lib.hid hby
  clear h hby
  go_enter Tryd.func11, Tryd.ntmps11
  go_upto_region 1 with fail
  refine wp_named1 (fun V1 hb g0 hlt => ?_)
  have B0 := Lib.hid hb
  have Fv0_4 : Hid (V1.heap[w.heap.size]? = some (.cells #[.slice none 0 0, .slice none 0 0] 30 (0, 0))) := Lib.hid (g0)
  have Gb0 : Hid (w.heap.size ≤ w.heap.size) := Lib.hid (by omega)
  clear hb g0 hlt
  have Lt0 : Hid (w.heap.size < V1.heap.size) := Lib.hid (xp_lt Fv0_4.out)
  refine wp_region_lit ?_
  refine wpList_run (by kernel_rfl) (.agg #[.slice none 0 0, .slice none 0 0]) V1 (by unfold execOp; go_simp) ?_
  simp only [Act.put, List.setIfInBounds_toArray, List.set_cons_zero, List.set_cons_succ]
  refine wpList_new #[.slice none 0 0, .slice none 0 0] 30 (by kernel_rfl) (xo_alloc #[.slice none 0 0, .slice none 0 0] (by kernel_rfl) rfl) ?_
  intro b5 V2 hge h0 hb
  have N1_0 : Hid (w.heap.size ≠ b5) := Lib.hid (xp_lt0 Fv0_4.out hge)
  have Ge2 : Hid (V1.heap.size ≤ b5) := Lib.hid hge
  have B1 := Lib.hid hb
  have Fv3_5 : Hid (V2.heap[b5]? = some (.cells #[.slice none 0 0, .slice none 0 0] 30 (0, 0))) := Lib.hid (h0)
  have Lt4 : Hid (b5 < V2.heap.size) := Lib.hid (xp_lt Fv3_5.out)
  clear hge h0 hb
  simp only [ptr, Act.put, List.setIfInBounds_toArray, List.set_cons_zero, List.set_cons_succ]
  refine wpList_storeW b5 #[.slice none 0 0, .slice none 0 0] #[.slice none 0 0, .slice none 0 0] 30 (by kernel_rfl) Fv3_5.out (xo_storeW b5 #[.slice none 0 0, .slice none 0 0] #[.slice none 0 0, .slice none 0 0] Fv3_5.out (by kernel_rfl) rfl (by simp [Value.oneCell']) rfl rfl rfl) ?_
  intro X2_5 h1 hfar hbel hsz
  have hbr := hbel _ _ Ge2.out B1.out
  clear B1
  have B1 := Lib.hid hbr
  clear hbr
  clear Fv3_5
  have Fv3_5 : Hid (X2_5.heap[b5]? = some (.cells #[.slice none 0 0, .slice none 0 0] 30 (0, 0))) := Lib.hid (h1)
  have HszX2_5 := Lib.hid hsz
  clear h1 hfar hbel hsz
  simp only [ptr, Act.put, List.setIfInBounds_toArray, List.set_cons_zero, List.set_cons_succ]
  refine wpList_nil ?_
  go_upto_region 2 with fail
  refine wp_region_lit ?_
  refine wpList_run (by kernel_rfl) (.int .i64 0) X2_5 rfl ?_
  simp only [Act.put, List.setIfInBounds_toArray, List.set_cons_zero, List.set_cons_succ]
  refine wpList_nil ?_
  have O6 := (heap_keep Fv0_4.out B1.out)
  have O7 := Fv3_5.out
  have C0_2 := Lib.hid (bel_step B0.out B1.out)
  have O8 := C0_2.out
  have Gr9 : Hid (w.heap.size ≤ b5) := Lib.hid (Nat.le_trans B0.out.size Ge2.out)
  go_wp2_with fail
  go_loopw [6] (fun p wr => ∃ i : Nat, ∃ (rs : List Rd) (gs : List Bool) (m : Nat) (A2 : Option Addr) (c2 : Nat) (E2 : Option Addr) (d2 : Nat), i ≤ n ∧ p = .int .i64 i ∧ madeS most (ops.take i) = (rs, gs) ∧ Sg rdC 4 wr A2 m c2 rs ∧ Sg boC 1 wr E2 m d2 gs ∧ wr.heap[w.heap.size]? = some (.cells #[.slice none 0 0, .slice none 0 0] 30 (0, 0)) ∧ wr.heap[b5]? = some (.cells #[.slice A2 m c2, .slice E2 m d2] 30 (0, 0)) ∧ Below w.heap.size w wr) (fun p _ => n - (intOf p).toNat)
  case atStart => exact ⟨0, [], [], 0, none, 0, none, 0, Nat.zero_le _, rfl, rfl, Sg.nil_ _, Sg.nil_ _, O6, O7, O8⟩
  case round =>
    clear O6 O7 O8
    obtain ⟨wo, rfl⟩ : ∃ wo : World, wo = wr := ⟨_, rfl⟩
    obtain ⟨i, rs, gs, m, A2, c2, E2, d2, hi, rfl, hHM, hHL, hHG, hr0, hr1, hb0⟩ := hrel
    have hbr := hb0
    clear B0
    have B0 := Lib.hid hbr
    clear hbr
    clear Fv0_4
    have Fv0_4 : Hid (wo.heap[w.heap.size]? = some (.cells #[.slice none 0 0, .slice none 0 0] 30 (0, 0))) := Lib.hid (hr0)
    clear Fv3_5
    have Fv3_5 : Hid (wo.heap[b5]? = some (.cells #[.slice A2 m c2, .slice E2 m d2] 30 (0, 0))) := Lib.hid (hr1)
    have HM := Lib.hid hHM
    have HL := Lib.hid hHL
    have HG := Lib.hid hHG
    clear hb0 hr0 hr1 hHM hHL hHG
    have hst : StO most rs gs := by have h1 := madeS_ok most (ops.take i) (fun o ho => HB.out o (List.mem_of_mem_take ho)); rw [HM.out] at h1; exact h1
    have hmr := HL.out.len
    have hmg := HG.out.len
    have hmm := hst.most
    by_cases hlt : i < n
    · have hci11 : ((i : Int) < (n : Int)) := by omega
      obtain ⟨⟨b0, b1, b2, back⟩, hx⟩ : ∃ o, ops[i]? = some o := ⟨_, List.getElem?_eq_getElem (by omega)⟩
      obtain ⟨hb0, hb1, hb2⟩ := HB.out _ (List.mem_of_getElem? hx)
      simp only at hb0 hb1 hb2
      have HT := Lib.hid (madeS_take most hx)
      rw [HM.out] at HT
      have HE := Lib.hid hx
      clear hx
      cases back with
      | false =>
        go_upto_region 3 with fail
        refine wp_region_lit ?_
        refine wpList_run (by kernel_rfl) (.int .i64 (i : Int)) wo rfl ?_
        simp only [Act.put, List.setIfInBounds_toArray, List.set_cons_zero, List.set_cons_succ]
        refine wpList_run (by kernel_rfl) (.slice A n c) wo rfl ?_
        simp only [Act.put, List.setIfInBounds_toArray, List.set_cons_zero, List.set_cons_succ]
        refine wpList_run (by kernel_rfl) (.int .i64 (n : Int)) wo (xo_len A n c Tryd.underlying22 rfl rfl) ?_
        simp only [Act.put, List.setIfInBounds_toArray, List.set_cons_zero, List.set_cons_succ]
        refine wpList_run (by kernel_rfl) (.bool true) wo (xo_lssT .i64 (i : Int) (n : Int) (by omega) rfl rfl rfl) ?_
        simp only [Act.put, List.setIfInBounds_toArray, List.set_cons_zero, List.set_cons_succ]
        refine wpList_nil ?_
        go_upto_region 5 with fail
        refine wp_region_lit ?_
        refine wpList_run (by kernel_rfl) (.slice A n c) wo rfl ?_
        simp only [Act.put, List.setIfInBounds_toArray, List.set_cons_zero, List.set_cons_succ]
        refine wpList_run (by kernel_rfl) (.int .i64 (i : Int)) wo rfl ?_
        simp only [Act.put, List.setIfInBounds_toArray, List.set_cons_zero, List.set_cons_succ]
        refine wpList_run (by kernel_rfl) (.pointer (some (gad A (i * 4)))) wo (xg_idx .i64 (HX.out.keep B0.out) HE.out Tryd.underlying22 (by kernel_rfl) rfl rfl rfl) ?_
        simp only [Act.put, List.setIfInBounds_toArray, List.set_cons_zero, List.set_cons_succ]
        refine wpList_run (by kernel_rfl) (.pointer (some (gad A ((i * 4) + 3)))) wo (xg_fld 1 (HX.out.keep B0.out) HE.out (by kernel_rfl) rfl rfl) ?_
        simp only [Act.put, List.setIfInBounds_toArray, List.set_cons_zero, List.set_cons_succ]
        refine wpList_run (by kernel_rfl) (.bool false) wo (xg_load1 (E := opC) (i := i) (j := 3) (HX.out.keep B0.out) HE.out rfl rfl Tryd.underlying4 rfl rfl rfl) ?_
        simp only [Act.put, List.setIfInBounds_toArray, List.set_cons_zero, List.set_cons_succ]
        refine wpList_run (by kernel_rfl) (.bool false) wo rfl ?_
        simp only [Act.put, List.setIfInBounds_toArray, List.set_cons_zero, List.set_cons_succ]
        refine wpList_skip (by kernel_rfl) ?_
        try simp only [Act.put, List.setIfInBounds_toArray, List.set_cons_zero, List.set_cons_succ]
        refine wpList_skip (by kernel_rfl) ?_
        try simp only [Act.put, List.setIfInBounds_toArray, List.set_cons_zero, List.set_cons_succ]
        refine wpList_skip (by kernel_rfl) ?_
        try simp only [Act.put, List.setIfInBounds_toArray, List.set_cons_zero, List.set_cons_succ]
        refine wpList_skip (by kernel_rfl) ?_
        try simp only [Act.put, List.setIfInBounds_toArray, List.set_cons_zero, List.set_cons_succ]
        refine wpList_run (by kernel_rfl) (.bool false) wo rfl ?_
        simp only [Act.put, List.setIfInBounds_toArray, List.set_cons_zero, List.set_cons_succ]
        refine wpList_nil ?_
        by_cases hmost : m < most
        · have hci12 : ((m : Int) < (most : Int)) := by omega
          go_upto_region 9 with fail
          refine wp_region_lit ?_
          refine wpList_run (by kernel_rfl) (.slice A n c) wo rfl ?_
          simp only [Act.put, List.setIfInBounds_toArray, List.set_cons_zero, List.set_cons_succ]
          refine wpList_run (by kernel_rfl) (.int .i64 (i : Int)) wo rfl ?_
          simp only [Act.put, List.setIfInBounds_toArray, List.set_cons_zero, List.set_cons_succ]
          refine wpList_run (by kernel_rfl) (.pointer (some (gad A (i * 4)))) wo (xg_idx .i64 (HX.out.keep B0.out) HE.out Tryd.underlying22 (by kernel_rfl) rfl rfl rfl) ?_
          simp only [Act.put, List.setIfInBounds_toArray, List.set_cons_zero, List.set_cons_succ]
          refine wpList_run (by kernel_rfl) (.pointer (some (gad A ((i * 4) + 3)))) wo (xg_fld 1 (HX.out.keep B0.out) HE.out (by kernel_rfl) rfl rfl) ?_
          simp only [Act.put, List.setIfInBounds_toArray, List.set_cons_zero, List.set_cons_succ]
          refine wpList_run (by kernel_rfl) (.bool false) wo (xg_load1 (E := opC) (i := i) (j := 3) (HX.out.keep B0.out) HE.out rfl rfl Tryd.underlying4 rfl rfl rfl) ?_
          simp only [Act.put, List.setIfInBounds_toArray, List.set_cons_zero, List.set_cons_succ]
          refine wpList_run (by kernel_rfl) (.bool true) wo rfl ?_
          simp only [Act.put, List.setIfInBounds_toArray, List.set_cons_zero, List.set_cons_succ]
          refine wpList_run (by kernel_rfl) (.bool true) wo rfl ?_
          simp only [Act.put, List.setIfInBounds_toArray, List.set_cons_zero, List.set_cons_succ]
          refine wpList_run (by kernel_rfl) (.pointer (some ⟨b5, 0, none⟩)) wo (xo_fld0 0 b5 0 (by kernel_rfl) rfl rfl) ?_
          simp only [Act.put, List.setIfInBounds_toArray, List.set_cons_zero, List.set_cons_succ]
          refine wpList_run (by kernel_rfl) (.slice A2 m c2) wo (xo_load1 ⟨b5, 0, none⟩ _ (cells_at Fv3_5.out 0 rfl) Tryd.underlying27 rfl rfl rfl) ?_
          simp only [Act.put, List.setIfInBounds_toArray, List.set_cons_zero, List.set_cons_succ]
          refine wpList_run (by kernel_rfl) (.int .i64 (m : Int)) wo (xo_len A2 m c2 Tryd.underlying27 rfl rfl) ?_
          simp only [Act.put, List.setIfInBounds_toArray, List.set_cons_zero, List.set_cons_succ]
          refine wpList_run (by kernel_rfl) (.int .i64 (most : Int)) wo rfl ?_
          simp only [Act.put, List.setIfInBounds_toArray, List.set_cons_zero, List.set_cons_succ]
          refine wpList_run (by kernel_rfl) (.bool true) wo (xo_lssT .i64 (m : Int) (most : Int) (by omega) rfl rfl rfl) ?_
          simp only [Act.put, List.setIfInBounds_toArray, List.set_cons_zero, List.set_cons_succ]
          refine wpList_run (by kernel_rfl) (.bool true) wo rfl ?_
          simp only [Act.put, List.setIfInBounds_toArray, List.set_cons_zero, List.set_cons_succ]
          refine wpList_nil ?_
          have hvr : vR (decR b0 b1 b2) = true := vR_dec hb0 hb1 hb2
          go_upto_region 10 with fail
          try simp only [List.append_eq, List.cons_append, List.nil_append]
          refine wp_ordT (fun W => Below w.heap.size w W) (.q 1 (.q 2 (.q 3 (.q 4 (.q 5 (.fork 0 (.one 6 (.one 7 (.q 8 (.q 9 (.q 10 (.one 11 .nil)))))) 6 (.one 0 (.one 7 (.q 8 (.q 9 (.q 10 (.one 11 .nil)))))))))))) (by kernel_rfl) (by kernel_rfl) (fun _ _ dt _ _ h => by first | exact h.elim | (cases dt <;> exact h)) (by kernel_rfl) (by kernel_rfl) B0.out.drew ?_
          have hb : Below wo.heap.size wo wo.drew := (Below.refl _ _).drew
          generalize wo.drew = V2 at hb ⊢
          have B1 := Lib.hid hb
          clear hb
          refine wpOT_q (.slice A n c) rfl (by kernel_rfl) (fun v hW => rfl) ?_
          simp only [ptr, Act.put, List.setIfInBounds_toArray, List.set_cons_zero, List.set_cons_succ]
          refine wpOT_q (.int .i64 (i : Int)) rfl (by kernel_rfl) (fun v hW => rfl) ?_
          simp only [ptr, Act.put, List.setIfInBounds_toArray, List.set_cons_zero, List.set_cons_succ]
          refine wpOT_q (.pointer (some (gad A (i * 4)))) rfl (by kernel_rfl) (fun v hW => (xg_idx .i64 (HX.out.keep hW) HE.out Tryd.underlying22 (by kernel_rfl) rfl rfl rfl)) ?_
          simp only [ptr, Act.put, List.setIfInBounds_toArray, List.set_cons_zero, List.set_cons_succ]
          refine wpOT_q (.pointer (some (gad A ((i * 4) + 0)))) rfl (by kernel_rfl) (fun v hW => (xg_fld 0 (HX.out.keep hW) HE.out (by kernel_rfl) rfl rfl)) ?_
          simp only [ptr, Act.put, List.setIfInBounds_toArray, List.set_cons_zero, List.set_cons_succ]
          refine wpOT_q (.agg #[.int .u8 (b0 : Int), .int .u8 (b1 : Int), .int .u8 (b2 : Int)]) rfl (by kernel_rfl) (fun v hW => (xg_loadR (E := opC) (i := i) (j := 0) (cs := [.int .u8 (b0 : Int), .int .u8 (b1 : Int), .int .u8 (b2 : Int)]) (HX.out.keep hW) HE.out rfl (fun m u hm => by rcases m with _ | _ | _ | m <;> first | exact hm | cases hm) Tryd.underlying44 rfl (by kernel_rfl) rfl rfl)) ?_
          simp only [ptr, Act.put, List.setIfInBounds_toArray, List.set_cons_zero, List.set_cons_succ]
          refine wpOT_fork ?_ ?_
          · refine wpOT_one rfl (by kernel_rfl) ?_
            have C0_2 := Lib.hid (bel_step B0.out B1.out)
            refine hOp_val (.agg #[.slice A2 m c2, .slice E2 m d2]) (xo_loadW b5 _ (heap_keep Fv3_5.out B1.out) Tryd.underlying30 rfl (by kernel_rfl) rfl rfl) ⟨C0_2.out, ?_⟩
            simp only [ptr, Act.put, List.setIfInBounds_toArray, List.set_cons_zero, List.set_cons_succ]
            refine wpOT_one rfl (by kernel_rfl) ?_
            refine hOp_call 25 Tryd.func25 (by kernel_rfl) (by kernel_rfl) _ _ #[.agg #[.int .u8 (b0 : Int), .int .u8 (b1 : Int), .int .u8 (b2 : Int)]] rfl (by kernel_rfl) ?_
            refine (rreading_any b0 b1 b2 hb0 hb1 hb2 V2).mono ?_
            rintro e V3 ⟨rfl, hb⟩
            have B2 := Lib.hid hb
            clear hb 
            have C0_3 := Lib.hid (bel_step C0_2.out B2.out)
            refine ⟨_, rfl, C0_3.out, ?_⟩
            simp only [ptr, Act.put, List.setIfInBounds_toArray, List.set_cons_zero, List.set_cons_succ]
            refine wpOT_one rfl (by kernel_rfl) ?_
            have C1_3 := Lib.hid (bel_step B1.out B2.out)
            refine hOp_call 13 Tryd.func13 (by kernel_rfl) (by kernel_rfl) _ _ #[.agg #[.slice A2 m c2, .slice E2 m d2], .agg #[.int .i64 ((decR b0 b1 b2).who), .int .i64 ((decR b0 b1 b2).when_), .int .i64 ((decR b0 b1 b2).kind), .int .i64 ((decR b0 b1 b2).value)]] rfl (by kernel_rfl) ?_
            refine (rtake_yes A2 m c2 rs E2 d2 gs (decR b0 b1 b2) hvr (by omega) V3 (HL.out.keep C1_3.out) (HG.out.keep C1_3.out)).mono ?_
            rintro e V4 ⟨A3, c3, E3, d3, rfl, hs1, hs2, hb⟩
            have B3 := Lib.hid hb
            have HL3 := Lib.hid hs1
            have HG3 := Lib.hid hs2
            clear hb hs1 hs2
            have C0_4 := Lib.hid (bel_step C0_3.out B3.out)
            refine ⟨_, rfl, C0_4.out, ?_⟩
            simp only [ptr, Act.put, List.setIfInBounds_toArray, List.set_cons_zero, List.set_cons_succ]
            refine wpOT_q (.tuple #[.agg #[.slice A3 (m + 1) c3, .slice E3 (m + 1) d3], .int .i64 0]) rfl (by kernel_rfl) (fun v hW => rfl) ?_
            simp only [ptr, Act.put, List.setIfInBounds_toArray, List.set_cons_zero, List.set_cons_succ]
            refine wpOT_q (.agg #[.slice A3 (m + 1) c3, .slice E3 (m + 1) d3]) rfl (by kernel_rfl) (fun v hW => rfl) ?_
            simp only [ptr, Act.put, List.setIfInBounds_toArray, List.set_cons_zero, List.set_cons_succ]
            refine wpOT_q (.int .i64 0) rfl (by kernel_rfl) (fun v hW => rfl) ?_
            simp only [ptr, Act.put, List.setIfInBounds_toArray, List.set_cons_zero, List.set_cons_succ]
            refine wpOT_one rfl (by kernel_rfl) ?_
            have C1_4 := Lib.hid (bel_step C1_3.out B3.out)
            refine hOp_storeW b5 #[.slice A2 m c2, .slice E2 m d2] #[.slice A3 (m + 1) c3, .slice E3 (m + 1) d3] 30 (heap_keep Fv3_5.out C1_4.out) (xo_storeW b5 #[.slice A2 m c2, .slice E2 m d2] #[.slice A3 (m + 1) c3, .slice E3 (m + 1) d3] (heap_keep Fv3_5.out C1_4.out) (by kernel_rfl) rfl (by simp [Value.oneCell']) rfl rfl rfl) ?_
            intro X4_13 h1 hfar hbel hsz
            have YHL3 : Sg rdC 4 X4_13 A3 (m + 1) c3 (rs ++ [decR b0 b1 b2]) := Sg.farSl HL3.out rd_nosl (heap_keep Fv3_5.out C1_4.out) (by simp [isSl]) hfar
            have YHG3 : Sg boC 1 X4_13 E3 (m + 1) d3 (gs ++ [false]) := Sg.farSl HG3.out bo_nosl (heap_keep Fv3_5.out C1_4.out) (by simp [isSl]) hfar
            have YFv0_4 : X4_13.heap[w.heap.size]? = some (.cells #[.slice none 0 0, .slice none 0 0] 30 (0, 0)) := hfar _ _ N1_0.out (heap_keep Fv0_4.out C1_4.out)
            -- drops HL
            -- drops HG
            have hbr := hbel _ _ Gr9.out C0_4.out
            clear B0
            have B0 := Lib.hid hbr
            clear hbr
            clear Fv0_4
            have Fv0_4 : Hid (X4_13.heap[w.heap.size]? = some (.cells #[.slice none 0 0, .slice none 0 0] 30 (0, 0))) := Lib.hid YFv0_4
            clear YFv0_4
            clear HL3
            have HL3 := Lib.hid YHL3
            clear YHL3
            clear HG3
            have HG3 := Lib.hid YHG3
            clear YHG3
            clear Fv3_5
            have Fv3_5 : Hid (X4_13.heap[b5]? = some (.cells #[.slice A3 (m + 1) c3, .slice E3 (m + 1) d3] 30 (0, 0))) := Lib.hid (h1)
            have HszX4_13 := Lib.hid hsz
            clear h1 hfar hbel hsz
            simp only [ptr, Act.put, List.setIfInBounds_toArray, List.set_cons_zero, List.set_cons_succ]
            refine ⟨B0.out, ?_⟩
            try simp only [ptr, Act.put, List.setIfInBounds_toArray, List.set_cons_zero, List.set_cons_succ]
            refine wpOT_nil ?_
            have hnew : madeS most (ops.take (i + 1)) = (rs ++ [decR b0 b1 b2], gs ++ [false]) := by rw [HT.out]; simp only [opS, Bool.false_eq_true, if_false]; rw [if_pos (by omega)]
            go_upto_region 4 with fail
            refine wp_region_lit ?_
            refine wpList_run (by kernel_rfl) (.int .i64 (i : Int)) X4_13 rfl ?_
            simp only [Act.put, List.setIfInBounds_toArray, List.set_cons_zero, List.set_cons_succ]
            refine wpList_run (by kernel_rfl) (.int .i64 ((i + 1 : Nat) : Int)) X4_13 (xo_addI (i : Int) 1 ((i + 1 : Nat) : Int) (by omega) (by omega) (by omega) rfl rfl rfl) ?_
            simp only [Act.put, List.setIfInBounds_toArray, List.set_cons_zero, List.set_cons_succ]
            refine wpList_run (by kernel_rfl) (.int .i64 ((i + 1 : Nat) : Int)) X4_13 rfl ?_
            simp only [Act.put, List.setIfInBounds_toArray, List.set_cons_zero, List.set_cons_succ]
            refine wpList_nil ?_
            have hkl := HL3.out
            have hkg := HG3.out
            have hq14 := Fv0_4.out
            have hq15 := Fv3_5.out
            have hq16 := B0.out
            go_wp2_with fail
            go_roundw
            case rel => exact ⟨i + 1, _, _, _, _, _, _, _, by omega, by go_num, hnew, hkl, hkg, hq14, hq15, hq16⟩
            case measure => simp [intOf]; omega
          · refine wpOT_one rfl (by kernel_rfl) ?_
            refine hOp_call 25 Tryd.func25 (by kernel_rfl) (by kernel_rfl) _ _ #[.agg #[.int .u8 (b0 : Int), .int .u8 (b1 : Int), .int .u8 (b2 : Int)]] rfl (by kernel_rfl) ?_
            refine (rreading_any b0 b1 b2 hb0 hb1 hb2 V2).mono ?_
            rintro e V3 ⟨rfl, hb⟩
            have B2 := Lib.hid hb
            clear hb 
            have C0_2 := Lib.hid (bel_step B0.out B1.out)
            have C0_3 := Lib.hid (bel_step C0_2.out B2.out)
            refine ⟨_, rfl, C0_3.out, ?_⟩
            simp only [ptr, Act.put, List.setIfInBounds_toArray, List.set_cons_zero, List.set_cons_succ]
            refine wpOT_one rfl (by kernel_rfl) ?_
            have C1_3 := Lib.hid (bel_step B1.out B2.out)
            refine hOp_val (.agg #[.slice A2 m c2, .slice E2 m d2]) (xo_loadW b5 _ (heap_keep Fv3_5.out C1_3.out) Tryd.underlying30 rfl (by kernel_rfl) rfl rfl) ⟨C0_3.out, ?_⟩
            simp only [ptr, Act.put, List.setIfInBounds_toArray, List.set_cons_zero, List.set_cons_succ]
            refine wpOT_one rfl (by kernel_rfl) ?_
            refine hOp_call 13 Tryd.func13 (by kernel_rfl) (by kernel_rfl) _ _ #[.agg #[.slice A2 m c2, .slice E2 m d2], .agg #[.int .i64 ((decR b0 b1 b2).who), .int .i64 ((decR b0 b1 b2).when_), .int .i64 ((decR b0 b1 b2).kind), .int .i64 ((decR b0 b1 b2).value)]] rfl (by kernel_rfl) ?_
            refine (rtake_yes A2 m c2 rs E2 d2 gs (decR b0 b1 b2) hvr (by omega) V3 (HL.out.keep C1_3.out) (HG.out.keep C1_3.out)).mono ?_
            rintro e V4 ⟨A3, c3, E3, d3, rfl, hs1, hs2, hb⟩
            have B3 := Lib.hid hb
            have HL3 := Lib.hid hs1
            have HG3 := Lib.hid hs2
            clear hb hs1 hs2
            have C0_4 := Lib.hid (bel_step C0_3.out B3.out)
            refine ⟨_, rfl, C0_4.out, ?_⟩
            simp only [ptr, Act.put, List.setIfInBounds_toArray, List.set_cons_zero, List.set_cons_succ]
            refine wpOT_q (.tuple #[.agg #[.slice A3 (m + 1) c3, .slice E3 (m + 1) d3], .int .i64 0]) rfl (by kernel_rfl) (fun v hW => rfl) ?_
            simp only [ptr, Act.put, List.setIfInBounds_toArray, List.set_cons_zero, List.set_cons_succ]
            refine wpOT_q (.agg #[.slice A3 (m + 1) c3, .slice E3 (m + 1) d3]) rfl (by kernel_rfl) (fun v hW => rfl) ?_
            simp only [ptr, Act.put, List.setIfInBounds_toArray, List.set_cons_zero, List.set_cons_succ]
            refine wpOT_q (.int .i64 0) rfl (by kernel_rfl) (fun v hW => rfl) ?_
            simp only [ptr, Act.put, List.setIfInBounds_toArray, List.set_cons_zero, List.set_cons_succ]
            refine wpOT_one rfl (by kernel_rfl) ?_
            have C1_4 := Lib.hid (bel_step C1_3.out B3.out)
            refine hOp_storeW b5 #[.slice A2 m c2, .slice E2 m d2] #[.slice A3 (m + 1) c3, .slice E3 (m + 1) d3] 30 (heap_keep Fv3_5.out C1_4.out) (xo_storeW b5 #[.slice A2 m c2, .slice E2 m d2] #[.slice A3 (m + 1) c3, .slice E3 (m + 1) d3] (heap_keep Fv3_5.out C1_4.out) (by kernel_rfl) rfl (by simp [Value.oneCell']) rfl rfl rfl) ?_
            intro X4_13 h1 hfar hbel hsz
            have YHL3 : Sg rdC 4 X4_13 A3 (m + 1) c3 (rs ++ [decR b0 b1 b2]) := Sg.farSl HL3.out rd_nosl (heap_keep Fv3_5.out C1_4.out) (by simp [isSl]) hfar
            have YHG3 : Sg boC 1 X4_13 E3 (m + 1) d3 (gs ++ [false]) := Sg.farSl HG3.out bo_nosl (heap_keep Fv3_5.out C1_4.out) (by simp [isSl]) hfar
            have YFv0_4 : X4_13.heap[w.heap.size]? = some (.cells #[.slice none 0 0, .slice none 0 0] 30 (0, 0)) := hfar _ _ N1_0.out (heap_keep Fv0_4.out C1_4.out)
            -- drops HL
            -- drops HG
            have hbr := hbel _ _ Gr9.out C0_4.out
            clear B0
            have B0 := Lib.hid hbr
            clear hbr
            clear Fv0_4
            have Fv0_4 : Hid (X4_13.heap[w.heap.size]? = some (.cells #[.slice none 0 0, .slice none 0 0] 30 (0, 0))) := Lib.hid YFv0_4
            clear YFv0_4
            clear HL3
            have HL3 := Lib.hid YHL3
            clear YHL3
            clear HG3
            have HG3 := Lib.hid YHG3
            clear YHG3
            clear Fv3_5
            have Fv3_5 : Hid (X4_13.heap[b5]? = some (.cells #[.slice A3 (m + 1) c3, .slice E3 (m + 1) d3] 30 (0, 0))) := Lib.hid (h1)
            have HszX4_13 := Lib.hid hsz
            clear h1 hfar hbel hsz
            simp only [ptr, Act.put, List.setIfInBounds_toArray, List.set_cons_zero, List.set_cons_succ]
            refine ⟨B0.out, ?_⟩
            try simp only [ptr, Act.put, List.setIfInBounds_toArray, List.set_cons_zero, List.set_cons_succ]
            refine wpOT_nil ?_
            have hnew : madeS most (ops.take (i + 1)) = (rs ++ [decR b0 b1 b2], gs ++ [false]) := by rw [HT.out]; simp only [opS, Bool.false_eq_true, if_false]; rw [if_pos (by omega)]
            go_upto_region 4 with fail
            refine wp_region_lit ?_
            refine wpList_run (by kernel_rfl) (.int .i64 (i : Int)) X4_13 rfl ?_
            simp only [Act.put, List.setIfInBounds_toArray, List.set_cons_zero, List.set_cons_succ]
            refine wpList_run (by kernel_rfl) (.int .i64 ((i + 1 : Nat) : Int)) X4_13 (xo_addI (i : Int) 1 ((i + 1 : Nat) : Int) (by omega) (by omega) (by omega) rfl rfl rfl) ?_
            simp only [Act.put, List.setIfInBounds_toArray, List.set_cons_zero, List.set_cons_succ]
            refine wpList_run (by kernel_rfl) (.int .i64 ((i + 1 : Nat) : Int)) X4_13 rfl ?_
            simp only [Act.put, List.setIfInBounds_toArray, List.set_cons_zero, List.set_cons_succ]
            refine wpList_nil ?_
            have hkl := HL3.out
            have hkg := HG3.out
            have hq14 := Fv0_4.out
            have hq15 := Fv3_5.out
            have hq16 := B0.out
            go_wp2_with fail
            go_roundw
            case rel => exact ⟨i + 1, _, _, _, _, _, _, _, by omega, by go_num, hnew, hkl, hkg, hq14, hq15, hq16⟩
            case measure => simp [intOf]; omega
        · have hci12 : ¬ ((m : Int) < (most : Int)) := by omega
          go_upto_region 9 with fail
          refine wp_region_lit ?_
          refine wpList_run (by kernel_rfl) (.slice A n c) wo rfl ?_
          simp only [Act.put, List.setIfInBounds_toArray, List.set_cons_zero, List.set_cons_succ]
          refine wpList_run (by kernel_rfl) (.int .i64 (i : Int)) wo rfl ?_
          simp only [Act.put, List.setIfInBounds_toArray, List.set_cons_zero, List.set_cons_succ]
          refine wpList_run (by kernel_rfl) (.pointer (some (gad A (i * 4)))) wo (xg_idx .i64 (HX.out.keep B0.out) HE.out Tryd.underlying22 (by kernel_rfl) rfl rfl rfl) ?_
          simp only [Act.put, List.setIfInBounds_toArray, List.set_cons_zero, List.set_cons_succ]
          refine wpList_run (by kernel_rfl) (.pointer (some (gad A ((i * 4) + 3)))) wo (xg_fld 1 (HX.out.keep B0.out) HE.out (by kernel_rfl) rfl rfl) ?_
          simp only [Act.put, List.setIfInBounds_toArray, List.set_cons_zero, List.set_cons_succ]
          refine wpList_run (by kernel_rfl) (.bool false) wo (xg_load1 (E := opC) (i := i) (j := 3) (HX.out.keep B0.out) HE.out rfl rfl Tryd.underlying4 rfl rfl rfl) ?_
          simp only [Act.put, List.setIfInBounds_toArray, List.set_cons_zero, List.set_cons_succ]
          refine wpList_run (by kernel_rfl) (.bool true) wo rfl ?_
          simp only [Act.put, List.setIfInBounds_toArray, List.set_cons_zero, List.set_cons_succ]
          refine wpList_run (by kernel_rfl) (.bool true) wo rfl ?_
          simp only [Act.put, List.setIfInBounds_toArray, List.set_cons_zero, List.set_cons_succ]
          refine wpList_run (by kernel_rfl) (.pointer (some ⟨b5, 0, none⟩)) wo (xo_fld0 0 b5 0 (by kernel_rfl) rfl rfl) ?_
          simp only [Act.put, List.setIfInBounds_toArray, List.set_cons_zero, List.set_cons_succ]
          refine wpList_run (by kernel_rfl) (.slice A2 m c2) wo (xo_load1 ⟨b5, 0, none⟩ _ (cells_at Fv3_5.out 0 rfl) Tryd.underlying27 rfl rfl rfl) ?_
          simp only [Act.put, List.setIfInBounds_toArray, List.set_cons_zero, List.set_cons_succ]
          refine wpList_run (by kernel_rfl) (.int .i64 (m : Int)) wo (xo_len A2 m c2 Tryd.underlying27 rfl rfl) ?_
          simp only [Act.put, List.setIfInBounds_toArray, List.set_cons_zero, List.set_cons_succ]
          refine wpList_run (by kernel_rfl) (.int .i64 (most : Int)) wo rfl ?_
          simp only [Act.put, List.setIfInBounds_toArray, List.set_cons_zero, List.set_cons_succ]
          refine wpList_run (by kernel_rfl) (.bool false) wo (xo_lssF .i64 (m : Int) (most : Int) (by omega) rfl rfl rfl) ?_
          simp only [Act.put, List.setIfInBounds_toArray, List.set_cons_zero, List.set_cons_succ]
          refine wpList_run (by kernel_rfl) (.bool false) wo rfl ?_
          simp only [Act.put, List.setIfInBounds_toArray, List.set_cons_zero, List.set_cons_succ]
          refine wpList_nil ?_
          have hnew : madeS most (ops.take (i + 1)) = (rs, gs) := by rw [HT.out]; simp only [opS, Bool.false_eq_true, if_false]; rw [if_neg (by omega)]
          go_upto_region 4 with fail
          refine wp_region_lit ?_
          refine wpList_run (by kernel_rfl) (.int .i64 (i : Int)) wo rfl ?_
          simp only [Act.put, List.setIfInBounds_toArray, List.set_cons_zero, List.set_cons_succ]
          refine wpList_run (by kernel_rfl) (.int .i64 ((i + 1 : Nat) : Int)) wo (xo_addI (i : Int) 1 ((i + 1 : Nat) : Int) (by omega) (by omega) (by omega) rfl rfl rfl) ?_
          simp only [Act.put, List.setIfInBounds_toArray, List.set_cons_zero, List.set_cons_succ]
          refine wpList_run (by kernel_rfl) (.int .i64 ((i + 1 : Nat) : Int)) wo rfl ?_
          simp only [Act.put, List.setIfInBounds_toArray, List.set_cons_zero, List.set_cons_succ]
          refine wpList_nil ?_
          have hkl := HL.out
          have hkg := HG.out
          have hq13 := Fv0_4.out
          have hq14 := Fv3_5.out
          have hq15 := B0.out
          go_wp2_with fail
          go_roundw
          case rel => exact ⟨i + 1, rs, gs, m, A2, c2, E2, d2, by omega, by go_num, hnew, hkl, hkg, hq13, hq14, hq15⟩
          case measure => simp [intOf]; omega
      | true =>
        go_upto_region 3 with fail
        refine wp_region_lit ?_
        refine wpList_run (by kernel_rfl) (.int .i64 (i : Int)) wo rfl ?_
        simp only [Act.put, List.setIfInBounds_toArray, List.set_cons_zero, List.set_cons_succ]
        refine wpList_run (by kernel_rfl) (.slice A n c) wo rfl ?_
        simp only [Act.put, List.setIfInBounds_toArray, List.set_cons_zero, List.set_cons_succ]
        refine wpList_run (by kernel_rfl) (.int .i64 (n : Int)) wo (xo_len A n c Tryd.underlying22 rfl rfl) ?_
        simp only [Act.put, List.setIfInBounds_toArray, List.set_cons_zero, List.set_cons_succ]
        refine wpList_run (by kernel_rfl) (.bool true) wo (xo_lssT .i64 (i : Int) (n : Int) (by omega) rfl rfl rfl) ?_
        simp only [Act.put, List.setIfInBounds_toArray, List.set_cons_zero, List.set_cons_succ]
        refine wpList_nil ?_
        by_cases hm0 : 0 < m
        · have hci12 : ((m : Int) > 0) := by omega
          go_upto_region 5 with fail
          refine wp_region_lit ?_
          refine wpList_run (by kernel_rfl) (.slice A n c) wo rfl ?_
          simp only [Act.put, List.setIfInBounds_toArray, List.set_cons_zero, List.set_cons_succ]
          refine wpList_run (by kernel_rfl) (.int .i64 (i : Int)) wo rfl ?_
          simp only [Act.put, List.setIfInBounds_toArray, List.set_cons_zero, List.set_cons_succ]
          refine wpList_run (by kernel_rfl) (.pointer (some (gad A (i * 4)))) wo (xg_idx .i64 (HX.out.keep B0.out) HE.out Tryd.underlying22 (by kernel_rfl) rfl rfl rfl) ?_
          simp only [Act.put, List.setIfInBounds_toArray, List.set_cons_zero, List.set_cons_succ]
          refine wpList_run (by kernel_rfl) (.pointer (some (gad A ((i * 4) + 3)))) wo (xg_fld 1 (HX.out.keep B0.out) HE.out (by kernel_rfl) rfl rfl) ?_
          simp only [Act.put, List.setIfInBounds_toArray, List.set_cons_zero, List.set_cons_succ]
          refine wpList_run (by kernel_rfl) (.bool true) wo (xg_load1 (E := opC) (i := i) (j := 3) (HX.out.keep B0.out) HE.out rfl rfl Tryd.underlying4 rfl rfl rfl) ?_
          simp only [Act.put, List.setIfInBounds_toArray, List.set_cons_zero, List.set_cons_succ]
          refine wpList_run (by kernel_rfl) (.bool true) wo rfl ?_
          simp only [Act.put, List.setIfInBounds_toArray, List.set_cons_zero, List.set_cons_succ]
          refine wpList_run (by kernel_rfl) (.pointer (some ⟨b5, 0, none⟩)) wo (xo_fld0 0 b5 0 (by kernel_rfl) rfl rfl) ?_
          simp only [Act.put, List.setIfInBounds_toArray, List.set_cons_zero, List.set_cons_succ]
          refine wpList_run (by kernel_rfl) (.slice A2 m c2) wo (xo_load1 ⟨b5, 0, none⟩ _ (cells_at Fv3_5.out 0 rfl) Tryd.underlying27 rfl rfl rfl) ?_
          simp only [Act.put, List.setIfInBounds_toArray, List.set_cons_zero, List.set_cons_succ]
          refine wpList_run (by kernel_rfl) (.int .i64 (m : Int)) wo (xo_len A2 m c2 Tryd.underlying27 rfl rfl) ?_
          simp only [Act.put, List.setIfInBounds_toArray, List.set_cons_zero, List.set_cons_succ]
          refine wpList_run (by kernel_rfl) (.bool true) wo (xo_gtrT .i64 (m : Int) 0 (by omega) rfl rfl rfl) ?_
          simp only [Act.put, List.setIfInBounds_toArray, List.set_cons_zero, List.set_cons_succ]
          refine wpList_run (by kernel_rfl) (.bool true) wo rfl ?_
          simp only [Act.put, List.setIfInBounds_toArray, List.set_cons_zero, List.set_cons_succ]
          refine wpList_nil ?_
          obtain ⟨q, hq⟩ : ∃ q, b0 % m = q := ⟨_, rfl⟩
          have hqm : q < m := by rw [← hq]; exact Nat.mod_lt _ hm0
          obtain ⟨g, hg⟩ : ∃ g, gs[q]? = some g := ⟨_, List.getElem?_eq_getElem (by omega)⟩
          have HGQ := Lib.hid hg
          clear hg
          cases g with
          | false =>
            go_upto_region 6 with fail
            try simp only [List.append_eq, List.cons_append, List.nil_append]
            refine wp_ordT (fun W => Below w.heap.size w W ∧ W.heap[b5]? = some (.cells #[.slice A2 m c2, .slice E2 m d2] 30 (0, 0))) (.q 0 (.q 1 (.q 2 (.q 3 (.q 4 (.q 5 (.q 6 (.q 7 (.q 8 (.q 9 (.q 10 (.q 11 (.fork 12 (.q 13 (.q 14 (.q 15 (.one 16 (.one 17 (.q 18 .nil)))))) 16 (.one 12 (.q 13 (.q 14 (.q 15 (.one 17 (.q 18 .nil))))))))))))))))))) (by kernel_rfl) (by kernel_rfl) (fun _ _ dt _ _ h => by first | exact h.elim | (cases dt <;> exact h)) (by kernel_rfl) (by kernel_rfl) ⟨B0.out.drew, Fv3_5.out⟩ ?_
            have hb : Below wo.heap.size wo wo.drew := (Below.refl _ _).drew
            generalize wo.drew = V2 at hb ⊢
            have B1 := Lib.hid hb
            clear hb
            refine wpOT_q (.agg #[.slice A2 m c2, .slice E2 m d2]) rfl (by kernel_rfl) (fun v hW => (xo_loadW b5 _ hW.2 Tryd.underlying30 rfl (by kernel_rfl) rfl rfl)) ?_
            simp only [ptr, Act.put, List.setIfInBounds_toArray, List.set_cons_zero, List.set_cons_succ]
            refine wpOT_q (.slice A n c) rfl (by kernel_rfl) (fun v hW => rfl) ?_
            simp only [ptr, Act.put, List.setIfInBounds_toArray, List.set_cons_zero, List.set_cons_succ]
            refine wpOT_q (.int .i64 (i : Int)) rfl (by kernel_rfl) (fun v hW => rfl) ?_
            simp only [ptr, Act.put, List.setIfInBounds_toArray, List.set_cons_zero, List.set_cons_succ]
            refine wpOT_q (.pointer (some (gad A (i * 4)))) rfl (by kernel_rfl) (fun v hW => (xg_idx .i64 (HX.out.keep hW.1) HE.out Tryd.underlying22 (by kernel_rfl) rfl rfl rfl)) ?_
            simp only [ptr, Act.put, List.setIfInBounds_toArray, List.set_cons_zero, List.set_cons_succ]
            refine wpOT_q (.pointer (some (gad A ((i * 4) + 0)))) rfl (by kernel_rfl) (fun v hW => (xg_fld 0 (HX.out.keep hW.1) HE.out (by kernel_rfl) rfl rfl)) ?_
            simp only [ptr, Act.put, List.setIfInBounds_toArray, List.set_cons_zero, List.set_cons_succ]
            refine wpOT_q (.pointer (some (gad A (((i * 4) + 0) + 0 * 1)))) rfl (by kernel_rfl) (fun v hW => (xg_arr .i64 (s := 1) (HX.out.keep hW.1) HE.out Tryd.underlying44 (by decide) (by kernel_rfl) rfl rfl rfl)) ?_
            simp only [ptr, Act.put, List.setIfInBounds_toArray, List.set_cons_zero, List.set_cons_succ]
            refine wpOT_q (.int .u8 (b0 : Int)) rfl (by kernel_rfl) (fun v hW => (xg_load1 (E := opC) (i := i) (j := 0) (HX.out.keep hW.1) HE.out rfl rfl Tryd.underlying5 rfl rfl rfl)) ?_
            simp only [ptr, Act.put, List.setIfInBounds_toArray, List.set_cons_zero, List.set_cons_succ]
            refine wpOT_q (.int .i64 (b0 : Int)) rfl (by kernel_rfl) (fun v hW => (xo_cvt .u8 .i64 (b0 : Int) (b0 : Int) (by rw [IntKind.wrap_i64]; omega) Tryd.underlying3 Tryd.underlying5 rfl rfl)) ?_
            simp only [ptr, Act.put, List.setIfInBounds_toArray, List.set_cons_zero, List.set_cons_succ]
            refine wpOT_q (.pointer (some ⟨b5, 0, none⟩)) rfl (by kernel_rfl) (fun v hW => (xo_fld0 0 b5 0 (by kernel_rfl) rfl rfl)) ?_
            simp only [ptr, Act.put, List.setIfInBounds_toArray, List.set_cons_zero, List.set_cons_succ]
            refine wpOT_q (.slice A2 m c2) rfl (by kernel_rfl) (fun v hW => (xo_load1 ⟨b5, 0, none⟩ _ (cells_at hW.2 0 rfl) Tryd.underlying27 rfl rfl rfl)) ?_
            simp only [ptr, Act.put, List.setIfInBounds_toArray, List.set_cons_zero, List.set_cons_succ]
            refine wpOT_q (.int .i64 (m : Int)) rfl (by kernel_rfl) (fun v hW => (xo_len A2 m c2 Tryd.underlying27 rfl rfl)) ?_
            simp only [ptr, Act.put, List.setIfInBounds_toArray, List.set_cons_zero, List.set_cons_succ]
            refine wpOT_q (.int .i64 (q : Int)) rfl (by kernel_rfl) (fun v hW => (xo_remN .i64 b0 m q (by omega) hq rfl rfl rfl)) ?_
            simp only [ptr, Act.put, List.setIfInBounds_toArray, List.set_cons_zero, List.set_cons_succ]
            refine wpOT_fork ?_ ?_
            · refine wpOT_one rfl (by kernel_rfl) ?_
              refine hOp_call 15 Tryd.func15 (by kernel_rfl) (by kernel_rfl) _ _ #[.agg #[.slice A2 m c2, .slice E2 m d2], .int .i64 (q : Int)] rfl (by kernel_rfl) ?_
              refine (rretract_ok A2 m c2 rs E2 d2 gs q HGQ.out (by omega) V2 (HL.out.keep B1.out) (HG.out.keep B1.out)).mono ?_
              rintro e V3 ⟨A3, c3, E3, d3, rfl, hs1, hs2, hb⟩
              have B2 := Lib.hid hb
              have HL3 := Lib.hid hs1
              have HG3 := Lib.hid hs2
              clear hb hs1 hs2
              have C0_2 := Lib.hid (bel_step B0.out B1.out)
              have C0_3 := Lib.hid (bel_step C0_2.out B2.out)
              have C1_3 := Lib.hid (bel_step B1.out B2.out)
              refine ⟨_, rfl, ⟨C0_3.out, (heap_keep Fv3_5.out C1_3.out)⟩, ?_⟩
              simp only [ptr, Act.put, List.setIfInBounds_toArray, List.set_cons_zero, List.set_cons_succ]
              refine wpOT_q (.tuple #[.agg #[.slice A3 m c3, .slice E3 m d3], .int .i64 0]) rfl (by kernel_rfl) (fun v hW => rfl) ?_
              simp only [ptr, Act.put, List.setIfInBounds_toArray, List.set_cons_zero, List.set_cons_succ]
              refine wpOT_q (.agg #[.slice A3 m c3, .slice E3 m d3]) rfl (by kernel_rfl) (fun v hW => rfl) ?_
              simp only [ptr, Act.put, List.setIfInBounds_toArray, List.set_cons_zero, List.set_cons_succ]
              refine wpOT_q (.int .i64 0) rfl (by kernel_rfl) (fun v hW => rfl) ?_
              simp only [ptr, Act.put, List.setIfInBounds_toArray, List.set_cons_zero, List.set_cons_succ]
              refine wpOT_one rfl (by kernel_rfl) ?_
              refine hOp_new #[.slice none 0 0, .slice none 0 0] 30 (xo_alloc #[.slice none 0 0, .slice none 0 0] (by kernel_rfl) rfl) ?_
              intro b7 V4 hge h0 hb
              have N13_0 : Hid (w.heap.size ≠ b7) := Lib.hid (xp_lt0 (heap_keep Fv0_4.out C1_3.out) hge)
              have N14_1 : Hid (b5 ≠ b7) := Lib.hid (xp_lt0 (heap_keep Fv3_5.out C1_3.out) hge)
              have Ge15 : Hid (V3.heap.size ≤ b7) := Lib.hid hge
              have B3 := Lib.hid hb
              have Fv16_7 : Hid (V4.heap[b7]? = some (.cells #[.slice none 0 0, .slice none 0 0] 30 (0, 0))) := Lib.hid (h0)
              have Lt17 : Hid (b7 < V4.heap.size) := Lib.hid (xp_lt Fv16_7.out)
              clear hge h0 hb
              have C0_4 := Lib.hid (bel_step C0_3.out B3.out)
              have C1_4 := Lib.hid (bel_step C1_3.out B3.out)
              refine ⟨⟨C0_4.out, (heap_keep Fv3_5.out C1_4.out)⟩, ?_⟩
              try simp only [ptr, Act.put, List.setIfInBounds_toArray, List.set_cons_zero, List.set_cons_succ]
              refine wpOT_one rfl (by kernel_rfl) ?_
              refine hOp_storeW b7 #[.slice none 0 0, .slice none 0 0] #[.slice A3 m c3, .slice E3 m d3] 30 Fv16_7.out (xo_storeW b7 #[.slice none 0 0, .slice none 0 0] #[.slice A3 m c3, .slice E3 m d3] Fv16_7.out (by kernel_rfl) rfl (by simp [Value.oneCell']) rfl rfl rfl) ?_
              intro X4_18 h1 hfar hbel hsz
              have YHL3 : Sg rdC 4 X4_18 A3 m c3 rs := Sg.farSl (HL3.out.keep B3.out) rd_nosl Fv16_7.out (by simp [isSl]) hfar
              have YHG3 : Sg boC 1 X4_18 E3 m d3 (gs.set q true) := Sg.farSl (HG3.out.keep B3.out) bo_nosl Fv16_7.out (by simp [isSl]) hfar
              have hbr := hbel _ _ Ge15.out B3.out
              clear B3
              have B3 := Lib.hid hbr
              clear hbr
              clear HL3
              have HL3 := Lib.hid YHL3
              clear YHL3
              clear HG3
              have HG3 := Lib.hid YHG3
              clear YHG3
              clear Fv16_7
              have Fv16_7 : Hid (X4_18.heap[b7]? = some (.cells #[.slice A3 m c3, .slice E3 m d3] 30 (0, 0))) := Lib.hid (h1)
              have HszX4_18 := Lib.hid hsz
              clear h1 hfar hbel hsz
              simp only [ptr, Act.put, List.setIfInBounds_toArray, List.set_cons_zero, List.set_cons_succ]
              have C0_4 := Lib.hid (bel_step C0_3.out B3.out)
              have C1_4 := Lib.hid (bel_step C1_3.out B3.out)
              refine ⟨⟨C0_4.out, (heap_keep Fv3_5.out C1_4.out)⟩, ?_⟩
              try simp only [ptr, Act.put, List.setIfInBounds_toArray, List.set_cons_zero, List.set_cons_succ]
              refine wpOT_q (.int .i64 0) rfl (by kernel_rfl) (fun v hW => rfl) ?_
              simp only [ptr, Act.put, List.setIfInBounds_toArray, List.set_cons_zero, List.set_cons_succ]
              refine wpOT_nil ?_
              go_upto_region 7 with fail
              refine wp_region_lit ?_
              refine wpList_run (by kernel_rfl) (.int .i64 0) X4_18 rfl ?_
              simp only [Act.put, List.setIfInBounds_toArray, List.set_cons_zero, List.set_cons_succ]
              refine wpList_run (by kernel_rfl) (.bool true) X4_18 (xo_eqlT .i64 0 0 (by omega) rfl rfl rfl) ?_
              simp only [Act.put, List.setIfInBounds_toArray, List.set_cons_zero, List.set_cons_succ]
              refine wpList_nil ?_
              go_upto_region 8 with fail
              refine wp_region_lit ?_
              refine wpList_run (by kernel_rfl) (.agg #[.slice A3 m c3, .slice E3 m d3]) X4_18 (xo_loadW b7 _ Fv16_7.out Tryd.underlying30 rfl (by kernel_rfl) rfl rfl) ?_
              simp only [Act.put, List.setIfInBounds_toArray, List.set_cons_zero, List.set_cons_succ]
              refine wpList_storeW b5 #[.slice A2 m c2, .slice E2 m d2] #[.slice A3 m c3, .slice E3 m d3] 30 (by kernel_rfl) (heap_keep Fv3_5.out C1_4.out) (xo_storeW b5 #[.slice A2 m c2, .slice E2 m d2] #[.slice A3 m c3, .slice E3 m d3] (heap_keep Fv3_5.out C1_4.out) (by kernel_rfl) rfl (by simp [Value.oneCell']) rfl rfl rfl) ?_
              intro X4_19 h1 hfar hbel hsz
              have YHL3 : Sg rdC 4 X4_19 A3 m c3 rs := Sg.farSl HL3.out rd_nosl (heap_keep Fv3_5.out C1_4.out) (by simp [isSl]) hfar
              have YHG3 : Sg boC 1 X4_19 E3 m d3 (gs.set q true) := Sg.farSl HG3.out bo_nosl (heap_keep Fv3_5.out C1_4.out) (by simp [isSl]) hfar
              have YFv0_4 : X4_19.heap[w.heap.size]? = some (.cells #[.slice none 0 0, .slice none 0 0] 30 (0, 0)) := hfar _ _ N1_0.out (heap_keep Fv0_4.out C1_4.out)
              have YFv16_7 : X4_19.heap[b7]? = some (.cells #[.slice A3 m c3, .slice E3 m d3] 30 (0, 0)) := hfar _ _ (Ne.symm N14_1.out) Fv16_7.out
              -- drops HL
              -- drops HG
              have Gs20 : Hid (w.heap.size ≤ b7) := Lib.hid (Nat.le_trans C0_3.out.size Ge15.out)
              have hbr := hbel _ _ Gr9.out C0_4.out
              clear B0
              have B0 := Lib.hid hbr
              clear hbr
              clear Fv0_4
              have Fv0_4 : Hid (X4_19.heap[w.heap.size]? = some (.cells #[.slice none 0 0, .slice none 0 0] 30 (0, 0))) := Lib.hid YFv0_4
              clear YFv0_4
              clear Fv16_7
              have Fv16_7 : Hid (X4_19.heap[b7]? = some (.cells #[.slice A3 m c3, .slice E3 m d3] 30 (0, 0))) := Lib.hid YFv16_7
              clear YFv16_7
              clear HL3
              have HL3 := Lib.hid YHL3
              clear YHL3
              clear HG3
              have HG3 := Lib.hid YHG3
              clear YHG3
              clear Fv3_5
              have Fv3_5 : Hid (X4_19.heap[b5]? = some (.cells #[.slice A3 m c3, .slice E3 m d3] 30 (0, 0))) := Lib.hid (h1)
              have HszX4_19 := Lib.hid hsz
              clear h1 hfar hbel hsz
              simp only [ptr, Act.put, List.setIfInBounds_toArray, List.set_cons_zero, List.set_cons_succ]
              refine wpList_nil ?_
              have hnew : madeS most (ops.take (i + 1)) = (rs, gs.set q true) := by rw [HT.out]; simp only [opS, if_true]; rw [if_pos (by omega), if_neg (by rw [hmr, hq, List.getD_eq_getElem?_getD, HGQ.out]; exact Bool.false_ne_true), hmr, hq]
              go_upto_region 4 with fail
              refine wp_region_lit ?_
              refine wpList_run (by kernel_rfl) (.int .i64 (i : Int)) X4_19 rfl ?_
              simp only [Act.put, List.setIfInBounds_toArray, List.set_cons_zero, List.set_cons_succ]
              refine wpList_run (by kernel_rfl) (.int .i64 ((i + 1 : Nat) : Int)) X4_19 (xo_addI (i : Int) 1 ((i + 1 : Nat) : Int) (by omega) (by omega) (by omega) rfl rfl rfl) ?_
              simp only [Act.put, List.setIfInBounds_toArray, List.set_cons_zero, List.set_cons_succ]
              refine wpList_run (by kernel_rfl) (.int .i64 ((i + 1 : Nat) : Int)) X4_19 rfl ?_
              simp only [Act.put, List.setIfInBounds_toArray, List.set_cons_zero, List.set_cons_succ]
              refine wpList_nil ?_
              have hkl := HL3.out
              have hkg := HG3.out
              have hq21 := Fv0_4.out
              have hq22 := Fv3_5.out
              have hq23 := B0.out
              go_wp2_with fail
              go_roundw
              case rel => exact ⟨i + 1, _, _, _, _, _, _, _, by omega, by go_num, hnew, hkl, hkg, hq21, hq22, hq23⟩
              case measure => simp [intOf]; omega
            · refine wpOT_one rfl (by kernel_rfl) ?_
              refine hOp_new #[.slice none 0 0, .slice none 0 0] 30 (xo_alloc #[.slice none 0 0, .slice none 0 0] (by kernel_rfl) rfl) ?_
              intro b7 V3 hge h0 hb
              have N13_0 : Hid (w.heap.size ≠ b7) := Lib.hid (xp_lt0 (heap_keep Fv0_4.out B1.out) hge)
              have N14_1 : Hid (b5 ≠ b7) := Lib.hid (xp_lt0 (heap_keep Fv3_5.out B1.out) hge)
              have Ge15 : Hid (V2.heap.size ≤ b7) := Lib.hid hge
              have B2 := Lib.hid hb
              have Fv16_7 : Hid (V3.heap[b7]? = some (.cells #[.slice none 0 0, .slice none 0 0] 30 (0, 0))) := Lib.hid (h0)
              have Lt17 : Hid (b7 < V3.heap.size) := Lib.hid (xp_lt Fv16_7.out)
              clear hge h0 hb
              have C0_2 := Lib.hid (bel_step B0.out B1.out)
              have C0_3 := Lib.hid (bel_step C0_2.out B2.out)
              have C1_3 := Lib.hid (bel_step B1.out B2.out)
              refine ⟨⟨C0_3.out, (heap_keep Fv3_5.out C1_3.out)⟩, ?_⟩
              try simp only [ptr, Act.put, List.setIfInBounds_toArray, List.set_cons_zero, List.set_cons_succ]
              refine wpOT_one rfl (by kernel_rfl) ?_
              refine hOp_call 15 Tryd.func15 (by kernel_rfl) (by kernel_rfl) _ _ #[.agg #[.slice A2 m c2, .slice E2 m d2], .int .i64 (q : Int)] rfl (by kernel_rfl) ?_
              refine (rretract_ok A2 m c2 rs E2 d2 gs q HGQ.out (by omega) V3 (HL.out.keep C1_3.out) (HG.out.keep C1_3.out)).mono ?_
              rintro e V4 ⟨A3, c3, E3, d3, rfl, hs1, hs2, hb⟩
              have B3 := Lib.hid hb
              have HL3 := Lib.hid hs1
              have HG3 := Lib.hid hs2
              clear hb hs1 hs2
              have C0_4 := Lib.hid (bel_step C0_3.out B3.out)
              have C1_4 := Lib.hid (bel_step C1_3.out B3.out)
              refine ⟨_, rfl, ⟨C0_4.out, (heap_keep Fv3_5.out C1_4.out)⟩, ?_⟩
              simp only [ptr, Act.put, List.setIfInBounds_toArray, List.set_cons_zero, List.set_cons_succ]
              refine wpOT_q (.tuple #[.agg #[.slice A3 m c3, .slice E3 m d3], .int .i64 0]) rfl (by kernel_rfl) (fun v hW => rfl) ?_
              simp only [ptr, Act.put, List.setIfInBounds_toArray, List.set_cons_zero, List.set_cons_succ]
              refine wpOT_q (.agg #[.slice A3 m c3, .slice E3 m d3]) rfl (by kernel_rfl) (fun v hW => rfl) ?_
              simp only [ptr, Act.put, List.setIfInBounds_toArray, List.set_cons_zero, List.set_cons_succ]
              refine wpOT_q (.int .i64 0) rfl (by kernel_rfl) (fun v hW => rfl) ?_
              simp only [ptr, Act.put, List.setIfInBounds_toArray, List.set_cons_zero, List.set_cons_succ]
              refine wpOT_one rfl (by kernel_rfl) ?_
              refine hOp_storeW b7 #[.slice none 0 0, .slice none 0 0] #[.slice A3 m c3, .slice E3 m d3] 30 (heap_keep Fv16_7.out B3.out) (xo_storeW b7 #[.slice none 0 0, .slice none 0 0] #[.slice A3 m c3, .slice E3 m d3] (heap_keep Fv16_7.out B3.out) (by kernel_rfl) rfl (by simp [Value.oneCell']) rfl rfl rfl) ?_
              intro X4_18 h1 hfar hbel hsz
              have YHL3 : Sg rdC 4 X4_18 A3 m c3 rs := Sg.farSl HL3.out rd_nosl (heap_keep Fv16_7.out B3.out) (by simp [isSl]) hfar
              have YHG3 : Sg boC 1 X4_18 E3 m d3 (gs.set q true) := Sg.farSl HG3.out bo_nosl (heap_keep Fv16_7.out B3.out) (by simp [isSl]) hfar
              have C2_4 := Lib.hid (bel_step B2.out B3.out)
              have hbr := hbel _ _ Ge15.out C2_4.out
              clear B2
              have B2 := Lib.hid hbr
              clear hbr
              clear HL3
              have HL3 := Lib.hid YHL3
              clear YHL3
              clear HG3
              have HG3 := Lib.hid YHG3
              clear YHG3
              clear Fv16_7
              have Fv16_7 : Hid (X4_18.heap[b7]? = some (.cells #[.slice A3 m c3, .slice E3 m d3] 30 (0, 0))) := Lib.hid (h1)
              have HszX4_18 := Lib.hid hsz
              clear h1 hfar hbel hsz
              simp only [ptr, Act.put, List.setIfInBounds_toArray, List.set_cons_zero, List.set_cons_succ]
              have C0_3 := Lib.hid (bel_step C0_2.out B2.out)
              have C1_3 := Lib.hid (bel_step B1.out B2.out)
              refine ⟨⟨C0_3.out, (heap_keep Fv3_5.out C1_3.out)⟩, ?_⟩
              try simp only [ptr, Act.put, List.setIfInBounds_toArray, List.set_cons_zero, List.set_cons_succ]
              refine wpOT_q (.int .i64 0) rfl (by kernel_rfl) (fun v hW => rfl) ?_
              simp only [ptr, Act.put, List.setIfInBounds_toArray, List.set_cons_zero, List.set_cons_succ]
              refine wpOT_nil ?_
              go_upto_region 7 with fail
              refine wp_region_lit ?_
              refine wpList_run (by kernel_rfl) (.int .i64 0) X4_18 rfl ?_
              simp only [Act.put, List.setIfInBounds_toArray, List.set_cons_zero, List.set_cons_succ]
              refine wpList_run (by kernel_rfl) (.bool true) X4_18 (xo_eqlT .i64 0 0 (by omega) rfl rfl rfl) ?_
              simp only [Act.put, List.setIfInBounds_toArray, List.set_cons_zero, List.set_cons_succ]
              refine wpList_nil ?_
              go_upto_region 8 with fail
              refine wp_region_lit ?_
              refine wpList_run (by kernel_rfl) (.agg #[.slice A3 m c3, .slice E3 m d3]) X4_18 (xo_loadW b7 _ Fv16_7.out Tryd.underlying30 rfl (by kernel_rfl) rfl rfl) ?_
              simp only [Act.put, List.setIfInBounds_toArray, List.set_cons_zero, List.set_cons_succ]
              refine wpList_storeW b5 #[.slice A2 m c2, .slice E2 m d2] #[.slice A3 m c3, .slice E3 m d3] 30 (by kernel_rfl) (heap_keep Fv3_5.out C1_3.out) (xo_storeW b5 #[.slice A2 m c2, .slice E2 m d2] #[.slice A3 m c3, .slice E3 m d3] (heap_keep Fv3_5.out C1_3.out) (by kernel_rfl) rfl (by simp [Value.oneCell']) rfl rfl rfl) ?_
              intro X3_19 h1 hfar hbel hsz
              have YHL3 : Sg rdC 4 X3_19 A3 m c3 rs := Sg.farSl HL3.out rd_nosl (heap_keep Fv3_5.out C1_3.out) (by simp [isSl]) hfar
              have YHG3 : Sg boC 1 X3_19 E3 m d3 (gs.set q true) := Sg.farSl HG3.out bo_nosl (heap_keep Fv3_5.out C1_3.out) (by simp [isSl]) hfar
              have YFv0_4 : X3_19.heap[w.heap.size]? = some (.cells #[.slice none 0 0, .slice none 0 0] 30 (0, 0)) := hfar _ _ N1_0.out (heap_keep Fv0_4.out C1_3.out)
              have YFv16_7 : X3_19.heap[b7]? = some (.cells #[.slice A3 m c3, .slice E3 m d3] 30 (0, 0)) := hfar _ _ (Ne.symm N14_1.out) Fv16_7.out
              -- drops HL
              -- drops HG
              have Gs20 : Hid (w.heap.size ≤ b7) := Lib.hid (Nat.le_trans C0_2.out.size Ge15.out)
              have hbr := hbel _ _ Gr9.out C0_3.out
              clear B0
              have B0 := Lib.hid hbr
              clear hbr
              clear Fv0_4
              have Fv0_4 : Hid (X3_19.heap[w.heap.size]? = some (.cells #[.slice none 0 0, .slice none 0 0] 30 (0, 0))) := Lib.hid YFv0_4
              clear YFv0_4
              clear Fv16_7
              have Fv16_7 : Hid (X3_19.heap[b7]? = some (.cells #[.slice A3 m c3, .slice E3 m d3] 30 (0, 0))) := Lib.hid YFv16_7
              clear YFv16_7
              clear HL3
              have HL3 := Lib.hid YHL3
              clear YHL3
              clear HG3
              have HG3 := Lib.hid YHG3
              clear YHG3
              clear Fv3_5
              have Fv3_5 : Hid (X3_19.heap[b5]? = some (.cells #[.slice A3 m c3, .slice E3 m d3] 30 (0, 0))) := Lib.hid (h1)
              have HszX3_19 := Lib.hid hsz
              clear h1 hfar hbel hsz
              simp only [ptr, Act.put, List.setIfInBounds_toArray, List.set_cons_zero, List.set_cons_succ]
              refine wpList_nil ?_
              have hnew : madeS most (ops.take (i + 1)) = (rs, gs.set q true) := by rw [HT.out]; simp only [opS, if_true]; rw [if_pos (by omega), if_neg (by rw [hmr, hq, List.getD_eq_getElem?_getD, HGQ.out]; exact Bool.false_ne_true), hmr, hq]
              go_upto_region 4 with fail
              refine wp_region_lit ?_
              refine wpList_run (by kernel_rfl) (.int .i64 (i : Int)) X3_19 rfl ?_
              simp only [Act.put, List.setIfInBounds_toArray, List.set_cons_zero, List.set_cons_succ]
              refine wpList_run (by kernel_rfl) (.int .i64 ((i + 1 : Nat) : Int)) X3_19 (xo_addI (i : Int) 1 ((i + 1 : Nat) : Int) (by omega) (by omega) (by omega) rfl rfl rfl) ?_
              simp only [Act.put, List.setIfInBounds_toArray, List.set_cons_zero, List.set_cons_succ]
              refine wpList_run (by kernel_rfl) (.int .i64 ((i + 1 : Nat) : Int)) X3_19 rfl ?_
              simp only [Act.put, List.setIfInBounds_toArray, List.set_cons_zero, List.set_cons_succ]
              refine wpList_nil ?_
              have hkl := HL3.out
              have hkg := HG3.out
              have hq21 := Fv0_4.out
              have hq22 := Fv3_5.out
              have hq23 := B0.out
              go_wp2_with fail
              go_roundw
              case rel => exact ⟨i + 1, _, _, _, _, _, _, _, by omega, by go_num, hnew, hkl, hkg, hq21, hq22, hq23⟩
              case measure => simp [intOf]; omega
          | true =>
            go_upto_region 6 with fail
            try simp only [List.append_eq, List.cons_append, List.nil_append]
            refine wp_ordT (fun W => Below w.heap.size w W ∧ W.heap[b5]? = some (.cells #[.slice A2 m c2, .slice E2 m d2] 30 (0, 0))) (.q 0 (.q 1 (.q 2 (.q 3 (.q 4 (.q 5 (.q 6 (.q 7 (.q 8 (.q 9 (.q 10 (.q 11 (.fork 12 (.q 13 (.q 14 (.q 15 (.one 16 (.one 17 (.q 18 .nil)))))) 16 (.one 12 (.q 13 (.q 14 (.q 15 (.one 17 (.q 18 .nil))))))))))))))))))) (by kernel_rfl) (by kernel_rfl) (fun _ _ dt _ _ h => by first | exact h.elim | (cases dt <;> exact h)) (by kernel_rfl) (by kernel_rfl) ⟨B0.out.drew, Fv3_5.out⟩ ?_
            have hb : Below wo.heap.size wo wo.drew := (Below.refl _ _).drew
            generalize wo.drew = V2 at hb ⊢
            have B1 := Lib.hid hb
            clear hb
            refine wpOT_q (.agg #[.slice A2 m c2, .slice E2 m d2]) rfl (by kernel_rfl) (fun v hW => (xo_loadW b5 _ hW.2 Tryd.underlying30 rfl (by kernel_rfl) rfl rfl)) ?_
            simp only [ptr, Act.put, List.setIfInBounds_toArray, List.set_cons_zero, List.set_cons_succ]
            refine wpOT_q (.slice A n c) rfl (by kernel_rfl) (fun v hW => rfl) ?_
            simp only [ptr, Act.put, List.setIfInBounds_toArray, List.set_cons_zero, List.set_cons_succ]
            refine wpOT_q (.int .i64 (i : Int)) rfl (by kernel_rfl) (fun v hW => rfl) ?_
            simp only [ptr, Act.put, List.setIfInBounds_toArray, List.set_cons_zero, List.set_cons_succ]
            refine wpOT_q (.pointer (some (gad A (i * 4)))) rfl (by kernel_rfl) (fun v hW => (xg_idx .i64 (HX.out.keep hW.1) HE.out Tryd.underlying22 (by kernel_rfl) rfl rfl rfl)) ?_
            simp only [ptr, Act.put, List.setIfInBounds_toArray, List.set_cons_zero, List.set_cons_succ]
            refine wpOT_q (.pointer (some (gad A ((i * 4) + 0)))) rfl (by kernel_rfl) (fun v hW => (xg_fld 0 (HX.out.keep hW.1) HE.out (by kernel_rfl) rfl rfl)) ?_
            simp only [ptr, Act.put, List.setIfInBounds_toArray, List.set_cons_zero, List.set_cons_succ]
            refine wpOT_q (.pointer (some (gad A (((i * 4) + 0) + 0 * 1)))) rfl (by kernel_rfl) (fun v hW => (xg_arr .i64 (s := 1) (HX.out.keep hW.1) HE.out Tryd.underlying44 (by decide) (by kernel_rfl) rfl rfl rfl)) ?_
            simp only [ptr, Act.put, List.setIfInBounds_toArray, List.set_cons_zero, List.set_cons_succ]
            refine wpOT_q (.int .u8 (b0 : Int)) rfl (by kernel_rfl) (fun v hW => (xg_load1 (E := opC) (i := i) (j := 0) (HX.out.keep hW.1) HE.out rfl rfl Tryd.underlying5 rfl rfl rfl)) ?_
            simp only [ptr, Act.put, List.setIfInBounds_toArray, List.set_cons_zero, List.set_cons_succ]
            refine wpOT_q (.int .i64 (b0 : Int)) rfl (by kernel_rfl) (fun v hW => (xo_cvt .u8 .i64 (b0 : Int) (b0 : Int) (by rw [IntKind.wrap_i64]; omega) Tryd.underlying3 Tryd.underlying5 rfl rfl)) ?_
            simp only [ptr, Act.put, List.setIfInBounds_toArray, List.set_cons_zero, List.set_cons_succ]
            refine wpOT_q (.pointer (some ⟨b5, 0, none⟩)) rfl (by kernel_rfl) (fun v hW => (xo_fld0 0 b5 0 (by kernel_rfl) rfl rfl)) ?_
            simp only [ptr, Act.put, List.setIfInBounds_toArray, List.set_cons_zero, List.set_cons_succ]
            refine wpOT_q (.slice A2 m c2) rfl (by kernel_rfl) (fun v hW => (xo_load1 ⟨b5, 0, none⟩ _ (cells_at hW.2 0 rfl) Tryd.underlying27 rfl rfl rfl)) ?_
            simp only [ptr, Act.put, List.setIfInBounds_toArray, List.set_cons_zero, List.set_cons_succ]
            refine wpOT_q (.int .i64 (m : Int)) rfl (by kernel_rfl) (fun v hW => (xo_len A2 m c2 Tryd.underlying27 rfl rfl)) ?_
            simp only [ptr, Act.put, List.setIfInBounds_toArray, List.set_cons_zero, List.set_cons_succ]
            refine wpOT_q (.int .i64 (q : Int)) rfl (by kernel_rfl) (fun v hW => (xo_remN .i64 b0 m q (by omega) hq rfl rfl rfl)) ?_
            simp only [ptr, Act.put, List.setIfInBounds_toArray, List.set_cons_zero, List.set_cons_succ]
            refine wpOT_fork ?_ ?_
            · refine wpOT_one rfl (by kernel_rfl) ?_
              refine hOp_call 15 Tryd.func15 (by kernel_rfl) (by kernel_rfl) _ _ #[.agg #[.slice A2 m c2, .slice E2 m d2], .int .i64 (q : Int)] rfl (by kernel_rfl) ?_
              refine (rretract_spent A2 m c2 rs E2 d2 gs q HGQ.out (by omega) V2 (HL.out.keep B1.out) (HG.out.keep B1.out)).mono ?_
              rintro e V3 ⟨rfl, hb⟩
              have B2 := Lib.hid hb
              clear hb 
              have C0_2 := Lib.hid (bel_step B0.out B1.out)
              have C0_3 := Lib.hid (bel_step C0_2.out B2.out)
              have C1_3 := Lib.hid (bel_step B1.out B2.out)
              refine ⟨_, rfl, ⟨C0_3.out, (heap_keep Fv3_5.out C1_3.out)⟩, ?_⟩
              simp only [ptr, Act.put, List.setIfInBounds_toArray, List.set_cons_zero, List.set_cons_succ]
              refine wpOT_q (.tuple #[.agg #[.slice none 0 0, .slice none 0 0], .int .i64 120]) rfl (by kernel_rfl) (fun v hW => rfl) ?_
              simp only [ptr, Act.put, List.setIfInBounds_toArray, List.set_cons_zero, List.set_cons_succ]
              refine wpOT_q (.agg #[.slice none 0 0, .slice none 0 0]) rfl (by kernel_rfl) (fun v hW => rfl) ?_
              simp only [ptr, Act.put, List.setIfInBounds_toArray, List.set_cons_zero, List.set_cons_succ]
              refine wpOT_q (.int .i64 120) rfl (by kernel_rfl) (fun v hW => rfl) ?_
              simp only [ptr, Act.put, List.setIfInBounds_toArray, List.set_cons_zero, List.set_cons_succ]
              refine wpOT_one rfl (by kernel_rfl) ?_
              refine hOp_new #[.slice none 0 0, .slice none 0 0] 30 (xo_alloc #[.slice none 0 0, .slice none 0 0] (by kernel_rfl) rfl) ?_
              intro b7 V4 hge h0 hb
              have N13_0 : Hid (w.heap.size ≠ b7) := Lib.hid (xp_lt0 (heap_keep Fv0_4.out C1_3.out) hge)
              have N14_1 : Hid (b5 ≠ b7) := Lib.hid (xp_lt0 (heap_keep Fv3_5.out C1_3.out) hge)
              have Ge15 : Hid (V3.heap.size ≤ b7) := Lib.hid hge
              have B3 := Lib.hid hb
              have Fv16_7 : Hid (V4.heap[b7]? = some (.cells #[.slice none 0 0, .slice none 0 0] 30 (0, 0))) := Lib.hid (h0)
              have Lt17 : Hid (b7 < V4.heap.size) := Lib.hid (xp_lt Fv16_7.out)
              clear hge h0 hb
              have C0_4 := Lib.hid (bel_step C0_3.out B3.out)
              have C1_4 := Lib.hid (bel_step C1_3.out B3.out)
              refine ⟨⟨C0_4.out, (heap_keep Fv3_5.out C1_4.out)⟩, ?_⟩
              try simp only [ptr, Act.put, List.setIfInBounds_toArray, List.set_cons_zero, List.set_cons_succ]
              refine wpOT_one rfl (by kernel_rfl) ?_
              refine hOp_storeW b7 #[.slice none 0 0, .slice none 0 0] #[.slice none 0 0, .slice none 0 0] 30 Fv16_7.out (xo_storeW b7 #[.slice none 0 0, .slice none 0 0] #[.slice none 0 0, .slice none 0 0] Fv16_7.out (by kernel_rfl) rfl (by simp [Value.oneCell']) rfl rfl rfl) ?_
              intro X4_18 h1 hfar hbel hsz
              have hbr := hbel _ _ Ge15.out B3.out
              clear B3
              have B3 := Lib.hid hbr
              clear hbr
              clear Fv16_7
              have Fv16_7 : Hid (X4_18.heap[b7]? = some (.cells #[.slice none 0 0, .slice none 0 0] 30 (0, 0))) := Lib.hid (h1)
              have HszX4_18 := Lib.hid hsz
              clear h1 hfar hbel hsz
              simp only [ptr, Act.put, List.setIfInBounds_toArray, List.set_cons_zero, List.set_cons_succ]
              have C0_4 := Lib.hid (bel_step C0_3.out B3.out)
              have C1_4 := Lib.hid (bel_step C1_3.out B3.out)
              refine ⟨⟨C0_4.out, (heap_keep Fv3_5.out C1_4.out)⟩, ?_⟩
              try simp only [ptr, Act.put, List.setIfInBounds_toArray, List.set_cons_zero, List.set_cons_succ]
              refine wpOT_q (.int .i64 120) rfl (by kernel_rfl) (fun v hW => rfl) ?_
              simp only [ptr, Act.put, List.setIfInBounds_toArray, List.set_cons_zero, List.set_cons_succ]
              refine wpOT_nil ?_
              go_upto_region 7 with fail
              refine wp_region_lit ?_
              refine wpList_run (by kernel_rfl) (.int .i64 120) X4_18 rfl ?_
              simp only [Act.put, List.setIfInBounds_toArray, List.set_cons_zero, List.set_cons_succ]
              refine wpList_run (by kernel_rfl) (.bool false) X4_18 (xo_eqlF .i64 120 0 (by omega) rfl rfl rfl) ?_
              simp only [Act.put, List.setIfInBounds_toArray, List.set_cons_zero, List.set_cons_succ]
              refine wpList_nil ?_
              have hnew : madeS most (ops.take (i + 1)) = (rs, gs) := by rw [HT.out]; simp only [opS, if_true]; rw [if_pos (by omega), if_pos (by rw [hmr, hq, List.getD_eq_getElem?_getD, HGQ.out]; rfl)]
              go_upto_region 4 with fail
              refine wp_region_lit ?_
              refine wpList_run (by kernel_rfl) (.int .i64 (i : Int)) X4_18 rfl ?_
              simp only [Act.put, List.setIfInBounds_toArray, List.set_cons_zero, List.set_cons_succ]
              refine wpList_run (by kernel_rfl) (.int .i64 ((i + 1 : Nat) : Int)) X4_18 (xo_addI (i : Int) 1 ((i + 1 : Nat) : Int) (by omega) (by omega) (by omega) rfl rfl rfl) ?_
              simp only [Act.put, List.setIfInBounds_toArray, List.set_cons_zero, List.set_cons_succ]
              refine wpList_run (by kernel_rfl) (.int .i64 ((i + 1 : Nat) : Int)) X4_18 rfl ?_
              simp only [Act.put, List.setIfInBounds_toArray, List.set_cons_zero, List.set_cons_succ]
              refine wpList_nil ?_
              have hkl := (HL.out.keep C1_4.out)
              have hkg := (HG.out.keep C1_4.out)
              have hq19 := (heap_keep Fv0_4.out C1_4.out)
              have hq20 := (heap_keep Fv3_5.out C1_4.out)
              have hq21 := C0_4.out
              go_wp2_with fail
              go_roundw
              case rel => exact ⟨i + 1, rs, gs, m, A2, c2, E2, d2, by omega, by go_num, hnew, hkl, hkg, hq19, hq20, hq21⟩
              case measure => simp [intOf]; omega
            · refine wpOT_one rfl (by kernel_rfl) ?_
              refine hOp_new #[.slice none 0 0, .slice none 0 0] 30 (xo_alloc #[.slice none 0 0, .slice none 0 0] (by kernel_rfl) rfl) ?_
              intro b7 V3 hge h0 hb
              have N13_0 : Hid (w.heap.size ≠ b7) := Lib.hid (xp_lt0 (heap_keep Fv0_4.out B1.out) hge)
              have N14_1 : Hid (b5 ≠ b7) := Lib.hid (xp_lt0 (heap_keep Fv3_5.out B1.out) hge)
              have Ge15 : Hid (V2.heap.size ≤ b7) := Lib.hid hge
              have B2 := Lib.hid hb
              have Fv16_7 : Hid (V3.heap[b7]? = some (.cells #[.slice none 0 0, .slice none 0 0] 30 (0, 0))) := Lib.hid (h0)
              have Lt17 : Hid (b7 < V3.heap.size) := Lib.hid (xp_lt Fv16_7.out)
              clear hge h0 hb
              have C0_2 := Lib.hid (bel_step B0.out B1.out)
              have C0_3 := Lib.hid (bel_step C0_2.out B2.out)
              have C1_3 := Lib.hid (bel_step B1.out B2.out)
              refine ⟨⟨C0_3.out, (heap_keep Fv3_5.out C1_3.out)⟩, ?_⟩
              try simp only [ptr, Act.put, List.setIfInBounds_toArray, List.set_cons_zero, List.set_cons_succ]
              refine wpOT_one rfl (by kernel_rfl) ?_
              refine hOp_call 15 Tryd.func15 (by kernel_rfl) (by kernel_rfl) _ _ #[.agg #[.slice A2 m c2, .slice E2 m d2], .int .i64 (q : Int)] rfl (by kernel_rfl) ?_
              refine (rretract_spent A2 m c2 rs E2 d2 gs q HGQ.out (by omega) V3 (HL.out.keep C1_3.out) (HG.out.keep C1_3.out)).mono ?_
              rintro e V4 ⟨rfl, hb⟩
              have B3 := Lib.hid hb
              clear hb 
              have C0_4 := Lib.hid (bel_step C0_3.out B3.out)
              have C1_4 := Lib.hid (bel_step C1_3.out B3.out)
              refine ⟨_, rfl, ⟨C0_4.out, (heap_keep Fv3_5.out C1_4.out)⟩, ?_⟩
              simp only [ptr, Act.put, List.setIfInBounds_toArray, List.set_cons_zero, List.set_cons_succ]
              refine wpOT_q (.tuple #[.agg #[.slice none 0 0, .slice none 0 0], .int .i64 120]) rfl (by kernel_rfl) (fun v hW => rfl) ?_
              simp only [ptr, Act.put, List.setIfInBounds_toArray, List.set_cons_zero, List.set_cons_succ]
              refine wpOT_q (.agg #[.slice none 0 0, .slice none 0 0]) rfl (by kernel_rfl) (fun v hW => rfl) ?_
              simp only [ptr, Act.put, List.setIfInBounds_toArray, List.set_cons_zero, List.set_cons_succ]
              refine wpOT_q (.int .i64 120) rfl (by kernel_rfl) (fun v hW => rfl) ?_
              simp only [ptr, Act.put, List.setIfInBounds_toArray, List.set_cons_zero, List.set_cons_succ]
              refine wpOT_one rfl (by kernel_rfl) ?_
              refine hOp_storeW b7 #[.slice none 0 0, .slice none 0 0] #[.slice none 0 0, .slice none 0 0] 30 (heap_keep Fv16_7.out B3.out) (xo_storeW b7 #[.slice none 0 0, .slice none 0 0] #[.slice none 0 0, .slice none 0 0] (heap_keep Fv16_7.out B3.out) (by kernel_rfl) rfl (by simp [Value.oneCell']) rfl rfl rfl) ?_
              intro X4_18 h1 hfar hbel hsz
              have C2_4 := Lib.hid (bel_step B2.out B3.out)
              have hbr := hbel _ _ Ge15.out C2_4.out
              clear B2
              have B2 := Lib.hid hbr
              clear hbr
              clear Fv16_7
              have Fv16_7 : Hid (X4_18.heap[b7]? = some (.cells #[.slice none 0 0, .slice none 0 0] 30 (0, 0))) := Lib.hid (h1)
              have HszX4_18 := Lib.hid hsz
              clear h1 hfar hbel hsz
              simp only [ptr, Act.put, List.setIfInBounds_toArray, List.set_cons_zero, List.set_cons_succ]
              have C0_3 := Lib.hid (bel_step C0_2.out B2.out)
              have C1_3 := Lib.hid (bel_step B1.out B2.out)
              refine ⟨⟨C0_3.out, (heap_keep Fv3_5.out C1_3.out)⟩, ?_⟩
              try simp only [ptr, Act.put, List.setIfInBounds_toArray, List.set_cons_zero, List.set_cons_succ]
              refine wpOT_q (.int .i64 120) rfl (by kernel_rfl) (fun v hW => rfl) ?_
              simp only [ptr, Act.put, List.setIfInBounds_toArray, List.set_cons_zero, List.set_cons_succ]
              refine wpOT_nil ?_
              go_upto_region 7 with fail
              refine wp_region_lit ?_
              refine wpList_run (by kernel_rfl) (.int .i64 120) X4_18 rfl ?_
              simp only [Act.put, List.setIfInBounds_toArray, List.set_cons_zero, List.set_cons_succ]
              refine wpList_run (by kernel_rfl) (.bool false) X4_18 (xo_eqlF .i64 120 0 (by omega) rfl rfl rfl) ?_
              simp only [Act.put, List.setIfInBounds_toArray, List.set_cons_zero, List.set_cons_succ]
              refine wpList_nil ?_
              have hnew : madeS most (ops.take (i + 1)) = (rs, gs) := by rw [HT.out]; simp only [opS, if_true]; rw [if_pos (by omega), if_pos (by rw [hmr, hq, List.getD_eq_getElem?_getD, HGQ.out]; rfl)]
              go_upto_region 4 with fail
              refine wp_region_lit ?_
              refine wpList_run (by kernel_rfl) (.int .i64 (i : Int)) X4_18 rfl ?_
              simp only [Act.put, List.setIfInBounds_toArray, List.set_cons_zero, List.set_cons_succ]
              refine wpList_run (by kernel_rfl) (.int .i64 ((i + 1 : Nat) : Int)) X4_18 (xo_addI (i : Int) 1 ((i + 1 : Nat) : Int) (by omega) (by omega) (by omega) rfl rfl rfl) ?_
              simp only [Act.put, List.setIfInBounds_toArray, List.set_cons_zero, List.set_cons_succ]
              refine wpList_run (by kernel_rfl) (.int .i64 ((i + 1 : Nat) : Int)) X4_18 rfl ?_
              simp only [Act.put, List.setIfInBounds_toArray, List.set_cons_zero, List.set_cons_succ]
              refine wpList_nil ?_
              have hkl := (HL.out.keep C1_3.out)
              have hkg := (HG.out.keep C1_3.out)
              have hq19 := (heap_keep Fv0_4.out C1_3.out)
              have hq20 := (heap_keep Fv3_5.out C1_3.out)
              have hq21 := C0_3.out
              go_wp2_with fail
              go_roundw
              case rel => exact ⟨i + 1, rs, gs, m, A2, c2, E2, d2, by omega, by go_num, hnew, hkl, hkg, hq19, hq20, hq21⟩
              case measure => simp [intOf]; omega
        · have hci12 : ¬ ((m : Int) > 0) := by omega
          go_upto_region 5 with fail
          refine wp_region_lit ?_
          refine wpList_run (by kernel_rfl) (.slice A n c) wo rfl ?_
          simp only [Act.put, List.setIfInBounds_toArray, List.set_cons_zero, List.set_cons_succ]
          refine wpList_run (by kernel_rfl) (.int .i64 (i : Int)) wo rfl ?_
          simp only [Act.put, List.setIfInBounds_toArray, List.set_cons_zero, List.set_cons_succ]
          refine wpList_run (by kernel_rfl) (.pointer (some (gad A (i * 4)))) wo (xg_idx .i64 (HX.out.keep B0.out) HE.out Tryd.underlying22 (by kernel_rfl) rfl rfl rfl) ?_
          simp only [Act.put, List.setIfInBounds_toArray, List.set_cons_zero, List.set_cons_succ]
          refine wpList_run (by kernel_rfl) (.pointer (some (gad A ((i * 4) + 3)))) wo (xg_fld 1 (HX.out.keep B0.out) HE.out (by kernel_rfl) rfl rfl) ?_
          simp only [Act.put, List.setIfInBounds_toArray, List.set_cons_zero, List.set_cons_succ]
          refine wpList_run (by kernel_rfl) (.bool true) wo (xg_load1 (E := opC) (i := i) (j := 3) (HX.out.keep B0.out) HE.out rfl rfl Tryd.underlying4 rfl rfl rfl) ?_
          simp only [Act.put, List.setIfInBounds_toArray, List.set_cons_zero, List.set_cons_succ]
          refine wpList_run (by kernel_rfl) (.bool true) wo rfl ?_
          simp only [Act.put, List.setIfInBounds_toArray, List.set_cons_zero, List.set_cons_succ]
          refine wpList_run (by kernel_rfl) (.pointer (some ⟨b5, 0, none⟩)) wo (xo_fld0 0 b5 0 (by kernel_rfl) rfl rfl) ?_
          simp only [Act.put, List.setIfInBounds_toArray, List.set_cons_zero, List.set_cons_succ]
          refine wpList_run (by kernel_rfl) (.slice A2 m c2) wo (xo_load1 ⟨b5, 0, none⟩ _ (cells_at Fv3_5.out 0 rfl) Tryd.underlying27 rfl rfl rfl) ?_
          simp only [Act.put, List.setIfInBounds_toArray, List.set_cons_zero, List.set_cons_succ]
          refine wpList_run (by kernel_rfl) (.int .i64 (m : Int)) wo (xo_len A2 m c2 Tryd.underlying27 rfl rfl) ?_
          simp only [Act.put, List.setIfInBounds_toArray, List.set_cons_zero, List.set_cons_succ]
          refine wpList_run (by kernel_rfl) (.bool false) wo (xo_gtrF .i64 (m : Int) 0 (by omega) rfl rfl rfl) ?_
          simp only [Act.put, List.setIfInBounds_toArray, List.set_cons_zero, List.set_cons_succ]
          refine wpList_run (by kernel_rfl) (.bool false) wo rfl ?_
          simp only [Act.put, List.setIfInBounds_toArray, List.set_cons_zero, List.set_cons_succ]
          refine wpList_nil ?_
          go_upto_region 9 with fail
          refine wp_region_lit ?_
          refine wpList_run (by kernel_rfl) (.slice A n c) wo rfl ?_
          simp only [Act.put, List.setIfInBounds_toArray, List.set_cons_zero, List.set_cons_succ]
          refine wpList_run (by kernel_rfl) (.int .i64 (i : Int)) wo rfl ?_
          simp only [Act.put, List.setIfInBounds_toArray, List.set_cons_zero, List.set_cons_succ]
          refine wpList_run (by kernel_rfl) (.pointer (some (gad A (i * 4)))) wo (xg_idx .i64 (HX.out.keep B0.out) HE.out Tryd.underlying22 (by kernel_rfl) rfl rfl rfl) ?_
          simp only [Act.put, List.setIfInBounds_toArray, List.set_cons_zero, List.set_cons_succ]
          refine wpList_run (by kernel_rfl) (.pointer (some (gad A ((i * 4) + 3)))) wo (xg_fld 1 (HX.out.keep B0.out) HE.out (by kernel_rfl) rfl rfl) ?_
          simp only [Act.put, List.setIfInBounds_toArray, List.set_cons_zero, List.set_cons_succ]
          refine wpList_run (by kernel_rfl) (.bool true) wo (xg_load1 (E := opC) (i := i) (j := 3) (HX.out.keep B0.out) HE.out rfl rfl Tryd.underlying4 rfl rfl rfl) ?_
          simp only [Act.put, List.setIfInBounds_toArray, List.set_cons_zero, List.set_cons_succ]
          refine wpList_run (by kernel_rfl) (.bool false) wo rfl ?_
          simp only [Act.put, List.setIfInBounds_toArray, List.set_cons_zero, List.set_cons_succ]
          refine wpList_run (by kernel_rfl) (.bool false) wo rfl ?_
          simp only [Act.put, List.setIfInBounds_toArray, List.set_cons_zero, List.set_cons_succ]
          refine wpList_skip (by kernel_rfl) ?_
          try simp only [Act.put, List.setIfInBounds_toArray, List.set_cons_zero, List.set_cons_succ]
          refine wpList_skip (by kernel_rfl) ?_
          try simp only [Act.put, List.setIfInBounds_toArray, List.set_cons_zero, List.set_cons_succ]
          refine wpList_skip (by kernel_rfl) ?_
          try simp only [Act.put, List.setIfInBounds_toArray, List.set_cons_zero, List.set_cons_succ]
          refine wpList_skip (by kernel_rfl) ?_
          try simp only [Act.put, List.setIfInBounds_toArray, List.set_cons_zero, List.set_cons_succ]
          refine wpList_skip (by kernel_rfl) ?_
          try simp only [Act.put, List.setIfInBounds_toArray, List.set_cons_zero, List.set_cons_succ]
          refine wpList_run (by kernel_rfl) (.bool false) wo rfl ?_
          simp only [Act.put, List.setIfInBounds_toArray, List.set_cons_zero, List.set_cons_succ]
          refine wpList_nil ?_
          have hnew : madeS most (ops.take (i + 1)) = (rs, gs) := by rw [HT.out]; simp only [opS, if_true]; rw [if_neg (by omega)]
          go_upto_region 4 with fail
          refine wp_region_lit ?_
          refine wpList_run (by kernel_rfl) (.int .i64 (i : Int)) wo rfl ?_
          simp only [Act.put, List.setIfInBounds_toArray, List.set_cons_zero, List.set_cons_succ]
          refine wpList_run (by kernel_rfl) (.int .i64 ((i + 1 : Nat) : Int)) wo (xo_addI (i : Int) 1 ((i + 1 : Nat) : Int) (by omega) (by omega) (by omega) rfl rfl rfl) ?_
          simp only [Act.put, List.setIfInBounds_toArray, List.set_cons_zero, List.set_cons_succ]
          refine wpList_run (by kernel_rfl) (.int .i64 ((i + 1 : Nat) : Int)) wo rfl ?_
          simp only [Act.put, List.setIfInBounds_toArray, List.set_cons_zero, List.set_cons_succ]
          refine wpList_nil ?_
          have hkl := HL.out
          have hkg := HG.out
          have hq13 := Fv0_4.out
          have hq14 := Fv3_5.out
          have hq15 := B0.out
          go_wp2_with fail
          go_roundw
          case rel => exact ⟨i + 1, rs, gs, m, A2, c2, E2, d2, by omega, by go_num, hnew, hkl, hkg, hq13, hq14, hq15⟩
          case measure => simp [intOf]; omega
    · have hci11 : ¬ ((i : Int) < (n : Int)) := by omega
      have hin : i = n := by omega
      have HM2 := HM.out
      rw [hin, List.take_of_length_le (by omega)] at HM2
      go_upto_region 3 with fail
      refine wp_region_lit ?_
      refine wpList_run (by kernel_rfl) (.int .i64 (i : Int)) wo rfl ?_
      simp only [Act.put, List.setIfInBounds_toArray, List.set_cons_zero, List.set_cons_succ]
      refine wpList_run (by kernel_rfl) (.slice A n c) wo rfl ?_
      simp only [Act.put, List.setIfInBounds_toArray, List.set_cons_zero, List.set_cons_succ]
      refine wpList_run (by kernel_rfl) (.int .i64 (n : Int)) wo (xo_len A n c Tryd.underlying22 rfl rfl) ?_
      simp only [Act.put, List.setIfInBounds_toArray, List.set_cons_zero, List.set_cons_succ]
      refine wpList_run (by kernel_rfl) (.bool false) wo (xo_lssF .i64 (i : Int) (n : Int) (by omega) rfl rfl rfl) ?_
      simp only [Act.put, List.setIfInBounds_toArray, List.set_cons_zero, List.set_cons_succ]
      refine wpList_nil ?_
      go_upto_region 11 with fail
      refine wp_region_lit ?_
      refine wpList_run (by kernel_rfl) (.agg #[.slice A2 m c2, .slice E2 m d2]) wo (xo_loadW b5 _ Fv3_5.out Tryd.underlying30 rfl (by kernel_rfl) rfl rfl) ?_
      simp only [Act.put, List.setIfInBounds_toArray, List.set_cons_zero, List.set_cons_succ]
      refine wpList_storeW w.heap.size #[.slice none 0 0, .slice none 0 0] #[.slice A2 m c2, .slice E2 m d2] 30 (by kernel_rfl) Fv0_4.out (xo_storeW w.heap.size #[.slice none 0 0, .slice none 0 0] #[.slice A2 m c2, .slice E2 m d2] Fv0_4.out (by kernel_rfl) rfl (by simp [Value.oneCell']) rfl rfl rfl) ?_
      intro X1_12 h1 hfar hbel hsz
      have YHL : Sg rdC 4 X1_12 A2 m c2 rs := Sg.farSl HL.out rd_nosl Fv0_4.out (by simp [isSl]) hfar
      have YHG : Sg boC 1 X1_12 E2 m d2 gs := Sg.farSl HG.out bo_nosl Fv0_4.out (by simp [isSl]) hfar
      have YFv3_5 : X1_12.heap[b5]? = some (.cells #[.slice A2 m c2, .slice E2 m d2] 30 (0, 0)) := hfar _ _ (Ne.symm N1_0.out) Fv3_5.out
      have hbr := hbel _ _ Gb0.out B0.out
      clear B0
      have B0 := Lib.hid hbr
      clear hbr
      clear Fv3_5
      have Fv3_5 : Hid (X1_12.heap[b5]? = some (.cells #[.slice A2 m c2, .slice E2 m d2] 30 (0, 0))) := Lib.hid YFv3_5
      clear YFv3_5
      clear HL
      have HL := Lib.hid YHL
      clear YHL
      clear HG
      have HG := Lib.hid YHG
      clear YHG
      clear Fv0_4
      have Fv0_4 : Hid (X1_12.heap[w.heap.size]? = some (.cells #[.slice A2 m c2, .slice E2 m d2] 30 (0, 0))) := Lib.hid (h1)
      have HszX1_12 := Lib.hid hsz
      clear h1 hfar hbel hsz
      simp only [ptr, Act.put, List.setIfInBounds_toArray, List.set_cons_zero, List.set_cons_succ]
      refine wpList_nil ?_
      have hkl := HL.out
      have hkg := HG.out
      go_wp2_with fail
      refine bodyPost_ret (v := .agg #[.slice A2 m c2, .slice E2 m d2]) ?_ rfl ⟨rs, gs, m, A2, c2, E2, d2, rfl, (by first | exact HM2 | exact ⟨rfl, rfl⟩), hst, hkl, hkg, B0.out⟩
      exact results_cell_row rfl _ _ w.heap.size 30 _ (0, 0) _ rfl Fv0_4.out Tryd.underlying30 rfl (by kernel_rfl)
end Go.Proofs.YtopicjdmajlndaaDoor

namespace Go.Proofs.YtopicjdmajlndaaDoor.K
set_option linter.unusedVariables false
set_option linter.unusedSimpArgs false
set_option linter.unusedSectionVars false
set_option maxRecDepth 8000
open Go.RowKit
section
variable {lp m : Nat} {P : Program} {ops : Array Oper} {Q : Exit → Act → World → Prop}
theorem wpListIn_of_wpList (hQ : ¬ LetsOut Q) : ∀ (l : List Oper) (a : Act) (w : World), noDefer l = true → wpList P ops Q l a w → wpListIn (Fence.wide.inRound lp) m P ops Q l a w
  | [], a, w, _, h => h
  | o :: l, a, w, hd, h => by
    have hd2 : noDefer l = true := by unfold noDefer at hd ⊢; rw [List.all_cons, Bool.and_eq_true] at hd; exact hd.2
    have hdo : ∀ c, o.op ≠ .defer c := fun c e => by
      unfold noDefer at hd
      rw [List.all_cons, Bool.and_eq_true, e] at hd
      cases hd.1
    unfold wpList at h
    unfold wpListIn
    by_cases hw : Region.wanted o (yielded ops a.tmps) = true
    · rw [if_pos hw] at h ⊢
      rcases h with h | ⟨_, h⟩
      · exact operIn_of_wp hdo (fun a w h => wpListIn_of_wpList hQ l a w hd2 h) h
      · exact absurd h hQ
    · rw [if_neg hw] at h ⊢
      exact ⟨fun _ _ => trivial, wpListIn_of_wpList hQ l _ w hd2 h⟩
/-- a plain region in a round -/
theorem wpR_plain {id : Nat} {l : List Oper} {a : Act} {w : World} (hd : noDefer l = true) (hQ : ¬ LetsOut Q) (h : wpList P l.toArray Q l a w) : (Code.region id l.toArray false).wpIn (Fence.wide.inRound lp) m P Q a w :=
  wpIn_region_lit (wpListIn_of_wpList hQ l a w hd h)
/-- a drawn region in a round, by a tree of orders -/
theorem wpR_ordT (S : World → Prop) (t : OT) {id : Nat} {a : Act} {w : World} {l : List Oper} (hm : P.follows .mixedOrders = true) (hd : noDefer l = true) (hL : ¬ LetsOut Q) (hs : Region.noSelect l.toArray = true) (hQ : ∀ c a (dt : Option Tmp) v w, Q (.panic c) (Act.put a dt v) w → Q (.panic c) a w)
    (hn : t.len = l.length) (ho : okT l.toArray t (Array.replicate l.length false) = true) (hS : S w.drew) (h : wpOT P l.toArray S Q t a w.drew) : (Code.region id l.toArray true).wpIn (Fence.wide.inRound lp) m P Q a w := by
  refine wpIn_region_any hm (wpAnyIn_of_wpAny (noDefer_spec hd) hL _ _ _ _ ?_)
  have := wpAnyH_of_wpOT hs hQ t _ a w.drew ho hS h
  rw [hn] at this
  exact wpAny_of_held _ _ _ _ (by simpa using this)
end
theorem zip2 (p q : Tmp) (t : Array Value) (u v : Value) : ((#[p, q] : Array Tmp).zip #[u, v]).foldl (fun t (p, v) => t.setIfInBounds p v) t = (t.setIfInBounds p u).setIfInBounds q v := by
  simp
end Go.Proofs.YtopicjdmajlndaaDoor.K
namespace Go.Proofs.YtopicjdmajlndaaDoor
set_option linter.unusedVariables false
set_option linter.unusedSimpArgs false
set_option linter.unusedSectionVars false
open Go.RowKit Go.Proofs.YtopicjdmajlndaaDoor.K
attribute [local irreducible] wpList wpQuiet
/-- what the iterator yields: index, reading, whether it is live -/
def entL (rs : List Rd) (gs : List Bool) : List (Nat × Rd × Bool) := (rs.zip gs).zipIdx.map fun x => (x.2, x.1.1, !x.1.2)
theorem entL_length {rs : List Rd} {gs : List Bool} (h : gs.length = rs.length) : (entL rs gs).length = rs.length := by
  simp [entL, h]
theorem entL_get {rs : List Rd} {gs : List Bool} {i : Nat} {r : Rd} {g : Bool} (hr : rs[i]? = some r) (hg : gs[i]? = some g) : (entL rs gs)[i]? = some (i, r, !g) := by
  have hz : (rs.zip gs)[i]? = some (r, g) := List.getElem?_zip_eq_some.2 ⟨hr, hg⟩
  simp [entL, hz]
theorem entL_of {rs : List Rd} {gs : List Bool} {i : Nat} {x : Nat × Rd × Bool} (h : (entL rs gs)[i]? = some x) : ∃ r g, rs[i]? = some r ∧ gs[i]? = some g ∧ x = (i, r, !g) := by
  simp only [entL, List.getElem?_map, List.getElem?_zipIdx, Option.map_map, Option.map_eq_some_iff] at h
  obtain ⟨⟨r, g⟩, hz, rfl⟩ := h
  obtain ⟨h1, h2⟩ := List.getElem?_zip_eq_some.1 hz
  exact ⟨r, g, h1, h2, by simp⟩
def entV (x : Nat × Rd × Bool) : Array Value := #[.int .i64 (x.1 : Int), .agg #[.int .i64 x.2.1.who, .int .i64 x.2.1.when_, .int .i64 x.2.1.kind, .int .i64 x.2.1.value, .bool x.2.2]]
/-- what the iterator wants of memory -/
def EntG (b : Nat) (A : Option Addr) (n c : Nat) (rs : List Rd) (B : Option Addr) (d : Nat) (gs : List Bool) (W : World) : Prop :=
  W.heap[b]? = some (.cells #[.slice A n c, .slice B n d] 30 (0, 0)) ∧ Sg rdC 4 W A n c rs ∧ Sg boC 1 W B n d gs
theorem entries_any (A : Option Addr) (n c : Nat) (B : Option Addr) (d : Nat) (w : World) :
    Calls Tryd.prog 46 #[.agg #[.slice A n c, .slice B n d]] w fun e w' => ∃ b, e = .returned (.func (.func 62) #[] #[.pointer (some ⟨b, 0, none⟩)]) ∧ w'.heap[b]? = some (.cells #[.slice A n c, .slice B n d] 30 (0, 0)) ∧ w.heap.size ≤ b ∧ Below w.heap.size w w' := by
  go_enter Tryd.func46, Tryd.ntmps46
  go_upto_region 1 with fail
  refine wp_named1 (fun V1 hb g0 hlt => ?_)
  refine wp_region_lit ?_
  refine wpList_run (by kernel_rfl) (.func (.func 62) #[] #[.pointer (some ⟨w.heap.size, 0, none⟩)]) V1 (by unfold execOp; go_simp) ?_
  simp only [ptr, Act.put, List.setIfInBounds_toArray, List.set_cons_zero, List.set_cons_succ]
  refine wpList_run (by kernel_rfl) (.func (.func 62) #[] #[.pointer (some ⟨w.heap.size, 0, none⟩)]) V1 rfl ?_
  simp only [ptr, Act.put, List.setIfInBounds_toArray, List.set_cons_zero, List.set_cons_succ]
  refine wpList_nil ?_
  go_wp2_with fail
  go_ret
  exact ⟨_, rfl, g0, Nat.le_refl _, hb⟩
end Go.Proofs.YtopicjdmajlndaaDoor

