/- A law of stage 12: ReadingTableExtension. -/
import Derived.Test.YtopicjdmajlndaaDoorL15
namespace Go.Proofs.YtopicjdmajlndaaDoor
set_option linter.unusedVariables false
set_option linter.unusedSimpArgs false
set_option linter.unusedSectionVars false
set_option maxRecDepth 8000
open Go.RowKit Go.Proofs.YtopicjdmajlndaaDoor.K
attribute [local irreducible] wpList wpQuiet
set_option maxRecDepth 100000 in
set_option maxHeartbeats 16000000 in
theorem rExtension_any (A : Option Addr) (n c : Nat) (ops : List Opn) (hby : ∀ o ∈ ops, o.b0 < 256 ∧ o.b1 < 256 ∧ o.b2 < 256) (B : Option Addr) (m1 d1 : Nat) (xs : List (Int × Int)) (hnu : J.Nums xs) (w : World) (hM : Sg opC 4 w A n c ops) (hX : Sg exP 2 w B m1 d1 xs) (hW : Gw w) :
    Calls Tryd.prog 8 #[.slice A n c, .slice B m1 d1] w fun e w' => e = .returned (.bool true) ∧ Below w.heap.size w w' := by
  have HW := Lib.hid hW
  have HM := Lib.hid hM
  have HBY := Lib.hid hby
  have HX := Lib.hid hX
  have HNU := Lib.hid hnu
  obtain ⟨ps, hps⟩ : ∃ ps, J.exactE xs 6 = ps := ⟨_, rfl⟩
  have hpl : ps.length = 6 := by rw [← hps]; exact J.exactE_length _ _
  have HPS := Lib.hid hps
  clear hW hM hby hX hnu hps
  go_enter Tryd.func8, Tryd.ntmps8
  go_upto_region 1 with fail
  refine wp_region_lit ?_
  refine wpList_call (by kernel_rfl) 10 Tryd.func10 (by kernel_rfl) (by kernel_rfl) _ _ #[] rfl (by kernel_rfl) ?_
  refine (sanity12_any w HW.out).mono ?_
  rintro e V1 ⟨rfl, hb⟩
  have B0 := Lib.hid hb
  clear hb 
  refine ⟨_, rfl, ?_⟩
  simp only [Act.put, List.setIfInBounds_toArray, List.set_cons_zero, List.set_cons_succ]
  refine wpList_run (by kernel_rfl) (.bool true) V1 rfl ?_
  simp only [Act.put, List.setIfInBounds_toArray, List.set_cons_zero, List.set_cons_succ]
  refine wpList_nil ?_
  go_upto_region 2 with fail
  refine wp_region_lit ?_
  refine wpList_run (by kernel_rfl) (.slice A n c) V1 rfl ?_
  simp only [Act.put, List.setIfInBounds_toArray, List.set_cons_zero, List.set_cons_succ]
  refine wpList_call (by kernel_rfl) 11 Tryd.func11 (by kernel_rfl) (by kernel_rfl) _ _ #[.slice A n c, .int .i64 8] rfl (by kernel_rfl) ?_
  refine (rmade_any A n c ops 8 (by omega) HBY.out V1 (HM.out.keep B0.out)).mono ?_
  rintro e V2 ⟨rs, gs, m, A2, c2, E2, d2, rfl, hmd, hst, hs1, hs2, hb⟩
  have B1 := Lib.hid hb
  have HL := Lib.hid hs1
  have HG := Lib.hid hs2
  clear hb hs1 hs2
  refine ⟨_, rfl, ?_⟩
  simp only [Act.put, List.setIfInBounds_toArray, List.set_cons_zero, List.set_cons_succ]
  refine wpList_new #[.slice none 0 0, .slice none 0 0] 30 (by kernel_rfl) (xo_alloc #[.slice none 0 0, .slice none 0 0] (by kernel_rfl) rfl) ?_
  intro b6 V3 hge h0 hb
  have Ge0 : Hid (V2.heap.size ≤ b6) := Lib.hid hge
  have B2 := Lib.hid hb
  have Fv1_6 : Hid (V3.heap[b6]? = some (.cells #[.slice none 0 0, .slice none 0 0] 30 (0, 0))) := Lib.hid (h0)
  have Lt2 : Hid (b6 < V3.heap.size) := Lib.hid (xp_lt Fv1_6.out)
  clear hge h0 hb
  simp only [ptr, Act.put, List.setIfInBounds_toArray, List.set_cons_zero, List.set_cons_succ]
  refine wpList_storeW b6 #[.slice none 0 0, .slice none 0 0] #[.slice A2 m c2, .slice E2 m d2] 30 (by kernel_rfl) Fv1_6.out (xo_storeW b6 #[.slice none 0 0, .slice none 0 0] #[.slice A2 m c2, .slice E2 m d2] Fv1_6.out (by kernel_rfl) rfl (by simp [Value.oneCell']) rfl rfl rfl) ?_
  intro X3_3 h1 hfar hbel hsz
  have hbr := hbel _ _ Ge0.out B2.out
  clear B2
  have B2 := Lib.hid hbr
  clear hbr
  clear Fv1_6
  have Fv1_6 : Hid (X3_3.heap[b6]? = some (.cells #[.slice A2 m c2, .slice E2 m d2] 30 (0, 0))) := Lib.hid (h1)
  have HszX3_3 := Lib.hid hsz
  clear h1 hfar hbel hsz
  simp only [ptr, Act.put, List.setIfInBounds_toArray, List.set_cons_zero, List.set_cons_succ]
  refine wpList_nil ?_
  have hmr := HL.out.len
  have hmg := HG.out.len
  have hmm := hst.most
  have HST := Lib.hid hst
  clear hmd hst
  obtain ⟨cols, hcols⟩ : ∃ x, colsN rs gs (2 ^ 3) = x := ⟨_, rfl⟩
  have hm23 : m ≤ 2 ^ 3 := by omega
  have HSM := Lib.hid (show ∀ xs ∈ cols, xs.length = 8 ∧ ∀ x ∈ xs, x < 256 by rw [← hcols]; exact colsN_ok hmr hmg hm23 HST.out.ok)
  have hcl5 : cols.length = 5 := by rw [← hcols]; simp [colsN]
  have HCO := Lib.hid hcols
  clear hcols
  have HJ := Lib.hid (jB_cols hcl5 HSM.out)
  obtain ⟨TL, hTL⟩ : ∃ x, tabN cols 8 8 = x := ⟨_, rfl⟩
  have HTS := Lib.hid (show ∀ x ∈ TL, x < 18446744069414584321 by rw [← hTL]; exact tabN_small HSM.out)
  have HTG := Lib.hid (show ∀ k i, k < 8 → i < 8 → TL.getD (k + 8 * i) 0 = (cols.getD k []).getD i 0 by rw [← hTL]; exact fun k i hk hi => tabN_get hk hi)
  have HTE := Lib.hid hTL
  clear hTL
  have HTX := Lib.hid (Gold.table_ext hcl5 hpl HTG.out)
  go_upto_region 3 with fail
  refine wp_region_lit ?_
  refine wpList_run (by kernel_rfl) (.agg #[.slice A2 m c2, .slice E2 m d2]) X3_3 (xo_loadW b6 _ Fv1_6.out Tryd.underlying30 rfl (by kernel_rfl) rfl rfl) ?_
  simp only [Act.put, List.setIfInBounds_toArray, List.set_cons_zero, List.set_cons_succ]
  refine wpList_call (by kernel_rfl) 19 Tryd.func19 (by kernel_rfl) (by kernel_rfl) _ _ #[.agg #[.slice A2 m c2, .slice E2 m d2], .int .i64 3] rfl (by kernel_rfl) ?_
  refine (cols_yesC A2 m c2 rs E2 d2 gs 3 (by omega) hm23 HST.out.ok X3_3 (HL.out.keep B2.out) (HG.out.keep B2.out)).mono ?_
  rintro e V4 ⟨A5, c5, rfl, ⟨hs5, hc0⟩, hb⟩
  have B3 := Lib.hid hb
  rw [HCO.out] at hc0
  have HC := Lib.hid hc0
  clear hb hc0
  refine ⟨_, rfl, ?_⟩
  simp only [Act.put, List.setIfInBounds_toArray, List.set_cons_zero, List.set_cons_succ]
  refine wpList_run (by kernel_rfl) (.tuple #[.slice A5 5 c5, .int .i64 0]) V4 rfl ?_
  simp only [Act.put, List.setIfInBounds_toArray, List.set_cons_zero, List.set_cons_succ]
  refine wpList_run (by kernel_rfl) (.slice A5 5 c5) V4 rfl ?_
  simp only [Act.put, List.setIfInBounds_toArray, List.set_cons_zero, List.set_cons_succ]
  refine wpList_run (by kernel_rfl) (.int .i64 0) V4 rfl ?_
  simp only [Act.put, List.setIfInBounds_toArray, List.set_cons_zero, List.set_cons_succ]
  refine wpList_run (by kernel_rfl) (.slice A5 5 c5) V4 rfl ?_
  simp only [Act.put, List.setIfInBounds_toArray, List.set_cons_zero, List.set_cons_succ]
  refine wpList_run (by kernel_rfl) (.int .i64 0) V4 rfl ?_
  simp only [Act.put, List.setIfInBounds_toArray, List.set_cons_zero, List.set_cons_succ]
  refine wpList_nil ?_
  go_upto_region 4 with fail
  refine wp_region_lit ?_
  refine wpList_run (by kernel_rfl) (.slice A5 5 c5) V4 rfl ?_
  simp only [Act.put, List.setIfInBounds_toArray, List.set_cons_zero, List.set_cons_succ]
  refine wpList_call (by kernel_rfl) 29 Tryd.func29 (by kernel_rfl) (by kernel_rfl) _ _ #[.slice A5 5 c5] rfl (by kernel_rfl) ?_
  refine (table_yes A5 5 c5 hs5 cols (fun xs hx => by rw [(HSM.out xs hx).1]; omega) HJ.out.1 V4 HC.out).mono ?_
  rintro e V5 ⟨g4, WW, LL, MM, rfl, hWW, hLL, hMM, _, hr, _, hb⟩
  have B4 := Lib.hid hb
  obtain rfl : WW = 8 := by rw [← hWW]; rfl
  obtain rfl : LL = 8 := by rw [← hLL]; exact HJ.out.2
  obtain rfl : MM = 64 := hMM.symm
  rw [HTE.out] at hr
  have hr2 := RowG.sg (k := 1) (n := 64) (c := 64) hr (by rw [← HTE.out]; simp [tabN]) (Nat.le_refl _) (by omega)
  clear hr hWW hLL hMM
  have HT := Lib.hid hr2
  clear hb hr2
  refine ⟨_, rfl, ?_⟩
  simp only [Act.put, List.setIfInBounds_toArray, List.set_cons_zero, List.set_cons_succ]
  refine wpList_run (by kernel_rfl) (.tuple #[.slice (some ⟨g4, 0, none⟩) 64 64, .int .i64 0]) V5 rfl ?_
  simp only [Act.put, List.setIfInBounds_toArray, List.set_cons_zero, List.set_cons_succ]
  refine wpList_run (by kernel_rfl) (.slice (some ⟨g4, 0, none⟩) 64 64) V5 rfl ?_
  simp only [Act.put, List.setIfInBounds_toArray, List.set_cons_zero, List.set_cons_succ]
  refine wpList_run (by kernel_rfl) (.int .i64 0) V5 rfl ?_
  simp only [Act.put, List.setIfInBounds_toArray, List.set_cons_zero, List.set_cons_succ]
  refine wpList_run (by kernel_rfl) (.slice (some ⟨g4, 0, none⟩) 64 64) V5 rfl ?_
  simp only [Act.put, List.setIfInBounds_toArray, List.set_cons_zero, List.set_cons_succ]
  refine wpList_run (by kernel_rfl) (.int .i64 0) V5 rfl ?_
  simp only [Act.put, List.setIfInBounds_toArray, List.set_cons_zero, List.set_cons_succ]
  refine wpList_nil ?_
  go_upto_region 5 with fail
  refine wp_region_lit ?_
  refine wpList_run (by kernel_rfl) (.int .i64 0) V5 rfl ?_
  simp only [Act.put, List.setIfInBounds_toArray, List.set_cons_zero, List.set_cons_succ]
  refine wpList_run (by kernel_rfl) (.bool false) V5 (xo_neqF .i64 0 0 (by omega) rfl rfl rfl) ?_
  simp only [Act.put, List.setIfInBounds_toArray, List.set_cons_zero, List.set_cons_succ]
  refine wpList_run (by kernel_rfl) (.bool false) V5 rfl ?_
  simp only [Act.put, List.setIfInBounds_toArray, List.set_cons_zero, List.set_cons_succ]
  refine wpList_run (by kernel_rfl) (.int .i64 0) V5 rfl ?_
  simp only [Act.put, List.setIfInBounds_toArray, List.set_cons_zero, List.set_cons_succ]
  refine wpList_run (by kernel_rfl) (.bool false) V5 (xo_neqF .i64 0 0 (by omega) rfl rfl rfl) ?_
  simp only [Act.put, List.setIfInBounds_toArray, List.set_cons_zero, List.set_cons_succ]
  refine wpList_run (by kernel_rfl) (.bool false) V5 rfl ?_
  simp only [Act.put, List.setIfInBounds_toArray, List.set_cons_zero, List.set_cons_succ]
  refine wpList_run (by kernel_rfl) (.bool false) V5 rfl ?_
  simp only [Act.put, List.setIfInBounds_toArray, List.set_cons_zero, List.set_cons_succ]
  refine wpList_run (by kernel_rfl) (.slice (some ⟨g4, 0, none⟩) 64 64) V5 rfl ?_
  simp only [Act.put, List.setIfInBounds_toArray, List.set_cons_zero, List.set_cons_succ]
  refine wpList_run (by kernel_rfl) (.int .i64 64) V5 (xo_len (some ⟨g4, 0, none⟩) 64 64 Tryd.underlying48 rfl rfl) ?_
  simp only [Act.put, List.setIfInBounds_toArray, List.set_cons_zero, List.set_cons_succ]
  refine wpList_run (by kernel_rfl) (.bool false) V5 (xo_neqF .i64 64 64 (by omega) rfl rfl rfl) ?_
  simp only [Act.put, List.setIfInBounds_toArray, List.set_cons_zero, List.set_cons_succ]
  refine wpList_run (by kernel_rfl) (.bool false) V5 rfl ?_
  simp only [Act.put, List.setIfInBounds_toArray, List.set_cons_zero, List.set_cons_succ]
  refine wpList_run (by kernel_rfl) (.bool false) V5 rfl ?_
  simp only [Act.put, List.setIfInBounds_toArray, List.set_cons_zero, List.set_cons_succ]
  refine wpList_run (by kernel_rfl) (.slice A5 5 c5) V5 rfl ?_
  simp only [Act.put, List.setIfInBounds_toArray, List.set_cons_zero, List.set_cons_succ]
  refine wpList_run (by kernel_rfl) (.int .i64 5) V5 (xo_len A5 5 c5 Tryd.underlying38 rfl rfl) ?_
  simp only [Act.put, List.setIfInBounds_toArray, List.set_cons_zero, List.set_cons_succ]
  refine wpList_run (by kernel_rfl) (.bool false) V5 (xo_neqF .i64 5 5 (by omega) rfl rfl rfl) ?_
  simp only [Act.put, List.setIfInBounds_toArray, List.set_cons_zero, List.set_cons_succ]
  refine wpList_run (by kernel_rfl) (.bool false) V5 rfl ?_
  simp only [Act.put, List.setIfInBounds_toArray, List.set_cons_zero, List.set_cons_succ]
  refine wpList_nil ?_
  go_upto_region 7 with fail
  refine wp_region_lit ?_
  refine wpList_run (by kernel_rfl) (.slice B m1 d1) V5 rfl ?_
  simp only [Act.put, List.setIfInBounds_toArray, List.set_cons_zero, List.set_cons_succ]
  have C0_2 := Lib.hid (bel_step B0.out B1.out)
  have C0_3 := Lib.hid (bel_step C0_2.out B2.out)
  have C0_4 := Lib.hid (bel_step C0_3.out B3.out)
  have C0_5 := Lib.hid (bel_step C0_4.out B4.out)
  refine wpList_call (by kernel_rfl) 35 Tryd.func35 (by kernel_rfl) (by kernel_rfl) _ _ #[.slice B m1 d1, .int .i64 6] rfl (by kernel_rfl) ?_
  refine (xExactly B m1 d1 xs ps HPS.out V5 (HX.out.keep C0_5.out) HNU.out).mono ?_
  rintro e V6 ⟨A7, c7, rfl, hs7, hb⟩
  have B5 := Lib.hid hb
  have HP := Lib.hid hs7
  clear hb hs7
  refine ⟨_, rfl, ?_⟩
  simp only [Act.put, List.setIfInBounds_toArray, List.set_cons_zero, List.set_cons_succ]
  refine wpList_run (by kernel_rfl) (.slice A7 6 c7) V6 rfl ?_
  simp only [Act.put, List.setIfInBounds_toArray, List.set_cons_zero, List.set_cons_succ]
  refine wpList_nil ?_
  have C0_6 := Lib.hid (bel_step C0_5.out B5.out)
  have HBV4 := Lib.hid C0_6.out
  have C4_6 := Lib.hid (bel_step B4.out B5.out)
  have YHC := (HC.out.keep C4_6.out)
  have YHT := (HT.out.keep B5.out)
  have YHP := HP.out
  clear HC
  have HC := Lib.hid YHC
  clear YHC
  clear HT
  have HT := Lib.hid YHT
  clear YHT
  clear HP
  have HP := Lib.hid YHP
  clear YHP
  obtain ⟨VB4, rfl⟩ : ∃ VB4 : World, VB4 = V6 := ⟨_, rfl⟩
  have h5c := HC.out.head.cap
  have h6c := J.Sl.cap HP.out
  have h6t := J.Sl.top HP.out
  go_upto_region 8 with fail
  refine wp_region_lit ?_
  refine wpList_run (by kernel_rfl) (.agg #[.int .u64 0, .int .u64 0]) VB4 (by unfold execOp; go_simp) ?_
  simp only [Act.put, List.setIfInBounds_toArray, List.set_cons_zero, List.set_cons_succ]
  refine wpList_new #[.int .u64 0, .int .u64 0] 63 (by kernel_rfl) (xo_alloc #[.int .u64 0, .int .u64 0] (by kernel_rfl) rfl) ?_
  intro b12 V1 hge h0 hb
  have Ge5 : Hid (VB4.heap.size ≤ b12) := Lib.hid hge
  have B0 := Lib.hid hb
  have Fv6_12 : Hid (V1.heap[b12]? = some (.cells #[.int .u64 0, .int .u64 0] 63 (0, 0))) := Lib.hid (h0)
  have Lt7 : Hid (b12 < V1.heap.size) := Lib.hid (xp_lt Fv6_12.out)
  clear hge h0 hb
  simp only [ptr, Act.put, List.setIfInBounds_toArray, List.set_cons_zero, List.set_cons_succ]
  refine wpList_storeW b12 #[.int .u64 0, .int .u64 0] #[.int .u64 0, .int .u64 0] 63 (by kernel_rfl) Fv6_12.out (xo_storeW b12 #[.int .u64 0, .int .u64 0] #[.int .u64 0, .int .u64 0] Fv6_12.out (by kernel_rfl) rfl (by simp [Value.oneCell']) rfl rfl rfl) ?_
  intro X1_8 h1 hfar hbel hsz
  have hbr := hbel _ _ Ge5.out B0.out
  clear B0
  have B0 := Lib.hid hbr
  clear hbr
  clear Fv6_12
  have Fv6_12 : Hid (X1_8.heap[b12]? = some (.cells #[.int .u64 0, .int .u64 0] 63 (0, 0))) := Lib.hid (h1)
  have HszX1_8 := Lib.hid hsz
  clear h1 hfar hbel hsz
  simp only [ptr, Act.put, List.setIfInBounds_toArray, List.set_cons_zero, List.set_cons_succ]
  refine wpList_nil ?_
  go_upto_region 9 with fail
  refine wp_region_lit ?_
  refine wpList_run (by kernel_rfl) (.int .i64 0) X1_8 rfl ?_
  simp only [Act.put, List.setIfInBounds_toArray, List.set_cons_zero, List.set_cons_succ]
  refine wpList_nil ?_
  have O9 := Fv6_12.out
  have O10 := B0.out
  go_wp2_with fail
  go_loopw [13] (fun p wr => ∃ k : Nat, ∃ a : Gold.E2, k ≤ 5 ∧ p = .int .i64 k ∧ a = Gold.sumE k (Gold.shE cols ps) ∧ wr.heap[b12]? = some (.cells #[.int .u64 (Gold.vF a.A), .int .u64 (Gold.vF a.B)] 63 (0, 0)) ∧ Below VB4.heap.size VB4 wr) (fun p _ => 5 - (intOf p).toNat)
  case atStart => exact ⟨0, Gold.E2.zero, Nat.zero_le _, rfl, rfl, O9, O10⟩
  case round =>
    clear O9 O10
    obtain ⟨wo, rfl⟩ : ∃ wo : World, wo = wr := ⟨_, rfl⟩
    obtain ⟨k, a, hi, rfl, hha, hr0, hb0⟩ := hrel
    have hbr := hb0
    clear B0
    have B0 := Lib.hid hbr
    clear hbr
    clear Fv6_12
    have Fv6_12 : Hid (wo.heap[b12]? = some (.cells #[.int .u64 (Gold.vF a.A), .int .u64 (Gold.vF a.B)] 63 (0, 0))) := Lib.hid (hr0)
    have ha := Lib.hid hha
    clear hb0 hr0 hha
    by_cases hk5 : k < 5
    · have hci12 : ((k : Int) < 5) := by omega
      go_upto_region 10 with fail
      refine wp_region_lit ?_
      refine wpList_run (by kernel_rfl) (.int .i64 (k : Int)) wo rfl ?_
      simp only [Act.put, List.setIfInBounds_toArray, List.set_cons_zero, List.set_cons_succ]
      refine wpList_run (by kernel_rfl) (.bool true) wo (xo_lssT .i64 (k : Int) 5 (by omega) rfl rfl rfl) ?_
      simp only [Act.put, List.setIfInBounds_toArray, List.set_cons_zero, List.set_cons_succ]
      refine wpList_nil ?_
      obtain ⟨zs, hx⟩ : ∃ zs, cols[k]? = some zs := ⟨_, List.getElem?_eq_getElem (by omega)⟩
      have hxl := (HSM.out zs (List.mem_of_getElem? hx)).1
      have HXB := Lib.hid (HSM.out zs (List.mem_of_getElem? hx)).2
      have hgD : cols.getD k [] = zs := by simp [List.getD_eq_getElem?_getD, hx]
      obtain ⟨q1, hq1⟩ : ∃ q, Gold.eqW k (ps.take 3) = q := ⟨_, rfl⟩
      obtain ⟨q2, hq2⟩ : ∃ q, Gold.mleE (Gold.liN zs) (ps.drop 3) = q := ⟨_, rfl⟩
      obtain ⟨q3, hq3⟩ : ∃ q, q1 * q2 = q := ⟨_, rfl⟩
      obtain ⟨q4, hq4⟩ : ∃ q, a + q3 = q := ⟨_, rfl⟩
      have HQ4 := Lib.hid (show q4 = Gold.sumE (k + 1) (Gold.shE cols ps) by rw [← hq4, ← hq3, ← hq1, ← hq2, ← hgD, ha.out]; rfl)
      have HQ1x := Lib.hid hq1
      have HQ2x := Lib.hid hq2
      have HQ3x := Lib.hid hq3
      have HQ4x := Lib.hid hq4
      have HXX := Lib.hid hx
      clear hx hgD hq1 hq2 hq3 hq4
      obtain ⟨⟨A3, m3, c3⟩, hh3⟩ : ∃ h, hs5[k]? = some h := ⟨_, List.getElem?_eq_getElem (by have := HC.out.len; have := (List.getElem?_eq_some_iff.1 HXX.out).1; omega)⟩
      have hrw3 := HC.out.row k _ _ hh3 HXX.out
      simp only at hrw3
      have hml3 : m3 = 8 := hrw3.len.symm.trans hxl
      rw [hml3] at hh3 hrw3
      have HE3 := Lib.hid hh3
      have HR3 := Lib.hid hrw3
      have hcp3 := hrw3.cap
      have htp3 := hrw3.top
      clear hh3 hrw3 hml3
      go_upto_region 12 with fail
      refine wp_region_lit ?_
      refine wpList_run (by kernel_rfl) (.slice A5 5 c5) wo rfl ?_
      simp only [Act.put, List.setIfInBounds_toArray, List.set_cons_zero, List.set_cons_succ]
      refine wpList_run (by kernel_rfl) (.int .i64 (k : Int)) wo rfl ?_
      simp only [Act.put, List.setIfInBounds_toArray, List.set_cons_zero, List.set_cons_succ]
      refine wpList_run (by kernel_rfl) (.pointer (some (gad A5 (k * 1)))) wo (xg_idx .i64 (Cols.head (HC.out.keep B0.out)) HE3.out Tryd.underlying38 (by kernel_rfl) rfl rfl rfl) ?_
      simp only [Act.put, List.setIfInBounds_toArray, List.set_cons_zero, List.set_cons_succ]
      refine wpList_run (by kernel_rfl) (.slice A3 8 c3) wo (xg_load1 (E := hdC) (i := k) (j := 0) (Cols.head (HC.out.keep B0.out)) HE3.out rfl rfl Tryd.underlying48 rfl rfl rfl) ?_
      simp only [Act.put, List.setIfInBounds_toArray, List.set_cons_zero, List.set_cons_succ]
      refine wpList_run (by kernel_rfl) (.int .i64 8) wo (xo_len A3 8 c3 Tryd.underlying48 rfl rfl) ?_
      simp only [Act.put, List.setIfInBounds_toArray, List.set_cons_zero, List.set_cons_succ]
      refine wpList_run (by kernel_rfl) (.bool false) wo (xo_neqF .i64 8 8 (by omega) rfl rfl rfl) ?_
      simp only [Act.put, List.setIfInBounds_toArray, List.set_cons_zero, List.set_cons_succ]
      refine wpList_nil ?_
      go_upto_region 14 with fail
      try simp only [List.append_eq, List.cons_append, List.nil_append]
      refine wp_ordM 15 (.q 0 (.q 1 (.q 2 (.q 3 (.q 5 (.q 6 (.q 7 (.q 8 (.q 10 (.q 11 (.one 4 (.one 9 (.one 12 (.one 13 (.one 14 .nil))))))))))))))) (by kernel_rfl) (by kernel_rfl) (by kernel_rfl) (by kernel_rfl) (by kernel_rfl) (by kernel_rfl) (by kernel_rfl) (fun V2 hb => ?_)
      have B1 := Lib.hid hb
      clear hb
      refine wpOT_q (.agg #[.int .u64 (Gold.vF a.A), .int .u64 (Gold.vF a.B)]) rfl (by kernel_rfl) (fun v hW => (xo_loadW b12 _ (heap_keep (heap_keep Fv6_12.out B1.out) hW) Tryd.underlying63 rfl (by kernel_rfl) rfl rfl)) ?_
      simp only [ptr, Act.put, List.setIfInBounds_toArray, List.set_cons_zero, List.set_cons_succ]
      refine wpOT_q (.int .i64 (k : Int)) rfl (by kernel_rfl) (fun v hW => rfl) ?_
      simp only [ptr, Act.put, List.setIfInBounds_toArray, List.set_cons_zero, List.set_cons_succ]
      refine wpOT_q (.slice A7 6 c7) rfl (by kernel_rfl) (fun v hW => rfl) ?_
      simp only [ptr, Act.put, List.setIfInBounds_toArray, List.set_cons_zero, List.set_cons_succ]
      refine wpOT_q (.slice A7 3 c7) rfl (by kernel_rfl) (fun v hW => (xo_take .i64 A7 6 c7 3 (by omega) Tryd.underlying60 (by kernel_rfl) rfl rfl rfl)) ?_
      simp only [ptr, Act.put, List.setIfInBounds_toArray, List.set_cons_zero, List.set_cons_succ]
      refine wpOT_q (.slice A5 5 c5) rfl (by kernel_rfl) (fun v hW => rfl) ?_
      simp only [ptr, Act.put, List.setIfInBounds_toArray, List.set_cons_zero, List.set_cons_succ]
      refine wpOT_q (.int .i64 (k : Int)) rfl (by kernel_rfl) (fun v hW => rfl) ?_
      simp only [ptr, Act.put, List.setIfInBounds_toArray, List.set_cons_zero, List.set_cons_succ]
      have C0_2 := Lib.hid (bel_step B0.out B1.out)
      refine wpOT_q (.pointer (some (gad A5 (k * 1)))) rfl (by kernel_rfl) (fun v hW => (xg_idx .i64 (Cols.head ((HC.out.keep C0_2.out).keep hW)) HE3.out Tryd.underlying38 (by kernel_rfl) rfl rfl rfl)) ?_
      simp only [ptr, Act.put, List.setIfInBounds_toArray, List.set_cons_zero, List.set_cons_succ]
      refine wpOT_q (.slice A3 8 c3) rfl (by kernel_rfl) (fun v hW => (xg_load1 (E := hdC) (i := k) (j := 0) (Cols.head ((HC.out.keep C0_2.out).keep hW)) HE3.out rfl rfl Tryd.underlying48 rfl rfl rfl)) ?_
      simp only [ptr, Act.put, List.setIfInBounds_toArray, List.set_cons_zero, List.set_cons_succ]
      refine wpOT_q (.slice A7 6 c7) rfl (by kernel_rfl) (fun v hW => rfl) ?_
      simp only [ptr, Act.put, List.setIfInBounds_toArray, List.set_cons_zero, List.set_cons_succ]
      refine wpOT_q (.slice (if c7 = 3 then A7 else A7.map (·.add (3 * 2))) 3 (c7 - 3)) rfl (by kernel_rfl) (fun v hW => (xo_drop .i64 A7 6 c7 3 2 (by omega) Tryd.underlying60 (by kernel_rfl) rfl rfl rfl)) ?_
      simp only [ptr, Act.put, List.setIfInBounds_toArray, List.set_cons_zero, List.set_cons_succ]
      refine wpOT_one rfl (by kernel_rfl) ?_
      refine hOp_call 38 Tryd.func38 (by kernel_rfl) (by kernel_rfl) _ _ #[.int .i64 (k : Int), .slice A7 3 c7] rfl (by kernel_rfl) ?_
      refine (xEqIndex k A7 3 c7 (ps.take 3) q1 HQ1x.out V2 (J.Sl.take (HP.out.keep C0_2.out) (k := 3) (by omega)) (by omega) (by omega)).mono ?_
      rintro e V3 ⟨rfl, hb⟩
      have B2 := Lib.hid hb
      clear hb 
      refine ⟨_, rfl, B2.out, ?_⟩
      simp only [ptr, Act.put, List.setIfInBounds_toArray, List.set_cons_zero, List.set_cons_succ]
      refine wpOT_one rfl (by kernel_rfl) ?_
      have C0_3 := Lib.hid (bel_step C0_2.out B2.out)
      refine hOp_call 40 Tryd.func40 (by kernel_rfl) (by kernel_rfl) _ _ #[.slice A3 8 c3] rfl (by kernel_rfl) ?_
      refine (xLift A3 8 c3 zs V3 (HR3.out.keep C0_3.out) (fun x hx => by have := HXB.out x hx; omega) (by omega)).mono ?_
      rintro e V4 ⟨Azl, czl, rfl, hsl, hb⟩
      have B3 := Lib.hid hb
      have HLzl := Lib.hid hsl
      clear hb hsl
      have C2_4 := Lib.hid (bel_step B2.out B3.out)
      refine ⟨_, rfl, C2_4.out, ?_⟩
      simp only [ptr, Act.put, List.setIfInBounds_toArray, List.set_cons_zero, List.set_cons_succ]
      refine wpOT_one rfl (by kernel_rfl) ?_
      have C0_4 := Lib.hid (bel_step C0_3.out B3.out)
      refine hOp_call 39 Tryd.func39 (by kernel_rfl) (by kernel_rfl) _ _ #[.slice Azl 8 czl, .slice (if c7 = 3 then A7 else A7.map (·.add (3 * 2))) 3 (c7 - 3)] rfl (by kernel_rfl) ?_
      refine (xEval Azl 8 czl (Gold.liN zs) (if c7 = 3 then A7 else A7.map (·.add (3 * 2))) 3 (c7 - 3) (ps.drop 3) q2 HQ2x.out V4 HLzl.out (J.Sl.drop (HP.out.keep C0_4.out) (k := 3) (by omega)) (by decide) (by omega)).mono ?_
      rintro e V5 ⟨rfl, hb⟩
      have B4 := Lib.hid hb
      clear hb 
      have C2_5 := Lib.hid (bel_step C2_4.out B4.out)
      refine ⟨_, rfl, C2_5.out, ?_⟩
      simp only [ptr, Act.put, List.setIfInBounds_toArray, List.set_cons_zero, List.set_cons_succ]
      refine wpOT_one rfl (by kernel_rfl) ?_
      refine hOp_call 37 Tryd.func37 (by kernel_rfl) (by kernel_rfl) _ _ #[.agg #[.int .u64 (Gold.vF q1.A), .int .u64 (Gold.vF q1.B)], .agg #[.int .u64 (Gold.vF q2.A), .int .u64 (Gold.vF q2.B)]] rfl (by kernel_rfl) ?_
      refine (xMul q1 q2 q3 HQ3x.out V5).mono ?_
      rintro e V6 ⟨rfl, hb⟩
      have B5 := Lib.hid hb
      clear hb 
      have C2_6 := Lib.hid (bel_step C2_5.out B5.out)
      refine ⟨_, rfl, C2_6.out, ?_⟩
      simp only [ptr, Act.put, List.setIfInBounds_toArray, List.set_cons_zero, List.set_cons_succ]
      refine wpOT_one rfl (by kernel_rfl) ?_
      refine hOp_call 36 Tryd.func36 (by kernel_rfl) (by kernel_rfl) _ _ #[.agg #[.int .u64 (Gold.vF a.A), .int .u64 (Gold.vF a.B)], .agg #[.int .u64 (Gold.vF q3.A), .int .u64 (Gold.vF q3.B)]] rfl (by kernel_rfl) ?_
      refine (xAdd a q3 q4 HQ4x.out V6).mono ?_
      rintro e V7 ⟨rfl, hb⟩
      have B6 := Lib.hid hb
      clear hb 
      have C2_7 := Lib.hid (bel_step C2_6.out B6.out)
      refine ⟨_, rfl, C2_7.out, ?_⟩
      simp only [ptr, Act.put, List.setIfInBounds_toArray, List.set_cons_zero, List.set_cons_succ]
      refine wpOT_nil ?_
      have C1_3 := Lib.hid (bel_step B1.out B2.out)
      have C1_4 := Lib.hid (bel_step C1_3.out B3.out)
      have C1_5 := Lib.hid (bel_step C1_4.out B4.out)
      have C1_6 := Lib.hid (bel_step C1_5.out B5.out)
      have C1_7 := Lib.hid (bel_step C1_6.out B6.out)
      have hfs := (heap_keep Fv6_12.out C1_7.out)
      have hgb := Ge5.out
      have C0_5 := Lib.hid (bel_step C0_4.out B4.out)
      have C0_6 := Lib.hid (bel_step C0_5.out B5.out)
      have C0_7 := Lib.hid (bel_step C0_6.out B6.out)
      have hbs := C0_7.out
      have hfar : ∀ k o, k ≠ b12 → V7.heap[k]? = some o → (V7.setRow b12 #[.int .u64 (Gold.vF q4.A), .int .u64 (Gold.vF q4.B)]).heap[k]? = some o := fun k o hk h0 => heap_farRow h0 hk _
      refine mOp_run0 _ rfl rfl (xo_storeW b12 #[.int .u64 (Gold.vF a.A), .int .u64 (Gold.vF a.B)] #[.int .u64 (Gold.vF q4.A), .int .u64 (Gold.vF q4.B)] hfs (by kernel_rfl) rfl (by simp [Value.oneCell']) rfl rfl rfl) ?_
      try simp only [List.getElem_toArray, List.getElem_cons_succ, List.getElem_cons_zero, ptr, Act.put, List.setIfInBounds_toArray, List.set_cons_zero, List.set_cons_succ]
      have hfn := setRow_heap V7 b12 _ #[.int .u64 (Gold.vF q4.A), .int .u64 (Gold.vF q4.B)] _ _ hfs
      have hbn := bel_setRow hbs hgb #[.int .u64 (Gold.vF q4.A), .int .u64 (Gold.vF q4.B)]
      clear hfar
      generalize V7.setRow b12 #[.int .u64 (Gold.vF q4.A), .int .u64 (Gold.vF q4.B)] = X13 at *
      have hbr := hbn
      clear B0
      have B0 := Lib.hid hbr
      clear hbr
      clear Fv6_12
      have Fv6_12 : Hid (X13.heap[b12]? = some (.cells #[.int .u64 (Gold.vF q4.A), .int .u64 (Gold.vF q4.B)] 63 (0, 0))) := Lib.hid hfn
      clear hfs hgb hbs hfn hbn
      go_upto_region 11 with fail
      refine wp_region_lit ?_
      refine wpList_run (by kernel_rfl) (.int .i64 (k : Int)) X13 rfl ?_
      simp only [Act.put, List.setIfInBounds_toArray, List.set_cons_zero, List.set_cons_succ]
      refine wpList_run (by kernel_rfl) (.int .i64 ((k + 1 : Nat) : Int)) X13 (xo_addI (k : Int) 1 ((k + 1 : Nat) : Int) (by omega) (by omega) (by omega) rfl rfl rfl) ?_
      simp only [Act.put, List.setIfInBounds_toArray, List.set_cons_zero, List.set_cons_succ]
      refine wpList_run (by kernel_rfl) (.int .i64 ((k + 1 : Nat) : Int)) X13 rfl ?_
      simp only [Act.put, List.setIfInBounds_toArray, List.set_cons_zero, List.set_cons_succ]
      refine wpList_nil ?_
      have hq14 := Fv6_12.out
      have hq15 := B0.out
      go_wp2_with fail
      go_roundw
      case rel => exact ⟨k + 1, q4, by omega, by go_num, HQ4.out, hq14, hq15⟩
      case measure => simp [intOf]; omega
    · have hci12 : ¬ ((k : Int) < 5) := by omega
      go_upto_region 10 with fail
      refine wp_region_lit ?_
      refine wpList_run (by kernel_rfl) (.int .i64 (k : Int)) wo rfl ?_
      simp only [Act.put, List.setIfInBounds_toArray, List.set_cons_zero, List.set_cons_succ]
      refine wpList_run (by kernel_rfl) (.bool false) wo (xo_lssF .i64 (k : Int) 5 (by omega) rfl rfl rfl) ?_
      simp only [Act.put, List.setIfInBounds_toArray, List.set_cons_zero, List.set_cons_succ]
      refine wpList_nil ?_
      have hk5' : k = 5 := by omega
      obtain ⟨qs, hqs⟩ : ∃ q, Gold.mleE (Gold.liN TL) ps = q := ⟨_, rfl⟩
      obtain rfl : a = qs := by rw [← hqs, ha.out, hk5', HTX.out]
      have HQS := Lib.hid hqs
      clear hqs
      go_upto_region 15 with fail
      refine wp_floatP [0, 1, 2, 3, 4, 5, 6, 7, 8, 9] (l' := [_, _, _, _, _, _, _, _, _, _]) (by kernel_rfl) (lexOK_of (by kernel_rfl) (by kernel_rfl)) (ordOK_of (by kernel_rfl) (by kernel_rfl)) rfl rfl ?_
      simp only [List.getElem_toArray, List.getElem_cons_succ, List.getElem_cons_zero]
      intro V2 hb hSW
      have B1 := Lib.hid hb
      have HF2 := Lib.hid hSW
      clear hb hSW
      refine wpF_seg 3 (by kernel_rfl) ?_
      simp only [List.take_succ_cons, List.take_zero, List.drop_succ_cons, List.drop_zero]
      refine wpQuiet_val (by kernel_rfl) (.bool true) (fun v hv => rfl) ?_
      simp only [Act.put, List.setIfInBounds_toArray, List.set_cons_zero, List.set_cons_succ]
      refine wpQuiet_val (by kernel_rfl) (.bool true) (fun v hv => rfl) ?_
      simp only [Act.put, List.setIfInBounds_toArray, List.set_cons_zero, List.set_cons_succ]
      refine wpQuiet_val (by kernel_rfl) (.slice (some ⟨g4, 0, none⟩) 64 64) (fun v hv => rfl) ?_
      simp only [Act.put, List.setIfInBounds_toArray, List.set_cons_zero, List.set_cons_succ]
      refine wpQuiet_nil ?_
      refine wpF_call 40 Tryd.func40 (by kernel_rfl) (by kernel_rfl) _ _ #[.slice (some ⟨g4, 0, none⟩) 64 64] rfl (by kernel_rfl) (by kernel_rfl) HF2.out (fun V3 hb => ?_)
      have B2 := Lib.hid hb
      have HF3 := Lib.hid (HF2.out.ext hb)
      clear hb
      have C0_2 := Lib.hid (bel_step B0.out B1.out)
      have C0_3 := Lib.hid (bel_step C0_2.out B2.out)
      refine (xLift (some ⟨g4, 0, none⟩) 64 64 TL V3 (HT.out.keep C0_3.out) HTS.out (by omega)).mono ?_
      rintro e V4 ⟨Awl, cwl, rfl, hsl, hb⟩
      have B3 := Lib.hid hb
      have HF4 := Lib.hid (HF3.out.ext hb)
      have HLwl := Lib.hid hsl
      refine ⟨_, rfl, hb, ?_⟩
      clear hb hsl
      simp only [Act.put, List.setIfInBounds_toArray, List.set_cons_zero, List.set_cons_succ]
      refine wpF_seg 1 (by kernel_rfl) ?_
      simp only [List.take_succ_cons, List.take_zero, List.drop_succ_cons, List.drop_zero]
      refine wpQuiet_val (by kernel_rfl) (.slice A7 6 c7) (fun v hv => rfl) ?_
      simp only [Act.put, List.setIfInBounds_toArray, List.set_cons_zero, List.set_cons_succ]
      refine wpQuiet_nil ?_
      refine wpF_call 39 Tryd.func39 (by kernel_rfl) (by kernel_rfl) _ _ #[.slice Awl 64 cwl, .slice A7 6 c7] rfl (by kernel_rfl) (by kernel_rfl) HF4.out (fun V5 hb => ?_)
      have B4 := Lib.hid hb
      have HF5 := Lib.hid (HF4.out.ext hb)
      clear hb
      have C0_4 := Lib.hid (bel_step C0_3.out B3.out)
      have C0_5 := Lib.hid (bel_step C0_4.out B4.out)
      refine (xEval Awl 64 cwl (Gold.liN TL) A7 6 c7 ps a HQS.out V5 (HLwl.out.keep B4.out) (HP.out.keep C0_5.out) (by decide) (by omega)).mono ?_
      rintro e V6 ⟨rfl, hb⟩
      have B5 := Lib.hid hb
      have HF6 := Lib.hid (HF5.out.ext hb)
      refine ⟨_, rfl, hb, ?_⟩
      clear hb 
      simp only [Act.put, List.setIfInBounds_toArray, List.set_cons_zero, List.set_cons_succ]
      refine wpF_seg 4 (by kernel_rfl) ?_
      simp only [List.take_succ_cons, List.take_zero, List.drop_succ_cons, List.drop_zero]
      refine wpQuiet_val (by kernel_rfl) (.agg #[.int .u64 (Gold.vF a.A), .int .u64 (Gold.vF a.B)]) (fun v hv => (xo_loadW b12 _ (heap_keep Fv6_12.out (laterF hv)) Tryd.underlying63 rfl (by kernel_rfl) rfl rfl)) ?_
      simp only [Act.put, List.setIfInBounds_toArray, List.set_cons_zero, List.set_cons_succ]
      refine wpQuiet_val (by kernel_rfl) (.bool true) (fun v hv => (exec_eqXt _ _ rfl rfl rfl)) ?_
      simp only [Act.put, List.setIfInBounds_toArray, List.set_cons_zero, List.set_cons_succ]
      refine wpQuiet_val (by kernel_rfl) (.bool true) (fun v hv => rfl) ?_
      simp only [Act.put, List.setIfInBounds_toArray, List.set_cons_zero, List.set_cons_succ]
      refine wpQuiet_val (by kernel_rfl) (.bool true) (fun v hv => rfl) ?_
      simp only [Act.put, List.setIfInBounds_toArray, List.set_cons_zero, List.set_cons_succ]
      refine wpQuiet_nil ?_
      refine wpF_nil (fun V7 hb => ?_)
      have B6 := Lib.hid hb
      clear hb
      clear HF2
      clear HF3
      clear HF4
      clear HF5
      clear HF6
      go_wp2_with fail
      go_ret
      have C0_6 := Lib.hid (bel_step C0_5.out B5.out)
      have C0_7 := Lib.hid (bel_step C0_6.out B6.out)
      exact ⟨rfl, HBV4.out.trans (C0_7.out.mono HBV4.out.size)⟩
end Go.Proofs.YtopicjdmajlndaaDoor
