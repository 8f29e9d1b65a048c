/- A law of stage 12: ReadingColumnsDetermineReadings. -/
import Derived.Test.YtopicjdmajlndaaDoorH18
namespace Go.Proofs.YtopicjdmajlndaaDoor
set_option linter.unusedVariables false
set_option linter.unusedSimpArgs false
set_option linter.unusedSectionVars false
set_option maxRecDepth 8000
open Go.RowKit Go.Proofs.YtopicjdmajlndaaDoor.K
attribute [local irreducible] wpList wpQuiet
theorem colsN_get {rs : List Rd} {gs : List Bool} {N j : Nat} (h : j < 5) : (colsN rs gs N)[j]? = some (colN rs gs N j) := by
  unfold colsN
  rw [List.getElem?_map, List.getElem?_range h]
  rfl
theorem colN_fld {rs : List Rd} {gs : List Bool} {m N i j : Nat} {r : Rd} (hm : rs.length = m) (hi : i < m) (hj : j < 4) (h : rs[i]? = some r) : (colN rs gs N j)[i]? = some (fldI r j).toNat := by
  unfold colN
  rw [if_pos hj, List.getElem?_append_left (by rw [List.length_map]; omega), List.getElem?_map, h]
  rfl
theorem colN_live {rs : List Rd} {gs : List Bool} {m N i : Nat} {g : Bool} (_hm : rs.length = m) (hg : gs.length = m) (hi : i < m) (h : gs[i]? = some g) : (colN rs gs N 4)[i]? = some (if g then 0 else 1) := by
  unfold colN
  rw [if_neg (by omega), List.getElem?_append_left (by rw [List.length_map]; omega), List.getElem?_map, h]
  rfl
theorem colN_zero {rs : List Rd} {gs : List Bool} {m N i j : Nat} (hm : rs.length = m) (hg : gs.length = m) (hi : m ≤ i) (hN : i < N) : (colN rs gs N j)[i]? = some 0 := by
  unfold colN
  split
  · rw [List.getElem?_append_right (by rw [List.length_map]; omega), List.getElem?_replicate, if_pos (by rw [List.length_map]; omega)]
  · rw [List.getElem?_append_right (by rw [List.length_map]; omega), List.getElem?_replicate, if_pos (by rw [List.length_map]; omega)]
theorem colsN_back {rs : List Rd} {gs : List Bool} {m N k : Nat} {c4 : List Nat} (hm : rs.length = m) (hg : gs.length = m) (h4 : colN rs (gs.set k true) N 4 = c4) (hk : gs[k]? = some false) : (colsN rs (gs.set k true) N).set 4 (c4.set k 1) = colsN rs gs N := by
  subst h4
  unfold colsN
  rw [set_tabA]
  refine List.map_congr_left fun q hq => ?_
  rw [List.mem_range] at hq
  by_cases e : q = 4
  · subst e
    rw [if_pos rfl]
    have hlt := (List.getElem?_eq_some_iff.1 hk).1
    unfold colN
    rw [if_neg (by omega), if_neg (by omega), List.set_append_left _ _ (by rw [List.length_map, List.length_set]; exact hlt), List.length_set]
    congr 1
    apply List.ext_getElem?
    intro i
    rw [List.getElem?_set, List.getElem?_map, List.getElem?_map, List.getElem?_set]
    by_cases e2 : k = i
    · subst e2
      rw [if_pos rfl, if_pos (by rw [List.length_map, List.length_set]; exact hlt), hk]
      rfl
    · rw [if_neg e2, if_neg e2]
  · rw [if_neg e]
    have h4 : q < 4 := by omega
    unfold colN
    rw [if_pos h4, if_pos h4]
theorem RowsU.notin {w : World} {t u : TypeId} {base g : Nat} {bs : List Nat} {xss : List (List Nat)} {cs : Array Value} (h : RowsU w t base bs xss) (hg : w.heap[g]? = some (.cells cs u (0, 0))) (hne : u ≠ t) : g ∉ bs := fun hm => by
  obtain ⟨i, hi, e⟩ := List.mem_iff_getElem.1 hm
  have h2 := h.row i g _ (by rw [List.getElem?_eq_getElem hi, e]) (List.getElem?_eq_getElem (by rw [← h.len]; exact hi))
  exact ne_types hg h2 hne rfl
theorem Cols.patch {W : World} {base N gh g c9 b0 : Nat} {bs : List Nat} {xss : List (List Nat)} {ys : List Nat} (hu : RowsU W 50 base bs xss) (hg : RowG hdC W gh 48 ((bs.map (mkH N)).set 4 (Hd.mk (some ⟨g, 0, none⟩) N c9))) (ho : W.ownsRow b0 50 1 (.slice (some ⟨g, 0, none⟩) N c9) N (fl wdC ys))
    (hN : ∀ xs ∈ xss, xs.length = N) (hl : bs.length = 5) (hN2 : N ≤ 9223372036854775807) : Cols W (some ⟨gh, 0, none⟩) 5 5 ((bs.map (mkH N)).set 4 (Hd.mk (some ⟨g, 0, none⟩) N c9)) (xss.set 4 ys) :=
  ⟨RowG.sg hg (by rw [List.length_set, List.length_map, hl]) (Nat.le_refl _) (by omega), by rw [List.length_set, List.length_set, List.length_map, hu.len], fun i d xs hi hx => by
    by_cases e : i = 4
    · subst e
      rw [List.getElem?_set_self (by rw [List.length_map, hl]; omega)] at hi
      rw [List.getElem?_set_self (by rw [← hu.len, hl]; omega)] at hx
      injection hi with hi
      injection hx with hx
      subst hi hx
      exact Sg.ownS ho
    · rw [List.getElem?_set_ne (Ne.symm e)] at hi hx
      exact RowsU.hdrow hu hN hN2 hi hx⟩
theorem rlive_as (A : Option Addr) (n c : Nat) (rs : List Rd) (B : Option Addr) (d : Nat) (gs : List Bool) (hn : n ≤ 65536) (l : List Rd) (hl : liveL rs gs = l) (k : Nat) (hk : l.length = k) (w : World) (hL : Sg rdC 4 w A n c rs) (hG : Sg boC 1 w B n d gs) :
    Calls Tryd.prog 33 #[.agg #[.slice A n c, .slice B n d]] w fun e w' => ∃ A2 c2, e = .returned (.slice A2 k c2) ∧ Sg rdC 4 w' A2 k c2 l ∧ Below w.heap.size w w' := by
  subst hl hk
  exact rlive_any A n c rs B d gs hn w hL hG
set_option maxRecDepth 100000 in
set_option maxHeartbeats 16000000 in
theorem rColumns_any (A : Option Addr) (n c : Nat) (ops : List Opn) (hby : ∀ o ∈ ops, o.b0 < 256 ∧ o.b1 < 256 ∧ o.b2 < 256) (at_ : Nat) (hat : at_ < 256) (w : World) (hM : Sg opC 4 w A n c ops) (hW : Gw w) :
    Calls Tryd.prog 6 #[.slice A n c, .int .u8 (at_ : Int)] w fun e w' => e = .returned (.bool true) ∧ Below w.heap.size w w' := by
  have HW := Lib.hid hW
  have HM := Lib.hid hM
  have HBY := Lib.hid hby
  clear hW hM hby
  go_enter Tryd.func6, Tryd.ntmps6
  go_upto_region 1 with fail
  refine wp_region_lit ?_
  refine wpList_call (by kernel_rfl) 10 Tryd.func10 (by kernel_rfl) (by kernel_rfl) _ _ #[] rfl (by kernel_rfl) ?_
  refine (sanity12_any w HW.out).mono ?_
  rintro e V1 ⟨rfl, hb⟩
  have B0 := Lib.hid hb
  clear hb 
  refine ⟨_, rfl, ?_⟩
  simp only [Act.put, List.setIfInBounds_toArray, List.set_cons_zero, List.set_cons_succ]
  refine wpList_run (by kernel_rfl) (.bool true) V1 rfl ?_
  simp only [Act.put, List.setIfInBounds_toArray, List.set_cons_zero, List.set_cons_succ]
  refine wpList_nil ?_
  go_upto_region 2 with fail
  refine wp_region_lit ?_
  refine wpList_run (by kernel_rfl) (.slice A n c) V1 rfl ?_
  simp only [Act.put, List.setIfInBounds_toArray, List.set_cons_zero, List.set_cons_succ]
  refine wpList_call (by kernel_rfl) 11 Tryd.func11 (by kernel_rfl) (by kernel_rfl) _ _ #[.slice A n c, .int .i64 16] rfl (by kernel_rfl) ?_
  refine (rmade_any A n c ops 16 (by omega) HBY.out V1 (HM.out.keep B0.out)).mono ?_
  rintro e V2 ⟨rs, gs, m, A2, c2, E2, d2, rfl, hmd, hst, hs1, hs2, hb⟩
  have B1 := Lib.hid hb
  have HL := Lib.hid hs1
  have HG := Lib.hid hs2
  clear hb hs1 hs2
  refine ⟨_, rfl, ?_⟩
  simp only [Act.put, List.setIfInBounds_toArray, List.set_cons_zero, List.set_cons_succ]
  refine wpList_new #[.slice none 0 0, .slice none 0 0] 30 (by kernel_rfl) (xo_alloc #[.slice none 0 0, .slice none 0 0] (by kernel_rfl) rfl) ?_
  intro b6 V3 hge h0 hb
  have Ge0 : Hid (V2.heap.size ≤ b6) := Lib.hid hge
  have B2 := Lib.hid hb
  have Fv1_6 : Hid (V3.heap[b6]? = some (.cells #[.slice none 0 0, .slice none 0 0] 30 (0, 0))) := Lib.hid (h0)
  have Lt2 : Hid (b6 < V3.heap.size) := Lib.hid (xp_lt Fv1_6.out)
  clear hge h0 hb
  simp only [ptr, Act.put, List.setIfInBounds_toArray, List.set_cons_zero, List.set_cons_succ]
  refine wpList_storeW b6 #[.slice none 0 0, .slice none 0 0] #[.slice A2 m c2, .slice E2 m d2] 30 (by kernel_rfl) Fv1_6.out (xo_storeW b6 #[.slice none 0 0, .slice none 0 0] #[.slice A2 m c2, .slice E2 m d2] Fv1_6.out (by kernel_rfl) rfl (by simp [Value.oneCell']) rfl rfl rfl) ?_
  intro X3_3 h1 hfar hbel hsz
  have hbr := hbel _ _ Ge0.out B2.out
  clear B2
  have B2 := Lib.hid hbr
  clear hbr
  clear Fv1_6
  have Fv1_6 : Hid (X3_3.heap[b6]? = some (.cells #[.slice A2 m c2, .slice E2 m d2] 30 (0, 0))) := Lib.hid (h1)
  have HszX3_3 := Lib.hid hsz
  clear h1 hfar hbel hsz
  simp only [ptr, Act.put, List.setIfInBounds_toArray, List.set_cons_zero, List.set_cons_succ]
  refine wpList_nil ?_
  have hmr := HL.out.len
  have hmg := HG.out.len
  have hmm := hst.most
  have HST := Lib.hid hst
  clear hmd hst
  have hm24 : m ≤ 2 ^ 4 := by omega
  go_upto_region 3 with fail
  refine wp_region_lit ?_
  refine wpList_run (by kernel_rfl) (.agg #[.slice A2 m c2, .slice E2 m d2]) X3_3 (xo_loadW b6 _ Fv1_6.out Tryd.underlying30 rfl (by kernel_rfl) rfl rfl) ?_
  simp only [Act.put, List.setIfInBounds_toArray, List.set_cons_zero, List.set_cons_succ]
  refine wpList_call (by kernel_rfl) 19 Tryd.func19 (by kernel_rfl) (by kernel_rfl) _ _ #[.agg #[.slice A2 m c2, .slice E2 m d2], .int .i64 4] rfl (by kernel_rfl) ?_
  refine (cols_yesC A2 m c2 rs E2 d2 gs 4 (by omega) hm24 HST.out.ok X3_3 (HL.out.keep B2.out) (HG.out.keep B2.out)).mono ?_
  rintro e V4 ⟨A5, c5, rfl, ⟨hs5, hc0⟩, hb⟩
  have B3 := Lib.hid hb
  have HC := Lib.hid hc0
  clear hb hc0
  refine ⟨_, rfl, ?_⟩
  simp only [Act.put, List.setIfInBounds_toArray, List.set_cons_zero, List.set_cons_succ]
  refine wpList_run (by kernel_rfl) (.tuple #[.slice A5 5 c5, .int .i64 0]) V4 rfl ?_
  simp only [Act.put, List.setIfInBounds_toArray, List.set_cons_zero, List.set_cons_succ]
  refine wpList_run (by kernel_rfl) (.slice A5 5 c5) V4 rfl ?_
  simp only [Act.put, List.setIfInBounds_toArray, List.set_cons_zero, List.set_cons_succ]
  refine wpList_run (by kernel_rfl) (.int .i64 0) V4 rfl ?_
  simp only [Act.put, List.setIfInBounds_toArray, List.set_cons_zero, List.set_cons_succ]
  refine wpList_run (by kernel_rfl) (.slice A5 5 c5) V4 rfl ?_
  simp only [Act.put, List.setIfInBounds_toArray, List.set_cons_zero, List.set_cons_succ]
  refine wpList_run (by kernel_rfl) (.int .i64 0) V4 rfl ?_
  simp only [Act.put, List.setIfInBounds_toArray, List.set_cons_zero, List.set_cons_succ]
  refine wpList_nil ?_
  go_upto_region 4 with fail
  refine wp_region_lit ?_
  refine wpList_run (by kernel_rfl) (.int .i64 0) V4 rfl ?_
  simp only [Act.put, List.setIfInBounds_toArray, List.set_cons_zero, List.set_cons_succ]
  refine wpList_run (by kernel_rfl) (.bool false) V4 (xo_neqF .i64 0 0 (by omega) rfl rfl rfl) ?_
  simp only [Act.put, List.setIfInBounds_toArray, List.set_cons_zero, List.set_cons_succ]
  refine wpList_run (by kernel_rfl) (.bool false) V4 rfl ?_
  simp only [Act.put, List.setIfInBounds_toArray, List.set_cons_zero, List.set_cons_succ]
  refine wpList_run (by kernel_rfl) (.slice A5 5 c5) V4 rfl ?_
  simp only [Act.put, List.setIfInBounds_toArray, List.set_cons_zero, List.set_cons_succ]
  refine wpList_run (by kernel_rfl) (.int .i64 5) V4 (xo_len A5 5 c5 Tryd.underlying38 rfl rfl) ?_
  simp only [Act.put, List.setIfInBounds_toArray, List.set_cons_zero, List.set_cons_succ]
  refine wpList_run (by kernel_rfl) (.bool false) V4 (xo_neqF .i64 5 5 (by omega) rfl rfl rfl) ?_
  simp only [Act.put, List.setIfInBounds_toArray, List.set_cons_zero, List.set_cons_succ]
  refine wpList_run (by kernel_rfl) (.bool false) V4 rfl ?_
  simp only [Act.put, List.setIfInBounds_toArray, List.set_cons_zero, List.set_cons_succ]
  refine wpList_nil ?_
  have C0_2 := Lib.hid (bel_step B0.out B1.out)
  have C0_3 := Lib.hid (bel_step C0_2.out B2.out)
  have C0_4 := Lib.hid (bel_step C0_3.out B3.out)
  have HBV4 := Lib.hid C0_4.out
  have YHC := HC.out
  have C2_4 := Lib.hid (bel_step B2.out B3.out)
  have YHL := (HL.out.keep C2_4.out)
  have YHG := (HG.out.keep C2_4.out)
  have YHW := (HW.out.keep C0_4.out)
  have YFv1_6 := (heap_keep Fv1_6.out B3.out)
  clear HC
  have HC := Lib.hid YHC
  clear YHC
  clear HL
  have HL := Lib.hid YHL
  clear YHL
  clear HG
  have HG := Lib.hid YHG
  clear YHG
  clear HW
  have HW := Lib.hid YHW
  clear YHW
  clear Fv1_6
  have Fv1_6 := Lib.hid YFv1_6
  clear YFv1_6
  obtain ⟨VB4, rfl⟩ : ∃ VB4 : World, VB4 = V4 := ⟨_, rfl⟩
  have h5c := HC.out.head.cap
  have h5t := HC.out.head.top
  obtain ⟨⟨Ax0, mx0, cx0⟩, hh⟩ : ∃ h, hs5[0]? = some h := ⟨_, List.getElem?_eq_getElem (by have := HC.out.len; rw [this]; simp [colsN])⟩
  have hrw := HC.out.row 0 _ _ hh (colsN_get (by omega))
  simp only at hrw
  obtain rfl : mx0 = 16 := hrw.len.symm.trans (colN_length hmr hmg hm24)
  have HE0 := Lib.hid hh
  have HR0 := Lib.hid hrw
  have hcx0 := hrw.cap
  have htx0 := hrw.top
  clear hh hrw
  obtain ⟨⟨Ax1, mx1, cx1⟩, hh⟩ : ∃ h, hs5[1]? = some h := ⟨_, List.getElem?_eq_getElem (by have := HC.out.len; rw [this]; simp [colsN])⟩
  have hrw := HC.out.row 1 _ _ hh (colsN_get (by omega))
  simp only at hrw
  obtain rfl : mx1 = 16 := hrw.len.symm.trans (colN_length hmr hmg hm24)
  have HE1 := Lib.hid hh
  have HR1 := Lib.hid hrw
  have hcx1 := hrw.cap
  have htx1 := hrw.top
  clear hh hrw
  obtain ⟨⟨Ax2, mx2, cx2⟩, hh⟩ : ∃ h, hs5[2]? = some h := ⟨_, List.getElem?_eq_getElem (by have := HC.out.len; rw [this]; simp [colsN])⟩
  have hrw := HC.out.row 2 _ _ hh (colsN_get (by omega))
  simp only at hrw
  obtain rfl : mx2 = 16 := hrw.len.symm.trans (colN_length hmr hmg hm24)
  have HE2 := Lib.hid hh
  have HR2 := Lib.hid hrw
  have hcx2 := hrw.cap
  have htx2 := hrw.top
  clear hh hrw
  obtain ⟨⟨Ax3, mx3, cx3⟩, hh⟩ : ∃ h, hs5[3]? = some h := ⟨_, List.getElem?_eq_getElem (by have := HC.out.len; rw [this]; simp [colsN])⟩
  have hrw := HC.out.row 3 _ _ hh (colsN_get (by omega))
  simp only at hrw
  obtain rfl : mx3 = 16 := hrw.len.symm.trans (colN_length hmr hmg hm24)
  have HE3 := Lib.hid hh
  have HR3 := Lib.hid hrw
  have hcx3 := hrw.cap
  have htx3 := hrw.top
  clear hh hrw
  obtain ⟨⟨Ax4, mx4, cx4⟩, hh⟩ : ∃ h, hs5[4]? = some h := ⟨_, List.getElem?_eq_getElem (by have := HC.out.len; rw [this]; simp [colsN])⟩
  have hrw := HC.out.row 4 _ _ hh (colsN_get (by omega))
  simp only at hrw
  obtain rfl : mx4 = 16 := hrw.len.symm.trans (colN_length hmr hmg hm24)
  have HE4 := Lib.hid hh
  have HR4 := Lib.hid hrw
  have hcx4 := hrw.cap
  have htx4 := hrw.top
  clear hh hrw
  go_upto_region 6 with fail
  refine wp_region_lit ?_
  refine wpList_run (by kernel_rfl) (.int .i64 0) VB4 rfl ?_
  simp only [Act.put, List.setIfInBounds_toArray, List.set_cons_zero, List.set_cons_succ]
  refine wpList_nil ?_
  have O5 := (Below.refl VB4.heap.size VB4)
  have B0 := Lib.hid (Below.refl VB4.heap.size VB4)
  go_wp2_with fail
  go_loopw [9] (fun p wr => ∃ k : Nat, k ≤ 5 ∧ p = .int .i64 k ∧ Below VB4.heap.size VB4 wr) (fun p _ => 5 - (intOf p).toNat)
  case atStart => exact ⟨0, Nat.zero_le _, rfl, O5⟩
  case round =>
    clear O5
    obtain ⟨wk, rfl⟩ : ∃ wk : World, wk = wr := ⟨_, rfl⟩
    obtain ⟨k, hi, rfl, hb0⟩ := hrel
    have hbr := hb0
    clear B0
    have B0 := Lib.hid hbr
    clear hbr
    clear hb0 
    by_cases hk5 : k < 5
    · have hci7 : ((k : Int) < 5) := by omega
      obtain ⟨⟨Ay, my, cy⟩, hh⟩ : ∃ h, hs5[k]? = some h := ⟨_, List.getElem?_eq_getElem (by have := HC.out.len; rw [this]; simp [colsN]; exact hk5)⟩
      have hrw := HC.out.row k _ _ hh (colsN_get hk5)
      simp only at hrw
      obtain rfl : my = 16 := hrw.len.symm.trans (colN_length hmr hmg hm24)
      have HEy := Lib.hid hh
      have HRy := Lib.hid hrw
      clear hh hrw
      go_upto_region 7 with fail
      refine wp_region_lit ?_
      refine wpList_run (by kernel_rfl) (.int .i64 (k : Int)) wk rfl ?_
      simp only [Act.put, List.setIfInBounds_toArray, List.set_cons_zero, List.set_cons_succ]
      refine wpList_run (by kernel_rfl) (.bool true) wk (xo_lssT .i64 (k : Int) 5 (by omega) rfl rfl rfl) ?_
      simp only [Act.put, List.setIfInBounds_toArray, List.set_cons_zero, List.set_cons_succ]
      refine wpList_nil ?_
      go_upto_region 9 with fail
      refine wp_region_lit ?_
      refine wpList_run (by kernel_rfl) (.slice A5 5 c5) wk rfl ?_
      simp only [Act.put, List.setIfInBounds_toArray, List.set_cons_zero, List.set_cons_succ]
      refine wpList_run (by kernel_rfl) (.int .i64 (k : Int)) wk rfl ?_
      simp only [Act.put, List.setIfInBounds_toArray, List.set_cons_zero, List.set_cons_succ]
      refine wpList_run (by kernel_rfl) (.pointer (some (gad A5 (k * 1)))) wk (xg_idx .i64 (Cols.head (HC.out.keep B0.out)) HEy.out Tryd.underlying38 (by kernel_rfl) rfl rfl rfl) ?_
      simp only [Act.put, List.setIfInBounds_toArray, List.set_cons_zero, List.set_cons_succ]
      refine wpList_run (by kernel_rfl) (.slice Ay 16 cy) wk (xg_load1 (E := hdC) (i := k) (j := 0) (Cols.head (HC.out.keep B0.out)) HEy.out rfl rfl Tryd.underlying48 rfl rfl rfl) ?_
      simp only [Act.put, List.setIfInBounds_toArray, List.set_cons_zero, List.set_cons_succ]
      refine wpList_run (by kernel_rfl) (.int .i64 16) wk (xo_len Ay 16 cy Tryd.underlying48 rfl rfl) ?_
      simp only [Act.put, List.setIfInBounds_toArray, List.set_cons_zero, List.set_cons_succ]
      refine wpList_run (by kernel_rfl) (.bool false) wk (xo_neqF .i64 16 16 (by omega) rfl rfl rfl) ?_
      simp only [Act.put, List.setIfInBounds_toArray, List.set_cons_zero, List.set_cons_succ]
      refine wpList_nil ?_
      go_upto_region 8 with fail
      refine wp_region_lit ?_
      refine wpList_run (by kernel_rfl) (.int .i64 (k : Int)) wk rfl ?_
      simp only [Act.put, List.setIfInBounds_toArray, List.set_cons_zero, List.set_cons_succ]
      refine wpList_run (by kernel_rfl) (.int .i64 ((k + 1 : Nat) : Int)) wk (xo_addI (k : Int) 1 ((k + 1 : Nat) : Int) (by omega) (by omega) (by omega) rfl rfl rfl) ?_
      simp only [Act.put, List.setIfInBounds_toArray, List.set_cons_zero, List.set_cons_succ]
      refine wpList_run (by kernel_rfl) (.int .i64 ((k + 1 : Nat) : Int)) wk rfl ?_
      simp only [Act.put, List.setIfInBounds_toArray, List.set_cons_zero, List.set_cons_succ]
      refine wpList_nil ?_
      have hq8 := B0.out
      go_wp2_with fail
      go_roundw
      case rel => exact ⟨k + 1, by omega, by go_num, hq8⟩
      case measure => simp [intOf]; omega
    · have hci7 : ¬ ((k : Int) < 5) := by omega
      go_upto_region 7 with fail
      refine wp_region_lit ?_
      refine wpList_run (by kernel_rfl) (.int .i64 (k : Int)) wk rfl ?_
      simp only [Act.put, List.setIfInBounds_toArray, List.set_cons_zero, List.set_cons_succ]
      refine wpList_run (by kernel_rfl) (.bool false) wk (xo_lssF .i64 (k : Int) 5 (by omega) rfl rfl rfl) ?_
      simp only [Act.put, List.setIfInBounds_toArray, List.set_cons_zero, List.set_cons_succ]
      refine wpList_nil ?_
      go_upto_region 11 with fail
      refine wp_region_lit ?_
      refine wpList_mk (by kernel_rfl) #[] 24 0 0 (xo_empty (size := 4) Tryd.underlying27 (by kernel_rfl) rfl wk) ?_
      intro g44 V2 hge h0 hb
      have hge2 := Nat.le_trans B0.out.size hge
      have B1 := Lib.hid hb
      have Ow44 : Hid (V2.ownsRow VB4.heap.size 24 4 (.slice (some ⟨g44, 0, none⟩) 0 0) 0 (fl rdC [])) := Lib.hid (own_new h0 hge2)
      clear hge hge2 h0 hb
      simp only [ptr, Act.put, List.setIfInBounds_toArray, List.set_cons_zero, List.set_cons_succ]
      refine wpList_run (by kernel_rfl) (.slice (some ⟨g44, 0, none⟩) 0 0) V2 rfl ?_
      simp only [Act.put, List.setIfInBounds_toArray, List.set_cons_zero, List.set_cons_succ]
      refine wpList_nil ?_
      go_upto_region 12 with fail
      refine wp_region_lit ?_
      refine wpList_run (by kernel_rfl) (.int .i64 0) V2 rfl ?_
      simp only [Act.put, List.setIfInBounds_toArray, List.set_cons_zero, List.set_cons_succ]
      refine wpList_nil ?_
      have O8 := Ow44.out
      have C0_2 := Lib.hid (bel_step B0.out B1.out)
      have O9 := C0_2.out
      go_wp2_with fail
      go_loopw [10, 11] (fun v p wr => ∃ i : Nat, ∃ nq : Nat, i ≤ 16 ∧ p = .int .i64 i ∧ nq ≤ i ∧ wr.ownsRow VB4.heap.size 24 4 v nq (fl rdC (liveL (rs.take i) (gs.take i))) ∧ Below VB4.heap.size VB4 wr) (fun _ p _ => 16 - (intOf p).toNat)
      case atStart => exact ⟨0, 0, Nat.zero_le _, rfl, Nat.le_refl _, O8, O9⟩
      case round =>
        clear O9 O8
        obtain ⟨wi, rfl⟩ : ∃ wi : World, wi = wr := ⟨_, rfl⟩
        obtain ⟨i, nq, hi, rfl, hhnq, hOW, hb0⟩ := hrel
        have hbr := hb0
        clear B0
        have B0 := Lib.hid hbr
        clear hbr
        have hnq := Lib.hid hhnq
        have OW := Lib.hid hOW
        clear hb0 hhnq hOW
        have hnqi := hnq.out
        by_cases hi16 : i < 16
        · have hci11 : ((i : Int) < 16) := by omega
          go_upto_region 13 with fail
          refine wp_region_lit ?_
          refine wpList_run (by kernel_rfl) (.int .i64 (i : Int)) wi rfl ?_
          simp only [Act.put, List.setIfInBounds_toArray, List.set_cons_zero, List.set_cons_succ]
          refine wpList_run (by kernel_rfl) (.bool true) wi (xo_lssT .i64 (i : Int) 16 (by omega) rfl rfl rfl) ?_
          simp only [Act.put, List.setIfInBounds_toArray, List.set_cons_zero, List.set_cons_succ]
          refine wpList_nil ?_
          by_cases him : i < m
          · obtain ⟨r, hr⟩ : ∃ r, rs[i]? = some r := ⟨_, List.getElem?_eq_getElem (by omega)⟩
            obtain ⟨g, hg⟩ : ∃ g, gs[i]? = some g := ⟨_, List.getElem?_eq_getElem (by omega)⟩
            have hvr := HST.out.ok r (List.mem_of_getElem? hr)
            have HT := Lib.hid (liveL_take hr hg)
            have HRR := Lib.hid hr
            have HGG := Lib.hid hg
            clear hr hg
            have hvv := vR_iff.1 hvr
            obtain ⟨⟨hv0, hv1⟩, ⟨hv2, hv3⟩, ⟨hv4, hv5⟩, hv6, hv7⟩ := hvv
            clear hvr
            cases g with
            | false =>
              have hg4 : (colN rs gs (2 ^ 4) 4)[i]? = some 1 := colN_live hmr hmg him HGG.out
              have HG4 := Lib.hid hg4
              clear hg4
              go_upto_region 15 with fail
              refine wp_region_lit ?_
              refine wpList_run (by kernel_rfl) (.slice A5 5 c5) wi rfl ?_
              simp only [Act.put, List.setIfInBounds_toArray, List.set_cons_zero, List.set_cons_succ]
              refine wpList_run (by kernel_rfl) (.pointer (some (gad A5 (4 * 1)))) wi (xg_idx .i64 (Cols.head (HC.out.keep B0.out)) HE4.out Tryd.underlying38 (by kernel_rfl) rfl rfl rfl) ?_
              simp only [Act.put, List.setIfInBounds_toArray, List.set_cons_zero, List.set_cons_succ]
              refine wpList_run (by kernel_rfl) (.slice Ax4 16 cx4) wi (xg_load1 (E := hdC) (i := 4) (j := 0) (Cols.head (HC.out.keep B0.out)) HE4.out rfl rfl Tryd.underlying48 rfl rfl rfl) ?_
              simp only [Act.put, List.setIfInBounds_toArray, List.set_cons_zero, List.set_cons_succ]
              refine wpList_run (by kernel_rfl) (.int .i64 (i : Int)) wi rfl ?_
              simp only [Act.put, List.setIfInBounds_toArray, List.set_cons_zero, List.set_cons_succ]
              refine wpList_run (by kernel_rfl) (.pointer (some (gad Ax4 (i * 1)))) wi (xg_idx .i64 (HR4.out.keep B0.out) HG4.out Tryd.underlying48 (by kernel_rfl) rfl rfl rfl) ?_
              simp only [Act.put, List.setIfInBounds_toArray, List.set_cons_zero, List.set_cons_succ]
              refine wpList_run (by kernel_rfl) (.int .u64 1) wi (xg_load1 (E := wdC) (i := i) (j := 0) (HR4.out.keep B0.out) HG4.out rfl rfl Tryd.underlying50 rfl rfl rfl) ?_
              simp only [Act.put, List.setIfInBounds_toArray, List.set_cons_zero, List.set_cons_succ]
              refine wpList_run (by kernel_rfl) (.bool true) wi (xo_eqlT .u64 1 1 (by omega) rfl rfl rfl) ?_
              simp only [Act.put, List.setIfInBounds_toArray, List.set_cons_zero, List.set_cons_succ]
              refine wpList_nil ?_
              have HF0 : Hid ((colN rs gs (2 ^ 4) 0)[i]? = some (r.who).toNat) := Lib.hid (colN_fld hmr him (by omega) HRR.out)
              have HF1 : Hid ((colN rs gs (2 ^ 4) 1)[i]? = some (r.when_).toNat) := Lib.hid (colN_fld hmr him (by omega) HRR.out)
              have HF2 : Hid ((colN rs gs (2 ^ 4) 2)[i]? = some (r.kind).toNat) := Lib.hid (colN_fld hmr him (by omega) HRR.out)
              have HF3 : Hid ((colN rs gs (2 ^ 4) 3)[i]? = some (r.value).toNat) := Lib.hid (colN_fld hmr him (by omega) HRR.out)
              go_upto_region 16 with fail
              try simp only [List.append_eq, List.cons_append, List.nil_append]
              refine wp_ordT (fun W => Below VB4.heap.size VB4 W) (.q 0 (.q 1 (.q 2 (.q 3 (.q 4 (.q 5 (.q 6 (.q 7 (.q 8 (.q 9 (.q 10 (.q 11 (.q 12 (.q 13 (.q 14 (.q 15 (.q 16 (.q 17 (.q 18 (.q 19 (.q 20 (.q 21 (.q 22 (.q 23 (.q 24 (.q 25 (.q 26 (.q 27 (.q 28 (.q 29 (.one 30 (.one 31 (.q 32 .nil))))))))))))))))))))))))))))))))) (by kernel_rfl) (by kernel_rfl) (fun _ _ dt _ _ h => by first | exact h.elim | (cases dt <;> exact h)) (by kernel_rfl) (by kernel_rfl) B0.out.drew ?_
              have hb : Below wi.heap.size wi wi.drew := (Below.refl _ _).drew
              generalize wi.drew = V2 at hb ⊢
              have B1 := Lib.hid hb
              clear hb
              refine wpOT_q (u10) rfl (by kernel_rfl) (fun v hW => rfl) ?_
              simp only [ptr, Act.put, List.setIfInBounds_toArray, List.set_cons_zero, List.set_cons_succ]
              refine wpOT_q (.slice A5 5 c5) rfl (by kernel_rfl) (fun v hW => rfl) ?_
              simp only [ptr, Act.put, List.setIfInBounds_toArray, List.set_cons_zero, List.set_cons_succ]
              refine wpOT_q (.pointer (some (gad A5 (0 * 1)))) rfl (by kernel_rfl) (fun v hW => (xg_idx .i64 (Cols.head (HC.out.keep hW)) HE0.out Tryd.underlying38 (by kernel_rfl) rfl rfl rfl)) ?_
              simp only [ptr, Act.put, List.setIfInBounds_toArray, List.set_cons_zero, List.set_cons_succ]
              refine wpOT_q (.slice Ax0 16 cx0) rfl (by kernel_rfl) (fun v hW => (xg_load1 (E := hdC) (i := 0) (j := 0) (Cols.head (HC.out.keep hW)) HE0.out rfl rfl Tryd.underlying48 rfl rfl rfl)) ?_
              simp only [ptr, Act.put, List.setIfInBounds_toArray, List.set_cons_zero, List.set_cons_succ]
              refine wpOT_q (.int .i64 (i : Int)) rfl (by kernel_rfl) (fun v hW => rfl) ?_
              simp only [ptr, Act.put, List.setIfInBounds_toArray, List.set_cons_zero, List.set_cons_succ]
              refine wpOT_q (.pointer (some (gad Ax0 (i * 1)))) rfl (by kernel_rfl) (fun v hW => (xg_idx .i64 (HR0.out.keep hW) HF0.out Tryd.underlying48 (by kernel_rfl) rfl rfl rfl)) ?_
              simp only [ptr, Act.put, List.setIfInBounds_toArray, List.set_cons_zero, List.set_cons_succ]
              refine wpOT_q (.int .u64 ((r.who).toNat : Int)) rfl (by kernel_rfl) (fun v hW => (xg_load1 (E := wdC) (i := i) (j := 0) (HR0.out.keep hW) HF0.out rfl rfl Tryd.underlying50 rfl rfl rfl)) ?_
              simp only [ptr, Act.put, List.setIfInBounds_toArray, List.set_cons_zero, List.set_cons_succ]
              refine wpOT_q (.int .i64 r.who) rfl (by kernel_rfl) (fun v hW => (xo_cvt .u64 .i64 ((r.who).toNat : Int) (r.who) (by rw [IntKind.wrap_i64]; omega) Tryd.underlying3 Tryd.underlying50 rfl rfl)) ?_
              simp only [ptr, Act.put, List.setIfInBounds_toArray, List.set_cons_zero, List.set_cons_succ]
              refine wpOT_q (.slice A5 5 c5) rfl (by kernel_rfl) (fun v hW => rfl) ?_
              simp only [ptr, Act.put, List.setIfInBounds_toArray, List.set_cons_zero, List.set_cons_succ]
              refine wpOT_q (.pointer (some (gad A5 (1 * 1)))) rfl (by kernel_rfl) (fun v hW => (xg_idx .i64 (Cols.head (HC.out.keep hW)) HE1.out Tryd.underlying38 (by kernel_rfl) rfl rfl rfl)) ?_
              simp only [ptr, Act.put, List.setIfInBounds_toArray, List.set_cons_zero, List.set_cons_succ]
              refine wpOT_q (.slice Ax1 16 cx1) rfl (by kernel_rfl) (fun v hW => (xg_load1 (E := hdC) (i := 1) (j := 0) (Cols.head (HC.out.keep hW)) HE1.out rfl rfl Tryd.underlying48 rfl rfl rfl)) ?_
              simp only [ptr, Act.put, List.setIfInBounds_toArray, List.set_cons_zero, List.set_cons_succ]
              refine wpOT_q (.int .i64 (i : Int)) rfl (by kernel_rfl) (fun v hW => rfl) ?_
              simp only [ptr, Act.put, List.setIfInBounds_toArray, List.set_cons_zero, List.set_cons_succ]
              refine wpOT_q (.pointer (some (gad Ax1 (i * 1)))) rfl (by kernel_rfl) (fun v hW => (xg_idx .i64 (HR1.out.keep hW) HF1.out Tryd.underlying48 (by kernel_rfl) rfl rfl rfl)) ?_
              simp only [ptr, Act.put, List.setIfInBounds_toArray, List.set_cons_zero, List.set_cons_succ]
              refine wpOT_q (.int .u64 ((r.when_).toNat : Int)) rfl (by kernel_rfl) (fun v hW => (xg_load1 (E := wdC) (i := i) (j := 0) (HR1.out.keep hW) HF1.out rfl rfl Tryd.underlying50 rfl rfl rfl)) ?_
              simp only [ptr, Act.put, List.setIfInBounds_toArray, List.set_cons_zero, List.set_cons_succ]
              refine wpOT_q (.int .i64 r.when_) rfl (by kernel_rfl) (fun v hW => (xo_cvt .u64 .i64 ((r.when_).toNat : Int) (r.when_) (by rw [IntKind.wrap_i64]; omega) Tryd.underlying3 Tryd.underlying50 rfl rfl)) ?_
              simp only [ptr, Act.put, List.setIfInBounds_toArray, List.set_cons_zero, List.set_cons_succ]
              refine wpOT_q (.slice A5 5 c5) rfl (by kernel_rfl) (fun v hW => rfl) ?_
              simp only [ptr, Act.put, List.setIfInBounds_toArray, List.set_cons_zero, List.set_cons_succ]
              refine wpOT_q (.pointer (some (gad A5 (2 * 1)))) rfl (by kernel_rfl) (fun v hW => (xg_idx .i64 (Cols.head (HC.out.keep hW)) HE2.out Tryd.underlying38 (by kernel_rfl) rfl rfl rfl)) ?_
              simp only [ptr, Act.put, List.setIfInBounds_toArray, List.set_cons_zero, List.set_cons_succ]
              refine wpOT_q (.slice Ax2 16 cx2) rfl (by kernel_rfl) (fun v hW => (xg_load1 (E := hdC) (i := 2) (j := 0) (Cols.head (HC.out.keep hW)) HE2.out rfl rfl Tryd.underlying48 rfl rfl rfl)) ?_
              simp only [ptr, Act.put, List.setIfInBounds_toArray, List.set_cons_zero, List.set_cons_succ]
              refine wpOT_q (.int .i64 (i : Int)) rfl (by kernel_rfl) (fun v hW => rfl) ?_
              simp only [ptr, Act.put, List.setIfInBounds_toArray, List.set_cons_zero, List.set_cons_succ]
              refine wpOT_q (.pointer (some (gad Ax2 (i * 1)))) rfl (by kernel_rfl) (fun v hW => (xg_idx .i64 (HR2.out.keep hW) HF2.out Tryd.underlying48 (by kernel_rfl) rfl rfl rfl)) ?_
              simp only [ptr, Act.put, List.setIfInBounds_toArray, List.set_cons_zero, List.set_cons_succ]
              refine wpOT_q (.int .u64 ((r.kind).toNat : Int)) rfl (by kernel_rfl) (fun v hW => (xg_load1 (E := wdC) (i := i) (j := 0) (HR2.out.keep hW) HF2.out rfl rfl Tryd.underlying50 rfl rfl rfl)) ?_
              simp only [ptr, Act.put, List.setIfInBounds_toArray, List.set_cons_zero, List.set_cons_succ]
              refine wpOT_q (.int .i64 r.kind) rfl (by kernel_rfl) (fun v hW => (xo_cvt .u64 .i64 ((r.kind).toNat : Int) (r.kind) (by rw [IntKind.wrap_i64]; omega) Tryd.underlying3 Tryd.underlying50 rfl rfl)) ?_
              simp only [ptr, Act.put, List.setIfInBounds_toArray, List.set_cons_zero, List.set_cons_succ]
              refine wpOT_q (.slice A5 5 c5) rfl (by kernel_rfl) (fun v hW => rfl) ?_
              simp only [ptr, Act.put, List.setIfInBounds_toArray, List.set_cons_zero, List.set_cons_succ]
              refine wpOT_q (.pointer (some (gad A5 (3 * 1)))) rfl (by kernel_rfl) (fun v hW => (xg_idx .i64 (Cols.head (HC.out.keep hW)) HE3.out Tryd.underlying38 (by kernel_rfl) rfl rfl rfl)) ?_
              simp only [ptr, Act.put, List.setIfInBounds_toArray, List.set_cons_zero, List.set_cons_succ]
              refine wpOT_q (.slice Ax3 16 cx3) rfl (by kernel_rfl) (fun v hW => (xg_load1 (E := hdC) (i := 3) (j := 0) (Cols.head (HC.out.keep hW)) HE3.out rfl rfl Tryd.underlying48 rfl rfl rfl)) ?_
              simp only [ptr, Act.put, List.setIfInBounds_toArray, List.set_cons_zero, List.set_cons_succ]
              refine wpOT_q (.int .i64 (i : Int)) rfl (by kernel_rfl) (fun v hW => rfl) ?_
              simp only [ptr, Act.put, List.setIfInBounds_toArray, List.set_cons_zero, List.set_cons_succ]
              refine wpOT_q (.pointer (some (gad Ax3 (i * 1)))) rfl (by kernel_rfl) (fun v hW => (xg_idx .i64 (HR3.out.keep hW) HF3.out Tryd.underlying48 (by kernel_rfl) rfl rfl rfl)) ?_
              simp only [ptr, Act.put, List.setIfInBounds_toArray, List.set_cons_zero, List.set_cons_succ]
              refine wpOT_q (.int .u64 ((r.value).toNat : Int)) rfl (by kernel_rfl) (fun v hW => (xg_load1 (E := wdC) (i := i) (j := 0) (HR3.out.keep hW) HF3.out rfl rfl Tryd.underlying50 rfl rfl rfl)) ?_
              simp only [ptr, Act.put, List.setIfInBounds_toArray, List.set_cons_zero, List.set_cons_succ]
              refine wpOT_q (.int .i64 r.value) rfl (by kernel_rfl) (fun v hW => (xo_cvt .u64 .i64 ((r.value).toNat : Int) (r.value) (by rw [IntKind.wrap_i64]; omega) Tryd.underlying3 Tryd.underlying50 rfl rfl)) ?_
              simp only [ptr, Act.put, List.setIfInBounds_toArray, List.set_cons_zero, List.set_cons_succ]
              refine wpOT_q (.agg #[.int .i64 r.who, .int .i64 r.when_, .int .i64 r.kind, .int .i64 r.value]) rfl (by kernel_rfl) (fun v hW => (by unfold execOp; go_simp)) ?_
              simp only [ptr, Act.put, List.setIfInBounds_toArray, List.set_cons_zero, List.set_cons_succ]
              refine wpOT_one rfl (by kernel_rfl) ?_
              refine hOp_mk ([r].flatMap rdC).toArray 24 1 1 (xg_lit (E := rdC) (bytes := 32) (.agg #[.int .i64 0, .int .i64 0, .int .i64 0, .int .i64 0]) [.tmp 85] [r] 1 Tryd.underlying27 (by kernel_rfl) rfl (by decide) (by decide) rfl rfl) ?_
              intro g86 V3 hge h0 hb
              have C0_2 := Lib.hid (bel_step B0.out B1.out)
              have N12_0 : Hid (b6 ≠ g86) := Lib.hid (xp_lt0 (heap_keep Fv1_6.out C0_2.out) hge)
              have Ge13 : Hid (V2.heap.size ≤ g86) := Lib.hid hge
              have B2 := Lib.hid hb
              have Fv14_86 : Hid (RowG rdC V3 g86 24 ([r])) := Lib.hid (h0)
              have Lt15 : Hid (g86 < V3.heap.size) := Lib.hid (xp_lt Fv14_86.out)
              clear hge h0 hb
              have C0_3 := Lib.hid (bel_step C0_2.out B2.out)
              refine ⟨C0_3.out, ?_⟩
              simp only [ptr, Act.put, List.setIfInBounds_toArray, List.set_cons_zero, List.set_cons_succ]
              refine wpOT_one rfl (by kernel_rfl) ?_
              have C1_3 := Lib.hid (bel_step B1.out B2.out)
              refine hOp_app (size := 4) (.tmp 56) (.tmp 86) 27 rfl (.agg #[.int .i64 0, .int .i64 0, .int .i64 0, .int .i64 0]) 32 Tryd.underlying27 (by kernel_rfl) rfl (by decide) rfl (own_keep OW.out C1_3.out) (some ⟨g86, 0, none⟩) 1 1 (fl rdC ([r])) rfl (RowG.sg (n := 1) (c := 1) Fv14_86.out (show ([r]).length = 1 from rfl) (Nat.le_refl _) (by omega)).src (by unfold maxLen; omega) (by omega) C0_3.out.size ?_
              intro v87 X3_16 ho hg hloc
              have hb1 := own_below (own_keep OW.out C1_3.out) hg C0_3.out.size
              have hox : X3_16.ownsRow VB4.heap.size 24 4 v87 (nq + 1) (fl rdC ((liveL (rs.take i) (gs.take i)) ++ ([r]))) := by rw [fl_append]; exact ho
              have hbr := C0_3.out.trans hb1
              clear B0
              have B0 := Lib.hid hbr
              clear hbr
              have Ow87_17 := Lib.hid hox
              clear ho hox hb1 hg hloc
              refine ⟨B0.out, ?_⟩
              simp only [ptr, Act.put, List.setIfInBounds_toArray, List.set_cons_zero, List.set_cons_succ]
              refine wpOT_q (v87) rfl (by kernel_rfl) (fun v hW => rfl) ?_
              simp only [ptr, Act.put, List.setIfInBounds_toArray, List.set_cons_zero, List.set_cons_succ]
              refine wpOT_nil ?_
              have hko : X3_16.ownsRow VB4.heap.size 24 4 v87 (nq + 1) (fl rdC (liveL (rs.take (i + 1)) (gs.take (i + 1)))) := by rw [HT.out]; exact Ow87_17.out
              go_upto_region 14 with fail
              refine wp_region_lit ?_
              refine wpList_run (by kernel_rfl) (.int .i64 (i : Int)) X3_16 rfl ?_
              simp only [Act.put, List.setIfInBounds_toArray, List.set_cons_zero, List.set_cons_succ]
              refine wpList_run (by kernel_rfl) (.int .i64 ((i + 1 : Nat) : Int)) X3_16 (xo_addI (i : Int) 1 ((i + 1 : Nat) : Int) (by omega) (by omega) (by omega) rfl rfl rfl) ?_
              simp only [Act.put, List.setIfInBounds_toArray, List.set_cons_zero, List.set_cons_succ]
              refine wpList_run (by kernel_rfl) (.int .i64 ((i + 1 : Nat) : Int)) X3_16 rfl ?_
              simp only [Act.put, List.setIfInBounds_toArray, List.set_cons_zero, List.set_cons_succ]
              refine wpList_nil ?_
              have hq18 := B0.out
              go_wp2_with fail
              go_roundw
              case rel => exact ⟨i + 1, nq + 1, by omega, by go_num, Nat.succ_le_succ hnq.out, hko, hq18⟩
              case measure => simp [intOf]; omega
            | true =>
              have hg4 : (colN rs gs (2 ^ 4) 4)[i]? = some 0 := colN_live hmr hmg him HGG.out
              have HG4 := Lib.hid hg4
              clear hg4
              go_upto_region 15 with fail
              refine wp_region_lit ?_
              refine wpList_run (by kernel_rfl) (.slice A5 5 c5) wi rfl ?_
              simp only [Act.put, List.setIfInBounds_toArray, List.set_cons_zero, List.set_cons_succ]
              refine wpList_run (by kernel_rfl) (.pointer (some (gad A5 (4 * 1)))) wi (xg_idx .i64 (Cols.head (HC.out.keep B0.out)) HE4.out Tryd.underlying38 (by kernel_rfl) rfl rfl rfl) ?_
              simp only [Act.put, List.setIfInBounds_toArray, List.set_cons_zero, List.set_cons_succ]
              refine wpList_run (by kernel_rfl) (.slice Ax4 16 cx4) wi (xg_load1 (E := hdC) (i := 4) (j := 0) (Cols.head (HC.out.keep B0.out)) HE4.out rfl rfl Tryd.underlying48 rfl rfl rfl) ?_
              simp only [Act.put, List.setIfInBounds_toArray, List.set_cons_zero, List.set_cons_succ]
              refine wpList_run (by kernel_rfl) (.int .i64 (i : Int)) wi rfl ?_
              simp only [Act.put, List.setIfInBounds_toArray, List.set_cons_zero, List.set_cons_succ]
              refine wpList_run (by kernel_rfl) (.pointer (some (gad Ax4 (i * 1)))) wi (xg_idx .i64 (HR4.out.keep B0.out) HG4.out Tryd.underlying48 (by kernel_rfl) rfl rfl rfl) ?_
              simp only [Act.put, List.setIfInBounds_toArray, List.set_cons_zero, List.set_cons_succ]
              refine wpList_run (by kernel_rfl) (.int .u64 0) wi (xg_load1 (E := wdC) (i := i) (j := 0) (HR4.out.keep B0.out) HG4.out rfl rfl Tryd.underlying50 rfl rfl rfl) ?_
              simp only [Act.put, List.setIfInBounds_toArray, List.set_cons_zero, List.set_cons_succ]
              refine wpList_run (by kernel_rfl) (.bool false) wi (xo_eqlF .u64 0 1 (by omega) rfl rfl rfl) ?_
              simp only [Act.put, List.setIfInBounds_toArray, List.set_cons_zero, List.set_cons_succ]
              refine wpList_nil ?_
              have hci12 : ¬ ((i : Int) ≥ (m : Int)) := by omega
              go_upto_region 17 with fail
              refine wp_later_lex (by kernel_rfl) (lexOK_of (by kernel_rfl) (by kernel_rfl)) ?_
              refine wpQuiet_val (by kernel_rfl) (.slice A5 5 c5) (fun v hv => rfl) ?_
              simp only [Act.put, List.setIfInBounds_toArray, List.set_cons_zero, List.set_cons_succ]
              refine wpQuiet_val (by kernel_rfl) (.pointer (some (gad A5 (4 * 1)))) (fun v hv => (xg_idx .i64 (Cols.head ((HC.out.keep B0.out).keep (later_bel hv))) HE4.out Tryd.underlying38 (by kernel_rfl) rfl rfl rfl)) ?_
              simp only [Act.put, List.setIfInBounds_toArray, List.set_cons_zero, List.set_cons_succ]
              refine wpQuiet_val (by kernel_rfl) (.slice Ax4 16 cx4) (fun v hv => (xg_load1 (E := hdC) (i := 4) (j := 0) (Cols.head ((HC.out.keep B0.out).keep (later_bel hv))) HE4.out rfl rfl Tryd.underlying48 rfl rfl rfl)) ?_
              simp only [Act.put, List.setIfInBounds_toArray, List.set_cons_zero, List.set_cons_succ]
              refine wpQuiet_val (by kernel_rfl) (.int .i64 (i : Int)) (fun v hv => rfl) ?_
              simp only [Act.put, List.setIfInBounds_toArray, List.set_cons_zero, List.set_cons_succ]
              refine wpQuiet_val (by kernel_rfl) (.pointer (some (gad Ax4 (i * 1)))) (fun v hv => (xg_idx .i64 ((HR4.out.keep B0.out).keep (later_bel hv)) HG4.out Tryd.underlying48 (by kernel_rfl) rfl rfl rfl)) ?_
              simp only [Act.put, List.setIfInBounds_toArray, List.set_cons_zero, List.set_cons_succ]
              refine wpQuiet_val (by kernel_rfl) (.int .u64 0) (fun v hv => (xg_load1 (E := wdC) (i := i) (j := 0) ((HR4.out.keep B0.out).keep (later_bel hv)) HG4.out rfl rfl Tryd.underlying50 rfl rfl rfl)) ?_
              simp only [Act.put, List.setIfInBounds_toArray, List.set_cons_zero, List.set_cons_succ]
              refine wpQuiet_val (by kernel_rfl) (.bool false) (fun v hv => (xo_neqF .u64 0 0 (by omega) rfl rfl rfl)) ?_
              simp only [Act.put, List.setIfInBounds_toArray, List.set_cons_zero, List.set_cons_succ]
              refine wpQuiet_val (by kernel_rfl) (.bool false) (fun v hv => rfl) ?_
              simp only [Act.put, List.setIfInBounds_toArray, List.set_cons_zero, List.set_cons_succ]
              refine wpQuiet_val (by kernel_rfl) (.int .i64 (i : Int)) (fun v hv => rfl) ?_
              simp only [Act.put, List.setIfInBounds_toArray, List.set_cons_zero, List.set_cons_succ]
              refine wpQuiet_val (by kernel_rfl) (.pointer (some ⟨b6, 0, none⟩)) (fun v hv => (xo_fld0 0 b6 0 (by kernel_rfl) rfl rfl)) ?_
              simp only [Act.put, List.setIfInBounds_toArray, List.set_cons_zero, List.set_cons_succ]
              refine wpQuiet_val (by kernel_rfl) (.slice A2 m c2) (fun v hv => (xo_load1 ⟨b6, 0, none⟩ _ (cells_at (heap_keep (heap_keep Fv1_6.out B0.out) (later_bel hv)) 0 rfl) Tryd.underlying27 rfl rfl rfl)) ?_
              simp only [Act.put, List.setIfInBounds_toArray, List.set_cons_zero, List.set_cons_succ]
              refine wpQuiet_val (by kernel_rfl) (.int .i64 (m : Int)) (fun v hv => (xo_len A2 m c2 Tryd.underlying27 rfl rfl)) ?_
              simp only [Act.put, List.setIfInBounds_toArray, List.set_cons_zero, List.set_cons_succ]
              refine wpQuiet_val (by kernel_rfl) (.bool false) (fun v hv => (xo_geqF .i64 (i : Int) (m : Int) (by omega) rfl rfl rfl)) ?_
              simp only [Act.put, List.setIfInBounds_toArray, List.set_cons_zero, List.set_cons_succ]
              refine wpQuiet_val (by kernel_rfl) (.bool false) (fun v hv => rfl) ?_
              simp only [Act.put, List.setIfInBounds_toArray, List.set_cons_zero, List.set_cons_succ]
              refine BigFrame.wpQuiet_skip (by kernel_rfl) ?_
              try simp only [Act.put, List.setIfInBounds_toArray, List.set_cons_zero, List.set_cons_succ]
              refine BigFrame.wpQuiet_skip (by kernel_rfl) ?_
              try simp only [Act.put, List.setIfInBounds_toArray, List.set_cons_zero, List.set_cons_succ]
              refine BigFrame.wpQuiet_skip (by kernel_rfl) ?_
              try simp only [Act.put, List.setIfInBounds_toArray, List.set_cons_zero, List.set_cons_succ]
              refine BigFrame.wpQuiet_skip (by kernel_rfl) ?_
              try simp only [Act.put, List.setIfInBounds_toArray, List.set_cons_zero, List.set_cons_succ]
              refine BigFrame.wpQuiet_skip (by kernel_rfl) ?_
              try simp only [Act.put, List.setIfInBounds_toArray, List.set_cons_zero, List.set_cons_succ]
              refine BigFrame.wpQuiet_skip (by kernel_rfl) ?_
              try simp only [Act.put, List.setIfInBounds_toArray, List.set_cons_zero, List.set_cons_succ]
              refine BigFrame.wpQuiet_skip (by kernel_rfl) ?_
              try simp only [Act.put, List.setIfInBounds_toArray, List.set_cons_zero, List.set_cons_succ]
              refine BigFrame.wpQuiet_skip (by kernel_rfl) ?_
              try simp only [Act.put, List.setIfInBounds_toArray, List.set_cons_zero, List.set_cons_succ]
              refine BigFrame.wpQuiet_skip (by kernel_rfl) ?_
              try simp only [Act.put, List.setIfInBounds_toArray, List.set_cons_zero, List.set_cons_succ]
              refine BigFrame.wpQuiet_skip (by kernel_rfl) ?_
              try simp only [Act.put, List.setIfInBounds_toArray, List.set_cons_zero, List.set_cons_succ]
              refine BigFrame.wpQuiet_skip (by kernel_rfl) ?_
              try simp only [Act.put, List.setIfInBounds_toArray, List.set_cons_zero, List.set_cons_succ]
              refine BigFrame.wpQuiet_skip (by kernel_rfl) ?_
              try simp only [Act.put, List.setIfInBounds_toArray, List.set_cons_zero, List.set_cons_succ]
              refine BigFrame.wpQuiet_skip (by kernel_rfl) ?_
              try simp only [Act.put, List.setIfInBounds_toArray, List.set_cons_zero, List.set_cons_succ]
              refine BigFrame.wpQuiet_skip (by kernel_rfl) ?_
              try simp only [Act.put, List.setIfInBounds_toArray, List.set_cons_zero, List.set_cons_succ]
              refine BigFrame.wpQuiet_skip (by kernel_rfl) ?_
              try simp only [Act.put, List.setIfInBounds_toArray, List.set_cons_zero, List.set_cons_succ]
              refine BigFrame.wpQuiet_skip (by kernel_rfl) ?_
              try simp only [Act.put, List.setIfInBounds_toArray, List.set_cons_zero, List.set_cons_succ]
              refine BigFrame.wpQuiet_skip (by kernel_rfl) ?_
              try simp only [Act.put, List.setIfInBounds_toArray, List.set_cons_zero, List.set_cons_succ]
              refine BigFrame.wpQuiet_skip (by kernel_rfl) ?_
              try simp only [Act.put, List.setIfInBounds_toArray, List.set_cons_zero, List.set_cons_succ]
              refine BigFrame.wpQuiet_skip (by kernel_rfl) ?_
              try simp only [Act.put, List.setIfInBounds_toArray, List.set_cons_zero, List.set_cons_succ]
              refine BigFrame.wpQuiet_skip (by kernel_rfl) ?_
              try simp only [Act.put, List.setIfInBounds_toArray, List.set_cons_zero, List.set_cons_succ]
              refine BigFrame.wpQuiet_skip (by kernel_rfl) ?_
              try simp only [Act.put, List.setIfInBounds_toArray, List.set_cons_zero, List.set_cons_succ]
              refine BigFrame.wpQuiet_skip (by kernel_rfl) ?_
              try simp only [Act.put, List.setIfInBounds_toArray, List.set_cons_zero, List.set_cons_succ]
              refine BigFrame.wpQuiet_skip (by kernel_rfl) ?_
              try simp only [Act.put, List.setIfInBounds_toArray, List.set_cons_zero, List.set_cons_succ]
              refine BigFrame.wpQuiet_skip (by kernel_rfl) ?_
              try simp only [Act.put, List.setIfInBounds_toArray, List.set_cons_zero, List.set_cons_succ]
              refine BigFrame.wpQuiet_skip (by kernel_rfl) ?_
              try simp only [Act.put, List.setIfInBounds_toArray, List.set_cons_zero, List.set_cons_succ]
              refine BigFrame.wpQuiet_skip (by kernel_rfl) ?_
              try simp only [Act.put, List.setIfInBounds_toArray, List.set_cons_zero, List.set_cons_succ]
              refine BigFrame.wpQuiet_skip (by kernel_rfl) ?_
              try simp only [Act.put, List.setIfInBounds_toArray, List.set_cons_zero, List.set_cons_succ]
              refine BigFrame.wpQuiet_skip (by kernel_rfl) ?_
              try simp only [Act.put, List.setIfInBounds_toArray, List.set_cons_zero, List.set_cons_succ]
              refine wpQuiet_val (by kernel_rfl) (.bool false) (fun v hv => rfl) ?_
              simp only [Act.put, List.setIfInBounds_toArray, List.set_cons_zero, List.set_cons_succ]
              refine wpQuiet_val (by kernel_rfl) (.bool false) (fun v hv => rfl) ?_
              simp only [Act.put, List.setIfInBounds_toArray, List.set_cons_zero, List.set_cons_succ]
              refine wpQuiet_nil ?_
              intro X1_13
              have hb := X1_13.below
              generalize X1_13.at = V2 at *
              have B1 := Lib.hid hb
              clear hb
              have hko : V2.ownsRow VB4.heap.size 24 4 u10 nq (fl rdC (liveL (rs.take (i + 1)) (gs.take (i + 1)))) := by rw [HT.out]; simp only [if_true, List.append_nil]; exact (own_keep OW.out B1.out)
              go_upto_region 14 with fail
              refine wp_region_lit ?_
              refine wpList_run (by kernel_rfl) (.int .i64 (i : Int)) V2 rfl ?_
              simp only [Act.put, List.setIfInBounds_toArray, List.set_cons_zero, List.set_cons_succ]
              refine wpList_run (by kernel_rfl) (.int .i64 ((i + 1 : Nat) : Int)) V2 (xo_addI (i : Int) 1 ((i + 1 : Nat) : Int) (by omega) (by omega) (by omega) rfl rfl rfl) ?_
              simp only [Act.put, List.setIfInBounds_toArray, List.set_cons_zero, List.set_cons_succ]
              refine wpList_run (by kernel_rfl) (.int .i64 ((i + 1 : Nat) : Int)) V2 rfl ?_
              simp only [Act.put, List.setIfInBounds_toArray, List.set_cons_zero, List.set_cons_succ]
              refine wpList_nil ?_
              have C0_2 := Lib.hid (bel_step B0.out B1.out)
              have hq14 := C0_2.out
              go_wp2_with fail
              go_roundw
              case rel => exact ⟨i + 1, nq, by omega, by go_num, Nat.le_succ_of_le hnq.out, hko, hq14⟩
              case measure => simp [intOf]; omega
          · have hz4 : (colN rs gs (2 ^ 4) 4)[i]? = some 0 := colN_zero hmr hmg (by omega) (by omega)
            have HZ4 := Lib.hid hz4
            clear hz4
            have HZ0 : Hid ((colN rs gs (2 ^ 4) 0)[i]? = some 0) := Lib.hid (colN_zero hmr hmg (by omega) (by omega))
            have HZ1 : Hid ((colN rs gs (2 ^ 4) 1)[i]? = some 0) := Lib.hid (colN_zero hmr hmg (by omega) (by omega))
            have HZ2 : Hid ((colN rs gs (2 ^ 4) 2)[i]? = some 0) := Lib.hid (colN_zero hmr hmg (by omega) (by omega))
            have HZ3 : Hid ((colN rs gs (2 ^ 4) 3)[i]? = some 0) := Lib.hid (colN_zero hmr hmg (by omega) (by omega))
            go_upto_region 15 with fail
            refine wp_region_lit ?_
            refine wpList_run (by kernel_rfl) (.slice A5 5 c5) wi rfl ?_
            simp only [Act.put, List.setIfInBounds_toArray, List.set_cons_zero, List.set_cons_succ]
            refine wpList_run (by kernel_rfl) (.pointer (some (gad A5 (4 * 1)))) wi (xg_idx .i64 (Cols.head (HC.out.keep B0.out)) HE4.out Tryd.underlying38 (by kernel_rfl) rfl rfl rfl) ?_
            simp only [Act.put, List.setIfInBounds_toArray, List.set_cons_zero, List.set_cons_succ]
            refine wpList_run (by kernel_rfl) (.slice Ax4 16 cx4) wi (xg_load1 (E := hdC) (i := 4) (j := 0) (Cols.head (HC.out.keep B0.out)) HE4.out rfl rfl Tryd.underlying48 rfl rfl rfl) ?_
            simp only [Act.put, List.setIfInBounds_toArray, List.set_cons_zero, List.set_cons_succ]
            refine wpList_run (by kernel_rfl) (.int .i64 (i : Int)) wi rfl ?_
            simp only [Act.put, List.setIfInBounds_toArray, List.set_cons_zero, List.set_cons_succ]
            refine wpList_run (by kernel_rfl) (.pointer (some (gad Ax4 (i * 1)))) wi (xg_idx .i64 (HR4.out.keep B0.out) HZ4.out Tryd.underlying48 (by kernel_rfl) rfl rfl rfl) ?_
            simp only [Act.put, List.setIfInBounds_toArray, List.set_cons_zero, List.set_cons_succ]
            refine wpList_run (by kernel_rfl) (.int .u64 0) wi (xg_load1 (E := wdC) (i := i) (j := 0) (HR4.out.keep B0.out) HZ4.out rfl rfl Tryd.underlying50 rfl rfl rfl) ?_
            simp only [Act.put, List.setIfInBounds_toArray, List.set_cons_zero, List.set_cons_succ]
            refine wpList_run (by kernel_rfl) (.bool false) wi (xo_eqlF .u64 0 1 (by omega) rfl rfl rfl) ?_
            simp only [Act.put, List.setIfInBounds_toArray, List.set_cons_zero, List.set_cons_succ]
            refine wpList_nil ?_
            have hci12 : ((i : Int) ≥ (m : Int)) := by omega
            go_upto_region 17 with fail
            refine wp_later_lex (by kernel_rfl) (lexOK_of (by kernel_rfl) (by kernel_rfl)) ?_
            refine wpQuiet_val (by kernel_rfl) (.slice A5 5 c5) (fun v hv => rfl) ?_
            simp only [Act.put, List.setIfInBounds_toArray, List.set_cons_zero, List.set_cons_succ]
            refine wpQuiet_val (by kernel_rfl) (.pointer (some (gad A5 (4 * 1)))) (fun v hv => (xg_idx .i64 (Cols.head ((HC.out.keep B0.out).keep (later_bel hv))) HE4.out Tryd.underlying38 (by kernel_rfl) rfl rfl rfl)) ?_
            simp only [Act.put, List.setIfInBounds_toArray, List.set_cons_zero, List.set_cons_succ]
            refine wpQuiet_val (by kernel_rfl) (.slice Ax4 16 cx4) (fun v hv => (xg_load1 (E := hdC) (i := 4) (j := 0) (Cols.head ((HC.out.keep B0.out).keep (later_bel hv))) HE4.out rfl rfl Tryd.underlying48 rfl rfl rfl)) ?_
            simp only [Act.put, List.setIfInBounds_toArray, List.set_cons_zero, List.set_cons_succ]
            refine wpQuiet_val (by kernel_rfl) (.int .i64 (i : Int)) (fun v hv => rfl) ?_
            simp only [Act.put, List.setIfInBounds_toArray, List.set_cons_zero, List.set_cons_succ]
            refine wpQuiet_val (by kernel_rfl) (.pointer (some (gad Ax4 (i * 1)))) (fun v hv => (xg_idx .i64 ((HR4.out.keep B0.out).keep (later_bel hv)) HZ4.out Tryd.underlying48 (by kernel_rfl) rfl rfl rfl)) ?_
            simp only [Act.put, List.setIfInBounds_toArray, List.set_cons_zero, List.set_cons_succ]
            refine wpQuiet_val (by kernel_rfl) (.int .u64 0) (fun v hv => (xg_load1 (E := wdC) (i := i) (j := 0) ((HR4.out.keep B0.out).keep (later_bel hv)) HZ4.out rfl rfl Tryd.underlying50 rfl rfl rfl)) ?_
            simp only [Act.put, List.setIfInBounds_toArray, List.set_cons_zero, List.set_cons_succ]
            refine wpQuiet_val (by kernel_rfl) (.bool false) (fun v hv => (xo_neqF .u64 0 0 (by omega) rfl rfl rfl)) ?_
            simp only [Act.put, List.setIfInBounds_toArray, List.set_cons_zero, List.set_cons_succ]
            refine wpQuiet_val (by kernel_rfl) (.bool false) (fun v hv => rfl) ?_
            simp only [Act.put, List.setIfInBounds_toArray, List.set_cons_zero, List.set_cons_succ]
            refine wpQuiet_val (by kernel_rfl) (.int .i64 (i : Int)) (fun v hv => rfl) ?_
            simp only [Act.put, List.setIfInBounds_toArray, List.set_cons_zero, List.set_cons_succ]
            refine wpQuiet_val (by kernel_rfl) (.pointer (some ⟨b6, 0, none⟩)) (fun v hv => (xo_fld0 0 b6 0 (by kernel_rfl) rfl rfl)) ?_
            simp only [Act.put, List.setIfInBounds_toArray, List.set_cons_zero, List.set_cons_succ]
            refine wpQuiet_val (by kernel_rfl) (.slice A2 m c2) (fun v hv => (xo_load1 ⟨b6, 0, none⟩ _ (cells_at (heap_keep (heap_keep Fv1_6.out B0.out) (later_bel hv)) 0 rfl) Tryd.underlying27 rfl rfl rfl)) ?_
            simp only [Act.put, List.setIfInBounds_toArray, List.set_cons_zero, List.set_cons_succ]
            refine wpQuiet_val (by kernel_rfl) (.int .i64 (m : Int)) (fun v hv => (xo_len A2 m c2 Tryd.underlying27 rfl rfl)) ?_
            simp only [Act.put, List.setIfInBounds_toArray, List.set_cons_zero, List.set_cons_succ]
            refine wpQuiet_val (by kernel_rfl) (.bool true) (fun v hv => (xo_geqT .i64 (i : Int) (m : Int) (by omega) rfl rfl rfl)) ?_
            simp only [Act.put, List.setIfInBounds_toArray, List.set_cons_zero, List.set_cons_succ]
            refine wpQuiet_val (by kernel_rfl) (.bool true) (fun v hv => rfl) ?_
            simp only [Act.put, List.setIfInBounds_toArray, List.set_cons_zero, List.set_cons_succ]
            refine wpQuiet_val (by kernel_rfl) (.slice A5 5 c5) (fun v hv => rfl) ?_
            simp only [Act.put, List.setIfInBounds_toArray, List.set_cons_zero, List.set_cons_succ]
            refine wpQuiet_val (by kernel_rfl) (.pointer (some (gad A5 (0 * 1)))) (fun v hv => (xg_idx .i64 (Cols.head ((HC.out.keep B0.out).keep (later_bel hv))) HE0.out Tryd.underlying38 (by kernel_rfl) rfl rfl rfl)) ?_
            simp only [Act.put, List.setIfInBounds_toArray, List.set_cons_zero, List.set_cons_succ]
            refine wpQuiet_val (by kernel_rfl) (.slice Ax0 16 cx0) (fun v hv => (xg_load1 (E := hdC) (i := 0) (j := 0) (Cols.head ((HC.out.keep B0.out).keep (later_bel hv))) HE0.out rfl rfl Tryd.underlying48 rfl rfl rfl)) ?_
            simp only [Act.put, List.setIfInBounds_toArray, List.set_cons_zero, List.set_cons_succ]
            refine wpQuiet_val (by kernel_rfl) (.int .i64 (i : Int)) (fun v hv => rfl) ?_
            simp only [Act.put, List.setIfInBounds_toArray, List.set_cons_zero, List.set_cons_succ]
            refine wpQuiet_val (by kernel_rfl) (.pointer (some (gad Ax0 (i * 1)))) (fun v hv => (xg_idx .i64 ((HR0.out.keep B0.out).keep (later_bel hv)) HZ0.out Tryd.underlying48 (by kernel_rfl) rfl rfl rfl)) ?_
            simp only [Act.put, List.setIfInBounds_toArray, List.set_cons_zero, List.set_cons_succ]
            refine wpQuiet_val (by kernel_rfl) (.int .u64 0) (fun v hv => (xg_load1 (E := wdC) (i := i) (j := 0) ((HR0.out.keep B0.out).keep (later_bel hv)) HZ0.out rfl rfl Tryd.underlying50 rfl rfl rfl)) ?_
            simp only [Act.put, List.setIfInBounds_toArray, List.set_cons_zero, List.set_cons_succ]
            refine wpQuiet_val (by kernel_rfl) (.slice A5 5 c5) (fun v hv => rfl) ?_
            simp only [Act.put, List.setIfInBounds_toArray, List.set_cons_zero, List.set_cons_succ]
            refine wpQuiet_val (by kernel_rfl) (.pointer (some (gad A5 (1 * 1)))) (fun v hv => (xg_idx .i64 (Cols.head ((HC.out.keep B0.out).keep (later_bel hv))) HE1.out Tryd.underlying38 (by kernel_rfl) rfl rfl rfl)) ?_
            simp only [Act.put, List.setIfInBounds_toArray, List.set_cons_zero, List.set_cons_succ]
            refine wpQuiet_val (by kernel_rfl) (.slice Ax1 16 cx1) (fun v hv => (xg_load1 (E := hdC) (i := 1) (j := 0) (Cols.head ((HC.out.keep B0.out).keep (later_bel hv))) HE1.out rfl rfl Tryd.underlying48 rfl rfl rfl)) ?_
            simp only [Act.put, List.setIfInBounds_toArray, List.set_cons_zero, List.set_cons_succ]
            refine wpQuiet_val (by kernel_rfl) (.int .i64 (i : Int)) (fun v hv => rfl) ?_
            simp only [Act.put, List.setIfInBounds_toArray, List.set_cons_zero, List.set_cons_succ]
            refine wpQuiet_val (by kernel_rfl) (.pointer (some (gad Ax1 (i * 1)))) (fun v hv => (xg_idx .i64 ((HR1.out.keep B0.out).keep (later_bel hv)) HZ1.out Tryd.underlying48 (by kernel_rfl) rfl rfl rfl)) ?_
            simp only [Act.put, List.setIfInBounds_toArray, List.set_cons_zero, List.set_cons_succ]
            refine wpQuiet_val (by kernel_rfl) (.int .u64 0) (fun v hv => (xg_load1 (E := wdC) (i := i) (j := 0) ((HR1.out.keep B0.out).keep (later_bel hv)) HZ1.out rfl rfl Tryd.underlying50 rfl rfl rfl)) ?_
            simp only [Act.put, List.setIfInBounds_toArray, List.set_cons_zero, List.set_cons_succ]
            refine wpQuiet_val (by kernel_rfl) (.int .u64 0) (fun v hv => (xo_addU 0 0 0 (by omega) rfl rfl rfl)) ?_
            simp only [Act.put, List.setIfInBounds_toArray, List.set_cons_zero, List.set_cons_succ]
            refine wpQuiet_val (by kernel_rfl) (.slice A5 5 c5) (fun v hv => rfl) ?_
            simp only [Act.put, List.setIfInBounds_toArray, List.set_cons_zero, List.set_cons_succ]
            refine wpQuiet_val (by kernel_rfl) (.pointer (some (gad A5 (2 * 1)))) (fun v hv => (xg_idx .i64 (Cols.head ((HC.out.keep B0.out).keep (later_bel hv))) HE2.out Tryd.underlying38 (by kernel_rfl) rfl rfl rfl)) ?_
            simp only [Act.put, List.setIfInBounds_toArray, List.set_cons_zero, List.set_cons_succ]
            refine wpQuiet_val (by kernel_rfl) (.slice Ax2 16 cx2) (fun v hv => (xg_load1 (E := hdC) (i := 2) (j := 0) (Cols.head ((HC.out.keep B0.out).keep (later_bel hv))) HE2.out rfl rfl Tryd.underlying48 rfl rfl rfl)) ?_
            simp only [Act.put, List.setIfInBounds_toArray, List.set_cons_zero, List.set_cons_succ]
            refine wpQuiet_val (by kernel_rfl) (.int .i64 (i : Int)) (fun v hv => rfl) ?_
            simp only [Act.put, List.setIfInBounds_toArray, List.set_cons_zero, List.set_cons_succ]
            refine wpQuiet_val (by kernel_rfl) (.pointer (some (gad Ax2 (i * 1)))) (fun v hv => (xg_idx .i64 ((HR2.out.keep B0.out).keep (later_bel hv)) HZ2.out Tryd.underlying48 (by kernel_rfl) rfl rfl rfl)) ?_
            simp only [Act.put, List.setIfInBounds_toArray, List.set_cons_zero, List.set_cons_succ]
            refine wpQuiet_val (by kernel_rfl) (.int .u64 0) (fun v hv => (xg_load1 (E := wdC) (i := i) (j := 0) ((HR2.out.keep B0.out).keep (later_bel hv)) HZ2.out rfl rfl Tryd.underlying50 rfl rfl rfl)) ?_
            simp only [Act.put, List.setIfInBounds_toArray, List.set_cons_zero, List.set_cons_succ]
            refine wpQuiet_val (by kernel_rfl) (.int .u64 0) (fun v hv => (xo_addU 0 0 0 (by omega) rfl rfl rfl)) ?_
            simp only [Act.put, List.setIfInBounds_toArray, List.set_cons_zero, List.set_cons_succ]
            refine wpQuiet_val (by kernel_rfl) (.slice A5 5 c5) (fun v hv => rfl) ?_
            simp only [Act.put, List.setIfInBounds_toArray, List.set_cons_zero, List.set_cons_succ]
            refine wpQuiet_val (by kernel_rfl) (.pointer (some (gad A5 (3 * 1)))) (fun v hv => (xg_idx .i64 (Cols.head ((HC.out.keep B0.out).keep (later_bel hv))) HE3.out Tryd.underlying38 (by kernel_rfl) rfl rfl rfl)) ?_
            simp only [Act.put, List.setIfInBounds_toArray, List.set_cons_zero, List.set_cons_succ]
            refine wpQuiet_val (by kernel_rfl) (.slice Ax3 16 cx3) (fun v hv => (xg_load1 (E := hdC) (i := 3) (j := 0) (Cols.head ((HC.out.keep B0.out).keep (later_bel hv))) HE3.out rfl rfl Tryd.underlying48 rfl rfl rfl)) ?_
            simp only [Act.put, List.setIfInBounds_toArray, List.set_cons_zero, List.set_cons_succ]
            refine wpQuiet_val (by kernel_rfl) (.int .i64 (i : Int)) (fun v hv => rfl) ?_
            simp only [Act.put, List.setIfInBounds_toArray, List.set_cons_zero, List.set_cons_succ]
            refine wpQuiet_val (by kernel_rfl) (.pointer (some (gad Ax3 (i * 1)))) (fun v hv => (xg_idx .i64 ((HR3.out.keep B0.out).keep (later_bel hv)) HZ3.out Tryd.underlying48 (by kernel_rfl) rfl rfl rfl)) ?_
            simp only [Act.put, List.setIfInBounds_toArray, List.set_cons_zero, List.set_cons_succ]
            refine wpQuiet_val (by kernel_rfl) (.int .u64 0) (fun v hv => (xg_load1 (E := wdC) (i := i) (j := 0) ((HR3.out.keep B0.out).keep (later_bel hv)) HZ3.out rfl rfl Tryd.underlying50 rfl rfl rfl)) ?_
            simp only [Act.put, List.setIfInBounds_toArray, List.set_cons_zero, List.set_cons_succ]
            refine wpQuiet_val (by kernel_rfl) (.int .u64 0) (fun v hv => (xo_addU 0 0 0 (by omega) rfl rfl rfl)) ?_
            simp only [Act.put, List.setIfInBounds_toArray, List.set_cons_zero, List.set_cons_succ]
            refine wpQuiet_val (by kernel_rfl) (.bool false) (fun v hv => (xo_neqF .u64 0 0 (by omega) rfl rfl rfl)) ?_
            simp only [Act.put, List.setIfInBounds_toArray, List.set_cons_zero, List.set_cons_succ]
            refine wpQuiet_val (by kernel_rfl) (.bool false) (fun v hv => rfl) ?_
            simp only [Act.put, List.setIfInBounds_toArray, List.set_cons_zero, List.set_cons_succ]
            refine wpQuiet_val (by kernel_rfl) (.bool false) (fun v hv => rfl) ?_
            simp only [Act.put, List.setIfInBounds_toArray, List.set_cons_zero, List.set_cons_succ]
            refine wpQuiet_nil ?_
            intro X1_13
            have hb := X1_13.below
            generalize X1_13.at = V2 at *
            have B1 := Lib.hid hb
            clear hb
            have hko : V2.ownsRow VB4.heap.size 24 4 u10 nq (fl rdC (liveL (rs.take (i + 1)) (gs.take (i + 1)))) := by rw [List.take_of_length_le (by omega), List.take_of_length_le (by omega)]; have h0 := (own_keep OW.out B1.out); rw [List.take_of_length_le (by omega), List.take_of_length_le (by omega)] at h0; exact h0
            go_upto_region 14 with fail
            refine wp_region_lit ?_
            refine wpList_run (by kernel_rfl) (.int .i64 (i : Int)) V2 rfl ?_
            simp only [Act.put, List.setIfInBounds_toArray, List.set_cons_zero, List.set_cons_succ]
            refine wpList_run (by kernel_rfl) (.int .i64 ((i + 1 : Nat) : Int)) V2 (xo_addI (i : Int) 1 ((i + 1 : Nat) : Int) (by omega) (by omega) (by omega) rfl rfl rfl) ?_
            simp only [Act.put, List.setIfInBounds_toArray, List.set_cons_zero, List.set_cons_succ]
            refine wpList_run (by kernel_rfl) (.int .i64 ((i + 1 : Nat) : Int)) V2 rfl ?_
            simp only [Act.put, List.setIfInBounds_toArray, List.set_cons_zero, List.set_cons_succ]
            refine wpList_nil ?_
            have C0_2 := Lib.hid (bel_step B0.out B1.out)
            have hq14 := C0_2.out
            go_wp2_with fail
            go_roundw
            case rel => exact ⟨i + 1, nq, by omega, by go_num, Nat.le_succ_of_le hnq.out, hko, hq14⟩
            case measure => simp [intOf]; omega
        · have hci11 : ¬ ((i : Int) < 16) := by omega
          go_upto_region 13 with fail
          refine wp_region_lit ?_
          refine wpList_run (by kernel_rfl) (.int .i64 (i : Int)) wi rfl ?_
          simp only [Act.put, List.setIfInBounds_toArray, List.set_cons_zero, List.set_cons_succ]
          refine wpList_run (by kernel_rfl) (.bool false) wi (xo_lssF .i64 (i : Int) 16 (by omega) rfl rfl rfl) ?_
          simp only [Act.put, List.setIfInBounds_toArray, List.set_cons_zero, List.set_cons_succ]
          refine wpList_nil ?_
          obtain ⟨lv, hlv⟩ : ∃ lv, liveL rs gs = lv := ⟨_, rfl⟩
          have hlvm := liveL_le rs gs
          rw [hlv, hmr] at hlvm
          have HLV := Lib.hid hlv
          clear hlv
          have hko := OW.out
          rw [List.take_of_length_le (by omega), List.take_of_length_le (by omega), HLV.out] at hko
          obtain ⟨Af, cf, rfl, hsf⟩ := Sg.own hko
          have hnl : lv.length = nq := hsf.len
          have HFo := Lib.hid hsf
          have HNL := Lib.hid hnl
          have hfc := hsf.cap
          have hft := hsf.top
          rw [hnl] at hlvm
          clear hko hsf hnl
          go_upto_region 19 with fail
          refine wp_region_lit ?_
          refine wpList_run (by kernel_rfl) (.agg #[.slice A2 m c2, .slice E2 m d2]) wi (xo_loadW b6 _ (heap_keep Fv1_6.out B0.out) Tryd.underlying30 rfl (by kernel_rfl) rfl rfl) ?_
          simp only [Act.put, List.setIfInBounds_toArray, List.set_cons_zero, List.set_cons_succ]
          refine wpList_call (by kernel_rfl) 33 Tryd.func33 (by kernel_rfl) (by kernel_rfl) _ _ #[.agg #[.slice A2 m c2, .slice E2 m d2]] rfl (by kernel_rfl) ?_
          refine (rlive_as A2 m c2 rs E2 d2 gs (by omega) lv HLV.out nq HNL.out wi (HL.out.keep B0.out) (HG.out.keep B0.out)).mono ?_
          rintro e V2 ⟨Al, cl, rfl, hs, hb⟩
          have B1 := Lib.hid hb
          have hlc := hs.cap
          have hlt := hs.top
          have HLl := Lib.hid hs
          clear hb hs
          refine ⟨_, rfl, ?_⟩
          simp only [Act.put, List.setIfInBounds_toArray, List.set_cons_zero, List.set_cons_succ]
          refine wpList_run (by kernel_rfl) (.slice Al nq cl) V2 rfl ?_
          simp only [Act.put, List.setIfInBounds_toArray, List.set_cons_zero, List.set_cons_succ]
          refine wpList_nil ?_
          go_upto_region 20 with fail
          refine wp_region_lit ?_
          refine wpList_run (by kernel_rfl) (.slice Af nq cf) V2 rfl ?_
          simp only [Act.put, List.setIfInBounds_toArray, List.set_cons_zero, List.set_cons_succ]
          refine wpList_run (by kernel_rfl) (.int .i64 (nq : Int)) V2 (xo_len Af nq cf Tryd.underlying27 rfl rfl) ?_
          simp only [Act.put, List.setIfInBounds_toArray, List.set_cons_zero, List.set_cons_succ]
          refine wpList_run (by kernel_rfl) (.slice Al nq cl) V2 rfl ?_
          simp only [Act.put, List.setIfInBounds_toArray, List.set_cons_zero, List.set_cons_succ]
          refine wpList_run (by kernel_rfl) (.int .i64 (nq : Int)) V2 (xo_len Al nq cl Tryd.underlying27 rfl rfl) ?_
          simp only [Act.put, List.setIfInBounds_toArray, List.set_cons_zero, List.set_cons_succ]
          refine wpList_run (by kernel_rfl) (.bool false) V2 (xo_neqF .i64 (nq : Int) (nq : Int) (by omega) rfl rfl rfl) ?_
          simp only [Act.put, List.setIfInBounds_toArray, List.set_cons_zero, List.set_cons_succ]
          refine wpList_nil ?_
          go_upto_region 22 with fail
          refine wp_region_lit ?_
          refine wpList_run (by kernel_rfl) (.int .i64 0) V2 rfl ?_
          simp only [Act.put, List.setIfInBounds_toArray, List.set_cons_zero, List.set_cons_succ]
          refine wpList_nil ?_
          have O12 := (HFo.out.keep B1.out)
          have O13 := HLl.out
          have C0_2 := Lib.hid (bel_step B0.out B1.out)
          have O14 := C0_2.out
          go_wp2_with fail
          go_loopw [13] (fun p wr => ∃ j : Nat, j ≤ nq ∧ p = .int .i64 j ∧ Sg rdC 4 wr Af nq cf lv ∧ Sg rdC 4 wr Al nq cl lv ∧ Below VB4.heap.size VB4 wr) (fun p _ => nq - (intOf p).toNat)
          case atStart => exact ⟨0, Nat.zero_le _, rfl, O12, O13, O14⟩
          case round =>
            clear O14 O12 O13
            obtain ⟨wj, rfl⟩ : ∃ wj : World, wj = wr := ⟨_, rfl⟩
            obtain ⟨j, hi, rfl, hHFo, hHLl, hb0⟩ := hrel
            have hbr := hb0
            clear B0
            have B0 := Lib.hid hbr
            clear hbr
            have HFo := Lib.hid hHFo
            have HLl := Lib.hid hHLl
            clear hb0 hHFo hHLl
            by_cases hjn : j < nq
            · have hci16 : ((j : Int) < (nq : Int)) := by omega
              obtain ⟨r0, hr0⟩ : ∃ r, lv[j]? = some r := ⟨_, List.getElem?_eq_getElem (by rw [HNL.out]; exact hjn)⟩
              have HR00 := Lib.hid hr0
              clear hr0
              go_upto_region 23 with fail
              refine wp_region_lit ?_
              refine wpList_run (by kernel_rfl) (.int .i64 (j : Int)) wj rfl ?_
              simp only [Act.put, List.setIfInBounds_toArray, List.set_cons_zero, List.set_cons_succ]
              refine wpList_run (by kernel_rfl) (.slice Af nq cf) wj rfl ?_
              simp only [Act.put, List.setIfInBounds_toArray, List.set_cons_zero, List.set_cons_succ]
              refine wpList_run (by kernel_rfl) (.int .i64 (nq : Int)) wj (xo_len Af nq cf Tryd.underlying27 rfl rfl) ?_
              simp only [Act.put, List.setIfInBounds_toArray, List.set_cons_zero, List.set_cons_succ]
              refine wpList_run (by kernel_rfl) (.bool true) wj (xo_lssT .i64 (j : Int) (nq : Int) (by omega) rfl rfl rfl) ?_
              simp only [Act.put, List.setIfInBounds_toArray, List.set_cons_zero, List.set_cons_succ]
              refine wpList_nil ?_
              go_upto_region 25 with fail
              refine wp_later_lex (by kernel_rfl) (lexOK_of (by kernel_rfl) (by kernel_rfl)) ?_
              refine wpQuiet_val (by kernel_rfl) (.slice Af nq cf) (fun v hv => rfl) ?_
              simp only [Act.put, List.setIfInBounds_toArray, List.set_cons_zero, List.set_cons_succ]
              refine wpQuiet_val (by kernel_rfl) (.int .i64 (j : Int)) (fun v hv => rfl) ?_
              simp only [Act.put, List.setIfInBounds_toArray, List.set_cons_zero, List.set_cons_succ]
              refine wpQuiet_val (by kernel_rfl) (.pointer (some (gad Af (j * 4)))) (fun v hv => (xg_idx .i64 (HFo.out.keep (later_bel hv)) HR00.out Tryd.underlying27 (by kernel_rfl) rfl rfl rfl)) ?_
              simp only [Act.put, List.setIfInBounds_toArray, List.set_cons_zero, List.set_cons_succ]
              refine wpQuiet_val (by kernel_rfl) (.agg #[.int .i64 r0.who, .int .i64 r0.when_, .int .i64 r0.kind, .int .i64 r0.value]) (fun v hv => (xg_loadE (E := rdC) (HFo.out.keep (later_bel hv)) HR00.out Tryd.underlying24 rfl (by kernel_rfl) rfl rfl)) ?_
              simp only [Act.put, List.setIfInBounds_toArray, List.set_cons_zero, List.set_cons_succ]
              refine wpQuiet_val (by kernel_rfl) (.slice Al nq cl) (fun v hv => rfl) ?_
              simp only [Act.put, List.setIfInBounds_toArray, List.set_cons_zero, List.set_cons_succ]
              refine wpQuiet_val (by kernel_rfl) (.int .i64 (j : Int)) (fun v hv => rfl) ?_
              simp only [Act.put, List.setIfInBounds_toArray, List.set_cons_zero, List.set_cons_succ]
              refine wpQuiet_val (by kernel_rfl) (.pointer (some (gad Al (j * 4)))) (fun v hv => (xg_idx .i64 (HLl.out.keep (later_bel hv)) HR00.out Tryd.underlying27 (by kernel_rfl) rfl rfl rfl)) ?_
              simp only [Act.put, List.setIfInBounds_toArray, List.set_cons_zero, List.set_cons_succ]
              refine wpQuiet_val (by kernel_rfl) (.agg #[.int .i64 r0.who, .int .i64 r0.when_, .int .i64 r0.kind, .int .i64 r0.value]) (fun v hv => (xg_loadE (E := rdC) (HLl.out.keep (later_bel hv)) HR00.out Tryd.underlying24 rfl (by kernel_rfl) rfl rfl)) ?_
              simp only [Act.put, List.setIfInBounds_toArray, List.set_cons_zero, List.set_cons_succ]
              refine wpQuiet_val (by kernel_rfl) (.bool false) (fun v hv => (exec_neRd (Rd.mk r0.who r0.when_ r0.kind r0.value) rfl rfl rfl)) ?_
              simp only [Act.put, List.setIfInBounds_toArray, List.set_cons_zero, List.set_cons_succ]
              refine wpQuiet_nil ?_
              intro X1_17
              have hb := X1_17.below
              generalize X1_17.at = V2 at *
              have B1 := Lib.hid hb
              clear hb
              have hk1 := (HFo.out.keep B1.out)
              have hk2 := (HLl.out.keep B1.out)
              go_upto_region 24 with fail
              refine wp_region_lit ?_
              refine wpList_run (by kernel_rfl) (.int .i64 (j : Int)) V2 rfl ?_
              simp only [Act.put, List.setIfInBounds_toArray, List.set_cons_zero, List.set_cons_succ]
              refine wpList_run (by kernel_rfl) (.int .i64 ((j + 1 : Nat) : Int)) V2 (xo_addI (j : Int) 1 ((j + 1 : Nat) : Int) (by omega) (by omega) (by omega) rfl rfl rfl) ?_
              simp only [Act.put, List.setIfInBounds_toArray, List.set_cons_zero, List.set_cons_succ]
              refine wpList_run (by kernel_rfl) (.int .i64 ((j + 1 : Nat) : Int)) V2 rfl ?_
              simp only [Act.put, List.setIfInBounds_toArray, List.set_cons_zero, List.set_cons_succ]
              refine wpList_nil ?_
              have C0_2 := Lib.hid (bel_step B0.out B1.out)
              have hq18 := C0_2.out
              go_wp2_with fail
              go_roundw
              case rel => exact ⟨j + 1, by omega, by go_num, hk1, hk2, hq18⟩
              case measure => simp [intOf]; omega
            · have hci16 : ¬ ((j : Int) < (nq : Int)) := by omega
              go_upto_region 23 with fail
              refine wp_region_lit ?_
              refine wpList_run (by kernel_rfl) (.int .i64 (j : Int)) wj rfl ?_
              simp only [Act.put, List.setIfInBounds_toArray, List.set_cons_zero, List.set_cons_succ]
              refine wpList_run (by kernel_rfl) (.slice Af nq cf) wj rfl ?_
              simp only [Act.put, List.setIfInBounds_toArray, List.set_cons_zero, List.set_cons_succ]
              refine wpList_run (by kernel_rfl) (.int .i64 (nq : Int)) wj (xo_len Af nq cf Tryd.underlying27 rfl rfl) ?_
              simp only [Act.put, List.setIfInBounds_toArray, List.set_cons_zero, List.set_cons_succ]
              refine wpList_run (by kernel_rfl) (.bool false) wj (xo_lssF .i64 (j : Int) (nq : Int) (by omega) rfl rfl rfl) ?_
              simp only [Act.put, List.setIfInBounds_toArray, List.set_cons_zero, List.set_cons_succ]
              refine wpList_nil ?_
              by_cases hn0 : nq = 0
              · have hci17 : ((nq : Int) = 0) := by omega
                go_upto_region 27 with fail
                refine wp_region_lit ?_
                refine wpList_run (by kernel_rfl) (.slice Al nq cl) wj rfl ?_
                simp only [Act.put, List.setIfInBounds_toArray, List.set_cons_zero, List.set_cons_succ]
                refine wpList_run (by kernel_rfl) (.int .i64 (nq : Int)) wj (xo_len Al nq cl Tryd.underlying27 rfl rfl) ?_
                simp only [Act.put, List.setIfInBounds_toArray, List.set_cons_zero, List.set_cons_succ]
                refine wpList_run (by kernel_rfl) (.bool true) wj (xo_eqlT .i64 (nq : Int) 0 (by omega) rfl rfl rfl) ?_
                simp only [Act.put, List.setIfInBounds_toArray, List.set_cons_zero, List.set_cons_succ]
                refine wpList_nil ?_
                go_upto_region 28 with fail
                refine wp_region_lit ?_
                refine wpList_run (by kernel_rfl) (.bool true) wj rfl ?_
                simp only [Act.put, List.setIfInBounds_toArray, List.set_cons_zero, List.set_cons_succ]
                refine wpList_run (by kernel_rfl) (.bool true) wj rfl ?_
                simp only [Act.put, List.setIfInBounds_toArray, List.set_cons_zero, List.set_cons_succ]
                refine wpList_nil ?_
                go_wp2_with fail
                go_ret
                exact ⟨rfl, HBV4.out.trans (B0.out.mono HBV4.out.size)⟩
              · have hci17 : ¬ ((nq : Int) = 0) := by omega
                go_upto_region 27 with fail
                refine wp_region_lit ?_
                refine wpList_run (by kernel_rfl) (.slice Al nq cl) wj rfl ?_
                simp only [Act.put, List.setIfInBounds_toArray, List.set_cons_zero, List.set_cons_succ]
                refine wpList_run (by kernel_rfl) (.int .i64 (nq : Int)) wj (xo_len Al nq cl Tryd.underlying27 rfl rfl) ?_
                simp only [Act.put, List.setIfInBounds_toArray, List.set_cons_zero, List.set_cons_succ]
                refine wpList_run (by kernel_rfl) (.bool false) wj (xo_eqlF .i64 (nq : Int) 0 (by omega) rfl rfl rfl) ?_
                simp only [Act.put, List.setIfInBounds_toArray, List.set_cons_zero, List.set_cons_succ]
                refine wpList_nil ?_
                obtain ⟨kk, hkk⟩ : ∃ kk, at_ % m = kk := ⟨_, rfl⟩
                have hkm : kk < m := by rw [← hkk]; exact Nat.mod_lt _ (by omega)
                go_upto_region 29 with fail
                refine wp_region_lit ?_
                refine wpList_run (by kernel_rfl) (.int .u8 (at_ : Int)) wj rfl ?_
                simp only [Act.put, List.setIfInBounds_toArray, List.set_cons_zero, List.set_cons_succ]
                refine wpList_run (by kernel_rfl) (.int .i64 (at_ : Int)) wj (xo_cvt .u8 .i64 (at_ : Int) (at_ : Int) (by rw [IntKind.wrap_i64]; omega) Tryd.underlying3 Tryd.underlying5 rfl rfl) ?_
                simp only [Act.put, List.setIfInBounds_toArray, List.set_cons_zero, List.set_cons_succ]
                refine wpList_run (by kernel_rfl) (.pointer (some ⟨b6, 0, none⟩)) wj (xo_fld0 0 b6 0 (by kernel_rfl) rfl rfl) ?_
                simp only [Act.put, List.setIfInBounds_toArray, List.set_cons_zero, List.set_cons_succ]
                refine wpList_run (by kernel_rfl) (.slice A2 m c2) wj (xo_load1 ⟨b6, 0, none⟩ _ (cells_at (heap_keep Fv1_6.out B0.out) 0 rfl) Tryd.underlying27 rfl rfl rfl) ?_
                simp only [Act.put, List.setIfInBounds_toArray, List.set_cons_zero, List.set_cons_succ]
                refine wpList_run (by kernel_rfl) (.int .i64 (m : Int)) wj (xo_len A2 m c2 Tryd.underlying27 rfl rfl) ?_
                simp only [Act.put, List.setIfInBounds_toArray, List.set_cons_zero, List.set_cons_succ]
                refine wpList_run (by kernel_rfl) (.int .i64 (kk : Int)) wj (xo_remN .i64 at_ m kk (by omega) hkk rfl rfl rfl) ?_
                simp only [Act.put, List.setIfInBounds_toArray, List.set_cons_zero, List.set_cons_succ]
                refine wpList_run (by kernel_rfl) (.int .i64 (kk : Int)) wj rfl ?_
                simp only [Act.put, List.setIfInBounds_toArray, List.set_cons_zero, List.set_cons_succ]
                refine wpList_nil ?_
                obtain ⟨g, hg⟩ : ∃ g, gs[kk]? = some g := ⟨_, List.getElem?_eq_getElem (by omega)⟩
                have HGK := Lib.hid hg
                clear hg
                cases g with
                | false =>
                  go_upto_region 30 with fail
                  refine wp_region_lit ?_
                  refine wpList_run (by kernel_rfl) (.agg #[.slice A2 m c2, .slice E2 m d2]) wj (xo_loadW b6 _ (heap_keep Fv1_6.out B0.out) Tryd.underlying30 rfl (by kernel_rfl) rfl rfl) ?_
                  simp only [Act.put, List.setIfInBounds_toArray, List.set_cons_zero, List.set_cons_succ]
                  refine wpList_run (by kernel_rfl) (.int .i64 (kk : Int)) wj rfl ?_
                  simp only [Act.put, List.setIfInBounds_toArray, List.set_cons_zero, List.set_cons_succ]
                  refine wpList_call (by kernel_rfl) 15 Tryd.func15 (by kernel_rfl) (by kernel_rfl) _ _ #[.agg #[.slice A2 m c2, .slice E2 m d2], .int .i64 (kk : Int)] rfl (by kernel_rfl) ?_
                  refine (rretract_ok A2 m c2 rs E2 d2 gs kk HGK.out (by omega) wj (HL.out.keep B0.out) (HG.out.keep B0.out)).mono ?_
                  rintro e V2 ⟨Au, cu, Bu, du, rfl, hs1, hs2, hb⟩
                  have B1 := Lib.hid hb
                  have HLu := Lib.hid hs1
                  have HGu := Lib.hid hs2
                  clear hb hs1 hs2
                  refine ⟨_, rfl, ?_⟩
                  simp only [Act.put, List.setIfInBounds_toArray, List.set_cons_zero, List.set_cons_succ]
                  refine wpList_run (by kernel_rfl) (.tuple #[.agg #[.slice Au m cu, .slice Bu m du], .int .i64 0]) V2 rfl ?_
                  simp only [Act.put, List.setIfInBounds_toArray, List.set_cons_zero, List.set_cons_succ]
                  refine wpList_run (by kernel_rfl) (.agg #[.slice Au m cu, .slice Bu m du]) V2 rfl ?_
                  simp only [Act.put, List.setIfInBounds_toArray, List.set_cons_zero, List.set_cons_succ]
                  refine wpList_run (by kernel_rfl) (.int .i64 0) V2 rfl ?_
                  simp only [Act.put, List.setIfInBounds_toArray, List.set_cons_zero, List.set_cons_succ]
                  refine wpList_new #[.slice none 0 0, .slice none 0 0] 30 (by kernel_rfl) (xo_alloc #[.slice none 0 0, .slice none 0 0] (by kernel_rfl) rfl) ?_
                  intro b15 V3 hge h0 hb
                  have C0_2 := Lib.hid (bel_step B0.out B1.out)
                  have N18_0 : Hid (b6 ≠ b15) := Lib.hid (xp_lt0 (heap_keep Fv1_6.out C0_2.out) hge)
                  have Ge19 : Hid (V2.heap.size ≤ b15) := Lib.hid hge
                  have B2 := Lib.hid hb
                  have Fv20_15 : Hid (V3.heap[b15]? = some (.cells #[.slice none 0 0, .slice none 0 0] 30 (0, 0))) := Lib.hid (h0)
                  have Lt21 : Hid (b15 < V3.heap.size) := Lib.hid (xp_lt Fv20_15.out)
                  clear hge h0 hb
                  simp only [ptr, Act.put, List.setIfInBounds_toArray, List.set_cons_zero, List.set_cons_succ]
                  refine wpList_storeW b15 #[.slice none 0 0, .slice none 0 0] #[.slice Au m cu, .slice Bu m du] 30 (by kernel_rfl) Fv20_15.out (xo_storeW b15 #[.slice none 0 0, .slice none 0 0] #[.slice Au m cu, .slice Bu m du] Fv20_15.out (by kernel_rfl) rfl (by simp [Value.oneCell']) rfl rfl rfl) ?_
                  intro X3_22 h1 hfar hbel hsz
                  have hbr := hbel _ _ Ge19.out B2.out
                  clear B2
                  have B2 := Lib.hid hbr
                  clear hbr
                  clear Fv20_15
                  have Fv20_15 : Hid (X3_22.heap[b15]? = some (.cells #[.slice Au m cu, .slice Bu m du] 30 (0, 0))) := Lib.hid (h1)
                  have HszX3_22 := Lib.hid hsz
                  clear h1 hfar hbel hsz
                  simp only [ptr, Act.put, List.setIfInBounds_toArray, List.set_cons_zero, List.set_cons_succ]
                  refine wpList_run (by kernel_rfl) (.int .i64 0) X3_22 rfl ?_
                  simp only [Act.put, List.setIfInBounds_toArray, List.set_cons_zero, List.set_cons_succ]
                  refine wpList_nil ?_
                  go_upto_region 31 with fail
                  refine wp_region_lit ?_
                  refine wpList_run (by kernel_rfl) (.int .i64 0) X3_22 rfl ?_
                  simp only [Act.put, List.setIfInBounds_toArray, List.set_cons_zero, List.set_cons_succ]
                  refine wpList_run (by kernel_rfl) (.bool false) X3_22 (xo_neqF .i64 0 0 (by omega) rfl rfl rfl) ?_
                  simp only [Act.put, List.setIfInBounds_toArray, List.set_cons_zero, List.set_cons_succ]
                  refine wpList_nil ?_
                  have hmg2 : (gs.set kk true).length = m := by rw [List.length_set, hmg]
                  obtain ⟨c4, hc4⟩ : ∃ x, colN rs (gs.set kk true) (2 ^ 4) 4 = x := ⟨_, rfl⟩
                  have hc4l : c4.length = 16 := by rw [← hc4]; exact colN_length hmr hmg2 hm24
                  have hc4k : c4[kk]? = some 0 := by rw [← hc4]; exact colN_live hmr hmg2 hkm (List.getElem?_set_self (by omega))
                  have HC4 := Lib.hid hc4
                  have HC4L := Lib.hid hc4l
                  have HC4K := Lib.hid hc4k
                  clear hc4 hc4l hc4k
                  go_upto_region 33 with fail
                  refine wp_region_lit ?_
                  refine wpList_run (by kernel_rfl) (.agg #[.slice Au m cu, .slice Bu m du]) X3_22 (xo_loadW b15 _ Fv20_15.out Tryd.underlying30 rfl (by kernel_rfl) rfl rfl) ?_
                  simp only [Act.put, List.setIfInBounds_toArray, List.set_cons_zero, List.set_cons_succ]
                  refine wpList_call (by kernel_rfl) 19 Tryd.func19 (by kernel_rfl) (by kernel_rfl) _ _ #[.agg #[.slice Au m cu, .slice Bu m du], .int .i64 4] rfl (by kernel_rfl) ?_
                  refine (cols_yes Au m cu rs Bu du (gs.set kk true) 4 (by omega) hm24 HST.out.ok X3_22 (HLu.out.keep B2.out) (HGu.out.keep B2.out)).mono ?_
                  rintro e V4 ⟨gh, bs, rfl, hr9, hu, hg9, hb⟩
                  have C0_3 := Lib.hid (bel_step C0_2.out B2.out)
                  have N23 : Hid (b6 ≠ gh) := Lib.hid (Nat.ne_of_lt (Nat.lt_of_lt_of_le (xp_lt (heap_keep Fv1_6.out C0_3.out)) hg9))
                  have N24 : Hid (b15 ≠ gh) := Lib.hid (Nat.ne_of_lt (Nat.lt_of_lt_of_le (xp_lt Fv20_15.out) hg9))
                  have Ge25 : Hid (X3_22.heap.size ≤ gh) := Lib.hid hg9
                  have B3 := Lib.hid hb
                  have hbl5 : bs.length = 5 := by rw [hu.len]; simp [colsN]
                  have HBL := Lib.hid hbl5
                  clear hbl5
                  have HU := Lib.hid hu
                  have Fv26_c : Hid (RowG hdC V4 gh 48 (bs.map (mkH (2 ^ 4)))) := Lib.hid hr9
                  have Lt27 : Hid (gh < V4.heap.size) := Lib.hid (xp_lt Fv26_c.out)
                  clear hb hr9 hg9 hu
                  refine ⟨_, rfl, ?_⟩
                  simp only [Act.put, List.setIfInBounds_toArray, List.set_cons_zero, List.set_cons_succ]
                  refine wpList_run (by kernel_rfl) (.tuple #[.slice (some ⟨gh, 0, none⟩) 5 5, .int .i64 0]) V4 rfl ?_
                  simp only [Act.put, List.setIfInBounds_toArray, List.set_cons_zero, List.set_cons_succ]
                  refine wpList_run (by kernel_rfl) (.slice (some ⟨gh, 0, none⟩) 5 5) V4 rfl ?_
                  simp only [Act.put, List.setIfInBounds_toArray, List.set_cons_zero, List.set_cons_succ]
                  refine wpList_run (by kernel_rfl) (.int .i64 0) V4 rfl ?_
                  simp only [Act.put, List.setIfInBounds_toArray, List.set_cons_zero, List.set_cons_succ]
                  refine wpList_run (by kernel_rfl) (.slice (some ⟨gh, 0, none⟩) 5 5) V4 rfl ?_
                  simp only [Act.put, List.setIfInBounds_toArray, List.set_cons_zero, List.set_cons_succ]
                  refine wpList_run (by kernel_rfl) (.int .i64 0) V4 rfl ?_
                  simp only [Act.put, List.setIfInBounds_toArray, List.set_cons_zero, List.set_cons_succ]
                  refine wpList_nil ?_
                  obtain ⟨e4, he4⟩ : ∃ e, bs[4]? = some e := ⟨_, List.getElem?_eq_getElem (by have := HBL.out; omega)⟩
                  have HE9 : Hid ((bs.map (mkH (2 ^ 4)))[4]? = some (mkH 16 e4)) := Lib.hid (by rw [List.getElem?_map, he4]; rfl)
                  have hr4 : RowG wdC V4 e4 50 c4 := by have h0 := HU.out.row 4 e4 _ he4 (colsN_get (by omega)); rw [HC4.out] at h0; exact h0
                  have HR9 := Lib.hid hr4
                  clear hr4 he4
                  go_upto_region 34 with fail
                  refine wp_region_lit ?_
                  refine wpList_run (by kernel_rfl) (.int .i64 0) V4 rfl ?_
                  simp only [Act.put, List.setIfInBounds_toArray, List.set_cons_zero, List.set_cons_succ]
                  refine wpList_run (by kernel_rfl) (.bool false) V4 (xo_neqF .i64 0 0 (by omega) rfl rfl rfl) ?_
                  simp only [Act.put, List.setIfInBounds_toArray, List.set_cons_zero, List.set_cons_succ]
                  refine wpList_run (by kernel_rfl) (.bool false) V4 rfl ?_
                  simp only [Act.put, List.setIfInBounds_toArray, List.set_cons_zero, List.set_cons_succ]
                  refine wpList_run (by kernel_rfl) (.slice (some ⟨gh, 0, none⟩) 5 5) V4 rfl ?_
                  simp only [Act.put, List.setIfInBounds_toArray, List.set_cons_zero, List.set_cons_succ]
                  refine wpList_run (by kernel_rfl) (.int .i64 5) V4 (xo_len (some ⟨gh, 0, none⟩) 5 5 Tryd.underlying38 rfl rfl) ?_
                  simp only [Act.put, List.setIfInBounds_toArray, List.set_cons_zero, List.set_cons_succ]
                  refine wpList_run (by kernel_rfl) (.bool false) V4 (xo_neqF .i64 5 5 (by omega) rfl rfl rfl) ?_
                  simp only [Act.put, List.setIfInBounds_toArray, List.set_cons_zero, List.set_cons_succ]
                  refine wpList_run (by kernel_rfl) (.bool false) V4 rfl ?_
                  simp only [Act.put, List.setIfInBounds_toArray, List.set_cons_zero, List.set_cons_succ]
                  refine wpList_run (by kernel_rfl) (.bool false) V4 rfl ?_
                  simp only [Act.put, List.setIfInBounds_toArray, List.set_cons_zero, List.set_cons_succ]
                  refine wpList_run (by kernel_rfl) (.slice (some ⟨gh, 0, none⟩) 5 5) V4 rfl ?_
                  simp only [Act.put, List.setIfInBounds_toArray, List.set_cons_zero, List.set_cons_succ]
                  refine wpList_run (by kernel_rfl) (.pointer (some (gad (some ⟨gh, 0, none⟩) (4 * 1)))) V4 (xg_idx .i64 (RowG.sg (n := 5) (c := 5) Fv26_c.out (by rw [List.length_map]; exact HBL.out) (Nat.le_refl _) (by omega)) HE9.out Tryd.underlying38 (by kernel_rfl) rfl rfl rfl) ?_
                  simp only [Act.put, List.setIfInBounds_toArray, List.set_cons_zero, List.set_cons_succ]
                  refine wpList_run (by kernel_rfl) (.slice (some ⟨e4, 0, none⟩) 16 16) V4 (xg_load1 (E := hdC) (i := 4) (j := 0) (RowG.sg (n := 5) (c := 5) Fv26_c.out (by rw [List.length_map]; exact HBL.out) (Nat.le_refl _) (by omega)) HE9.out rfl rfl Tryd.underlying48 rfl rfl rfl) ?_
                  simp only [Act.put, List.setIfInBounds_toArray, List.set_cons_zero, List.set_cons_succ]
                  refine wpList_run (by kernel_rfl) (.int .i64 16) V4 (xo_len (some ⟨e4, 0, none⟩) 16 16 Tryd.underlying48 rfl rfl) ?_
                  simp only [Act.put, List.setIfInBounds_toArray, List.set_cons_zero, List.set_cons_succ]
                  refine wpList_run (by kernel_rfl) (.bool false) V4 (xo_neqF .i64 16 16 (by omega) rfl rfl rfl) ?_
                  simp only [Act.put, List.setIfInBounds_toArray, List.set_cons_zero, List.set_cons_succ]
                  refine wpList_run (by kernel_rfl) (.bool false) V4 rfl ?_
                  simp only [Act.put, List.setIfInBounds_toArray, List.set_cons_zero, List.set_cons_succ]
                  refine wpList_run (by kernel_rfl) (.bool false) V4 rfl ?_
                  simp only [Act.put, List.setIfInBounds_toArray, List.set_cons_zero, List.set_cons_succ]
                  refine wpList_run (by kernel_rfl) (.slice (some ⟨gh, 0, none⟩) 5 5) V4 rfl ?_
                  simp only [Act.put, List.setIfInBounds_toArray, List.set_cons_zero, List.set_cons_succ]
                  refine wpList_run (by kernel_rfl) (.pointer (some (gad (some ⟨gh, 0, none⟩) (4 * 1)))) V4 (xg_idx .i64 (RowG.sg (n := 5) (c := 5) Fv26_c.out (by rw [List.length_map]; exact HBL.out) (Nat.le_refl _) (by omega)) HE9.out Tryd.underlying38 (by kernel_rfl) rfl rfl rfl) ?_
                  simp only [Act.put, List.setIfInBounds_toArray, List.set_cons_zero, List.set_cons_succ]
                  refine wpList_run (by kernel_rfl) (.slice (some ⟨e4, 0, none⟩) 16 16) V4 (xg_load1 (E := hdC) (i := 4) (j := 0) (RowG.sg (n := 5) (c := 5) Fv26_c.out (by rw [List.length_map]; exact HBL.out) (Nat.le_refl _) (by omega)) HE9.out rfl rfl Tryd.underlying48 rfl rfl rfl) ?_
                  simp only [Act.put, List.setIfInBounds_toArray, List.set_cons_zero, List.set_cons_succ]
                  refine wpList_run (by kernel_rfl) (.int .i64 (kk : Int)) V4 rfl ?_
                  simp only [Act.put, List.setIfInBounds_toArray, List.set_cons_zero, List.set_cons_succ]
                  refine wpList_run (by kernel_rfl) (.pointer (some (gad (some ⟨e4, 0, none⟩) (kk * 1)))) V4 (xg_idx .i64 (RowG.sg (n := 16) (c := 16) HR9.out HC4L.out (Nat.le_refl _) (by omega)) HC4K.out Tryd.underlying48 (by kernel_rfl) rfl rfl rfl) ?_
                  simp only [Act.put, List.setIfInBounds_toArray, List.set_cons_zero, List.set_cons_succ]
                  refine wpList_run (by kernel_rfl) (.int .u64 0) V4 (xg_load1 (E := wdC) (i := kk) (j := 0) (RowG.sg (n := 16) (c := 16) HR9.out HC4L.out (Nat.le_refl _) (by omega)) HC4K.out rfl rfl Tryd.underlying50 rfl rfl rfl) ?_
                  simp only [Act.put, List.setIfInBounds_toArray, List.set_cons_zero, List.set_cons_succ]
                  refine wpList_run (by kernel_rfl) (.bool false) V4 (xo_neqF .u64 0 0 (by omega) rfl rfl rfl) ?_
                  simp only [Act.put, List.setIfInBounds_toArray, List.set_cons_zero, List.set_cons_succ]
                  refine wpList_run (by kernel_rfl) (.bool false) V4 rfl ?_
                  simp only [Act.put, List.setIfInBounds_toArray, List.set_cons_zero, List.set_cons_succ]
                  refine wpList_nil ?_
                  go_upto_region 36 with fail
                  refine wp_region_lit ?_
                  refine wpList_run (by kernel_rfl) (.slice (some ⟨gh, 0, none⟩) 5 5) V4 rfl ?_
                  simp only [Act.put, List.setIfInBounds_toArray, List.set_cons_zero, List.set_cons_succ]
                  refine wpList_mk (by kernel_rfl) #[] 50 0 0 (xo_empty (size := 1) Tryd.underlying48 (by kernel_rfl) rfl V4) ?_
                  intro g202 V5 hge h0 hb
                  have B4 := Lib.hid hb
                  clear hge h0 hb
                  simp only [ptr, Act.put, List.setIfInBounds_toArray, List.set_cons_zero, List.set_cons_succ]
                  refine wpList_run (by kernel_rfl) (.slice (some ⟨gh, 0, none⟩) 5 5) V5 rfl ?_
                  simp only [Act.put, List.setIfInBounds_toArray, List.set_cons_zero, List.set_cons_succ]
                  refine wpList_run (by kernel_rfl) (.pointer (some (gad (some ⟨gh, 0, none⟩) (4 * 1)))) V5 (xg_idx .i64 (RowG.sg (n := 5) (c := 5) (Fv26_c.out.keep B4.out) (by rw [List.length_map]; exact HBL.out) (Nat.le_refl _) (by omega)) HE9.out Tryd.underlying38 (by kernel_rfl) rfl rfl rfl) ?_
                  simp only [Act.put, List.setIfInBounds_toArray, List.set_cons_zero, List.set_cons_succ]
                  refine wpList_run (by kernel_rfl) (.slice (some ⟨e4, 0, none⟩) 16 16) V5 (xg_load1 (E := hdC) (i := 4) (j := 0) (RowG.sg (n := 5) (c := 5) (Fv26_c.out.keep B4.out) (by rw [List.length_map]; exact HBL.out) (Nat.le_refl _) (by omega)) HE9.out rfl rfl Tryd.underlying48 rfl rfl rfl) ?_
                  simp only [Act.put, List.setIfInBounds_toArray, List.set_cons_zero, List.set_cons_succ]
                  refine wpList_op (by kernel_rfl) ?_
                  refine hOp_appFull (n := 0) (size := 1) (cs := []) (.tmp 202) (.tmp 205) 48 rfl (.int .u64 0) 8 Tryd.underlying48 (by kernel_rfl) rfl (by decide) ⟨g202, 0, none⟩ rfl ⟨by simp, fun e => (by cases e), fun j u hj => (by simp at hj), fun u hu => (by cases hu)⟩ ⟨e4, 0, none⟩ 16 16 (fl wdC c4) rfl (RowG.sg (n := 16) (c := 16) (HR9.out.keep B4.out) HC4L.out (Nat.le_refl _) (by omega)).src (by omega) (by unfold maxLen; omega) (by omega) ?_
                  intro v206 V6 ho hb
                  rw [Nat.zero_add, List.nil_append] at ho
                  obtain ⟨g9, c9, rfl, hog⟩ := own_at (i := kk) ho (by omega)
                  have hg9b : g9 ∉ bs := fun hm => by have h1 := RowsU.lt (HU.out.keep B4.out) g9 hm; omega
                  have hn9 : gh ≠ g9 := fun e => by have h1 := xp_lt (Fv26_c.out.keep B4.out); omega
                  have C0_4 := Lib.hid (bel_step C0_3.out B3.out)
                  have C0_5 := Lib.hid (bel_step C0_4.out B4.out)
                  have hg9V : VB4.heap.size ≤ g9 := Nat.le_trans C0_5.out.size hog
                  have B5 := Lib.hid hb
                  have ho2 := own_mono ho C0_5.out.size
                  have OW9 := Lib.hid ho2
                  clear ho ho2 hb hog
                  simp only [ptr, Act.put, List.setIfInBounds_toArray, List.set_cons_zero, List.set_cons_succ]
                  have C4_6 := Lib.hid (bel_step B4.out B5.out)
                  refine wpList_run (by kernel_rfl) (.pointer (some (gad (some ⟨gh, 0, none⟩) (4 * 1)))) V6 (xg_idx .i64 (RowG.sg (n := 5) (c := 5) (Fv26_c.out.keep C4_6.out) (by rw [List.length_map]; exact HBL.out) (Nat.le_refl _) (by omega)) HE9.out Tryd.underlying38 (by kernel_rfl) rfl rfl rfl) ?_
                  simp only [Act.put, List.setIfInBounds_toArray, List.set_cons_zero, List.set_cons_succ]
                  obtain ⟨BASE9, hbase9⟩ : ∃ B, RowsU V6 50 B bs (colsN rs (gs.set kk true) (2 ^ 4)) := ⟨_, (HU.out.keep C4_6.out)⟩
                  clear HU
                  have HU := Lib.hid hbase9
                  clear hbase9
                  have hgnb : gh ∉ bs := RowsU.notin HU.out (Fv26_c.out.keep C4_6.out) (by decide)
                  refine wpList_storeW gh _ _ 48 (by kernel_rfl) (RowG.h (Fv26_c.out.keep C4_6.out)) (xg_store (Fv26_c.out.keep C4_6.out) (List.getElem?_eq_some_iff.1 HE9.out).1 (Hd.mk (some ⟨g9, 0, none⟩) 16 c9) (by kernel_rfl) rfl rfl rfl) ?_
                  intro X6_28 h1 hfar hbel hsz
                  have YOW9 : X6_28.ownsRow VB4.heap.size 50 1 (.slice (some ⟨g9, 0, none⟩) 16 c9) 16 (fl wdC c4) := own_farT OW9.out (Fv26_c.out.keep C4_6.out) (by decide) hfar
                  have YHU : RowsU X6_28 50 BASE9 bs (colsN rs (gs.set kk true) (2 ^ 4)) := RowsU.far HU.out hgnb hfar
                  -- drops HR9
                  have C3_5 := Lib.hid (bel_step B3.out B4.out)
                  have C3_6 := Lib.hid (bel_step C3_5.out B5.out)
                  have hbr := hbel _ _ Ge25.out C3_6.out
                  clear B3
                  have B3 := Lib.hid hbr
                  clear hbr
                  clear OW9
                  have OW9 := Lib.hid YOW9
                  clear YOW9
                  clear HU
                  have HU := Lib.hid YHU
                  clear YHU
                  clear Fv26_c
                  have Fv26_c : Hid (RowG hdC X6_28 gh 48 ((bs.map (mkH (2 ^ 4))).set 4 (Hd.mk (some ⟨g9, 0, none⟩) 16 c9))) := Lib.hid (h1)
                  have HszX6_28 := Lib.hid hsz
                  clear h1 hfar hbel hsz
                  simp only [ptr, Act.put, List.setIfInBounds_toArray, List.set_cons_zero, List.set_cons_succ]
                  refine wpList_nil ?_
                  have HE10 : Hid ((((bs.map (mkH (2 ^ 4))).set 4 (Hd.mk (some ⟨g9, 0, none⟩) 16 c9)))[4]? = some (Hd.mk (some ⟨g9, 0, none⟩) 16 c9)) := Lib.hid (List.getElem?_set_self (by rw [List.length_map, HBL.out]; omega))
                  go_upto_region 37 with fail
                  refine wp_region_lit ?_
                  refine wpList_run (by kernel_rfl) (.slice (some ⟨gh, 0, none⟩) 5 5) X6_28 rfl ?_
                  simp only [Act.put, List.setIfInBounds_toArray, List.set_cons_zero, List.set_cons_succ]
                  refine wpList_run (by kernel_rfl) (.pointer (some (gad (some ⟨gh, 0, none⟩) (4 * 1)))) X6_28 (xg_idx .i64 (RowG.sg (n := 5) (c := 5) Fv26_c.out (by rw [List.length_set]; exact (by rw [List.length_map]; exact HBL.out)) (Nat.le_refl _) (by omega)) HE10.out Tryd.underlying38 (by kernel_rfl) rfl rfl rfl) ?_
                  simp only [Act.put, List.setIfInBounds_toArray, List.set_cons_zero, List.set_cons_succ]
                  refine wpList_run (by kernel_rfl) (.slice (some ⟨g9, 0, none⟩) 16 c9) X6_28 (xg_load1 (E := hdC) (i := 4) (j := 0) (RowG.sg (n := 5) (c := 5) Fv26_c.out (by rw [List.length_set]; exact (by rw [List.length_map]; exact HBL.out)) (Nat.le_refl _) (by omega)) HE10.out rfl rfl Tryd.underlying48 rfl rfl rfl) ?_
                  simp only [Act.put, List.setIfInBounds_toArray, List.set_cons_zero, List.set_cons_succ]
                  refine wpList_run (by kernel_rfl) (.int .i64 (kk : Int)) X6_28 rfl ?_
                  simp only [Act.put, List.setIfInBounds_toArray, List.set_cons_zero, List.set_cons_succ]
                  refine wpList_run (by kernel_rfl) (.pointer (some ((⟨g9, 0, none⟩ : Addr).add kk))) X6_28 (xo_index1 .i64 ⟨g9, 0, none⟩ 16 c9 kk (by omega) Tryd.underlying48 (by kernel_rfl) rfl rfl rfl) ?_
                  simp only [Act.put, List.setIfInBounds_toArray, List.set_cons_zero, List.set_cons_succ]
                  have hgo := Fv26_c.out
                  have huo := HU.out
                  have C0_4 := Lib.hid (bel_step C0_3.out B3.out)
                  have hbo := C0_4.out
                  refine wpList_ownStore (.int .u64 1) (by kernel_rfl) OW9.out (i := kk) (by omega) (by kernel_rfl) rfl rfl rfl rfl ?_
                  intro X9 ho hfar hbel hkin
                  have ho9 : X9.ownsRow VB4.heap.size 50 1 (.slice (some ⟨g9, 0, none⟩) 16 c9) 16 (fl wdC (c4.set kk 1)) := by rw [fl_set1 wdC (fun n => .int .u64 (n : Int))]; exact ho
                  have hcd := Cols.patch (huo.far hg9b hfar) (hfar _ _ hn9 hgo) ho9 (fun xs hx => (colsN_ok hmr hmg2 hm24 HST.out.ok xs hx).1) HBL.out (by omega)
                  rw [colsN_back hmr hmg HC4.out HGK.out] at hcd
                  have hbr := hbel _ _ hg9V hbo
                  clear B0
                  have B0 := Lib.hid hbr
                  clear hbr
                  have HCD := Lib.hid hcd
                  clear hgo huo hbo ho hfar hbel hkin ho9 hcd
                  simp only [ptr, Act.put, List.setIfInBounds_toArray, List.set_cons_zero, List.set_cons_succ]
                  refine wpList_nil ?_
                  go_upto_region 38 with fail
                  refine wp_region_lit ?_
                  refine wpList_run (by kernel_rfl) (.bool true) X9 rfl ?_
                  simp only [Act.put, List.setIfInBounds_toArray, List.set_cons_zero, List.set_cons_succ]
                  refine wpList_run (by kernel_rfl) (.bool true) X9 rfl ?_
                  simp only [Act.put, List.setIfInBounds_toArray, List.set_cons_zero, List.set_cons_succ]
                  refine wpList_run (by kernel_rfl) (.slice A5 5 c5) X9 rfl ?_
                  simp only [Act.put, List.setIfInBounds_toArray, List.set_cons_zero, List.set_cons_succ]
                  refine wpList_run (by kernel_rfl) (.slice (some ⟨gh, 0, none⟩) 5 5) X9 rfl ?_
                  simp only [Act.put, List.setIfInBounds_toArray, List.set_cons_zero, List.set_cons_succ]
                  refine wpList_call (by kernel_rfl) 26 Tryd.func26 (by kernel_rfl) (by kernel_rfl) _ _ #[.slice A5 5 c5, .slice (some ⟨gh, 0, none⟩) 5 5] rfl (by kernel_rfl) ?_
                  refine (sameCols_yes A5 5 c5 hs5 (some ⟨gh, 0, none⟩) 5 _ (colsN rs gs (2 ^ 4)) X9 (HC.out.keep B0.out) HCD.out).mono ?_
                  rintro e V2 ⟨rfl, hb⟩
                  have B1 := Lib.hid hb
                  clear hb 
                  refine ⟨_, rfl, ?_⟩
                  simp only [Act.put, List.setIfInBounds_toArray, List.set_cons_zero, List.set_cons_succ]
                  refine wpList_run (by kernel_rfl) (.bool true) V2 rfl ?_
                  simp only [Act.put, List.setIfInBounds_toArray, List.set_cons_zero, List.set_cons_succ]
                  refine wpList_run (by kernel_rfl) (.bool true) V2 rfl ?_
                  simp only [Act.put, List.setIfInBounds_toArray, List.set_cons_zero, List.set_cons_succ]
                  refine wpList_nil ?_
                  go_wp2_with fail
                  go_ret
                  have C0_2 := Lib.hid (bel_step B0.out B1.out)
                  exact ⟨rfl, HBV4.out.trans (C0_2.out.mono HBV4.out.size)⟩
                | true =>
                  go_upto_region 30 with fail
                  refine wp_region_lit ?_
                  refine wpList_run (by kernel_rfl) (.agg #[.slice A2 m c2, .slice E2 m d2]) wj (xo_loadW b6 _ (heap_keep Fv1_6.out B0.out) Tryd.underlying30 rfl (by kernel_rfl) rfl rfl) ?_
                  simp only [Act.put, List.setIfInBounds_toArray, List.set_cons_zero, List.set_cons_succ]
                  refine wpList_run (by kernel_rfl) (.int .i64 (kk : Int)) wj rfl ?_
                  simp only [Act.put, List.setIfInBounds_toArray, List.set_cons_zero, List.set_cons_succ]
                  refine wpList_call (by kernel_rfl) 15 Tryd.func15 (by kernel_rfl) (by kernel_rfl) _ _ #[.agg #[.slice A2 m c2, .slice E2 m d2], .int .i64 (kk : Int)] rfl (by kernel_rfl) ?_
                  refine (rretract_spent A2 m c2 rs E2 d2 gs kk HGK.out (by omega) wj (HL.out.keep B0.out) (HG.out.keep B0.out)).mono ?_
                  rintro e V2 ⟨rfl, hb⟩
                  have B1 := Lib.hid hb
                  clear hb 
                  refine ⟨_, rfl, ?_⟩
                  simp only [Act.put, List.setIfInBounds_toArray, List.set_cons_zero, List.set_cons_succ]
                  refine wpList_run (by kernel_rfl) (.tuple #[.agg #[.slice none 0 0, .slice none 0 0], .int .i64 120]) V2 rfl ?_
                  simp only [Act.put, List.setIfInBounds_toArray, List.set_cons_zero, List.set_cons_succ]
                  refine wpList_run (by kernel_rfl) (.agg #[.slice none 0 0, .slice none 0 0]) V2 rfl ?_
                  simp only [Act.put, List.setIfInBounds_toArray, List.set_cons_zero, List.set_cons_succ]
                  refine wpList_run (by kernel_rfl) (.int .i64 120) V2 rfl ?_
                  simp only [Act.put, List.setIfInBounds_toArray, List.set_cons_zero, List.set_cons_succ]
                  refine wpList_new #[.slice none 0 0, .slice none 0 0] 30 (by kernel_rfl) (xo_alloc #[.slice none 0 0, .slice none 0 0] (by kernel_rfl) rfl) ?_
                  intro b15 V3 hge h0 hb
                  have C0_2 := Lib.hid (bel_step B0.out B1.out)
                  have N18_0 : Hid (b6 ≠ b15) := Lib.hid (xp_lt0 (heap_keep Fv1_6.out C0_2.out) hge)
                  have Ge19 : Hid (V2.heap.size ≤ b15) := Lib.hid hge
                  have B2 := Lib.hid hb
                  have Fv20_15 : Hid (V3.heap[b15]? = some (.cells #[.slice none 0 0, .slice none 0 0] 30 (0, 0))) := Lib.hid (h0)
                  have Lt21 : Hid (b15 < V3.heap.size) := Lib.hid (xp_lt Fv20_15.out)
                  clear hge h0 hb
                  simp only [ptr, Act.put, List.setIfInBounds_toArray, List.set_cons_zero, List.set_cons_succ]
                  refine wpList_storeW b15 #[.slice none 0 0, .slice none 0 0] #[.slice none 0 0, .slice none 0 0] 30 (by kernel_rfl) Fv20_15.out (xo_storeW b15 #[.slice none 0 0, .slice none 0 0] #[.slice none 0 0, .slice none 0 0] Fv20_15.out (by kernel_rfl) rfl (by simp [Value.oneCell']) rfl rfl rfl) ?_
                  intro X3_22 h1 hfar hbel hsz
                  have hbr := hbel _ _ Ge19.out B2.out
                  clear B2
                  have B2 := Lib.hid hbr
                  clear hbr
                  clear Fv20_15
                  have Fv20_15 : Hid (X3_22.heap[b15]? = some (.cells #[.slice none 0 0, .slice none 0 0] 30 (0, 0))) := Lib.hid (h1)
                  have HszX3_22 := Lib.hid hsz
                  clear h1 hfar hbel hsz
                  simp only [ptr, Act.put, List.setIfInBounds_toArray, List.set_cons_zero, List.set_cons_succ]
                  refine wpList_run (by kernel_rfl) (.int .i64 120) X3_22 rfl ?_
                  simp only [Act.put, List.setIfInBounds_toArray, List.set_cons_zero, List.set_cons_succ]
                  refine wpList_nil ?_
                  go_upto_region 31 with fail
                  refine wp_region_lit ?_
                  refine wpList_run (by kernel_rfl) (.int .i64 120) X3_22 rfl ?_
                  simp only [Act.put, List.setIfInBounds_toArray, List.set_cons_zero, List.set_cons_succ]
                  refine wpList_run (by kernel_rfl) (.bool true) X3_22 (xo_neqT .i64 120 0 (by omega) rfl rfl rfl) ?_
                  simp only [Act.put, List.setIfInBounds_toArray, List.set_cons_zero, List.set_cons_succ]
                  refine wpList_nil ?_
                  go_upto_region 32 with fail
                  refine wp_region_lit ?_
                  refine wpList_run (by kernel_rfl) (.bool true) X3_22 rfl ?_
                  simp only [Act.put, List.setIfInBounds_toArray, List.set_cons_zero, List.set_cons_succ]
                  refine wpList_run (by kernel_rfl) (.bool true) X3_22 rfl ?_
                  simp only [Act.put, List.setIfInBounds_toArray, List.set_cons_zero, List.set_cons_succ]
                  refine wpList_nil ?_
                  go_wp2_with fail
                  go_ret
                  have C0_3 := Lib.hid (bel_step C0_2.out B2.out)
                  exact ⟨rfl, HBV4.out.trans (C0_3.out.mono HBV4.out.size)⟩
end Go.Proofs.YtopicjdmajlndaaDoor
