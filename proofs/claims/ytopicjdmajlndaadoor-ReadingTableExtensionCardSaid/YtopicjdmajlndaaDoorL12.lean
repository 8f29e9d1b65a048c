/- Several texts in one: Qw, Qx, Qz. -/
import Derived.Test.YtopicjdmajlndaaDoorL11
import Derived.Laws.BytesArg
namespace Go.Proofs.YtopicjdmajlndaaDoor
set_option linter.unusedVariables false
set_option linter.unusedSimpArgs false
set_option linter.unusedSectionVars false
set_option maxRecDepth 8000
open Go.RowKit Go.Proofs.YtopicjdmajlndaaDoor.K
attribute [local irreducible] wpList wpQuiet
theorem widA {i : Nat} (hi : i < 4) : (#[.int .i64 4, .int .i64 8, .int .i64 4, .int .i64 8] : Array Value)[i]? = some (.int .i64 ((widN i : Nat) : Int)) := by
  have : i = 0 ∨ i = 1 ∨ i = 2 ∨ i = 3 := by omega
  rcases this with rfl | rfl | rfl | rfl <;> rfl
theorem bitsN_ok {cols : List (List Nat)} {N : Nat} (h : ∀ xs ∈ cols, xs.length = N) {j : Nat} (hj : j ≤ 4) (hc : 4 ≤ cols.length) {ys : List Nat} (hy : ys ∈ bitsN cols j) : ys.length = N := by
  induction j with
  | zero => cases hy
  | succ j ih =>
    unfold bitsN at hy
    rcases List.mem_append.1 hy with hy | hy
    · exact ih (by omega) hy
    · obtain ⟨k, _, rfl⟩ := List.mem_map.1 hy
      unfold bitN
      rw [List.length_map]
      have hlt : j < cols.length := by omega
      rw [List.getD_eq_getElem?_getD, List.getElem?_eq_getElem hlt]
      exact h _ (List.getElem_mem hlt)
theorem cols_yesC (A : Option Addr) (n c : Nat) (rs : List Rd) (B : Option Addr) (d : Nat) (gs : List Bool) (lg : Nat) (hlg : lg ≤ 16) (hnN : n ≤ 2 ^ lg) (hv : ∀ r ∈ rs, vR r = true) (w : World) (hL : Sg rdC 4 w A n c rs) (hG : Sg boC 1 w B n d gs) :
    Calls Tryd.prog 19 #[.agg #[.slice A n c, .slice B n d], .int .i64 (lg : Int)] w fun e w' => ∃ A2 c2, e = .returned (.tuple #[.slice A2 5 c2, .int .i64 0]) ∧ (∃ hs, Cols w' A2 5 c2 hs (colsN rs gs (2 ^ lg))) ∧ Below w.heap.size w w' := by
  refine (cols_yes A n c rs B d gs lg hlg hnN hv w hL hG).mono ?_
  rintro e w' ⟨g, bs, rfl, hh, hu, _, hb⟩
  have hN : 2 ^ lg ≤ 65536 := Nat.pow_le_pow_right (by omega) hlg
  have hk : ∀ xs ∈ colsN rs gs (2 ^ lg), xs.length = 2 ^ lg := fun xs hx => (colsN_ok hL.len hG.len hnN hv xs hx).1
  exact ⟨_, _, rfl, ⟨_, RowsU.cols hu hh hk (by omega) (by simp [colsN])⟩, hb⟩
set_option maxRecDepth 100000 in
set_option maxHeartbeats 8000000 in
theorem bits_arg (A : Option Addr) (n c : Nat) (rs : List Rd) (B : Option Addr) (d : Nat) (gs : List Bool) (z : Int) (hz : z < 0 ∨ 16 < z) (w : World) (hL : Sg rdC 4 w A n c rs) (hG : Sg boC 1 w B n d gs) : Calls Tryd.prog 21 #[.agg #[.slice A n c, .slice B n d], .int .i64 z] w fun e w' => e = .returned (.tuple #[.slice none 0 0, .int .i64 1]) ∧ Below w.heap.size w w' := by
  have HL := Lib.hid hL
  have HGo := Lib.hid hG
  have hln := hL.len
  have hgn := hG.len
  clear hL hG
  go_enter Tryd.func21, Tryd.ntmps21
  go_upto_region 1 with fail
  refine wp_named1 (fun V1 hb g0 hlt => ?_)
  have B0 := Lib.hid hb
  have Fv0_2 : Hid (V1.heap[w.heap.size]? = some (.cells #[.slice A n c, .slice B n d] 30 (0, 0))) := Lib.hid (g0)
  have Gb0 : Hid (w.heap.size ≤ w.heap.size) := Lib.hid (by omega)
  clear hb g0 hlt
  have Lt0 : Hid (w.heap.size < V1.heap.size) := Lib.hid (xp_lt Fv0_2.out)
  refine wp_region_lit ?_
  refine wpList_run (by kernel_rfl) (.agg #[.slice A n c, .slice B n d]) V1 (xo_loadW w.heap.size _ Fv0_2.out Tryd.underlying30 rfl (by kernel_rfl) rfl rfl) ?_
  simp only [Act.put, List.setIfInBounds_toArray, List.set_cons_zero, List.set_cons_succ]
  refine wpList_run (by kernel_rfl) (.int .i64 z) V1 rfl ?_
  simp only [Act.put, List.setIfInBounds_toArray, List.set_cons_zero, List.set_cons_succ]
  refine wpList_call (by kernel_rfl) 19 Tryd.func19 (by kernel_rfl) (by kernel_rfl) _ _ #[.agg #[.slice A n c, .slice B n d], .int .i64 z] rfl (by kernel_rfl) ?_
  refine (cols_arg A n c rs B d gs z hz V1 (HL.out.keep B0.out) (HGo.out.keep B0.out)).mono ?_
  rintro e V2 ⟨rfl, hb⟩
  have B1 := Lib.hid hb
  clear hb 
  refine ⟨_, rfl, ?_⟩
  simp only [Act.put, List.setIfInBounds_toArray, List.set_cons_zero, List.set_cons_succ]
  refine wpList_run (by kernel_rfl) (.tuple #[.slice none 0 0, .int .i64 1]) V2 rfl ?_
  simp only [Act.put, List.setIfInBounds_toArray, List.set_cons_zero, List.set_cons_succ]
  refine wpList_run (by kernel_rfl) (.slice none 0 0) V2 rfl ?_
  simp only [Act.put, List.setIfInBounds_toArray, List.set_cons_zero, List.set_cons_succ]
  refine wpList_run (by kernel_rfl) (.int .i64 1) V2 rfl ?_
  simp only [Act.put, List.setIfInBounds_toArray, List.set_cons_zero, List.set_cons_succ]
  refine wpList_run (by kernel_rfl) (.slice none 0 0) V2 rfl ?_
  simp only [Act.put, List.setIfInBounds_toArray, List.set_cons_zero, List.set_cons_succ]
  refine wpList_run (by kernel_rfl) (.int .i64 1) V2 rfl ?_
  simp only [Act.put, List.setIfInBounds_toArray, List.set_cons_zero, List.set_cons_succ]
  refine wpList_nil ?_
  go_upto_region 2 with fail
  refine wp_region_lit ?_
  refine wpList_run (by kernel_rfl) (.int .i64 1) V2 rfl ?_
  simp only [Act.put, List.setIfInBounds_toArray, List.set_cons_zero, List.set_cons_succ]
  refine wpList_run (by kernel_rfl) (.bool true) V2 (xo_neqT .i64 1 0 (by omega) rfl rfl rfl) ?_
  simp only [Act.put, List.setIfInBounds_toArray, List.set_cons_zero, List.set_cons_succ]
  refine wpList_nil ?_
  go_upto_region 3 with fail
  refine wp_region_lit ?_
  refine wpList_run (by kernel_rfl) (.int .i64 1) V2 rfl ?_
  simp only [Act.put, List.setIfInBounds_toArray, List.set_cons_zero, List.set_cons_succ]
  refine wpList_run (by kernel_rfl) (.slice none 0 0) V2 rfl ?_
  simp only [Act.put, List.setIfInBounds_toArray, List.set_cons_zero, List.set_cons_succ]
  refine wpList_run (by kernel_rfl) (.int .i64 1) V2 rfl ?_
  simp only [Act.put, List.setIfInBounds_toArray, List.set_cons_zero, List.set_cons_succ]
  refine wpList_nil ?_
  go_wp2_with fail
  go_ret2
  have C0_2 := Lib.hid (bel_step B0.out B1.out)
  exact ⟨rfl, C0_2.out⟩
set_option maxRecDepth 100000 in
set_option maxHeartbeats 16000000 in
theorem bits_yes (A : Option Addr) (n c : Nat) (rs : List Rd) (B : Option Addr) (d : Nat) (gs : List Bool) (lg : Nat) (hlg : lg ≤ 16) (hnN : n ≤ 2 ^ lg) (hv : ∀ r ∈ rs, vR r = true) (w : World) (hL : Sg rdC 4 w A n c rs) (hG : Sg boC 1 w B n d gs) (hW : Gw w) : Calls Tryd.prog 21 #[.agg #[.slice A n c, .slice B n d], .int .i64 (lg : Int)] w fun e w' => ∃ A2 c2, e = .returned (.tuple #[.slice A2 24 c2, .int .i64 0]) ∧ (∃ hs, Cols w' A2 24 c2 hs (bitsN (colsN rs gs (2 ^ lg)) 4)) ∧ Below w.heap.size w w' := by
  have HV := Lib.hid hv
  clear hv
  have HG := Lib.hid hW
  clear hW
  have HL := Lib.hid hL
  have HGo := Lib.hid hG
  have hln := hL.len
  have hgn := hG.len
  clear hL hG
  go_enter Tryd.func21, Tryd.ntmps21
  go_upto_region 1 with fail
  refine wp_named1 (fun V1 hb g0 hlt => ?_)
  have B0 := Lib.hid hb
  have Fv0_2 : Hid (V1.heap[w.heap.size]? = some (.cells #[.slice A n c, .slice B n d] 30 (0, 0))) := Lib.hid (g0)
  have Gb0 : Hid (w.heap.size ≤ w.heap.size) := Lib.hid (by omega)
  clear hb g0 hlt
  have Lt0 : Hid (w.heap.size < V1.heap.size) := Lib.hid (xp_lt Fv0_2.out)
  obtain ⟨N, hN⟩ : ∃ N, 2 ^ lg = N := ⟨_, rfl⟩
  have hNt : 1 ≤ N ∧ N ≤ 65536 := by rw [← hN]; exact ⟨Nat.pow_pos (by omega), Nat.pow_le_pow_right (by omega) hlg⟩
  have HNN := Lib.hid hN
  clear hN
  have HNL := Lib.hid hnN
  clear hnN
  refine wp_region_lit ?_
  refine wpList_run (by kernel_rfl) (.agg #[.slice A n c, .slice B n d]) V1 (xo_loadW w.heap.size _ Fv0_2.out Tryd.underlying30 rfl (by kernel_rfl) rfl rfl) ?_
  simp only [Act.put, List.setIfInBounds_toArray, List.set_cons_zero, List.set_cons_succ]
  refine wpList_run (by kernel_rfl) (.int .i64 (lg : Int)) V1 rfl ?_
  simp only [Act.put, List.setIfInBounds_toArray, List.set_cons_zero, List.set_cons_succ]
  refine wpList_call (by kernel_rfl) 19 Tryd.func19 (by kernel_rfl) (by kernel_rfl) _ _ #[.agg #[.slice A n c, .slice B n d], .int .i64 (lg : Int)] rfl (by kernel_rfl) ?_
  refine (cols_yesC A n c rs B d gs lg hlg HNL.out HV.out V1 (HL.out.keep B0.out) (HGo.out.keep B0.out)).mono ?_
  rintro e V2 ⟨A5, c5, rfl, ⟨hs0, hc0⟩, hb⟩
  have B1 := Lib.hid hb
  rw [HNN.out] at hc0
  have HC := Lib.hid hc0
  clear hb hc0
  refine ⟨_, rfl, ?_⟩
  simp only [Act.put, List.setIfInBounds_toArray, List.set_cons_zero, List.set_cons_succ]
  refine wpList_run (by kernel_rfl) (.tuple #[.slice A5 5 c5, .int .i64 0]) V2 rfl ?_
  simp only [Act.put, List.setIfInBounds_toArray, List.set_cons_zero, List.set_cons_succ]
  refine wpList_run (by kernel_rfl) (.slice A5 5 c5) V2 rfl ?_
  simp only [Act.put, List.setIfInBounds_toArray, List.set_cons_zero, List.set_cons_succ]
  refine wpList_run (by kernel_rfl) (.int .i64 0) V2 rfl ?_
  simp only [Act.put, List.setIfInBounds_toArray, List.set_cons_zero, List.set_cons_succ]
  refine wpList_run (by kernel_rfl) (.slice A5 5 c5) V2 rfl ?_
  simp only [Act.put, List.setIfInBounds_toArray, List.set_cons_zero, List.set_cons_succ]
  refine wpList_run (by kernel_rfl) (.int .i64 0) V2 rfl ?_
  simp only [Act.put, List.setIfInBounds_toArray, List.set_cons_zero, List.set_cons_succ]
  refine wpList_nil ?_
  go_upto_region 2 with fail
  refine wp_region_lit ?_
  refine wpList_run (by kernel_rfl) (.int .i64 0) V2 rfl ?_
  simp only [Act.put, List.setIfInBounds_toArray, List.set_cons_zero, List.set_cons_succ]
  refine wpList_run (by kernel_rfl) (.bool false) V2 (xo_neqF .i64 0 0 (by omega) rfl rfl rfl) ?_
  simp only [Act.put, List.setIfInBounds_toArray, List.set_cons_zero, List.set_cons_succ]
  refine wpList_nil ?_
  have C0_2 := Lib.hid (bel_step B0.out B1.out)
  have HBV1 := Lib.hid C0_2.out
  have YHC := HC.out
  have YHG := (HG.out.keep C0_2.out)
  clear HC
  have HC := Lib.hid YHC
  clear YHC
  clear HG
  have HG := Lib.hid YHG
  clear YHG
  obtain ⟨VB1, rfl⟩ : ∃ VB1 : World, VB1 = V2 := ⟨_, rfl⟩
  go_upto_region 4 with fail
  refine wp_region_lit ?_
  refine wpList_run (by kernel_rfl) (.slice none 0 0) VB1 rfl ?_
  simp only [Act.put, List.setIfInBounds_toArray, List.set_cons_zero, List.set_cons_succ]
  refine wpList_nil ?_
  go_upto_region 5 with fail
  refine wp_region_lit ?_
  refine wpList_run (by kernel_rfl) (.agg #[.int .i64 4, .int .i64 8, .int .i64 4, .int .i64 8]) VB1 (xo_loadR 0 0 [.int .i64 4, .int .i64 8, .int .i64 4, .int .i64 8] HG.out Tryd.underlying78 rfl (by kernel_rfl) rfl rfl) ?_
  simp only [Act.put, List.setIfInBounds_toArray, List.set_cons_zero, List.set_cons_succ]
  refine wpList_run (by kernel_rfl) (.int .i64 0) VB1 rfl ?_
  simp only [Act.put, List.setIfInBounds_toArray, List.set_cons_zero, List.set_cons_succ]
  refine wpList_nil ?_
  obtain ⟨cols, hcols⟩ : ∃ x, colsN rs gs N = x := ⟨_, rfl⟩
  have HCO := Lib.hid hcols
  have hcl5 : cols.length = 5 := by rw [← hcols]; simp [colsN]
  have HLT := Lib.hid (show ∀ xs ∈ cols, xs.length = N ∧ ∀ x ∈ xs, x < 256 by rw [← hcols]; exact colsN_ok hln hgn (by have := HNL.out; rw [HNN.out] at this; exact this) HV.out)
  have hc9 := HC.out
  rw [hcols] at hc9
  clear HC hcols
  have HC := Lib.hid hc9
  clear hc9
  have hbl0 : ∀ j, j ≤ 4 → (bitsN cols j).length ≤ 24 := fun j hj => bitsN_len cols j hj
  have HBL := Lib.hid hbl0
  clear hbl0
  have O2 := (Below.refl VB1.heap.size VB1)
  have B0 := Lib.hid (Below.refl VB1.heap.size VB1)
  go_wp2_with fail
  go_loopw [8, 22] (fun v p wr => ∃ i : Nat, ∃ bs : List Nat, i ≤ 4 ∧ p = .int .i64 i ∧ bs.length = (bitsN cols i).length ∧ wr.ownsRow VB1.heap.size 48 1 v (bitsN cols i).length (fl hdC (bs.map (mkH N))) ∧ RowsU wr 50 VB1.heap.size bs (bitsN cols i) ∧ Below VB1.heap.size VB1 wr) (fun _ p _ => 4 - (intOf p).toNat)
  case atStart => exact ⟨0, [], Nat.zero_le _, rfl, rfl, (⟨rfl, .inl ⟨rfl, rfl⟩⟩), RowsU.nil, O2⟩
  case round =>
    clear O2
    obtain ⟨wo, rfl⟩ : ∃ wo : World, wo = wr := ⟨_, rfl⟩
    obtain ⟨i, bs, hi, rfl, hhsl, hOW, hHB, hb0⟩ := hrel
    have hbr := hb0
    clear B0
    have B0 := Lib.hid hbr
    clear hbr
    have hsl := Lib.hid hhsl
    have OW := Lib.hid hOW
    have HB := Lib.hid hHB
    clear hb0 hhsl hOW hHB
    by_cases hlt : i < 4
    · have hci4 : ((i : Int) < 4) := by omega
      go_upto_region 6 with fail
      refine wp_region_lit ?_
      refine wpList_run (by kernel_rfl) (.bool true) wo (xo_lssT .i64 (i : Int) 4 (by omega) rfl rfl rfl) ?_
      simp only [Act.put, List.setIfInBounds_toArray, List.set_cons_zero, List.set_cons_succ]
      refine wpList_nil ?_
      go_upto_region 7 with fail
      refine wp_region_lit ?_
      refine wpList_run (by kernel_rfl) (.int .i64 (i : Int)) wo rfl ?_
      simp only [Act.put, List.setIfInBounds_toArray, List.set_cons_zero, List.set_cons_succ]
      refine wpList_run (by kernel_rfl) (.int .i64 ((widN i : Nat) : Int)) wo (xo_elt .i64 #[.int .i64 4, .int .i64 8, .int .i64 4, .int .i64 8] i 4 (.int .i64 ((widN i : Nat) : Int)) hlt (widA hlt) Tryd.underlying78 (by kernel_rfl) Tryd.underlying3 rfl rfl rfl rfl) ?_
      simp only [Act.put, List.setIfInBounds_toArray, List.set_cons_zero, List.set_cons_succ]
      refine wpList_run (by kernel_rfl) (.int .i64 (i : Int)) wo rfl ?_
      simp only [Act.put, List.setIfInBounds_toArray, List.set_cons_zero, List.set_cons_succ]
      refine wpList_run (by kernel_rfl) (.int .i64 ((widN i : Nat) : Int)) wo rfl ?_
      simp only [Act.put, List.setIfInBounds_toArray, List.set_cons_zero, List.set_cons_succ]
      refine wpList_nil ?_
      go_upto_region 8 with fail
      refine wp_region_lit ?_
      refine wpList_run (by kernel_rfl) (.int .i64 ((widN i : Nat) : Int)) wo rfl ?_
      simp only [Act.put, List.setIfInBounds_toArray, List.set_cons_zero, List.set_cons_succ]
      refine wpList_run (by kernel_rfl) (.int .i64 0) wo rfl ?_
      simp only [Act.put, List.setIfInBounds_toArray, List.set_cons_zero, List.set_cons_succ]
      refine wpList_nil ?_
      have hwi : widN i ≤ 8 := by unfold widN; split <;> omega
      have hbi1 := HBL.out (i + 1) (by omega)
      have hbi2 : (bitsN cols (i + 1)).length = (bitsN cols i).length + widN i := by simp [bitsN]
      obtain ⟨xs, hx⟩ : ∃ xs, cols[i]? = some xs := ⟨_, List.getElem?_eq_getElem (by omega)⟩
      have hxn := HLT.out xs (List.mem_of_getElem? hx)
      have hgD : cols.getD i [] = xs := by simp [List.getD_eq_getElem?_getD, hx]
      have HGD := Lib.hid hgD
      have HXS := Lib.hid hx
      have hxl := hxn.1
      have HX2 := Lib.hid hxn.2
      clear hx hgD hxn
      have hy0 := HB.out
      rw [← bitsP_zero] at hy0
      clear HB
      have HB := Lib.hid hy0
      clear hy0
      have O5 := OW.out
      have O6 := HB.out
      have O7 := B0.out
      go_wp2_with fail
      go_loopw [8, 27] (fun v p wr => ∃ k : Nat, ∃ bs : List Nat, k ≤ (widN i) ∧ p = .int .i64 k ∧ bs.length = ((bitsN cols i).length + k) ∧ wr.ownsRow VB1.heap.size 48 1 v ((bitsN cols i).length + k) (fl hdC (bs.map (mkH N))) ∧ RowsU wr 50 VB1.heap.size bs (bitsP cols i k) ∧ Below VB1.heap.size VB1 wr) (fun _ p _ => (widN i) - (intOf p).toNat)
      case atStart => exact ⟨0, bs, Nat.zero_le _, rfl, (by first | exact hsl.out | (simpa [bitsP] using hsl.out)), O5, O6, O7⟩
      case round =>
        clear O7 O5 O6
        obtain ⟨wp, rfl⟩ : ∃ wp : World, wp = wr := ⟨_, rfl⟩
        obtain ⟨k, bs, hi, rfl, hhsl, hOW, hHB, hb0⟩ := hrel
        have hbr := hb0
        clear B0
        have B0 := Lib.hid hbr
        clear hbr
        have hsl := Lib.hid hhsl
        have OW := Lib.hid hOW
        have HB := Lib.hid hHB
        clear hb0 hhsl hOW hHB
        by_cases hlk : k < widN i
        · have hci9 : ((k : Int) < ((widN i : Nat) : Int)) := by omega
          go_upto_region 9 with fail
          refine wp_region_lit ?_
          refine wpList_run (by kernel_rfl) (.bool true) wp (xo_lssT .i64 (k : Int) ((widN i : Nat) : Int) (by omega) rfl rfl rfl) ?_
          simp only [Act.put, List.setIfInBounds_toArray, List.set_cons_zero, List.set_cons_succ]
          refine wpList_nil ?_
          go_upto_region 10 with fail
          refine wp_region_lit ?_
          refine wpList_run (by kernel_rfl) (.int .i64 (k : Int)) wp rfl ?_
          simp only [Act.put, List.setIfInBounds_toArray, List.set_cons_zero, List.set_cons_succ]
          refine wpList_run (by kernel_rfl) (.int .i64 (k : Int)) wp rfl ?_
          simp only [Act.put, List.setIfInBounds_toArray, List.set_cons_zero, List.set_cons_succ]
          refine wpList_nil ?_
          obtain ⟨⟨A3, m3, c3⟩, hh⟩ : ∃ h, hs0[i]? = some h := ⟨_, List.getElem?_eq_getElem (by have := HC.out.len; omega)⟩
          have hrw := HC.out.row i _ _ hh HXS.out
          have hm3 : xs.length = m3 := hrw.len
          simp only at hrw
          have HE3 := Lib.hid hh
          have HR3 := Lib.hid hrw
          have htp3 := hrw.top
          have hcp3 := hrw.cap
          clear hh hrw
          have hNm : m3 = N := by omega
          rw [hNm] at HE3 HR3
          have hx64 : ∀ x ∈ xs, x < 18446744073709551616 := fun x hx => by have := HX2.out x hx; omega
          have HX64 := Lib.hid hx64
          clear hx64
          go_upto_region 11 with fail
          refine wp_region_lit ?_
          refine wpList_run (by kernel_rfl) (u8) wp rfl ?_
          simp only [Act.put, List.setIfInBounds_toArray, List.set_cons_zero, List.set_cons_succ]
          refine wpList_run (by kernel_rfl) (.slice A5 5 c5) wp rfl ?_
          simp only [Act.put, List.setIfInBounds_toArray, List.set_cons_zero, List.set_cons_succ]
          refine wpList_run (by kernel_rfl) (.int .i64 (i : Int)) wp rfl ?_
          simp only [Act.put, List.setIfInBounds_toArray, List.set_cons_zero, List.set_cons_succ]
          refine wpList_run (by kernel_rfl) (.pointer (some (gad A5 (i * 1)))) wp (xg_idx .i64 (Cols.head (HC.out.keep B0.out)) HE3.out Tryd.underlying38 (by kernel_rfl) rfl rfl rfl) ?_
          simp only [Act.put, List.setIfInBounds_toArray, List.set_cons_zero, List.set_cons_succ]
          refine wpList_run (by kernel_rfl) (.slice A3 N c3) wp (xg_load1 (E := hdC) (i := i) (j := 0) (Cols.head (HC.out.keep B0.out)) HE3.out rfl rfl Tryd.underlying48 rfl rfl rfl) ?_
          simp only [Act.put, List.setIfInBounds_toArray, List.set_cons_zero, List.set_cons_succ]
          refine wpList_run (by kernel_rfl) (.int .i64 (k : Int)) wp rfl ?_
          simp only [Act.put, List.setIfInBounds_toArray, List.set_cons_zero, List.set_cons_succ]
          refine wpList_call (by kernel_rfl) 49 Tryd.func49 (by kernel_rfl) (by kernel_rfl) _ _ #[.slice A3 N c3, .int .i64 (k : Int)] rfl (by kernel_rfl) ?_
          refine (bitColumn_any A3 N c3 xs k (by omega) (by omega) HX64.out wp (HR3.out.keep B0.out)).mono ?_
          rintro e V2 ⟨bb, rfl, hr1, hg1, hb⟩
          have Ge10 : Hid (wp.heap.size ≤ bb) := Lib.hid hg1
          have B1 := Lib.hid hb
          have Fv11_c : Hid (RowG wdC V2 bb 50 (bitN xs k)) := Lib.hid hr1
          have Lt12 : Hid (bb < V2.heap.size) := Lib.hid (xp_lt Fv11_c.out)
          clear hb hr1 hg1 
          refine ⟨_, rfl, ?_⟩
          simp only [Act.put, List.setIfInBounds_toArray, List.set_cons_zero, List.set_cons_succ]
          have hnb : bb ∉ bs := fun hm => by have h2 := RowsU.lt HB.out bb hm; have h3 := Ge10.out; omega
          have hru1 := RowsU.push (HB.out.keep B1.out) Fv11_c.out (Nat.le_trans B0.out.size Ge10.out) hnb
          have HPU := Lib.hid hru1
          clear hru1
          refine wpList_mk (by kernel_rfl) ([(Hd.mk (some ⟨bb, 0, none⟩) N N)].flatMap hdC).toArray 48 1 1 (xg_lit (E := hdC) (bytes := 24) (.slice none 0 0) [.tmp 36] [(Hd.mk (some ⟨bb, 0, none⟩) N N)] 1 Tryd.underlying38 (by kernel_rfl) rfl (by decide) (by decide) rfl rfl) ?_
          intro g37 V3 hge h0 hb
          have N13_0 : Hid (bb ≠ g37) := Lib.hid (xp_lt0 Fv11_c.out hge)
          have Ge14 : Hid (V2.heap.size ≤ g37) := Lib.hid hge
          have B2 := Lib.hid hb
          have Fv15_37 : Hid (RowG hdC V3 g37 48 ([(Hd.mk (some ⟨bb, 0, none⟩) N N)])) := Lib.hid (h0)
          have Lt16 : Hid (g37 < V3.heap.size) := Lib.hid (xp_lt Fv15_37.out)
          clear hge h0 hb
          simp only [ptr, Act.put, List.setIfInBounds_toArray, List.set_cons_zero, List.set_cons_succ]
          have C1_3 := Lib.hid (bel_step B1.out B2.out)
          have C0_2 := Lib.hid (bel_step B0.out B1.out)
          have C0_3 := Lib.hid (bel_step C0_2.out B2.out)
          refine wpList_app2 (size := 1) (by kernel_rfl) (.tmp 30) (.tmp 37) 38 rfl (.slice none 0 0) 24 Tryd.underlying38 (by kernel_rfl) rfl (by decide) rfl (own_keep OW.out C1_3.out) (some ⟨g37, 0, none⟩) 1 1 (fl hdC ([(Hd.mk (some ⟨bb, 0, none⟩) N N)])) rfl (RowG.sg Fv15_37.out (show ([(Hd.mk (some ⟨bb, 0, none⟩) N N)]).length = 1 from rfl) (Nat.le_refl _) (by omega)).src (by unfold maxLen; omega) (by omega) C0_3.out.size ?_
          intro v38 X3_17 ho hb1 hg hloc
          have hox : X3_17.ownsRow VB1.heap.size 48 1 v38 (((bitsN cols i).length + k) + 1) (fl hdC ((bs.map (mkH N)) ++ ([(Hd.mk (some ⟨bb, 0, none⟩) N N)]))) := by rw [fl_append]; exact ho
          have YFv11_c : RowG wdC X3_17 bb 50 (bitN xs k) := own_rowkeep (own_keep OW.out C1_3.out) hg (Fv11_c.out.keep B2.out) (by decide)
          have Gs19 : Hid (VB1.heap.size ≤ bb) := Lib.hid (Nat.le_trans B0.out.size Ge10.out)
          have YHPU : RowsU X3_17 50 VB1.heap.size (bs ++ [bb]) (bitsP cols i k ++ [bitN xs k]) := RowsU.grown (HPU.out.keep B2.out) (own_keep OW.out C1_3.out) hg (by decide)
          have hbr := C0_3.out.trans hb1
          clear B0
          have B0 := Lib.hid hbr
          clear hbr
          have Ow38_18 := Lib.hid hox
          clear Fv11_c
          have Fv11_c : Hid (RowG wdC X3_17 bb 50 (bitN xs k)) := Lib.hid YFv11_c
          clear YFv11_c
          have Lt20 : Hid (bb < X3_17.heap.size) := Lib.hid (xp_lt Fv11_c.out)
          clear HPU
          have HPU : Hid (RowsU X3_17 50 VB1.heap.size (bs ++ [bb]) (bitsP cols i k ++ [bitN xs k])) := Lib.hid YHPU
          clear YHPU
          clear ho hox hb1 hg hloc
          simp only [ptr, Act.put, List.setIfInBounds_toArray, List.set_cons_zero, List.set_cons_succ]
          refine wpList_run (by kernel_rfl) (v38) X3_17 rfl ?_
          simp only [Act.put, List.setIfInBounds_toArray, List.set_cons_zero, List.set_cons_succ]
          refine wpList_nil ?_
          have hru : RowsU X3_17 50 VB1.heap.size (bs ++ [bb]) (bitsP cols i (k + 1)) := by rw [bitsP_succ, HGD.out]; exact HPU.out
          have hko2 : X3_17.ownsRow VB1.heap.size 48 1 v38 ((bitsN cols i).length + (k + 1)) (fl hdC ((bs ++ [bb]).map (mkH N))) := by rw [List.map_append]; exact Ow38_18.out
          go_upto_region 12 with fail
          refine wp_region_lit ?_
          refine wpList_run (by kernel_rfl) (.int .i64 ((k + 1 : Nat) : Int)) X3_17 (xo_addI (k : Int) 1 ((k + 1 : Nat) : Int) (by omega) (by omega) (by omega) rfl rfl rfl) ?_
          simp only [Act.put, List.setIfInBounds_toArray, List.set_cons_zero, List.set_cons_succ]
          refine wpList_run (by kernel_rfl) (.int .i64 ((k + 1 : Nat) : Int)) X3_17 rfl ?_
          simp only [Act.put, List.setIfInBounds_toArray, List.set_cons_zero, List.set_cons_succ]
          refine wpList_nil ?_
          have hq21 := B0.out
          go_wp2_with fail
          go_roundw
          case rel => exact ⟨k + 1, bs ++ [bb], by omega, by go_num, (by rw [List.length_append, hsl.out]; rfl), hko2, hru, hq21⟩
          case measure => simp [intOf]; omega
        · have hci9 : ¬ ((k : Int) < ((widN i : Nat) : Int)) := by omega
          have hkw : k = widN i := by omega
          go_upto_region 9 with fail
          refine wp_region_lit ?_
          refine wpList_run (by kernel_rfl) (.bool false) wp (xo_lssF .i64 (k : Int) ((widN i : Nat) : Int) (by omega) rfl rfl rfl) ?_
          simp only [Act.put, List.setIfInBounds_toArray, List.set_cons_zero, List.set_cons_succ]
          refine wpList_nil ?_
          go_upto_region 13 with fail
          refine wp_region_lit ?_
          refine wpList_run (by kernel_rfl) (.int .i64 ((i + 1 : Nat) : Int)) wp (xo_addI (i : Int) 1 ((i + 1 : Nat) : Int) (by omega) (by omega) (by omega) rfl rfl rfl) ?_
          simp only [Act.put, List.setIfInBounds_toArray, List.set_cons_zero, List.set_cons_succ]
          refine wpList_run (by kernel_rfl) (.int .i64 ((i + 1 : Nat) : Int)) wp rfl ?_
          simp only [Act.put, List.setIfInBounds_toArray, List.set_cons_zero, List.set_cons_succ]
          refine wpList_nil ?_
          have hru : RowsU wp 50 VB1.heap.size bs (bitsN cols (i + 1)) := by have h0 := HB.out; rw [hkw] at h0; exact h0
          have hko := OW.out
          rw [hkw, ← hbi2] at hko
          have hq10 := B0.out
          go_wp2_with fail
          go_roundw
          case rel => exact ⟨i + 1, bs, by omega, by go_num, (by rw [hsl.out, hbi2, hkw]), hko, hru, hq10⟩
          case measure => simp [intOf]; omega
    · have hci4 : ¬ ((i : Int) < 4) := by omega
      have hi4 : i = 4 := by omega
      go_upto_region 6 with fail
      refine wp_region_lit ?_
      refine wpList_run (by kernel_rfl) (.bool false) wo (xo_lssF .i64 (i : Int) 4 (by omega) rfl rfl rfl) ?_
      simp only [Act.put, List.setIfInBounds_toArray, List.set_cons_zero, List.set_cons_succ]
      refine wpList_nil ?_
      have hko := OW.out
      have hb24 : (bitsN cols 4).length = 24 := bitsN_24 cols
      rw [hi4, hb24] at hko
      obtain ⟨A2, c2, rfl, hs2⟩ := Sg.own hko
      have hkb := HB.out
      rw [hi4] at hkb
      have hsl2 := hsl.out
      rw [hi4] at hsl2
      go_upto_region 14 with fail
      refine wp_region_lit ?_
      refine wpList_run (by kernel_rfl) (.slice A2 24 c2) wo rfl ?_
      simp only [Act.put, List.setIfInBounds_toArray, List.set_cons_zero, List.set_cons_succ]
      refine wpList_run (by kernel_rfl) (.slice A2 24 c2) wo rfl ?_
      simp only [Act.put, List.setIfInBounds_toArray, List.set_cons_zero, List.set_cons_succ]
      refine wpList_run (by kernel_rfl) (.int .i64 0) wo rfl ?_
      simp only [Act.put, List.setIfInBounds_toArray, List.set_cons_zero, List.set_cons_succ]
      refine wpList_nil ?_
      go_wp2_with fail
      go_ret2
      exact ⟨A2, c2, rfl, ⟨bs.map (mkH N), by rw [HNN.out, HCO.out]; exact ⟨hs2, by rw [List.length_map]; exact hsl2, fun q h xs hh hx => RowsU.hdrow hkb (fun ys hy => bitsN_ok (fun xs hxs => (HLT.out xs hxs).1) (by omega) (by omega) hy) (by omega) hh hx⟩⟩, HBV1.out.trans (B0.out.mono HBV1.out.size)⟩
end Go.Proofs.YtopicjdmajlndaaDoor

namespace Go.Proofs.YtopicjdmajlndaaDoor.K
set_option linter.unusedVariables false
set_option linter.unusedSimpArgs false
set_option linter.unusedSectionVars false
set_option maxRecDepth 8000
open Go.RowKit
section
variable {P : Program} {ev : Operand → Value} {o : Oper} {w : World} {x y z : Operand} {ty e : TypeId}
theorem xo_cut (k1 k2 : IntKind) (A : Option Addr) (n c p q s : Nat) (hpq : p ≤ q) (hq : q ≤ c) (hu : P.underlying ty = some (.slice e)) (hi : (P.info? e).map (·.size) = some s) (ho : o.op = .slice ty x (some y) (some z) none) (hx : ev x = .slice A n c) (hy : ev y = .int k1 (p : Int)) (hz : ev z = .int k2 (q : Int)) :
    (execOp ev o).run P w = .ok (.value (.slice (if c = p then A else A.map (·.add (p * s))) (q - p) (c - p))) w := by
  cases hqq : P.info? e with
  | none => simp [hqq] at hi
  | some inf =>
    have hs : inf.size = s := by simpa [hqq] using hi
    have hb : (Instr.sliceBound (.int k2 (q : Int)) c .sliceAcap).run P w = .ok q w := by
      simp [Instr.sliceBound, asIntOf, Sem.run_bind, hq]
    have hb2 : (Instr.sliceBound (.int k1 (p : Int)) q .sliceB).run P w = .ok p w := by
      simp [Instr.sliceBound, asIntOf, Sem.run_bind, hpq]
    unfold execOp
    simp only [ho, Option.map, Sem.run_bind, Instr.sliceAt, hx, hy, hz]
    rw [run_underlying hu, Result.andThen_ok]
    simp only [Instr.slice, Sem.run_bind]
    rw [run_underlying hu, Result.andThen_ok]
    simp only [Instr.sliceBounds, Sem.run_bind, Sem.run_pure, Result.andThen_ok, Option.isSome]
    simp only [if_true, if_false, Bool.false_eq_true]
    rw [hb]
    simp only [Result.andThen_ok, Sem.run_bind]
    rw [hb2]
    simp [sizeOf, typeInfo, Sem.run_bind, hqq, hs]
    cases A <;> rfl
end
section
variable {α : Type} {E : α → List Value} {k : Nat} [hE : Enc E k] {w : World} {A : Option Addr} {n c : Nat} {xs : List α}
/-- a part of a slice, not empty -/
theorem Sg.cut {p q : Nat} (h : Sg E k w A n c xs) (hpq : p < q) (hq : q ≤ n) : Sg E k w (if c = p then A else A.map (·.add (p * k))) (q - p) (c - p) ((xs.drop p).take (q - p)) := by
  have hc := h.cap
  have ht := h.top
  rw [if_neg (by omega)]
  refine ⟨by rw [List.length_take, List.length_drop, h.len]; omega, by omega, by omega, fun e => ?_, fun i x hx => ?_⟩
  · cases A with
    | none => have := h.nil rfl; omega
    | some a => cases e
  · rw [List.getElem?_take] at hx
    split at hx
    · rw [List.getElem?_drop] at hx
      obtain ⟨g, off, rfl, hr⟩ := h.at_ _ _ hx
      refine ⟨g, off + p * k, by simp [Addr.add_mid], ?_⟩
      rw [Nat.add_mul, ← Nat.add_assoc] at hr
      exact hr
    · cases hx
end
end Go.Proofs.YtopicjdmajlndaaDoor.K
namespace Go.Proofs.YtopicjdmajlndaaDoor
set_option linter.unusedVariables false
set_option linter.unusedSimpArgs false
set_option linter.unusedSectionVars false
open Go.RowKit Go.Proofs.YtopicjdmajlndaaDoor.K
/-- the string of bytes -/
def strB (xs : List Nat) : ByteArray := strOfNums (xs.map fun n : Nat => (n : Int))
theorem xg_str {P : Program} {ev : Operand → Value} {o : Oper} {w : World} {x : Operand} {src dst e : TypeId} {A : Option Addr} {n c : Nat} {xs : List Nat} (h : Sg byC 1 w A n c xs) (hn : 0 < n) (hs : P.underlying src = some (.slice e)) (he : P.underlying e = some (.int .u8)) (hd : P.underlying dst = some .string) (ho : o.op = .convert src dst x) (hx : ev x = .slice A n c) :
    (execOp ev o).run P w = .ok (.value (.string (strB xs))) w := by
  have hl := h.len
  obtain ⟨g, off, rfl, _⟩ := h.at_ 0 _ (List.getElem?_eq_getElem (by omega))
  have hr := run_convert_bytes_arg (P := P) w src e hs he g off n c (xs.map fun n : Nat => (n : Int)) (by rw [List.length_map, hl]) (fun i hi => by
    obtain ⟨g2, off2, e2, hr2⟩ := h.at_ i _ (List.getElem?_eq_getElem (by omega))
    injection e2 with e2
    injection e2 with e3 e4
    subst e3 e4
    have h3 := hr2 0 (.int .u8 (xs[i]'(by omega) : Int)) rfl
    rw [Nat.mul_one, Nat.add_zero] at h3
    rw [h3, List.getD_eq_getElem?_getD, List.getElem?_map, List.getElem?_eq_getElem (by omega)]
    rfl) dst hd
  unfold execOp
  simp only [ho, hx, Sem.run_bind]
  rw [hr]
  rfl
theorem xo_eqS {P : Program} {ev : Operand → Value} {o : Oper} {w : World} {x y : Operand} {ty t : TypeId} (s : ByteArray) (hu : P.underlying ty = some .string) (ho : o.op = .binOp .eql ty x y t) (hx : ev x = .string s) (hy : ev y = .string s) : (execOp ev o).run P w = .ok (.value (.bool true)) w := by
  unfold execOp
  simp [ho, hx, hy, eqGuard, binOp, Sem.run_bind, run_underlying hu, Op.stringOp]
/-- heads that read as columns -/
def AllSg (w : World) : List Hd → List (List Nat) → Prop
  | [], [] => True
  | h :: hs, xs :: xss => Sg wdC 1 w h.A h.n h.c xs ∧ AllSg w hs xss
  | _, _ => False
theorem AllSg.len {w : World} : ∀ {hs : List Hd} {xss : List (List Nat)}, AllSg w hs xss → hs.length = xss.length
  | [], [], _ => rfl
  | _ :: hs, _ :: xss, h => by rw [List.length_cons, List.length_cons, AllSg.len (hs := hs) (xss := xss) h.2]
  | [], _ :: _, h => h.elim
  | _ :: _, [], h => h.elim
theorem AllSg.row {w : World} : ∀ {hs : List Hd} {xss : List (List Nat)}, AllSg w hs xss → ∀ (i : Nat) (h : Hd) (xs : List Nat), hs[i]? = some h → xss[i]? = some xs → Sg wdC 1 w h.A h.n h.c xs
  | [], _, _, i, h, xs, hi, _ => by simp at hi
  | _ :: _, [], h, _, _, _, _, _ => h.elim
  | _ :: hs, _ :: xss, h, 0, _, _, hi, hx => by
    simp only [List.getElem?_cons_zero, Option.some.injEq] at hi hx
    subst hi hx
    exact h.1
  | _ :: hs, _ :: xss, h, i + 1, d, xs, hi, hx => AllSg.row (hs := hs) (xss := xss) h.2 i d xs (by simpa using hi) (by simpa using hx)
theorem Cols.of {w : World} {A : Option Addr} {n c : Nat} {hs : List Hd} {xss : List (List Nat)} (h : Sg hdC 1 w A n c hs) (ha : AllSg w hs xss) : Cols w A n c hs xss := ⟨h, ha.len, ha.row⟩
theorem Cols.cut {w : World} {A : Option Addr} {n c p q : Nat} {hs : List Hd} {xss : List (List Nat)} (h : Cols w A n c hs xss) (hpq : p < q) (hq : q ≤ n) : Cols w (if c = p then A else A.map (·.add (p * 1))) (q - p) (c - p) ((hs.drop p).take (q - p)) ((xss.drop p).take (q - p)) :=
  ⟨h.head.cut hpq hq, by simp [h.len], fun i d xs hi hx => by
    rw [List.getElem?_take] at hi hx
    split at hi
    · next hlt =>
      rw [if_pos hlt] at hx
      rw [List.getElem?_drop] at hi hx
      exact h.row _ _ _ hi hx
    · cases hi⟩
theorem decode_s (A : Option Addr) (c : Nat) (w : World) (h : Sg byC 1 w A 3 c [49, 2, 4]) : Calls Tryd.prog 23 #[.slice A 3 c] w fun e w' => e = .returned (.tuple #[.agg #[.int .i64 1, .int .i64 2, .int .i64 3, .int .i64 4], .int .i64 0]) ∧ Below w.heap.size w w' := decode_yes A c 49 2 4 (by decide) (by decide) (by decide) w h
end Go.Proofs.YtopicjdmajlndaaDoor

namespace Go.Proofs.YtopicjdmajlndaaDoor.K
set_option linter.unusedVariables false
set_option linter.unusedSimpArgs false
set_option linter.unusedSectionVars false
set_option maxRecDepth 8000
open Go.RowKit
section
variable {P : Program} {Q : Exit → Act → World → Prop} {ops : Array Oper} {S : World → Prop}
theorem wpAnyH_mono {S2 : World → Prop} (hS : ∀ w, S w → S2 w) : ∀ (n : Nat) (m : Array Bool) (a : Act) (w : World), wpAnyH P .any ops Q S n m a w → wpAnyH P .any ops Q S2 n m a w
  | 0, _, _, _, h => h
  | n + 1, _, _, _, h => ⟨h.1, fun i hi => wpOp_mono (fun a' w' h' => ⟨hS _ h'.1, wpAnyH_mono hS n _ a' w' h'.2⟩) (h.2 i hi)⟩
theorem wpAnyH_of_wpG {w0 : World} : ∀ (n : Nat) (listed : Array Bool) (a : Act) (w : World), SL w0 w → wpG P ops w0 Q n listed a w → wpAnyH P .any ops Q (SL w0) n listed a w
  | 0, _, _, _, _, h => ⟨h.1, h.2 _ (Below.refl _ _)⟩
  | n + 1, _, _, _, hS, h => ⟨fun e => h.1 e _ (Below.refl _ _), fun i hi => wpOp_of_gOp hS (fun a' w' hS' h' => ⟨hS', wpAnyH_of_wpG n _ a' w' hS' h'⟩) (h.2 i hi)⟩
/-- what holds behind the first operations -/
def tailQ (F : Act → World → Prop) (Q : Exit → Act → World → Prop) : Exit → Act → World → Prop
  | .normal, a, w => F a w
  | e, a, w => Q e a w
/-- the first operations may be taken so, and what is taken then -/
def okP (ops : Array Oper) : List (Nat × Bool) → Array Bool → Array Bool → Bool
  | [], m, mf => m == mf
  | (i, true) :: is, m, mf => Region.free .any ops m i && (Region.ready .any ops m).contains i && okP ops is (m.setIfInBounds i true) mf
  | (i, false) :: is, m, mf => (Region.ready .any ops m == [i]) && okP ops is (m.setIfInBounds i true) mf
theorem wpAnyH_of_wpOF {F : Act → World → Prop} {mf : Array Bool} {N : Nat} (hs : Region.noSelect ops = true) (hQ : ∀ c a (dt : Option Tmp) v w, Q (.panic c) (Act.put a dt v) w → Q (.panic c) a w) (hF : ∀ a w, S w → F a w → wpAnyH P .any ops Q S N mf a w) :
    ∀ (is : List (Nat × Bool)) (m : Array Bool) (a : Act) (w : World), okP ops is m mf = true → S w → wpO P ops S (tailQ F Q) is a w → wpAnyH P .any ops Q S (N + is.length) m a w
  | [], m, a, w, ho, hS, h => by
    unfold okP at ho
    have e : m = mf := by simpa using ho
    subst e
    exact hF a w hS h
  | (i, true) :: is, m, a, w, ho, hS, h => by
    unfold okP at ho
    rw [Bool.and_eq_true, Bool.and_eq_true] at ho
    obtain ⟨o, hi, v, hy, hk⟩ := h
    exact wpAnyH_take hi hs ho.1.1 ho.1.2 (fun c a w h => hQ c a _ _ w h) hy hS (wpAnyH_of_wpOF hs hQ hF is _ _ w ho.2 hS hk)
  | (i, false) :: is, m, a, w, ho, hS, h => by
    unfold okP at ho
    rw [Bool.and_eq_true] at ho
    obtain ⟨o, hi, hw, hk⟩ := h
    refine wpAnyH_all (rs := [i]) (by simpa using ho.1) (by simp) ?_
    intro j hj
    obtain rfl : j = i := by simpa using hj
    exact wpOp_of_hOp hi hw (hOp_mono (fun v w' hk => ⟨hk.1, wpAnyH_of_wpOF hs hQ hF is _ _ w' ho.2 hk.1 hk.2⟩) hk)
theorem OrdOK.drop {is : List Nat} : ∀ {pre done : List Nat}, OrdOK ops done (pre ++ is) → OrdOK ops (pre.reverse ++ done) is
  | [], _, h => h
  | p :: pre, done, h => by
    have h2 := OrdOK.drop (pre := pre) (OrdOK.tail h)
    rw [List.reverse_cons, List.append_assoc]
    exact h2
/-- what was taken waits for nothing else -/
def closB (ops : List Oper) (done : List Nat) : Bool := done.all fun k => match ops[k]? with
  | some o => o.after.toList.all fun e => !Region.binds .any e || done.contains e.on
  | none => true
theorem closB_spec {l : List Oper} {done : List Nat} (h : closB l done = true) : ∀ j k, k ∈ done → Waits l.toArray j k → j ∈ done := by
  intro j k hk hw
  induction hw with
  | on e h1 he hb hon =>
    have h2 := List.all_eq_true.1 h _ hk
    simp only [List.getElem?_toArray] at h1
    rw [h1] at h2
    have h3 := List.all_eq_true.1 h2 e (by simpa using he)
    rw [hb] at h3
    subst hon
    simpa using h3
  | step e h1 he hb _ ih =>
    have h2 := List.all_eq_true.1 h _ hk
    simp only [List.getElem?_toArray] at h1
    rw [h1] at h2
    have h3 := List.all_eq_true.1 h2 e (by simpa using he)
    rw [hb] at h3
    exact ih (by simpa using h3)
/-- the walk: the first operations one by one (is1), the rest by floats (is2) -/
theorem wp_ordF (is1 : List (Nat × Bool)) (is2 : List Nat) (mf : Array Bool) {id : Nat} {a : Act} {w : World} {l l' : List Oper} (hm : P.follows .mixedOrders = true) (hs : Region.noSelect l.toArray = true) (hQ : ∀ c a (dt : Option Tmp) v w, Q (.panic c) (Act.put a dt v) w → Q (.panic c) a w)
    (hx : LexOK l.toArray) (ho1 : okP l.toArray is1 (Array.replicate l.length false) mf = true) (ho2 : OrdOK l.toArray [] (is1.map (·.1) ++ is2)) (hl : is2.map (fun i => l.toArray[i]?) = l'.map some) (hn : is2.length + is1.length = l.length) (hz : mf.size = l.length)
    (h1 : (is1.all fun x => mf.getD x.1 false) = true) (h2 : (is2.all fun i => !(mf.getD i true)) = true) (hc : closB l (is1.map (·.1)) = true) (hd : (is1.all fun x => decide (x.1 + 1 < l.length)) = true)
    (h : wpO P l.toArray (fun W => Below w.heap.size w W) (tailQ (fun a V => wpF P l.toArray V Q l' a V) Q) is1 a w.drew) : (Code.region id l.toArray true).wp P Q a w := by
  have hd0 : ∀ i, i ∈ (is1.map (·.1)).reverse ++ [] ↔ i ∈ is1.map (·.1) := fun i => by simp
  refine wp_region_held (S := fun W => Below w.heap.size w W) hm ?_
  have := wpAnyH_of_wpOF (P := P) (Q := Q) (N := is2.length) (F := fun a V => wpF P l.toArray V Q l' a V) (mf := mf) hs hQ (fun a V hV hF => by
    refine wpAnyH_mono (S := SL V) (fun W hW => hV.trans (hW.below.mono hV.size)) _ _ _ _ (wpAnyH_of_wpG _ _ _ _ ⟨⟨V, Below.refl _ _⟩, rfl⟩ ?_)
    have hll : is2.length = l'.length := by
      have := congrArg List.length hl
      simpa using this
    rw [hll]
    refine wpG_of_ord hx is2 l' _ mf a V ⟨⟨V, Below.refl _ _⟩, rfl⟩ (OrdOK.drop ho2) hl (by simpa using hz) ?_ ?_ ?_ ?_ hF
    · intro i hi
      obtain ⟨x, hx1, rfl⟩ := List.mem_map.1 ((hd0 i).1 hi)
      exact List.all_eq_true.1 h1 x hx1
    · intro i hi
      simpa using List.all_eq_true.1 h2 i hi
    · intro j k hk hw
      exact (hd0 j).2 (closB_spec hc j k ((hd0 k).1 hk) hw)
    · intro _ j hj
      obtain ⟨x, hx1, rfl⟩ := List.mem_map.1 ((hd0 j).1 hj)
      simpa using List.all_eq_true.1 hd x hx1) is1 _ a w.drew ho1 (Below.refl _ _).drew h
  rw [hn] at this
  simpa using this
theorem tailQ_normal {F : Act → World → Prop} {a : Act} {w : World} (h : F a w) : tailQ F Q .normal a w := h
/-- a new slice -/
theorem hOp_mk {o : Oper} {a : Act} {w : World} {K : Value → World → Prop} (cs : Array Value) (t : TypeId) (n c : Nat) (hr : (execOp a.eval o).run P w = .ok (.value (.slice (some ⟨w.heap.size, 0, none⟩) n c)) (w.alloc (.cells cs t)))
    (h : ∀ b W, w.heap.size ≤ b → W.heap[b]? = some (.cells cs t (0, 0)) → Below w.heap.size w W → K (.slice (some ⟨b, 0, none⟩) n c) W) : hOp P o K a w := by
  unfold hOp
  rw [hr]
  exact h _ _ (Nat.le_refl _) (heap_new w _) ((Below.refl _ _).alloc (Nat.le_refl _) _)
end
end Go.Proofs.YtopicjdmajlndaaDoor.K

