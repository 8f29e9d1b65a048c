/- Stage 13: law QueryMatchesReference. -/
import Derived.Deep.CutBlock
import Derived.Test.YtlicfidcfhbmpaaDoorTm23
import Derived.Test.YtlicfidcfhbmpaaDoorTm22
import Derived.Test.YtlicfidcfhbmpaaDoorTm19
namespace Go.Proofs.YtlicfidcfhbmpaaDoor
set_option linter.unusedVariables false
set_option linter.unusedSimpArgs false
set_option linter.unusedSectionVars false
set_option maxRecDepth 8000
open Go.RowKit Go.Proofs.YtlicfidcfhbmpaaDoor.K
attribute [local irreducible] wpList wpQuiet
set_option maxRecDepth 100000 in
set_option maxHeartbeats 32000000 in
theorem qMatches_any (kind col k : Int) (A : Option Addr) (n c : Nat) (hs : List Hd) (fs : List (List Qu.Ci)) (r : Rd) (w : World) (hG : Gc w) (hF : FsR w A n c hs fs) :
  Calls Tryd.prog 3 #[.agg #[.int .i64 kind, .int .i64 col, .int .i64 k, .slice A n c], .agg #[.int .i64 r.who, .int .i64 r.when_, .int .i64 r.kind, .int .i64 r.value]] w fun e w' => e = .returned (.bool true) ∧ Below w.heap.size w w' := by
 have HG := Lib.hid hG
 have HFR := Lib.hid hF
 have hln := hF.sg.len
 have hlc := hF.sg.cap
 have hlt := hF.sg.top
 have hfl := hF.len
 clear hF hG
 obtain ⟨q, hq⟩ : ∃ q, mdQ kind col k fs = q := ⟨_, rfl⟩
 have HQ := Lib.hid hq
 have HOK : Hid (OkQ q) := Lib.hid (by rw [← hq]; exact mdQ_ok _ _ _ _)
 clear hq
 obtain ⟨bq, hbq⟩ : ∃ b, Qu.vQ kind col k fs = b := ⟨_, rfl⟩
 have HBQ := Lib.hid hbq
 clear hbq
 obtain ⟨x0, hx0⟩ : ∃ x, andN r.who 15 = x := ⟨_, rfl⟩
 obtain ⟨x1, hx1⟩ : ∃ x, andN r.when_ 255 = x := ⟨_, rfl⟩
 obtain ⟨x2, hx2⟩ : ∃ x, andN r.kind 15 = x := ⟨_, rfl⟩
 obtain ⟨x3, hx3⟩ : ∃ x, andN r.value 255 = x := ⟨_, rfl⟩
 have HX4 := Lib.hid (And.intro hx0 (And.intro hx1 (And.intro hx2 hx3)))
 clear hx0 hx1 hx2 hx3
 go_enter Tryd.func3, Tryd.ntmps3
 go_upto_region 1 with fail
 refine wp_named2 (fun V1 hb g0 g1 hlt => ?_)
 have B0 := Lib.hid hb
 have Fv0_2 : Hid (V1.heap[w.heap.size]? = some (.cells #[.int .i64 kind, .int .i64 col, .int .i64 k, .slice A n c] 24 (0, 0))) := Lib.hid (g0)
 have Fv1_3 : Hid (V1.heap[(w.heap.size + 1)]? = some (.cells #[.int .i64 r.who, .int .i64 r.when_, .int .i64 r.kind, .int .i64 r.value] 26 (0, 0))) := Lib.hid (g1)
 have Nb0_1 : Hid (w.heap.size ≠ (w.heap.size + 1)) := Lib.hid (by omega)
 have Gb0 : Hid (w.heap.size ≤ w.heap.size) := Lib.hid (by omega)
 have Gb1 : Hid (w.heap.size ≤ (w.heap.size + 1)) := Lib.hid (by omega)
 clear hb g0 g1 hlt
 have Lt0 : Hid (w.heap.size < V1.heap.size) := Lib.hid (xp_lt Fv0_2.out)
 have Lt1 : Hid ((w.heap.size + 1) < V1.heap.size) := Lib.hid (xp_lt Fv1_3.out)
 refine wp_region_lit ?_
 refine wpList_call (by kernel_rfl) 11 Tryd.func11 (by kernel_rfl) (by kernel_rfl) _ _ #[] rfl (by kernel_rfl) ?_
 refine (sanity13_any V1 (HG.out.keep B0.out)).mono ?_
 rintro e V2 ⟨rfl, hb⟩
 have B1 := Lib.hid hb
 clear hb 
 refine ⟨_, rfl, ?_⟩
 simp only [Act.put, zA, zB, zC]
 refine zr (.bool true) V2 rfl ?_
 simp only [Act.put, zA, zB, zC]
 refine wpList_nil ?_
 go_upto_region 2 with fail
 refine wp_region_lit ?_
 refine zr (.pointer (some ⟨w.heap.size, 3, none⟩)) V2 (xo_fld0 3 w.heap.size 3 (by kernel_rfl) rfl rfl) ?_
 simp only [Act.put, zA, zB, zC]
 refine zr (.slice A n c) V2 (xo_load1 ⟨w.heap.size, 3, none⟩ _ (cells_at (heap_keep Fv0_2.out B1.out) 3 rfl) Tryd.underlying22 rfl rfl rfl) ?_
 simp only [Act.put, zA, zB, zC]
 refine zr (.int .i64 (n : Int)) V2 (xo_len A n c Tryd.underlying22 rfl rfl) ?_
 simp only [Act.put, zA, zB, zC]
 refine zr (.bool (decide (n ≤ 5))) V2 (xo_cmp .leq .i64 (n : Int) 5 (decide (n ≤ 5)) (.inr (.inr (.inr (.inl ⟨rfl, (by rw [decide_eq_decide]; omega)⟩)))) rfl rfl rfl) ?_
 simp only [Act.put, zA, zB, zC]
 refine zr (.bool (decide (n ≤ 5))) V2 rfl ?_
 simp only [Act.put, zA, zB, zC]
 refine wpList_nil ?_
 go_upto_region 3 with fail
 refine wp_region_lit ?_
 refine zr (.int .i64 0) V2 rfl ?_
 simp only [Act.put, zA, zB, zC]
 refine wpList_nil ?_
 go_upto_block 0 with fail
 go_cut [6] from 16 to 32 (fun s6 wx => (∃ sb : Bool, s6 = .bool sb) ∧ wx.heap[w.heap.size]? = some (.cells #[.int .i64 kind, .int .i64 col, .int .i64 k, .slice A n c] 24 (0, 0)) ∧ wx.heap[(w.heap.size + 1)]? = some (.cells #[.int .i64 r.who, .int .i64 r.when_, .int .i64 r.kind, .int .i64 r.value] 26 (0, 0)) ∧ Below w.heap.size w wx)
 case first =>
  have O2 := (heap_keep Fv0_2.out B1.out)
  have O3 := (heap_keep Fv1_3.out B1.out)
  have C0_2 := zb B0 B1
  have O4 := C0_2.out
  go_wp2_with fail
  go_loopw [7, 6] (fun p v wr => ∃ i : Nat, ∃ (sb : Bool), i ≤ n ∧ p = .int .i64 i ∧ v = .bool sb ∧ wr.heap[w.heap.size]? = some (.cells #[.int .i64 kind, .int .i64 col, .int .i64 k, .slice A n c] 24 (0, 0)) ∧ wr.heap[(w.heap.size + 1)]? = some (.cells #[.int .i64 r.who, .int .i64 r.when_, .int .i64 r.kind, .int .i64 r.value] 26 (0, 0)) ∧ Below w.heap.size w wr) (fun p _ _ => n - (intOf p).toNat)
  case atStart => exact ⟨0, _, Nat.zero_le _, rfl, rfl, O2, O3, O4⟩
  case round =>
   clear O2 O3 O4
   obtain ⟨wo, rfl⟩ : ∃ wo : World, wo = wr := ⟨_, rfl⟩
   obtain ⟨i, sb, hi, rfl, hHV, hr0, hr1, hb0⟩ := hrel
   have hbr := hb0
   clear B0
   have B0 := Lib.hid hbr
   clear hbr
   clear Fv0_2
   have Fv0_2 : Hid (wo.heap[w.heap.size]? = some (.cells #[.int .i64 kind, .int .i64 col, .int .i64 k, .slice A n c] 24 (0, 0))) := Lib.hid (hr0)
   clear Fv1_3
   have Fv1_3 : Hid (wo.heap[(w.heap.size + 1)]? = some (.cells #[.int .i64 r.who, .int .i64 r.when_, .int .i64 r.kind, .int .i64 r.value] 26 (0, 0))) := Lib.hid (hr1)
   have HV := Lib.hid hHV
   clear hb0 hr0 hr1 hHV
   have ev := HV.out
   subst ev
   clear HV
   cases sb with
   | true =>
    by_cases hin : i < n
    ·have hci6 : ((i : Int) < (n : Int)) := by omega
     obtain ⟨h, hh⟩ : ∃ h, hs[i]? = some h := ⟨_, List.getElem?_eq_getElem (by omega)⟩
     have HH := Lib.hid hh
     clear hh
     go_upto_region 4 with fail
     refine wp_region_lit ?_
     refine zr (.int .i64 (i : Int)) wo rfl ?_
     simp only [Act.put, zA, zB, zC]
     refine zr (.pointer (some ⟨w.heap.size, 3, none⟩)) wo (xo_fld0 3 w.heap.size 3 (by kernel_rfl) rfl rfl) ?_
     simp only [Act.put, zA, zB, zC]
     refine zr (.slice A n c) wo (xo_load1 ⟨w.heap.size, 3, none⟩ _ (cells_at Fv0_2.out 3 rfl) Tryd.underlying22 rfl rfl rfl) ?_
     simp only [Act.put, zA, zB, zC]
     refine zr (.int .i64 (n : Int)) wo (xo_len A n c Tryd.underlying22 rfl rfl) ?_
     simp only [Act.put, zA, zB, zC]
     refine zr (.bool true) wo (xo_lssT .i64 (i : Int) (n : Int) (by omega) rfl rfl rfl) ?_
     simp only [Act.put, zA, zB, zC]
     refine zr (.bool true) wo rfl ?_
     simp only [Act.put, zA, zB, zC]
     refine zr (.bool true) wo rfl ?_
     simp only [Act.put, zA, zB, zC]
     refine zr (.bool true) wo rfl ?_
     simp only [Act.put, zA, zB, zC]
     refine wpList_nil ?_
     go_upto_region 6 with fail
     refine wp_region_lit ?_
     refine zr (.pointer (some ⟨w.heap.size, 3, none⟩)) wo (xo_fld0 3 w.heap.size 3 (by kernel_rfl) rfl rfl) ?_
     simp only [Act.put, zA, zB, zC]
     refine zr (.slice A n c) wo (xo_load1 ⟨w.heap.size, 3, none⟩ _ (cells_at Fv0_2.out 3 rfl) Tryd.underlying22 rfl rfl rfl) ?_
     simp only [Act.put, zA, zB, zC]
     refine zr (.int .i64 (i : Int)) wo rfl ?_
     simp only [Act.put, zA, zB, zC]
     refine zr (.pointer (some (gad A (i * 1)))) wo (xg_idx .i64 (HFR.out.keep B0.out).sg HH.out Tryd.underlying22 (by kernel_rfl) rfl rfl rfl) ?_
     simp only [Act.put, zA, zB, zC]
     refine zr (.slice h.A h.n h.c) wo (xg_load1 (E := hdC) (i := i) (j := 0) (HFR.out.keep B0.out).sg HH.out rfl rfl Tryd.underlying28 rfl rfl rfl) ?_
     simp only [Act.put, zA, zB, zC]
     refine zr (.int .i64 ((h.n : Nat) : Int)) wo (xo_len h.A h.n h.c Tryd.underlying28 rfl rfl) ?_
     simp only [Act.put, zA, zB, zC]
     refine zr (.bool (decide (h.n ≤ 8))) wo (xo_cmp .leq .i64 ((h.n : Nat) : Int) 8 (decide (h.n ≤ 8)) (.inr (.inr (.inr (.inl ⟨rfl, (by rw [decide_eq_decide]; omega)⟩)))) rfl rfl rfl) ?_
     simp only [Act.put, zA, zB, zC]
     refine zr (.bool (decide (h.n ≤ 8))) wo rfl ?_
     simp only [Act.put, zA, zB, zC]
     refine wpList_nil ?_
     go_upto_region 5 with fail
     refine wp_region_lit ?_
     refine zr (.int .i64 (i : Int)) wo rfl ?_
     simp only [Act.put, zA, zB, zC]
     refine zr (.int .i64 ((i + 1 : Nat) : Int)) wo (xo_addI (i : Int) 1 ((i + 1 : Nat) : Int) (by omega) (by omega) (by omega) rfl rfl rfl) ?_
     simp only [Act.put, zA, zB, zC]
     refine zr (.int .i64 ((i + 1 : Nat) : Int)) wo rfl ?_
     simp only [Act.put, zA, zB, zC]
     refine wpList_nil ?_
     have hq7 := Fv0_2.out
     have hq8 := Fv1_3.out
     have hq9 := B0.out
     go_wp2_with fail
     go_roundw
     case rel => exact ⟨i + 1, _, by omega, by go_num, rfl, hq7, hq8, hq9⟩
     case measure => simp [intOf]; omega
    ·have hci6 : ¬ ((i : Int) < (n : Int)) := by omega
     go_upto_region 4 with fail
     refine wp_region_lit ?_
     refine zr (.int .i64 (i : Int)) wo rfl ?_
     simp only [Act.put, zA, zB, zC]
     refine zr (.pointer (some ⟨w.heap.size, 3, none⟩)) wo (xo_fld0 3 w.heap.size 3 (by kernel_rfl) rfl rfl) ?_
     simp only [Act.put, zA, zB, zC]
     refine zr (.slice A n c) wo (xo_load1 ⟨w.heap.size, 3, none⟩ _ (cells_at Fv0_2.out 3 rfl) Tryd.underlying22 rfl rfl rfl) ?_
     simp only [Act.put, zA, zB, zC]
     refine zr (.int .i64 (n : Int)) wo (xo_len A n c Tryd.underlying22 rfl rfl) ?_
     simp only [Act.put, zA, zB, zC]
     refine zr (.bool false) wo (xo_lssF .i64 (i : Int) (n : Int) (by omega) rfl rfl rfl) ?_
     simp only [Act.put, zA, zB, zC]
     refine zr (.bool false) wo rfl ?_
     simp only [Act.put, zA, zB, zC]
     refine zl ?_
     try simp only [Act.put, zA, zB, zC]
     refine zr (.bool false) wo rfl ?_
     simp only [Act.put, zA, zB, zC]
     refine wpList_nil ?_
     have hm7 := Fv0_2.out
     have hm8 := Fv1_3.out
     have hm9 := B0.out
     go_wp2_with fail
     go_meet
     case rel => exact ⟨⟨_, rfl⟩, hm7, hm8, hm9⟩
   | false =>
    by_cases hin : i < n
    ·have hci6 : ((i : Int) < (n : Int)) := by omega
     go_upto_region 4 with fail
     refine wp_region_lit ?_
     refine zr (.int .i64 (i : Int)) wo rfl ?_
     simp only [Act.put, zA, zB, zC]
     refine zr (.pointer (some ⟨w.heap.size, 3, none⟩)) wo (xo_fld0 3 w.heap.size 3 (by kernel_rfl) rfl rfl) ?_
     simp only [Act.put, zA, zB, zC]
     refine zr (.slice A n c) wo (xo_load1 ⟨w.heap.size, 3, none⟩ _ (cells_at Fv0_2.out 3 rfl) Tryd.underlying22 rfl rfl rfl) ?_
     simp only [Act.put, zA, zB, zC]
     refine zr (.int .i64 (n : Int)) wo (xo_len A n c Tryd.underlying22 rfl rfl) ?_
     simp only [Act.put, zA, zB, zC]
     refine zr (.bool true) wo (xo_lssT .i64 (i : Int) (n : Int) (by omega) rfl rfl rfl) ?_
     simp only [Act.put, zA, zB, zC]
     refine zr (.bool true) wo rfl ?_
     simp only [Act.put, zA, zB, zC]
     refine zr (.bool false) wo rfl ?_
     simp only [Act.put, zA, zB, zC]
     refine zr (.bool false) wo rfl ?_
     simp only [Act.put, zA, zB, zC]
     refine wpList_nil ?_
     have hm7 := Fv0_2.out
     have hm8 := Fv1_3.out
     have hm9 := B0.out
     go_wp2_with fail
     go_meet
     case rel => exact ⟨⟨_, rfl⟩, hm7, hm8, hm9⟩
    ·have hci6 : ¬ ((i : Int) < (n : Int)) := by omega
     go_upto_region 4 with fail
     refine wp_region_lit ?_
     refine zr (.int .i64 (i : Int)) wo rfl ?_
     simp only [Act.put, zA, zB, zC]
     refine zr (.pointer (some ⟨w.heap.size, 3, none⟩)) wo (xo_fld0 3 w.heap.size 3 (by kernel_rfl) rfl rfl) ?_
     simp only [Act.put, zA, zB, zC]
     refine zr (.slice A n c) wo (xo_load1 ⟨w.heap.size, 3, none⟩ _ (cells_at Fv0_2.out 3 rfl) Tryd.underlying22 rfl rfl rfl) ?_
     simp only [Act.put, zA, zB, zC]
     refine zr (.int .i64 (n : Int)) wo (xo_len A n c Tryd.underlying22 rfl rfl) ?_
     simp only [Act.put, zA, zB, zC]
     refine zr (.bool false) wo (xo_lssF .i64 (i : Int) (n : Int) (by omega) rfl rfl rfl) ?_
     simp only [Act.put, zA, zB, zC]
     refine zr (.bool false) wo rfl ?_
     simp only [Act.put, zA, zB, zC]
     refine zl ?_
     try simp only [Act.put, zA, zB, zC]
     refine zr (.bool false) wo rfl ?_
     simp only [Act.put, zA, zB, zC]
     refine wpList_nil ?_
     have hm7 := Fv0_2.out
     have hm8 := Fv1_3.out
     have hm9 := B0.out
     go_wp2_with fail
     go_meet
     case rel => exact ⟨⟨_, rfl⟩, hm7, hm8, hm9⟩
 case rest =>
  obtain ⟨wc6, rfl⟩ : ∃ W, W = wc := ⟨_, rfl⟩
  obtain ⟨⟨sb, hs6⟩, hr0, hr1, hb0⟩ := hcut
  have hbr := hb0
  clear B0
  have B0 := Lib.hid hbr
  clear hbr
  clear Fv0_2
  have Fv0_2 : Hid (wc6.heap[w.heap.size]? = some (.cells #[.int .i64 kind, .int .i64 col, .int .i64 k, .slice A n c] 24 (0, 0))) := Lib.hid (hr0)
  clear Fv1_3
  have Fv1_3 : Hid (wc6.heap[(w.heap.size + 1)]? = some (.cells #[.int .i64 r.who, .int .i64 r.when_, .int .i64 r.kind, .int .i64 r.value] 26 (0, 0))) := Lib.hid (hr1)
  clear hb0 hr0 hr1
  subst hs6
  go_upto_region 7 with fail
  go_cut [40] from 33 to 40 (fun s40 wx => s40 = .bool false ∧ wx.heap[w.heap.size]? = some (.cells #[.int .i64 kind, .int .i64 col, .int .i64 k, .slice A n c] 24 (0, 0)) ∧ wx.heap[(w.heap.size + 1)]? = some (.cells #[.int .i64 r.who, .int .i64 r.when_, .int .i64 r.kind, .int .i64 r.value] 26 (0, 0)) ∧ Below w.heap.size w wx)
  case first =>
   cases sb with
   | true =>
    cases bq with
    | true =>
     refine wp_floatP [0, 1, 2, 3, 4, 5, 6, 7] (l' := [_, _, _, _, _, _, _, _]) (by kernel_rfl) (lexOK_of (by kernel_rfl) (by kernel_rfl)) (ordOK_of (by kernel_rfl) (by kernel_rfl)) rfl rfl ?_
     simp only [List.getElem_toArray, List.getElem_cons_succ, List.getElem_cons_zero]
     intro V2 hb hSW
     have B1 := Lib.hid hb
     have HF2 := Lib.hid hSW
     clear hb hSW
     refine wpF_seg 3 (by kernel_rfl) ?_
     simp only [List.take_succ_cons, List.take_zero, List.drop_succ_cons, List.drop_zero]
     refine zv (.bool true) (fun v hv => rfl) ?_
     simp only [Act.put, zA, zB, zC]
     refine zv (.bool true) (fun v hv => rfl) ?_
     simp only [Act.put, zA, zB, zC]
     refine zv (.agg #[.int .i64 kind, .int .i64 col, .int .i64 k, .slice A n c]) (fun v hv => (xo_loadW w.heap.size _ (heap_keep Fv0_2.out (laterF hv)) Tryd.underlying24 rfl (by kernel_rfl) rfl rfl)) ?_
     simp only [Act.put, zA, zB, zC]
     refine wpQuiet_nil ?_
     refine wpF_call 12 Tryd.func12 (by kernel_rfl) (by kernel_rfl) _ _ #[.agg #[.int .i64 kind, .int .i64 col, .int .i64 k, .slice A n c]] rfl (by kernel_rfl) (by kernel_rfl) HF2.out (fun V3 hb => ?_)
     have B2 := Lib.hid hb
     have HF3 := Lib.hid (HF2.out.ext hb)
     clear hb
     have C0_2 := zb B0 B1
     have C0_3 := zb C0_2 B2
     refine (valid_as kind col k A n c hs fs true HBQ.out V3 (HG.out.keep C0_3.out) (HFR.out.keep C0_3.out)).mono ?_
     rintro e V4 ⟨rfl, hb⟩
     have B3 := Lib.hid hb
     have HF4 := Lib.hid (HF3.out.ext hb)
     refine ⟨_, rfl, hb, ?_⟩
     clear hb 
     simp only [Act.put, zA, zB, zC]
     refine wpF_seg 1 (by kernel_rfl) ?_
     simp only [List.take_succ_cons, List.take_zero, List.drop_succ_cons, List.drop_zero]
     refine zv (.agg #[.int .i64 kind, .int .i64 col, .int .i64 k, .slice A n c]) (fun v hv => (xo_loadW w.heap.size _ (heap_keep Fv0_2.out (laterF hv)) Tryd.underlying24 rfl (by kernel_rfl) rfl rfl)) ?_
     simp only [Act.put, zA, zB, zC]
     refine wpQuiet_nil ?_
     refine wpF_call 13 Tryd.func13 (by kernel_rfl) (by kernel_rfl) _ _ #[.agg #[.int .i64 kind, .int .i64 col, .int .i64 k, .slice A n c]] rfl (by kernel_rfl) (by kernel_rfl) HF4.out (fun V5 hb => ?_)
     have B4 := Lib.hid hb
     have HF5 := Lib.hid (HF4.out.ext hb)
     clear hb
     have C0_4 := zb C0_3 B3
     have C0_5 := zb C0_4 B4
     refine (rvalid_as13 kind col k A n c hs fs true HBQ.out V5 (HFR.out.keep C0_5.out)).mono ?_
     rintro e V6 ⟨rfl, hb⟩
     have B5 := Lib.hid hb
     have HF6 := Lib.hid (HF5.out.ext hb)
     refine ⟨_, rfl, hb, ?_⟩
     clear hb 
     simp only [Act.put, zA, zB, zC]
     refine wpF_seg 2 (by kernel_rfl) ?_
     simp only [List.take_succ_cons, List.take_zero, List.drop_succ_cons, List.drop_zero]
     refine zv (.bool false) (fun v hv => (by unfold execOp; go_simp)) ?_
     simp only [Act.put, zA, zB, zC]
     refine zv (.bool false) (fun v hv => rfl) ?_
     simp only [Act.put, zA, zB, zC]
     refine wpQuiet_nil ?_
     refine wpF_nil (fun V7 hb => ?_)
     have B6 := Lib.hid hb
     clear hb
     clear HF2
     clear HF3
     clear HF4
     clear HF5
     clear HF6
     have C1_3 := zb B1 B2
     have C1_4 := zb C1_3 B3
     have C1_5 := zb C1_4 B4
     have C1_6 := zb C1_5 B5
     have C1_7 := zb C1_6 B6
     have hm8 := (heap_keep Fv0_2.out C1_7.out)
     have hm9 := (heap_keep Fv1_3.out C1_7.out)
     have C0_6 := zb C0_5 B5
     have C0_7 := zb C0_6 B6
     have hm10 := C0_7.out
     go_wp2_with fail
     go_meet
     case rel => exact ⟨rfl, hm8, hm9, hm10⟩
    | false =>
     refine wp_floatP [0, 1, 2, 3, 4, 5, 6, 7] (l' := [_, _, _, _, _, _, _, _]) (by kernel_rfl) (lexOK_of (by kernel_rfl) (by kernel_rfl)) (ordOK_of (by kernel_rfl) (by kernel_rfl)) rfl rfl ?_
     simp only [List.getElem_toArray, List.getElem_cons_succ, List.getElem_cons_zero]
     intro V2 hb hSW
     have B1 := Lib.hid hb
     have HF2 := Lib.hid hSW
     clear hb hSW
     refine wpF_seg 3 (by kernel_rfl) ?_
     simp only [List.take_succ_cons, List.take_zero, List.drop_succ_cons, List.drop_zero]
     refine zv (.bool true) (fun v hv => rfl) ?_
     simp only [Act.put, zA, zB, zC]
     refine zv (.bool true) (fun v hv => rfl) ?_
     simp only [Act.put, zA, zB, zC]
     refine zv (.agg #[.int .i64 kind, .int .i64 col, .int .i64 k, .slice A n c]) (fun v hv => (xo_loadW w.heap.size _ (heap_keep Fv0_2.out (laterF hv)) Tryd.underlying24 rfl (by kernel_rfl) rfl rfl)) ?_
     simp only [Act.put, zA, zB, zC]
     refine wpQuiet_nil ?_
     refine wpF_call 12 Tryd.func12 (by kernel_rfl) (by kernel_rfl) _ _ #[.agg #[.int .i64 kind, .int .i64 col, .int .i64 k, .slice A n c]] rfl (by kernel_rfl) (by kernel_rfl) HF2.out (fun V3 hb => ?_)
     have B2 := Lib.hid hb
     have HF3 := Lib.hid (HF2.out.ext hb)
     clear hb
     have C0_2 := zb B0 B1
     have C0_3 := zb C0_2 B2
     refine (valid_as kind col k A n c hs fs false HBQ.out V3 (HG.out.keep C0_3.out) (HFR.out.keep C0_3.out)).mono ?_
     rintro e V4 ⟨rfl, hb⟩
     have B3 := Lib.hid hb
     have HF4 := Lib.hid (HF3.out.ext hb)
     refine ⟨_, rfl, hb, ?_⟩
     clear hb 
     simp only [Act.put, zA, zB, zC]
     refine wpF_seg 1 (by kernel_rfl) ?_
     simp only [List.take_succ_cons, List.take_zero, List.drop_succ_cons, List.drop_zero]
     refine zv (.agg #[.int .i64 kind, .int .i64 col, .int .i64 k, .slice A n c]) (fun v hv => (xo_loadW w.heap.size _ (heap_keep Fv0_2.out (laterF hv)) Tryd.underlying24 rfl (by kernel_rfl) rfl rfl)) ?_
     simp only [Act.put, zA, zB, zC]
     refine wpQuiet_nil ?_
     refine wpF_call 13 Tryd.func13 (by kernel_rfl) (by kernel_rfl) _ _ #[.agg #[.int .i64 kind, .int .i64 col, .int .i64 k, .slice A n c]] rfl (by kernel_rfl) (by kernel_rfl) HF4.out (fun V5 hb => ?_)
     have B4 := Lib.hid hb
     have HF5 := Lib.hid (HF4.out.ext hb)
     clear hb
     have C0_4 := zb C0_3 B3
     have C0_5 := zb C0_4 B4
     refine (rvalid_as13 kind col k A n c hs fs false HBQ.out V5 (HFR.out.keep C0_5.out)).mono ?_
     rintro e V6 ⟨rfl, hb⟩
     have B5 := Lib.hid hb
     have HF6 := Lib.hid (HF5.out.ext hb)
     refine ⟨_, rfl, hb, ?_⟩
     clear hb 
     simp only [Act.put, zA, zB, zC]
     refine wpF_seg 2 (by kernel_rfl) ?_
     simp only [List.take_succ_cons, List.take_zero, List.drop_succ_cons, List.drop_zero]
     refine zv (.bool false) (fun v hv => (by unfold execOp; go_simp)) ?_
     simp only [Act.put, zA, zB, zC]
     refine zv (.bool false) (fun v hv => rfl) ?_
     simp only [Act.put, zA, zB, zC]
     refine wpQuiet_nil ?_
     refine wpF_nil (fun V7 hb => ?_)
     have B6 := Lib.hid hb
     clear hb
     clear HF2
     clear HF3
     clear HF4
     clear HF5
     clear HF6
     have C1_3 := zb B1 B2
     have C1_4 := zb C1_3 B3
     have C1_5 := zb C1_4 B4
     have C1_6 := zb C1_5 B5
     have C1_7 := zb C1_6 B6
     have hm8 := (heap_keep Fv0_2.out C1_7.out)
     have hm9 := (heap_keep Fv1_3.out C1_7.out)
     have C0_6 := zb C0_5 B5
     have C0_7 := zb C0_6 B6
     have hm10 := C0_7.out
     go_wp2_with fail
     go_meet
     case rel => exact ⟨rfl, hm8, hm9, hm10⟩
   | false =>
    refine wp_floatP [0, 1, 2, 3, 4, 5, 6, 7] (l' := [_, _, _, _, _, _, _, _]) (by kernel_rfl) (lexOK_of (by kernel_rfl) (by kernel_rfl)) (ordOK_of (by kernel_rfl) (by kernel_rfl)) rfl rfl ?_
    simp only [List.getElem_toArray, List.getElem_cons_succ, List.getElem_cons_zero]
    intro V2 hb hSW
    have B1 := Lib.hid hb
    have HF2 := Lib.hid hSW
    clear hb hSW
    refine wpF_seg 3 (by kernel_rfl) ?_
    simp only [List.take_succ_cons, List.take_zero, List.drop_succ_cons, List.drop_zero]
    refine zv (.bool false) (fun v hv => rfl) ?_
    simp only [Act.put, zA, zB, zC]
    refine zv (.bool false) (fun v hv => rfl) ?_
    simp only [Act.put, zA, zB, zC]
    refine BigFrame.wpQuiet_skip (by kernel_rfl) ?_
    try simp only [Act.put, zA, zB, zC]
    refine wpQuiet_nil ?_
    refine wpF_skip rfl ?_
    simp only [ptr, Act.put, zA, zB, zC]
    refine wpF_seg 1 (by kernel_rfl) ?_
    simp only [List.take_succ_cons, List.take_zero, List.drop_succ_cons, List.drop_zero]
    refine BigFrame.wpQuiet_skip (by kernel_rfl) ?_
    try simp only [Act.put, zA, zB, zC]
    refine wpQuiet_nil ?_
    refine wpF_skip rfl ?_
    simp only [ptr, Act.put, zA, zB, zC]
    refine wpF_seg 2 (by kernel_rfl) ?_
    simp only [List.take_succ_cons, List.take_zero, List.drop_succ_cons, List.drop_zero]
    refine BigFrame.wpQuiet_skip (by kernel_rfl) ?_
    try simp only [Act.put, zA, zB, zC]
    refine zv (.bool false) (fun v hv => rfl) ?_
    simp only [Act.put, zA, zB, zC]
    refine wpQuiet_nil ?_
    refine wpF_nil (fun V3 hb => ?_)
    have B2 := Lib.hid hb
    clear hb
    clear HF2
    have C1_3 := zb B1 B2
    have hm8 := (heap_keep Fv0_2.out C1_3.out)
    have hm9 := (heap_keep Fv1_3.out C1_3.out)
    have C0_2 := zb B0 B1
    have C0_3 := zb C0_2 B2
    have hm10 := C0_3.out
    go_wp2_with fail
    go_meet
    case rel => exact ⟨rfl, hm8, hm9, hm10⟩
  case rest =>
   obtain ⟨wc8, rfl⟩ : ∃ W, W = wc := ⟨_, rfl⟩
   obtain ⟨hs40, hr0, hr1, hb0⟩ := hcut
   have hbr := hb0
   clear B0
   have B0 := Lib.hid hbr
   clear hbr
   clear Fv0_2
   have Fv0_2 : Hid (wc8.heap[w.heap.size]? = some (.cells #[.int .i64 kind, .int .i64 col, .int .i64 k, .slice A n c] 24 (0, 0))) := Lib.hid (hr0)
   clear Fv1_3
   have Fv1_3 : Hid (wc8.heap[(w.heap.size + 1)]? = some (.cells #[.int .i64 r.who, .int .i64 r.when_, .int .i64 r.kind, .int .i64 r.value] 26 (0, 0))) := Lib.hid (hr1)
   clear hb0 hr0 hr1
   subst hs40
   go_upto_region 9 with fail
   refine Fl.wp_floatN (by kernel_rfl) (lexOK_of (by kernel_rfl) (by kernel_rfl)) (Fl.chainOF_of (by kernel_rfl)) ?_
   intro V2 hb hSW
   have B1 := Lib.hid hb
   have HF2 := Lib.hid hSW
   clear hb hSW
   refine Fl.wpF_seg 1 (by kernel_rfl) ?_
   simp only [List.take_succ_cons, List.take_zero, List.drop_succ_cons, List.drop_zero]
   refine zv (.agg #[.int .i64 kind, .int .i64 col, .int .i64 k, .slice A n c]) (fun v hv => (xo_loadW w.heap.size _ (heap_keep Fv0_2.out (laterF hv)) Tryd.underlying24 rfl (by kernel_rfl) rfl rfl)) ?_
   simp only [Act.put, zA, zB, zC]
   refine wpQuiet_nil ?_
   refine Fl.wpF_call 14 Tryd.func14 (by kernel_rfl) (by kernel_rfl) _ _ #[.agg #[.int .i64 kind, .int .i64 col, .int .i64 k, .slice A n c]] rfl (by kernel_rfl) (by kernel_rfl) HF2.out (fun V3 hb => ?_)
   have B2 := Lib.hid hb
   have HF3 := Lib.hid (HF2.out.ext hb)
   clear hb
   have C0_2 := zb B0 B1
   have C0_3 := zb C0_2 B2
   refine (made_as kind col k A n c hs fs q HQ.out V3 (HFR.out.keep C0_3.out)).mono ?_
   rintro e V4 ⟨A2, n2, c2, rfl, hfo0, hb⟩
   have B3 := Lib.hid hb
   have HF4 := Lib.hid (HF3.out.ext hb)
   have hn2 := (FsOwn.fsR hfo0).1
   subst hn2
   have hfo := FsOwn.mono hfo0 C0_3.out.size
   clear hfo0
   have HFO := Lib.hid hfo
   refine ⟨_, rfl, hb, ?_⟩
   clear hb hfo
   simp only [Act.put, zA, zB, zC]
   refine Fl.wpF_seg 1 (by kernel_rfl) ?_
   simp only [List.take_succ_cons, List.take_zero, List.drop_succ_cons, List.drop_zero]
   refine zv (.agg #[.int .i64 r.who, .int .i64 r.when_, .int .i64 r.kind, .int .i64 r.value]) (fun v hv => (xo_loadW (w.heap.size + 1) _ (heap_keep Fv1_3.out (laterF hv)) Tryd.underlying26 rfl (by kernel_rfl) rfl rfl)) ?_
   simp only [Act.put, zA, zB, zC]
   refine wpQuiet_nil ?_
   refine Fl.wpF_call 15 Tryd.func15 (by kernel_rfl) (by kernel_rfl) _ _ #[.agg #[.int .i64 r.who, .int .i64 r.when_, .int .i64 r.kind, .int .i64 r.value]] rfl (by kernel_rfl) (by kernel_rfl) HF4.out (fun V5 hb => ?_)
   have B4 := Lib.hid hb
   have HF5 := Lib.hid (HF4.out.ext hb)
   clear hb
   refine (madeReading_any r V5).mono ?_
   rintro e V6 ⟨rfl, hb⟩
   have B5 := Lib.hid hb
   have HF6 := Lib.hid (HF5.out.ext hb)
   rw [HX4.out.1, HX4.out.2.1, HX4.out.2.2.1, HX4.out.2.2.2]
   refine ⟨_, rfl, hb, ?_⟩
   clear hb 
   simp only [Act.put, zA, zB, zC]
   refine Fl.wpF_make (.cells #[.int .i64 0, .int .i64 0, .int .i64 0, .slice none 0 0] 24, fun b => ptr b) (by kernel_rfl) (by kernel_rfl) (by kernel_rfl) (fun V => xo_alloc #[.int .i64 0, .int .i64 0, .int .i64 0, .slice none 0 0] (by kernel_rfl) rfl) (fun b8 V7 hb h0 hbz => ?_)
   have Hz8 := Lib.hid hbz
   have Ge10 : Hid (wc8.heap.size ≤ b8) := Lib.hid hbz
   have B6 := Lib.hid hb
   have HF7 := Lib.hid (HF6.out.ext hb)
   have Fv11_8 : Hid (V7.heap[b8]? = some (.cells #[.int .i64 0, .int .i64 0, .int .i64 0, .slice none 0 0] 24 (0, 0))) := Lib.hid (h0)
   have N12 : Hid (w.heap.size ≠ b8) := Lib.hid (Nat.ne_of_lt (Nat.lt_of_lt_of_le (xp_lt Fv0_2.out) hbz))
   have N13 : Hid ((w.heap.size + 1) ≠ b8) := Lib.hid (Nat.ne_of_lt (Nat.lt_of_lt_of_le (xp_lt Fv1_3.out) hbz))
   clear hb h0 hbz
   simp only [ptr, Act.put, zA, zB, zC]
   refine Fl.wpF_make (.cells #[.int .i64 0, .int .i64 0, .int .i64 0, .int .i64 0] 26, fun b => ptr b) (by kernel_rfl) (by kernel_rfl) (by kernel_rfl) (fun V => xo_alloc #[.int .i64 0, .int .i64 0, .int .i64 0, .int .i64 0] (by kernel_rfl) rfl) (fun b9 V8 hb h0 hbz => ?_)
   have Hz9 := Lib.hid hbz
   have Ge14 : Hid (wc8.heap.size ≤ b9) := Lib.hid hbz
   have B7 := Lib.hid hb
   have HF8 := Lib.hid (HF7.out.ext hb)
   have Fv15_9 : Hid (V8.heap[b9]? = some (.cells #[.int .i64 0, .int .i64 0, .int .i64 0, .int .i64 0] 26 (0, 0))) := Lib.hid (h0)
   have N16 : Hid (w.heap.size ≠ b9) := Lib.hid (Nat.ne_of_lt (Nat.lt_of_lt_of_le (xp_lt Fv0_2.out) hbz))
   have N17 : Hid ((w.heap.size + 1) ≠ b9) := Lib.hid (Nat.ne_of_lt (Nat.lt_of_lt_of_le (xp_lt Fv1_3.out) hbz))
   have N18 : Hid (b8 ≠ b9) := Lib.hid (ne_types (heap_keep Fv11_8.out B7.out) Fv15_9.out (by decide))
   clear hb h0 hbz
   simp only [ptr, Act.put, zA, zB, zC]
   refine Fl.wpF_store (fun V => V.setRow b8 #[.int .i64 (q.kind : Int), .int .i64 (q.col : Int), .int .i64 (q.k : Int), .slice A2 q.fs.length c2]) (by kernel_rfl) (by kernel_rfl) (by kernel_rfl) (by kernel_rfl) (fun V hV => xo_storeW (x := .tmp 8) (y := .tmp 42) b8 #[.int .i64 0, .int .i64 0, .int .i64 0, .slice none 0 0] #[.int .i64 (q.kind : Int), .int .i64 (q.col : Int), .int .i64 (q.k : Int), .slice A2 q.fs.length c2] (heap_keep (heap_keep Fv11_8.out B7.out) hV) (by kernel_rfl) rfl (by simp [Value.oneCell']) rfl rfl rfl) (fun V hV => ⟨⟨_, bel_setRow (HF8.out.ext hV).below Hz8.out _⟩, rfl⟩) (fun V hV => ?_)
   have hU : Below wc8.heap.size wc8 (V.setRow b8 #[.int .i64 (q.kind : Int), .int .i64 (q.col : Int), .int .i64 (q.k : Int), .slice A2 q.fs.length c2]) := bel_setRow (HF8.out.ext hV).below Hz8.out _
   have YFv11_8 : (V.setRow b8 #[.int .i64 (q.kind : Int), .int .i64 (q.col : Int), .int .i64 (q.k : Int), .slice A2 q.fs.length c2]).heap[b8]? = some (.cells #[.int .i64 (q.kind : Int), .int .i64 (q.col : Int), .int .i64 (q.k : Int), .slice A2 q.fs.length c2] 24 (0, 0)) := setRow_heap V b8 _ #[.int .i64 (q.kind : Int), .int .i64 (q.col : Int), .int .i64 (q.k : Int), .slice A2 q.fs.length c2] _ _ (heap_keep (heap_keep Fv11_8.out B7.out) hV)
   have YFv15_9 : (V.setRow b8 #[.int .i64 (q.kind : Int), .int .i64 (q.col : Int), .int .i64 (q.k : Int), .slice A2 q.fs.length c2]).heap[b9]? = some (.cells #[.int .i64 0, .int .i64 0, .int .i64 0, .int .i64 0] 26 (0, 0)) := heap_farRow (heap_keep Fv15_9.out hV) (Ne.symm N18.out) #[.int .i64 (q.kind : Int), .int .i64 (q.col : Int), .int .i64 (q.k : Int), .slice A2 q.fs.length c2]
   have hfar : ∀ k o, k ≠ b8 → V.heap[k]? = some o → (V.setRow b8 #[.int .i64 (q.kind : Int), .int .i64 (q.col : Int), .int .i64 (q.k : Int), .slice A2 q.fs.length c2]).heap[k]? = some o := fun k o hk h0 => heap_farRow h0 hk _
   have C4_6 := zb B4 B5
   have C4_7 := zb C4_6 B6
   have C4_8 := zb C4_7 B7
   have YHFO : FsOwn (V.setRow b8 #[.int .i64 (q.kind : Int), .int .i64 (q.col : Int), .int .i64 (q.k : Int), .slice A2 q.fs.length c2]) w.heap.size (.slice A2 q.fs.length c2) q.fs := FsOwn.store ((HFO.out.keep C4_8.out).keep hV) (heap_keep (heap_keep Fv11_8.out B7.out) hV) (by decide) (by decide) hfar
   have HFn := Lib.hid (show SL wc8 (V.setRow b8 #[.int .i64 (q.kind : Int), .int .i64 (q.col : Int), .int .i64 (q.k : Int), .slice A2 q.fs.length c2]) from ⟨⟨_, hU⟩, rfl⟩)
   clear hfar
   generalize V.setRow b8 #[.int .i64 (q.kind : Int), .int .i64 (q.col : Int), .int .i64 (q.k : Int), .slice A2 q.fs.length c2] = Y8s at *
   clear hV
   try clear HF2
   try clear HF3
   try clear HF4
   try clear HF5
   try clear HF6
   try clear HF7
   try clear HF8
   have hbr := hU
   clear B1
   have B1 := Lib.hid hbr
   clear hbr
   clear hU
   clear Fv11_8
   have Fv11_8 : Hid (Y8s.heap[b8]? = some (.cells #[.int .i64 (q.kind : Int), .int .i64 (q.col : Int), .int .i64 (q.k : Int), .slice A2 q.fs.length c2] 24 (0, 0))) := Lib.hid YFv11_8
   clear YFv11_8
   clear Fv15_9
   have Fv15_9 : Hid (Y8s.heap[b9]? = some (.cells #[.int .i64 0, .int .i64 0, .int .i64 0, .int .i64 0] 26 (0, 0))) := Lib.hid YFv15_9
   clear YFv15_9
   clear HFO
   have HFO := Lib.hid YHFO
   clear YHFO
   have HF2 := HFn
   clear HFn
   simp only [Act.put, zA, zB, zC]
   refine Fl.wpF_last (fun V => V.setRow b9 #[.int .i64 (x0 : Int), .int .i64 (x1 : Int), .int .i64 (x2 : Int), .int .i64 (x3 : Int)]) (by kernel_rfl) (by kernel_rfl) (by kernel_rfl) (fun V hV => xo_storeW (x := .tmp 9) (y := .tmp 44) b9 #[.int .i64 0, .int .i64 0, .int .i64 0, .int .i64 0] #[.int .i64 (x0 : Int), .int .i64 (x1 : Int), .int .i64 (x2 : Int), .int .i64 (x3 : Int)] (heap_keep Fv15_9.out hV) (by kernel_rfl) rfl (by simp [Value.oneCell']) rfl rfl rfl) (fun V hV => ⟨⟨_, bel_setRow (HF2.out.ext hV).below Hz9.out _⟩, rfl⟩) (fun V hV X2 hX => ?_)
   have hU : Below wc8.heap.size wc8 X2 := (bel_setRow (HF2.out.ext hV).below Hz9.out _).trans (hX.mono (bel_setRow (HF2.out.ext hV).below Hz9.out #[.int .i64 (x0 : Int), .int .i64 (x1 : Int), .int .i64 (x2 : Int), .int .i64 (x3 : Int)]).size)
   have YFv11_8 : X2.heap[b8]? = some (.cells #[.int .i64 (q.kind : Int), .int .i64 (q.col : Int), .int .i64 (q.k : Int), .slice A2 q.fs.length c2] 24 (0, 0)) := heap_keep (heap_farRow (heap_keep Fv11_8.out hV) N18.out #[.int .i64 (x0 : Int), .int .i64 (x1 : Int), .int .i64 (x2 : Int), .int .i64 (x3 : Int)]) hX
   have YFv15_9 : X2.heap[b9]? = some (.cells #[.int .i64 (x0 : Int), .int .i64 (x1 : Int), .int .i64 (x2 : Int), .int .i64 (x3 : Int)] 26 (0, 0)) := heap_keep (setRow_heap V b9 _ #[.int .i64 (x0 : Int), .int .i64 (x1 : Int), .int .i64 (x2 : Int), .int .i64 (x3 : Int)] _ _ (heap_keep Fv15_9.out hV)) hX
   have hfar : ∀ k o, k ≠ b9 → V.heap[k]? = some o → (V.setRow b9 #[.int .i64 (x0 : Int), .int .i64 (x1 : Int), .int .i64 (x2 : Int), .int .i64 (x3 : Int)]).heap[k]? = some o := fun k o hk h0 => heap_farRow h0 hk _
   have YHFO : FsOwn X2 w.heap.size (.slice A2 q.fs.length c2) q.fs := (FsOwn.store (HFO.out.keep hV) (heap_keep Fv15_9.out hV) (by decide) (by decide) hfar).keep hX
   clear hV hX hfar
   try clear HF2
   have hbr := hU
   clear B1
   have B1 := Lib.hid hbr
   clear hbr
   clear hU
   clear Fv11_8
   have Fv11_8 : Hid (X2.heap[b8]? = some (.cells #[.int .i64 (q.kind : Int), .int .i64 (q.col : Int), .int .i64 (q.k : Int), .slice A2 q.fs.length c2] 24 (0, 0))) := Lib.hid YFv11_8
   clear YFv11_8
   clear Fv15_9
   have Fv15_9 : Hid (X2.heap[b9]? = some (.cells #[.int .i64 (x0 : Int), .int .i64 (x1 : Int), .int .i64 (x2 : Int), .int .i64 (x3 : Int)] 26 (0, 0))) := Lib.hid YFv15_9
   clear YFv15_9
   clear HFO
   have HFO := Lib.hid YHFO
   clear YHFO
   simp only [Act.put, zA, zB, zC]
   have Lt19 : Hid (b8 < X2.heap.size) := Lib.hid (xp_lt Fv11_8.out)
   have Lt20 : Hid (b9 < X2.heap.size) := Lib.hid (xp_lt Fv15_9.out)
   obtain ⟨hn2, hs2, hfr⟩ := FsOwn.fsR HFO.out
   clear HFO
   have HFR2 := Lib.hid hfr
   clear hfr
   have hl2 := HFR2.out.sg.len
   have hc2 := HFR2.out.sg.cap
   have ht2 := HFR2.out.sg.top
   have hf2 := HFR2.out.len
   rw [List.length_map] at hf2
   go_upto_region 10 with fail
   refine wp_region_lit ?_
   refine zr (.int .i64 0) X2 rfl ?_
   simp only [Act.put, zA, zB, zC]
   refine wpList_nil ?_
   have O21 := (heap_keep Fv0_2.out B1.out)
   have O22 := (heap_keep Fv1_3.out B1.out)
   have O23 := Fv11_8.out
   have O24 := Fv15_9.out
   have O25 := HFR2.out
   have C0_2 := zb B0 B1
   have O26 := C0_2.out
   have Gr27 : Hid (w.heap.size ≤ b8) := Lib.hid (Nat.le_trans B0.out.size Hz8.out)
   have Gr28 : Hid (w.heap.size ≤ b9) := Lib.hid (Nat.le_trans B0.out.size Hz9.out)
   go_wp2_with fail
   go_loopw [10] (fun p wr => ∃ i : Nat, i ≤ q.fs.length ∧ p = .int .i64 i ∧ FsR wr A2 q.fs.length c2 hs2 (q.fs.map (List.map Qu.Cd.ci)) ∧ wr.heap[w.heap.size]? = some (.cells #[.int .i64 kind, .int .i64 col, .int .i64 k, .slice A n c] 24 (0, 0)) ∧ wr.heap[(w.heap.size + 1)]? = some (.cells #[.int .i64 r.who, .int .i64 r.when_, .int .i64 r.kind, .int .i64 r.value] 26 (0, 0)) ∧ wr.heap[b8]? = some (.cells #[.int .i64 (q.kind : Int), .int .i64 (q.col : Int), .int .i64 (q.k : Int), .slice A2 q.fs.length c2] 24 (0, 0)) ∧ wr.heap[b9]? = some (.cells #[.int .i64 (x0 : Int), .int .i64 (x1 : Int), .int .i64 (x2 : Int), .int .i64 (x3 : Int)] 26 (0, 0)) ∧ Below w.heap.size w wr) (fun p _ => q.fs.length - (intOf p).toNat)
   case atStart => exact ⟨0, Nat.zero_le _, rfl, O25, O21, O22, O23, O24, O26⟩
   case round =>
    clear O21 O22 O23 O24 O26 O25
    obtain ⟨wo, rfl⟩ : ∃ wo : World, wo = wr := ⟨_, rfl⟩
    obtain ⟨i, hi, rfl, hHFR2, hr0, hr1, hr2, hr3, hb0⟩ := hrel
    have hbr := hb0
    clear B0
    have B0 := Lib.hid hbr
    clear hbr
    clear Fv0_2
    have Fv0_2 : Hid (wo.heap[w.heap.size]? = some (.cells #[.int .i64 kind, .int .i64 col, .int .i64 k, .slice A n c] 24 (0, 0))) := Lib.hid (hr0)
    clear Fv1_3
    have Fv1_3 : Hid (wo.heap[(w.heap.size + 1)]? = some (.cells #[.int .i64 r.who, .int .i64 r.when_, .int .i64 r.kind, .int .i64 r.value] 26 (0, 0))) := Lib.hid (hr1)
    clear Fv11_8
    have Fv11_8 : Hid (wo.heap[b8]? = some (.cells #[.int .i64 (q.kind : Int), .int .i64 (q.col : Int), .int .i64 (q.k : Int), .slice A2 q.fs.length c2] 24 (0, 0))) := Lib.hid (hr2)
    clear Fv15_9
    have Fv15_9 : Hid (wo.heap[b9]? = some (.cells #[.int .i64 (x0 : Int), .int .i64 (x1 : Int), .int .i64 (x2 : Int), .int .i64 (x3 : Int)] 26 (0, 0))) := Lib.hid (hr3)
    have HFR2 := Lib.hid hHFR2
    clear hb0 hr0 hr1 hr2 hr3 hHFR2
    by_cases hin : i < q.fs.length
    ·have hci30 : ((i : Int) < ((q.fs.length : Nat) : Int)) := by omega
     obtain ⟨h, hh⟩ : ∃ h, hs2[i]? = some h := ⟨_, List.getElem?_eq_getElem (by omega)⟩
     obtain ⟨l, hl⟩ : ∃ l, q.fs[i]? = some l := ⟨_, List.getElem?_eq_getElem (by omega)⟩
     obtain ⟨_, _, _, _, _, _, _, hall⟩ := HOK.out
     have hok := (hall l (List.mem_of_getElem? hl)).2
     clear hall
     have HH := Lib.hid hh
     have HX : Hid ((q.fs.map (List.map Qu.Cd.ci))[i]? = some (l.map Qu.Cd.ci)) := Lib.hid (by rw [List.getElem?_map, hl]; rfl)
     have HCO : Hid (∀ e ∈ l.map Qu.Cd.ci, Qu.isC e.col = true) := Lib.hid (fun e he => by
           obtain ⟨x, hx, rfl⟩ := List.mem_map.1 he
           have := (hok x hx).1
           show (decide ((0 : Int) ≤ (x.col : Int)) && decide ((x.col : Int) < 4)) = true
           rw [decide_eq_true (by omega : (0 : Int) ≤ (x.col : Int)), decide_eq_true (by omega : (x.col : Int) < 4)]
           rfl)
     clear hh hl hok
     obtain ⟨hA, hn, hc⟩ := h
     go_upto_region 11 with fail
     refine wp_region_lit ?_
     refine zr (.int .i64 (i : Int)) wo rfl ?_
     simp only [Act.put, zA, zB, zC]
     refine zr (.pointer (some ⟨b8, 3, none⟩)) wo (xo_fld0 3 b8 3 (by kernel_rfl) rfl rfl) ?_
     simp only [Act.put, zA, zB, zC]
     refine zr (.slice A2 q.fs.length c2) wo (xo_load1 ⟨b8, 3, none⟩ _ (cells_at Fv11_8.out 3 rfl) Tryd.underlying22 rfl rfl rfl) ?_
     simp only [Act.put, zA, zB, zC]
     refine zr (.int .i64 ((q.fs.length : Nat) : Int)) wo (xo_len A2 q.fs.length c2 Tryd.underlying22 rfl rfl) ?_
     simp only [Act.put, zA, zB, zC]
     refine zr (.bool true) wo (xo_lssT .i64 (i : Int) ((q.fs.length : Nat) : Int) (by omega) rfl rfl rfl) ?_
     simp only [Act.put, zA, zB, zC]
     refine wpList_nil ?_
     cases hmb : (l.map Qu.Cd.ci).all (Qu.mC (Rd.mk (x0 : Int) (x1 : Int) (x2 : Int) (x3 : Int))) with
     | false =>
      go_upto_region 13 with fail
      refine wp_floatP [0, 1, 2, 3, 4, 5, 6, 7, 8, 9, 10, 11, 12, 13, 14] (l' := [_, _, _, _, _, _, _, _, _, _, _, _, _, _, _]) (by kernel_rfl) (lexOK_of (by kernel_rfl) (by kernel_rfl)) (ordOK_of (by kernel_rfl) (by kernel_rfl)) rfl rfl ?_
      simp only [List.getElem_toArray, List.getElem_cons_succ, List.getElem_cons_zero]
      intro V2 hb hSW
      have B1 := Lib.hid hb
      have HF2 := Lib.hid hSW
      clear hb hSW
      refine wpF_seg 6 (by kernel_rfl) ?_
      simp only [List.take_succ_cons, List.take_zero, List.drop_succ_cons, List.drop_zero]
      refine zv (.pointer (some ⟨b8, 3, none⟩)) (fun v hv => (xo_fld0 3 b8 3 (by kernel_rfl) rfl rfl)) ?_
      simp only [Act.put, zA, zB, zC]
      refine zv (.slice A2 q.fs.length c2) (fun v hv => (xo_load1 ⟨b8, 3, none⟩ _ (cells_at (heap_keep Fv11_8.out (laterF hv)) 3 rfl) Tryd.underlying22 rfl rfl rfl)) ?_
      simp only [Act.put, zA, zB, zC]
      refine zv (.int .i64 (i : Int)) (fun v hv => rfl) ?_
      simp only [Act.put, zA, zB, zC]
      refine zv (.pointer (some (gad A2 (i * 1)))) (fun v hv => (xg_idx .i64 (HFR2.out.keep (laterF hv)).sg HH.out Tryd.underlying22 (by kernel_rfl) rfl rfl rfl)) ?_
      simp only [Act.put, zA, zB, zC]
      refine zv (.slice hA hn hc) (fun v hv => (xg_load1 (E := hdC) (i := i) (j := 0) (HFR2.out.keep (laterF hv)).sg HH.out rfl rfl Tryd.underlying28 rfl rfl rfl)) ?_
      simp only [Act.put, zA, zB, zC]
      refine zv (.agg #[.int .i64 (x0 : Int), .int .i64 (x1 : Int), .int .i64 (x2 : Int), .int .i64 (x3 : Int)]) (fun v hv => (xo_loadW b9 _ (heap_keep Fv15_9.out (laterF hv)) Tryd.underlying26 rfl (by kernel_rfl) rfl rfl)) ?_
      simp only [Act.put, zA, zB, zC]
      refine wpQuiet_nil ?_
      refine wpF_call 16 Tryd.func16 (by kernel_rfl) (by kernel_rfl) _ _ #[.slice hA hn hc, .agg #[.int .i64 (x0 : Int), .int .i64 (x1 : Int), .int .i64 (x2 : Int), .int .i64 (x3 : Int)]] rfl (by kernel_rfl) (by kernel_rfl) HF2.out (fun V3 hb => ?_)
      have B2 := Lib.hid hb
      have HF3 := Lib.hid (HF2.out.ext hb)
      clear hb
      have C1_3 := zb B1 B2
      refine (match_as hA hn hc (l.map Qu.Cd.ci) (Rd.mk (x0 : Int) (x1 : Int) (x2 : Int) (x3 : Int)) false hmb V3 ((HFR2.out.keep C1_3.out).row i _ _ HH.out HX.out)).mono ?_
      rintro e V4 ⟨rfl, hb⟩
      have B3 := Lib.hid hb
      have HF4 := Lib.hid (HF3.out.ext hb)
      refine ⟨_, rfl, hb, ?_⟩
      clear hb 
      simp only [Act.put, zA, zB, zC]
      refine wpF_seg 6 (by kernel_rfl) ?_
      simp only [List.take_succ_cons, List.take_zero, List.drop_succ_cons, List.drop_zero]
      refine zv (.pointer (some ⟨b8, 3, none⟩)) (fun v hv => (xo_fld0 3 b8 3 (by kernel_rfl) rfl rfl)) ?_
      simp only [Act.put, zA, zB, zC]
      refine zv (.slice A2 q.fs.length c2) (fun v hv => (xo_load1 ⟨b8, 3, none⟩ _ (cells_at (heap_keep Fv11_8.out (laterF hv)) 3 rfl) Tryd.underlying22 rfl rfl rfl)) ?_
      simp only [Act.put, zA, zB, zC]
      refine zv (.int .i64 (i : Int)) (fun v hv => rfl) ?_
      simp only [Act.put, zA, zB, zC]
      refine zv (.pointer (some (gad A2 (i * 1)))) (fun v hv => (xg_idx .i64 (HFR2.out.keep (laterF hv)).sg HH.out Tryd.underlying22 (by kernel_rfl) rfl rfl rfl)) ?_
      simp only [Act.put, zA, zB, zC]
      refine zv (.slice hA hn hc) (fun v hv => (xg_load1 (E := hdC) (i := i) (j := 0) (HFR2.out.keep (laterF hv)).sg HH.out rfl rfl Tryd.underlying28 rfl rfl rfl)) ?_
      simp only [Act.put, zA, zB, zC]
      refine zv (.agg #[.int .i64 (x0 : Int), .int .i64 (x1 : Int), .int .i64 (x2 : Int), .int .i64 (x3 : Int)]) (fun v hv => (xo_loadW b9 _ (heap_keep Fv15_9.out (laterF hv)) Tryd.underlying26 rfl (by kernel_rfl) rfl rfl)) ?_
      simp only [Act.put, zA, zB, zC]
      refine wpQuiet_nil ?_
      refine wpF_call 17 Tryd.func17 (by kernel_rfl) (by kernel_rfl) _ _ #[.slice hA hn hc, .agg #[.int .i64 (x0 : Int), .int .i64 (x1 : Int), .int .i64 (x2 : Int), .int .i64 (x3 : Int)]] rfl (by kernel_rfl) (by kernel_rfl) HF4.out (fun V5 hb => ?_)
      have B4 := Lib.hid hb
      have HF5 := Lib.hid (HF4.out.ext hb)
      clear hb
      have C1_4 := zb C1_3 B3
      have C1_5 := zb C1_4 B4
      refine (rmatch_as hA hn hc (l.map Qu.Cd.ci) HCO.out (Rd.mk (x0 : Int) (x1 : Int) (x2 : Int) (x3 : Int)) false hmb V5 ((HFR2.out.keep C1_5.out).row i _ _ HH.out HX.out)).mono ?_
      rintro e V6 ⟨rfl, hb⟩
      have B5 := Lib.hid hb
      have HF6 := Lib.hid (HF5.out.ext hb)
      refine ⟨_, rfl, hb, ?_⟩
      clear hb 
      simp only [Act.put, zA, zB, zC]
      refine wpF_seg 1 (by kernel_rfl) ?_
      simp only [List.take_succ_cons, List.take_zero, List.drop_succ_cons, List.drop_zero]
      refine zv (.bool false) (fun v hv => (by unfold execOp; go_simp)) ?_
      simp only [Act.put, zA, zB, zC]
      refine wpQuiet_nil ?_
      refine wpF_nil (fun V7 hb => ?_)
      have B6 := Lib.hid hb
      clear hb
      clear HF2
      clear HF3
      clear HF4
      clear HF5
      clear HF6
      go_upto_region 12 with fail
      refine wp_region_lit ?_
      refine zr (.int .i64 (i : Int)) V7 rfl ?_
      simp only [Act.put, zA, zB, zC]
      refine zr (.int .i64 ((i + 1 : Nat) : Int)) V7 (xo_addI (i : Int) 1 ((i + 1 : Nat) : Int) (by omega) (by omega) (by omega) rfl rfl rfl) ?_
      simp only [Act.put, zA, zB, zC]
      refine zr (.int .i64 ((i + 1 : Nat) : Int)) V7 rfl ?_
      simp only [Act.put, zA, zB, zC]
      refine wpList_nil ?_
      have C1_6 := zb C1_5 B5
      have C1_7 := zb C1_6 B6
      have hf0 := (HFR2.out.keep C1_7.out)
      have hq31 := (heap_keep Fv0_2.out C1_7.out)
      have hq32 := (heap_keep Fv1_3.out C1_7.out)
      have hq33 := (heap_keep Fv11_8.out C1_7.out)
      have hq34 := (heap_keep Fv15_9.out C1_7.out)
      have C0_2 := zb B0 B1
      have C0_3 := zb C0_2 B2
      have C0_4 := zb C0_3 B3
      have C0_5 := zb C0_4 B4
      have C0_6 := zb C0_5 B5
      have C0_7 := zb C0_6 B6
      have hq35 := C0_7.out
      go_wp2_with fail
      go_roundw
      case rel => exact ⟨i + 1, by omega, by go_num, hf0, hq31, hq32, hq33, hq34, hq35⟩
      case measure => simp [intOf]; omega
     | true =>
      go_upto_region 13 with fail
      refine wp_floatP [0, 1, 2, 3, 4, 5, 6, 7, 8, 9, 10, 11, 12, 13, 14] (l' := [_, _, _, _, _, _, _, _, _, _, _, _, _, _, _]) (by kernel_rfl) (lexOK_of (by kernel_rfl) (by kernel_rfl)) (ordOK_of (by kernel_rfl) (by kernel_rfl)) rfl rfl ?_
      simp only [List.getElem_toArray, List.getElem_cons_succ, List.getElem_cons_zero]
      intro V2 hb hSW
      have B1 := Lib.hid hb
      have HF2 := Lib.hid hSW
      clear hb hSW
      refine wpF_seg 6 (by kernel_rfl) ?_
      simp only [List.take_succ_cons, List.take_zero, List.drop_succ_cons, List.drop_zero]
      refine zv (.pointer (some ⟨b8, 3, none⟩)) (fun v hv => (xo_fld0 3 b8 3 (by kernel_rfl) rfl rfl)) ?_
      simp only [Act.put, zA, zB, zC]
      refine zv (.slice A2 q.fs.length c2) (fun v hv => (xo_load1 ⟨b8, 3, none⟩ _ (cells_at (heap_keep Fv11_8.out (laterF hv)) 3 rfl) Tryd.underlying22 rfl rfl rfl)) ?_
      simp only [Act.put, zA, zB, zC]
      refine zv (.int .i64 (i : Int)) (fun v hv => rfl) ?_
      simp only [Act.put, zA, zB, zC]
      refine zv (.pointer (some (gad A2 (i * 1)))) (fun v hv => (xg_idx .i64 (HFR2.out.keep (laterF hv)).sg HH.out Tryd.underlying22 (by kernel_rfl) rfl rfl rfl)) ?_
      simp only [Act.put, zA, zB, zC]
      refine zv (.slice hA hn hc) (fun v hv => (xg_load1 (E := hdC) (i := i) (j := 0) (HFR2.out.keep (laterF hv)).sg HH.out rfl rfl Tryd.underlying28 rfl rfl rfl)) ?_
      simp only [Act.put, zA, zB, zC]
      refine zv (.agg #[.int .i64 (x0 : Int), .int .i64 (x1 : Int), .int .i64 (x2 : Int), .int .i64 (x3 : Int)]) (fun v hv => (xo_loadW b9 _ (heap_keep Fv15_9.out (laterF hv)) Tryd.underlying26 rfl (by kernel_rfl) rfl rfl)) ?_
      simp only [Act.put, zA, zB, zC]
      refine wpQuiet_nil ?_
      refine wpF_call 16 Tryd.func16 (by kernel_rfl) (by kernel_rfl) _ _ #[.slice hA hn hc, .agg #[.int .i64 (x0 : Int), .int .i64 (x1 : Int), .int .i64 (x2 : Int), .int .i64 (x3 : Int)]] rfl (by kernel_rfl) (by kernel_rfl) HF2.out (fun V3 hb => ?_)
      have B2 := Lib.hid hb
      have HF3 := Lib.hid (HF2.out.ext hb)
      clear hb
      have C1_3 := zb B1 B2
      refine (match_as hA hn hc (l.map Qu.Cd.ci) (Rd.mk (x0 : Int) (x1 : Int) (x2 : Int) (x3 : Int)) true hmb V3 ((HFR2.out.keep C1_3.out).row i _ _ HH.out HX.out)).mono ?_
      rintro e V4 ⟨rfl, hb⟩
      have B3 := Lib.hid hb
      have HF4 := Lib.hid (HF3.out.ext hb)
      refine ⟨_, rfl, hb, ?_⟩
      clear hb 
      simp only [Act.put, zA, zB, zC]
      refine wpF_seg 6 (by kernel_rfl) ?_
      simp only [List.take_succ_cons, List.take_zero, List.drop_succ_cons, List.drop_zero]
      refine zv (.pointer (some ⟨b8, 3, none⟩)) (fun v hv => (xo_fld0 3 b8 3 (by kernel_rfl) rfl rfl)) ?_
      simp only [Act.put, zA, zB, zC]
      refine zv (.slice A2 q.fs.length c2) (fun v hv => (xo_load1 ⟨b8, 3, none⟩ _ (cells_at (heap_keep Fv11_8.out (laterF hv)) 3 rfl) Tryd.underlying22 rfl rfl rfl)) ?_
      simp only [Act.put, zA, zB, zC]
      refine zv (.int .i64 (i : Int)) (fun v hv => rfl) ?_
      simp only [Act.put, zA, zB, zC]
      refine zv (.pointer (some (gad A2 (i * 1)))) (fun v hv => (xg_idx .i64 (HFR2.out.keep (laterF hv)).sg HH.out Tryd.underlying22 (by kernel_rfl) rfl rfl rfl)) ?_
      simp only [Act.put, zA, zB, zC]
      refine zv (.slice hA hn hc) (fun v hv => (xg_load1 (E := hdC) (i := i) (j := 0) (HFR2.out.keep (laterF hv)).sg HH.out rfl rfl Tryd.underlying28 rfl rfl rfl)) ?_
      simp only [Act.put, zA, zB, zC]
      refine zv (.agg #[.int .i64 (x0 : Int), .int .i64 (x1 : Int), .int .i64 (x2 : Int), .int .i64 (x3 : Int)]) (fun v hv => (xo_loadW b9 _ (heap_keep Fv15_9.out (laterF hv)) Tryd.underlying26 rfl (by kernel_rfl) rfl rfl)) ?_
      simp only [Act.put, zA, zB, zC]
      refine wpQuiet_nil ?_
      refine wpF_call 17 Tryd.func17 (by kernel_rfl) (by kernel_rfl) _ _ #[.slice hA hn hc, .agg #[.int .i64 (x0 : Int), .int .i64 (x1 : Int), .int .i64 (x2 : Int), .int .i64 (x3 : Int)]] rfl (by kernel_rfl) (by kernel_rfl) HF4.out (fun V5 hb => ?_)
      have B4 := Lib.hid hb
      have HF5 := Lib.hid (HF4.out.ext hb)
      clear hb
      have C1_4 := zb C1_3 B3
      have C1_5 := zb C1_4 B4
      refine (rmatch_as hA hn hc (l.map Qu.Cd.ci) HCO.out (Rd.mk (x0 : Int) (x1 : Int) (x2 : Int) (x3 : Int)) true hmb V5 ((HFR2.out.keep C1_5.out).row i _ _ HH.out HX.out)).mono ?_
      rintro e V6 ⟨rfl, hb⟩
      have B5 := Lib.hid hb
      have HF6 := Lib.hid (HF5.out.ext hb)
      refine ⟨_, rfl, hb, ?_⟩
      clear hb 
      simp only [Act.put, zA, zB, zC]
      refine wpF_seg 1 (by kernel_rfl) ?_
      simp only [List.take_succ_cons, List.take_zero, List.drop_succ_cons, List.drop_zero]
      refine zv (.bool false) (fun v hv => (by unfold execOp; go_simp)) ?_
      simp only [Act.put, zA, zB, zC]
      refine wpQuiet_nil ?_
      refine wpF_nil (fun V7 hb => ?_)
      have B6 := Lib.hid hb
      clear hb
      clear HF2
      clear HF3
      clear HF4
      clear HF5
      clear HF6
      go_upto_region 12 with fail
      refine wp_region_lit ?_
      refine zr (.int .i64 (i : Int)) V7 rfl ?_
      simp only [Act.put, zA, zB, zC]
      refine zr (.int .i64 ((i + 1 : Nat) : Int)) V7 (xo_addI (i : Int) 1 ((i + 1 : Nat) : Int) (by omega) (by omega) (by omega) rfl rfl rfl) ?_
      simp only [Act.put, zA, zB, zC]
      refine zr (.int .i64 ((i + 1 : Nat) : Int)) V7 rfl ?_
      simp only [Act.put, zA, zB, zC]
      refine wpList_nil ?_
      have C1_6 := zb C1_5 B5
      have C1_7 := zb C1_6 B6
      have hf0 := (HFR2.out.keep C1_7.out)
      have hq31 := (heap_keep Fv0_2.out C1_7.out)
      have hq32 := (heap_keep Fv1_3.out C1_7.out)
      have hq33 := (heap_keep Fv11_8.out C1_7.out)
      have hq34 := (heap_keep Fv15_9.out C1_7.out)
      have C0_2 := zb B0 B1
      have C0_3 := zb C0_2 B2
      have C0_4 := zb C0_3 B3
      have C0_5 := zb C0_4 B4
      have C0_6 := zb C0_5 B5
      have C0_7 := zb C0_6 B6
      have hq35 := C0_7.out
      go_wp2_with fail
      go_roundw
      case rel => exact ⟨i + 1, by omega, by go_num, hf0, hq31, hq32, hq33, hq34, hq35⟩
      case measure => simp [intOf]; omega
    ·have hci30 : ¬ ((i : Int) < ((q.fs.length : Nat) : Int)) := by omega
     go_upto_region 11 with fail
     refine wp_region_lit ?_
     refine zr (.int .i64 (i : Int)) wo rfl ?_
     simp only [Act.put, zA, zB, zC]
     refine zr (.pointer (some ⟨b8, 3, none⟩)) wo (xo_fld0 3 b8 3 (by kernel_rfl) rfl rfl) ?_
     simp only [Act.put, zA, zB, zC]
     refine zr (.slice A2 q.fs.length c2) wo (xo_load1 ⟨b8, 3, none⟩ _ (cells_at Fv11_8.out 3 rfl) Tryd.underlying22 rfl rfl rfl) ?_
     simp only [Act.put, zA, zB, zC]
     refine zr (.int .i64 ((q.fs.length : Nat) : Int)) wo (xo_len A2 q.fs.length c2 Tryd.underlying22 rfl rfl) ?_
     simp only [Act.put, zA, zB, zC]
     refine zr (.bool false) wo (xo_lssF .i64 (i : Int) ((q.fs.length : Nat) : Int) (by omega) rfl rfl rfl) ?_
     simp only [Act.put, zA, zB, zC]
     refine wpList_nil ?_
     go_upto_region 15 with fail
     refine wp_floatP [0, 1, 2, 3, 4, 5, 6, 7, 8, 9, 10, 11, 12] (l' := [_, _, _, _, _, _, _, _, _, _, _, _, _]) (by kernel_rfl) (lexOK_of (by kernel_rfl) (by kernel_rfl)) (ordOK_of (by kernel_rfl) (by kernel_rfl)) rfl rfl ?_
     simp only [List.getElem_toArray, List.getElem_cons_succ, List.getElem_cons_zero]
     intro V2 hb hSW
     have B1 := Lib.hid hb
     have HF2 := Lib.hid hSW
     clear hb hSW
     refine wpF_seg 1 (by kernel_rfl) ?_
     simp only [List.take_succ_cons, List.take_zero, List.drop_succ_cons, List.drop_zero]
     refine zv (.agg #[.int .i64 (q.kind : Int), .int .i64 (q.col : Int), .int .i64 (q.k : Int), .slice A2 q.fs.length c2]) (fun v hv => (xo_loadW b8 _ (heap_keep Fv11_8.out (laterF hv)) Tryd.underlying24 rfl (by kernel_rfl) rfl rfl)) ?_
     simp only [Act.put, zA, zB, zC]
     refine wpQuiet_nil ?_
     refine wpF_call 12 Tryd.func12 (by kernel_rfl) (by kernel_rfl) _ _ #[.agg #[.int .i64 (q.kind : Int), .int .i64 (q.col : Int), .int .i64 (q.k : Int), .slice A2 q.fs.length c2]] rfl (by kernel_rfl) (by kernel_rfl) HF2.out (fun V3 hb => ?_)
     have B2 := Lib.hid hb
     have HF3 := Lib.hid (HF2.out.ext hb)
     clear hb
     have C0_2 := zb B0 B1
     have C0_3 := zb C0_2 B2
     have C1_3 := zb B1 B2
     refine (valid_as (q.kind : Int) (q.col : Int) (q.k : Int) A2 q.fs.length c2 hs2 (q.fs.map (List.map Qu.Cd.ci)) true (vQ_of q HOK.out) V3 (HG.out.keep C0_3.out) (HFR2.out.keep C1_3.out)).mono ?_
     rintro e V4 ⟨rfl, hb⟩
     have B3 := Lib.hid hb
     have HF4 := Lib.hid (HF3.out.ext hb)
     refine ⟨_, rfl, hb, ?_⟩
     clear hb 
     simp only [Act.put, zA, zB, zC]
     refine wpF_seg 2 (by kernel_rfl) ?_
     simp only [List.take_succ_cons, List.take_zero, List.drop_succ_cons, List.drop_zero]
     refine zv (.bool true) (fun v hv => rfl) ?_
     simp only [Act.put, zA, zB, zC]
     refine zv (.agg #[.int .i64 (q.kind : Int), .int .i64 (q.col : Int), .int .i64 (q.k : Int), .slice A2 q.fs.length c2]) (fun v hv => (xo_loadW b8 _ (heap_keep Fv11_8.out (laterF hv)) Tryd.underlying24 rfl (by kernel_rfl) rfl rfl)) ?_
     simp only [Act.put, zA, zB, zC]
     refine wpQuiet_nil ?_
     refine wpF_call 18 Tryd.func18 (by kernel_rfl) (by kernel_rfl) _ _ #[.agg #[.int .i64 (q.kind : Int), .int .i64 (q.col : Int), .int .i64 (q.k : Int), .slice A2 q.fs.length c2]] rfl (by kernel_rfl) (by kernel_rfl) HF4.out (fun V5 hb => ?_)
     have B4 := Lib.hid hb
     have HF5 := Lib.hid (HF4.out.ext hb)
     clear hb
     have C0_4 := zb C0_3 B3
     have C0_5 := zb C0_4 B4
     have C1_4 := zb C1_3 B3
     have C1_5 := zb C1_4 B4
     refine (format_any q.kind q.col q.k A2 q.fs.length c2 hs2 q.fs (vQ_of q HOK.out) V5 (HG.out.keep C0_5.out) (HFR2.out.keep C1_5.out)).mono ?_
     rintro e V6 ⟨rfl, hb⟩
     have B5 := Lib.hid hb
     have HF6 := Lib.hid (HF5.out.ext hb)
     refine ⟨_, rfl, hb, ?_⟩
     clear hb 
     simp only [Act.put, zA, zB, zC]
     refine wpF_seg 1 (by kernel_rfl) ?_
     simp only [List.take_succ_cons, List.take_zero, List.drop_succ_cons, List.drop_zero]
     refine zv (.agg #[.int .i64 (q.kind : Int), .int .i64 (q.col : Int), .int .i64 (q.k : Int), .slice A2 q.fs.length c2]) (fun v hv => (xo_loadW b8 _ (heap_keep Fv11_8.out (laterF hv)) Tryd.underlying24 rfl (by kernel_rfl) rfl rfl)) ?_
     simp only [Act.put, zA, zB, zC]
     refine wpQuiet_nil ?_
     refine wpF_call 19 Tryd.func19 (by kernel_rfl) (by kernel_rfl) _ _ #[.agg #[.int .i64 (q.kind : Int), .int .i64 (q.col : Int), .int .i64 (q.k : Int), .slice A2 q.fs.length c2]] rfl (by kernel_rfl) (by kernel_rfl) HF6.out (fun V7 hb => ?_)
     have B6 := Lib.hid hb
     have HF7 := Lib.hid (HF6.out.ext hb)
     clear hb
     have C1_6 := zb C1_5 B5
     have C1_7 := zb C1_6 B6
     refine (rformat_any q.kind q.col q.k A2 q.fs.length c2 hs2 q.fs (vQ_of q HOK.out) V7 (HFR2.out.keep C1_7.out)).mono ?_
     rintro e V8 ⟨rfl, hb⟩
     have B7 := Lib.hid hb
     have HF8 := Lib.hid (HF7.out.ext hb)
     refine ⟨_, rfl, hb, ?_⟩
     clear hb 
     simp only [Act.put, zA, zB, zC]
     refine wpF_seg 6 (by kernel_rfl) ?_
     simp only [List.take_succ_cons, List.take_zero, List.drop_succ_cons, List.drop_zero]
     refine zv (.bool true) (fun v hv => (xs_eqT (Qu.fmtN ⟨q.kind, q.col, q.k, q.fs⟩) (Qu.fmtN ⟨q.kind, q.col, q.k, q.fs⟩) rfl Tryd.underlying9 rfl rfl rfl)) ?_
     simp only [Act.put, zA, zB, zC]
     refine zv (.bool true) (fun v hv => rfl) ?_
     simp only [Act.put, zA, zB, zC]
     refine zv (.bool true) (fun v hv => rfl) ?_
     simp only [Act.put, zA, zB, zC]
     refine zv (.bool true) (fun v hv => rfl) ?_
     simp only [Act.put, zA, zB, zC]
     refine zv (.bool true) (fun v hv => rfl) ?_
     simp only [Act.put, zA, zB, zC]
     refine zv (.bool true) (fun v hv => rfl) ?_
     simp only [Act.put, zA, zB, zC]
     refine wpQuiet_nil ?_
     refine wpF_nil (fun V9 hb => ?_)
     have B8 := Lib.hid hb
     clear hb
     clear HF2
     clear HF3
     clear HF4
     clear HF5
     clear HF6
     clear HF7
     clear HF8
     have C0_6 := zb C0_5 B5
     have C0_7 := zb C0_6 B6
     have C0_8 := zb C0_7 B7
     have C0_9 := zb C0_8 B8
     have hbf := C0_9.out
     go_wp2_with fail
     go_ret
     exact ⟨rfl, hbf⟩
end Go.Proofs.YtlicfidcfhbmpaaDoor
