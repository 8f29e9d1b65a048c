/- Several texts in one: Yac, Yv. -/
import Derived.Test.YtlicfidcfhbmpaaDoorTw20
import Derived.Test.YtlicfidcfhbmpaaDoorRows
import Derived.Test.YtlicfidcfhbmpaaDoorTie
import Derived.ProofKit
import Derived.OpenShut
import Derived.ChangeOld
import Derived.ChangeSlices
import Derived.ChangeArms
import Derived.Below
import Derived.Lib.SmallJoins
import Derived.Lib.LaidTab
import Derived.LaidMore
import Derived.Deep.Slices
import Derived.Test.YtlicfidcfhbmpaaDoorTw03
set_option linter.unusedVariables false
set_option linter.unusedSimpArgs false
set_option linter.unusedSectionVars false
namespace Go.Proofs.YtlicfidcfhbmpaaDoor
set_option maxRecDepth 8000
open Go.RowKit Go.Proofs.YtlicfidcfhbmpaaDoor.K
attribute [local irreducible] wpList wpQuiet
set_option maxRecDepth 100000 in
set_option maxHeartbeats 32000000 in
theorem rformat_any (kd col k : Nat) (A : Option Addr) (n c : Nat) (hs : List Hd) (fs : List (List Qu.Cd)) (hv : Qu.vQ (kd : Int) (col : Int) (k : Int) (fs.map (List.map Qu.Cd.ci)) = true) (w : World) (hF : FsR w A n c hs (fs.map (List.map Qu.Cd.ci))) :
  Calls Tryd.prog 19 #[.agg #[.int .i64 (kd : Int), .int .i64 (col : Int), .int .i64 (k : Int), .slice A n c]] w fun e w' => e = .returned (.string (sB (Qu.fmtN ⟨kd, col, k, fs⟩))) ∧ Below w.heap.size w w' := by
 have HFR := Lib.hid hF
 have hln := hF.sg.len
 have hlc := hF.sg.cap
 have hlt := hF.sg.top
 have hfl := hF.len
 rw [List.length_map] at hfl
 clear hF
 unfold Qu.vQ Qu.mF Qu.isC at hv
 simp only [Bool.and_eq_true, decide_eq_true_eq, Int.toNat_natCast, List.all_eq_true, List.length_map] at hv
 obtain ⟨hk1, hk7, ⟨⟨hc0, hc4⟩, hcol0, hkk1, hkk2, hnf⟩, hall⟩ := hv
 have HALL := Lib.hid hall
 have hmk5 := Qu.maxK_le kd
 clear hall hcol0 hkk1
 obtain ⟨kw, hkw⟩ : ∃ kw, Qu.kwN kd = kw := ⟨_, rfl⟩
 have HKW := Lib.hid hkw
 clear hkw
 obtain ⟨cb, hcb⟩ : ∃ cb, Qu.hasC kd = cb := ⟨_, rfl⟩
 have HCB := Lib.hid hcb
 clear hcb
 obtain ⟨mk, hmk⟩ : ∃ mk, Qu.maxK kd = mk := ⟨_, rfl⟩
 have HMK := Lib.hid hmk
 clear hmk
 obtain ⟨nf, hnf⟩ : ∃ nf, Qu.numF kd = nf := ⟨_, rfl⟩
 have HNF := Lib.hid hnf
 clear hnf
 obtain ⟨nm, hnm⟩ : ∃ nm, Qu.nameN col = nm := ⟨_, rfl⟩
 have Hnm := Lib.hid hnm
 clear hnm
 obtain ⟨dk, hdk⟩ : ∃ dk, Qu.decN k = dk := ⟨_, rfl⟩
 have HDK := Lib.hid hdk
 clear hdk
 have hkwl : kw.length ≤ 8 := by rw [← HKW.out]; exact Qu.kwN_le _
 have hnml : nm.length ≤ 5 := by rw [← Hnm.out]; exact Qu.nameN_le _
 have hdkl : dk.length ≤ 6 := by rw [← HDK.out]; exact Qu.decF_le 6 _
 have hnf7 : nf = if kd = 7 then 2 else 1 := by rw [← HNF.out]; unfold Qu.numF; split <;> simp_all
 have hnn : n = nf := by rw [← HNF.out, ← hnf]; omega
 have HN7 := Lib.hid hnf7
 have HNN := Lib.hid hnn
 clear hnf7 hnf hnn
 go_enter Tryd.func19, Tryd.ntmps19
 go_upto_region 1 with fail
 refine wp_named1 (fun V1 hb g0 hlt => ?_)
 have B0 := Lib.hid hb
 have Fv0_1 : Hid (V1.heap[w.heap.size]? = some (.cells #[.int .i64 (kd : Int), .int .i64 (col : Int), .int .i64 (k : Int), .slice A n c] 24 (0, 0))) := Lib.hid (g0)
 have Gb0 : Hid (w.heap.size ≤ w.heap.size) := Lib.hid (by omega)
 clear hb g0 hlt
 have Lt0 : Hid (w.heap.size < V1.heap.size) := Lib.hid (xp_lt Fv0_1.out)
 refine wp_region_lit ?_
 refine zr (.pointer (some ⟨w.heap.size, 0, none⟩)) V1 (xo_fld0 0 w.heap.size 0 (by kernel_rfl) rfl rfl) ?_
 simp only [Act.put, zA, zB, zC]
 refine zr (.int .i64 (kd : Int)) V1 (xo_load1 ⟨w.heap.size, 0, none⟩ _ (cells_at Fv0_1.out 0 rfl) Tryd.underlying3 rfl rfl rfl) ?_
 simp only [Act.put, zA, zB, zC]
 refine wpList_call (by kernel_rfl) 39 Tryd.func39 (by kernel_rfl) (by kernel_rfl) _ _ #[.int .i64 (kd : Int)] rfl (by kernel_rfl) ?_
 refine (rkw_as kd (by omega) (by omega) kw HKW.out V1).mono ?_
 rintro e V2 ⟨rfl, hb⟩
 have B1 := Lib.hid hb
 clear hb 
 refine ⟨_, rfl, ?_⟩
 simp only [Act.put, zA, zB, zC]
 refine zr (.string (sB kw)) V2 rfl ?_
 simp only [Act.put, zA, zB, zC]
 refine wpList_nil ?_
 cases cb with
 | true =>
  go_upto_region 2 with fail
  refine wp_region_lit ?_
  refine zr (.pointer (some ⟨w.heap.size, 0, none⟩)) V2 (xo_fld0 0 w.heap.size 0 (by kernel_rfl) rfl rfl) ?_
  simp only [Act.put, zA, zB, zC]
  refine zr (.int .i64 (kd : Int)) V2 (xo_load1 ⟨w.heap.size, 0, none⟩ _ (cells_at (heap_keep Fv0_1.out B1.out) 0 rfl) Tryd.underlying3 rfl rfl rfl) ?_
  simp only [Act.put, zA, zB, zC]
  refine wpList_call (by kernel_rfl) 32 Tryd.func32 (by kernel_rfl) (by kernel_rfl) _ _ #[.int .i64 (kd : Int)] rfl (by kernel_rfl) ?_
  refine (rhasC_as kd true HCB.out V2).mono ?_
  rintro e W1 ⟨rfl, hw1⟩
  rw [hw1]
  clear hw1 W1
  refine ⟨_, rfl, ?_⟩
  simp only [Act.put, zA, zB, zC]
  refine wpList_nil ?_
  go_upto_region 3 with fail
  refine wp_region_lit ?_
  refine zr (.string (sB kw)) V2 rfl ?_
  simp only [Act.put, zA, zB, zC]
  refine zr (.string (sB (kw ++ ([32])))) V2 (xs_add kw ([32]) (by (try simp only [List.length_append, List.length_cons, List.length_nil]); omega) Tryd.underlying9 rfl rfl rfl) ?_
  simp only [Act.put, zA, zB, zC]
  refine zr (.pointer (some ⟨w.heap.size, 1, none⟩)) V2 (xo_fld0 1 w.heap.size 1 (by kernel_rfl) rfl rfl) ?_
  simp only [Act.put, zA, zB, zC]
  refine zr (.int .i64 (col : Int)) V2 (xo_load1 ⟨w.heap.size, 1, none⟩ _ (cells_at (heap_keep Fv0_1.out B1.out) 1 rfl) Tryd.underlying3 rfl rfl rfl) ?_
  simp only [Act.put, zA, zB, zC]
  refine wpList_call (by kernel_rfl) 26 Tryd.func26 (by kernel_rfl) (by kernel_rfl) _ _ #[.int .i64 (col : Int)] rfl (by kernel_rfl) ?_
  refine (rcolumn_as col nm Hnm.out (by omega) V2).mono ?_
  rintro e V3 ⟨rfl, hb⟩
  have B2 := Lib.hid hb
  clear hb 
  refine ⟨_, rfl, ?_⟩
  simp only [Act.put, zA, zB, zC]
  refine zr (.string (sB ((kw ++ ([32])) ++ nm))) V3 (xs_add (kw ++ ([32])) nm (by (try simp only [List.length_append, List.length_cons, List.length_nil]); omega) Tryd.underlying9 rfl rfl rfl) ?_
  simp only [Act.put, zA, zB, zC]
  refine zr (.string (sB ((kw ++ ([32])) ++ nm))) V3 rfl ?_
  simp only [Act.put, zA, zB, zC]
  refine wpList_nil ?_
  have HW2 := trivial
  by_cases hmk0 : 0 < mk
  ·have hci1 : ((mk : Int) > 0) := by omega
   go_upto_region 4 with fail
   refine wp_region_lit ?_
   refine zr (.pointer (some ⟨w.heap.size, 0, none⟩)) V3 (xo_fld0 0 w.heap.size 0 (by kernel_rfl) rfl rfl) ?_
   simp only [Act.put, zA, zB, zC]
   have C1_3 := zb B1 B2
   refine zr (.int .i64 (kd : Int)) V3 (xo_load1 ⟨w.heap.size, 0, none⟩ _ (cells_at (heap_keep Fv0_1.out C1_3.out) 0 rfl) Tryd.underlying3 rfl rfl rfl) ?_
   simp only [Act.put, zA, zB, zC]
   refine wpList_call (by kernel_rfl) 33 Tryd.func33 (by kernel_rfl) (by kernel_rfl) _ _ #[.int .i64 (kd : Int)] rfl (by kernel_rfl) ?_
   refine (rmaxK_as kd mk HMK.out V3).mono ?_
   rintro e W1 ⟨rfl, hw1⟩
   rw [hw1]
   clear hw1 W1
   refine ⟨_, rfl, ?_⟩
   simp only [Act.put, zA, zB, zC]
   refine zr (.bool true) V3 (xo_gtrT .i64 (mk : Int) 0 (by omega) rfl rfl rfl) ?_
   simp only [Act.put, zA, zB, zC]
   refine wpList_nil ?_
   go_upto_region 5 with fail
   refine wp_region_lit ?_
   refine zr (.string (sB ((kw ++ ([32])) ++ nm))) V3 rfl ?_
   simp only [Act.put, zA, zB, zC]
   refine zr (.string (sB (((kw ++ ([32])) ++ nm) ++ ([32])))) V3 (xs_add ((kw ++ ([32])) ++ nm) ([32]) (by (try simp only [List.length_append, List.length_cons, List.length_nil]); omega) Tryd.underlying9 rfl rfl rfl) ?_
   simp only [Act.put, zA, zB, zC]
   refine zr (.pointer (some ⟨w.heap.size, 2, none⟩)) V3 (xo_fld0 2 w.heap.size 2 (by kernel_rfl) rfl rfl) ?_
   simp only [Act.put, zA, zB, zC]
   refine zr (.int .i64 (k : Int)) V3 (xo_load1 ⟨w.heap.size, 2, none⟩ _ (cells_at (heap_keep Fv0_1.out C1_3.out) 2 rfl) Tryd.underlying3 rfl rfl rfl) ?_
   simp only [Act.put, zA, zB, zC]
   refine wpList_call (by kernel_rfl) 25 Tryd.func25 (by kernel_rfl) (by kernel_rfl) _ _ #[.int .i64 (k : Int)] rfl (by kernel_rfl) ?_
   refine (rdigits_as k dk HDK.out (by omega) V3).mono ?_
   rintro e V4 ⟨rfl, hb⟩
   have B3 := Lib.hid hb
   clear hb 
   refine ⟨_, rfl, ?_⟩
   simp only [Act.put, zA, zB, zC]
   refine zr (.string (sB ((((kw ++ ([32])) ++ nm) ++ ([32])) ++ dk))) V4 (xs_add (((kw ++ ([32])) ++ nm) ++ ([32])) dk (by (try simp only [List.length_append, List.length_cons, List.length_nil]); omega) Tryd.underlying9 rfl rfl rfl) ?_
   simp only [Act.put, zA, zB, zC]
   refine zr (.string (sB ((((kw ++ ([32])) ++ nm) ++ ([32])) ++ dk))) V4 rfl ?_
   simp only [Act.put, zA, zB, zC]
   refine wpList_nil ?_
   by_cases h7 : kd = 7
   ·obtain rfl : n = 2 := by rw [HNN.out, HN7.out, if_pos h7]
    obtain ⟨h0, hh⟩ : ∃ h, hs[0]? = some h := ⟨_, List.getElem?_eq_getElem (by omega)⟩
    obtain ⟨l0, hxs⟩ : ∃ x, fs[0]? = some x := ⟨_, List.getElem?_eq_getElem (by omega)⟩
    have HH0 := Lib.hid hh
    have HX0 := Lib.hid hxs
    obtain ⟨hl3, hlok⟩ := Qu.vL_ok (HALL.out _ (List.mem_map_of_mem (List.mem_of_getElem? hxs)))
    have HLO0 := Lib.hid hlok
    clear hh hxs hlok
    have HXM0 : Hid ((fs.map (List.map Qu.Cd.ci))[0]? = some (l0.map Qu.Cd.ci)) := Lib.hid (by rw [List.getElem?_map, HX0.out]; rfl)
    have C0_2 := zb B0 B1
    have C0_3 := zb C0_2 B2
    have C0_4 := zb C0_3 B3
    have hhn0 : h0.n ≤ 3 := by have := ((HFR.out.keep C0_4.out).row 0 h0 _ HH0.out HXM0.out).len; rw [List.length_map] at this; omega
    obtain ⟨ft0, hft⟩ : ∃ x, Qu.ftN l0 = x := ⟨_, rfl⟩
    have hftl0 : ft0.length ≤ 120 := by rw [← hft]; exact Nat.le_trans (Qu.ftG_le (by decide) l0) (by omega)
    have HFT0 := Lib.hid hft
    clear hft hl3
    go_upto_region 6 with fail
    refine wp_region_lit ?_
    refine zr (.string (sB ((((kw ++ ([32])) ++ nm) ++ ([32])) ++ dk))) V4 rfl ?_
    simp only [Act.put, zA, zB, zC]
    refine zr (.pointer (some ⟨w.heap.size, 3, none⟩)) V4 (xo_fld0 3 w.heap.size 3 (by kernel_rfl) rfl rfl) ?_
    simp only [Act.put, zA, zB, zC]
    have C1_4 := zb C1_3 B3
    refine zr (.slice A 2 c) V4 (xo_load1 ⟨w.heap.size, 3, none⟩ _ (cells_at (heap_keep Fv0_1.out C1_4.out) 3 rfl) Tryd.underlying22 rfl rfl rfl) ?_
    simp only [Act.put, zA, zB, zC]
    refine zr (.pointer (some (gad A (0 * 1)))) V4 (xg_idx .i64 (HFR.out.keep C0_4.out).sg HH0.out Tryd.underlying22 (by kernel_rfl) rfl rfl rfl) ?_
    simp only [Act.put, zA, zB, zC]
    refine zr (.slice h0.A h0.n h0.c) V4 (xg_load1 (E := hdC) (i := 0) (j := 0) (HFR.out.keep C0_4.out).sg HH0.out rfl rfl Tryd.underlying28 rfl rfl rfl) ?_
    simp only [Act.put, zA, zB, zC]
    refine wpList_call (by kernel_rfl) 40 Tryd.func40 (by kernel_rfl) (by kernel_rfl) _ _ #[.slice h0.A h0.n h0.c] rfl (by kernel_rfl) ?_
    refine (rft_as h0.A h0.n h0.c hhn0 l0 HLO0.out ft0 HFT0.out V4 ((HFR.out.keep C0_4.out).row 0 h0 _ HH0.out HXM0.out)).mono ?_
    rintro e V5 ⟨rfl, hb⟩
    have B4 := Lib.hid hb
    clear hb 
    refine ⟨_, rfl, ?_⟩
    simp only [Act.put, zA, zB, zC]
    refine zr (.string (sB (((((kw ++ ([32])) ++ nm) ++ ([32])) ++ dk) ++ ft0))) V5 (xs_add ((((kw ++ ([32])) ++ nm) ++ ([32])) ++ dk) ft0 (by (try simp only [List.length_append, List.length_cons, List.length_nil]); omega) Tryd.underlying9 rfl rfl rfl) ?_
    simp only [Act.put, zA, zB, zC]
    refine zr (.string (sB (((((kw ++ ([32])) ++ nm) ++ ([32])) ++ dk) ++ ft0))) V5 rfl ?_
    simp only [Act.put, zA, zB, zC]
    refine wpList_nil ?_
    have hci2 : ((kd : Int) = 7) := by omega
    go_upto_region 7 with fail
    refine wp_region_lit ?_
    refine zr (.pointer (some ⟨w.heap.size, 0, none⟩)) V5 (xo_fld0 0 w.heap.size 0 (by kernel_rfl) rfl rfl) ?_
    simp only [Act.put, zA, zB, zC]
    have C1_5 := zb C1_4 B4
    refine zr (.int .i64 (kd : Int)) V5 (xo_load1 ⟨w.heap.size, 0, none⟩ _ (cells_at (heap_keep Fv0_1.out C1_5.out) 0 rfl) Tryd.underlying3 rfl rfl rfl) ?_
    simp only [Act.put, zA, zB, zC]
    refine zr (.bool true) V5 (xo_eqlT .i64 (kd : Int) 7 (by omega) rfl rfl rfl) ?_
    simp only [Act.put, zA, zB, zC]
    refine wpList_nil ?_
    obtain ⟨h1, hh⟩ : ∃ h, hs[1]? = some h := ⟨_, List.getElem?_eq_getElem (by omega)⟩
    obtain ⟨l1, hxs⟩ : ∃ x, fs[1]? = some x := ⟨_, List.getElem?_eq_getElem (by omega)⟩
    have HH1 := Lib.hid hh
    have HX1 := Lib.hid hxs
    obtain ⟨hl3, hlok⟩ := Qu.vL_ok (HALL.out _ (List.mem_map_of_mem (List.mem_of_getElem? hxs)))
    have HLO1 := Lib.hid hlok
    clear hh hxs hlok
    have HXM1 : Hid ((fs.map (List.map Qu.Cd.ci))[1]? = some (l1.map Qu.Cd.ci)) := Lib.hid (by rw [List.getElem?_map, HX1.out]; rfl)
    have C0_5 := zb C0_4 B4
    have hhn1 : h1.n ≤ 3 := by have := ((HFR.out.keep C0_5.out).row 1 h1 _ HH1.out HXM1.out).len; rw [List.length_map] at this; omega
    obtain ⟨ft1, hft⟩ : ∃ x, Qu.ftN l1 = x := ⟨_, rfl⟩
    have hftl1 : ft1.length ≤ 120 := by rw [← hft]; exact Nat.le_trans (Qu.ftG_le (by decide) l1) (by omega)
    have HFT1 := Lib.hid hft
    clear hft hl3
    go_upto_region 8 with fail
    refine wp_region_lit ?_
    refine zr (.string (sB (((((kw ++ ([32])) ++ nm) ++ ([32])) ++ dk) ++ ft0))) V5 rfl ?_
    simp only [Act.put, zA, zB, zC]
    refine zr (.string (sB ((((((kw ++ ([32])) ++ nm) ++ ([32])) ++ dk) ++ ft0) ++ ([32, 119, 105, 116, 104])))) V5 (xs_add (((((kw ++ ([32])) ++ nm) ++ ([32])) ++ dk) ++ ft0) ([32, 119, 105, 116, 104]) (by (try simp only [List.length_append, List.length_cons, List.length_nil]); omega) Tryd.underlying9 rfl rfl rfl) ?_
    simp only [Act.put, zA, zB, zC]
    refine zr (.pointer (some ⟨w.heap.size, 3, none⟩)) V5 (xo_fld0 3 w.heap.size 3 (by kernel_rfl) rfl rfl) ?_
    simp only [Act.put, zA, zB, zC]
    refine zr (.slice A 2 c) V5 (xo_load1 ⟨w.heap.size, 3, none⟩ _ (cells_at (heap_keep Fv0_1.out C1_5.out) 3 rfl) Tryd.underlying22 rfl rfl rfl) ?_
    simp only [Act.put, zA, zB, zC]
    refine zr (.pointer (some (gad A (1 * 1)))) V5 (xg_idx .i64 (HFR.out.keep C0_5.out).sg HH1.out Tryd.underlying22 (by kernel_rfl) rfl rfl rfl) ?_
    simp only [Act.put, zA, zB, zC]
    refine zr (.slice h1.A h1.n h1.c) V5 (xg_load1 (E := hdC) (i := 1) (j := 0) (HFR.out.keep C0_5.out).sg HH1.out rfl rfl Tryd.underlying28 rfl rfl rfl) ?_
    simp only [Act.put, zA, zB, zC]
    refine wpList_call (by kernel_rfl) 40 Tryd.func40 (by kernel_rfl) (by kernel_rfl) _ _ #[.slice h1.A h1.n h1.c] rfl (by kernel_rfl) ?_
    refine (rft_as h1.A h1.n h1.c hhn1 l1 HLO1.out ft1 HFT1.out V5 ((HFR.out.keep C0_5.out).row 1 h1 _ HH1.out HXM1.out)).mono ?_
    rintro e V6 ⟨rfl, hb⟩
    have B5 := Lib.hid hb
    clear hb 
    refine ⟨_, rfl, ?_⟩
    simp only [Act.put, zA, zB, zC]
    refine zr (.string (sB (((((((kw ++ ([32])) ++ nm) ++ ([32])) ++ dk) ++ ft0) ++ ([32, 119, 105, 116, 104])) ++ ft1))) V6 (xs_add ((((((kw ++ ([32])) ++ nm) ++ ([32])) ++ dk) ++ ft0) ++ ([32, 119, 105, 116, 104])) ft1 (by (try simp only [List.length_append, List.length_cons, List.length_nil]); omega) Tryd.underlying9 rfl rfl rfl) ?_
    simp only [Act.put, zA, zB, zC]
    refine zr (.string (sB (((((((kw ++ ([32])) ++ nm) ++ ([32])) ++ dk) ++ ft0) ++ ([32, 119, 105, 116, 104])) ++ ft1))) V6 rfl ?_
    simp only [Act.put, zA, zB, zC]
    refine wpList_nil ?_
    go_upto_region 9 with fail
    refine wp_region_lit ?_
    refine zr (.string (sB (((((((kw ++ ([32])) ++ nm) ++ ([32])) ++ dk) ++ ft0) ++ ([32, 119, 105, 116, 104])) ++ ft1))) V6 rfl ?_
    simp only [Act.put, zA, zB, zC]
    refine zr (.string (sB (((((((kw ++ ([32])) ++ nm) ++ ([32])) ++ dk) ++ ft0) ++ ([32, 119, 105, 116, 104])) ++ ft1))) V6 rfl ?_
    simp only [Act.put, zA, zB, zC]
    refine wpList_nil ?_
    have hfs : fs = [l0, l1] := by
         apply List.ext_getElem?
         intro i
         rcases i with _ | _ | i
         ·exact HX0.out
         ·exact HX1.out
         ·rw [List.getElem?_eq_none (by omega)]; rfl
    have he : Qu.fmtN ⟨kd, col, k, fs⟩ = (((((kw ++ [32]) ++ nm ++ [32]) ++ dk) ++ ft0) ++ [32, 119, 105, 116, 104]) ++ ft1 := by rw [hfs]; simp [Qu.fmtN, Qu.hdN, Qu.fsN, Qu.fsG, HKW.out, HCB.out, HMK.out, Hnm.out, HDK.out, HFT0.out, HFT1.out, Qu.withT, hmk0]
    have HE := Lib.hid he
    clear hfs he h7
    have C0_6 := zb C0_5 B5
    have hbf := C0_6.out
    go_wp2_with fail
    go_ret
    exact ⟨by first | rfl | (rw [HE.out] <;> rfl) | (rw [HE.out]; simp), hbf⟩
   ·obtain rfl : n = 1 := by rw [HNN.out, HN7.out, if_neg h7]
    obtain ⟨h0, hh⟩ : ∃ h, hs[0]? = some h := ⟨_, List.getElem?_eq_getElem (by omega)⟩
    obtain ⟨l0, hxs⟩ : ∃ x, fs[0]? = some x := ⟨_, List.getElem?_eq_getElem (by omega)⟩
    have HH0 := Lib.hid hh
    have HX0 := Lib.hid hxs
    obtain ⟨hl3, hlok⟩ := Qu.vL_ok (HALL.out _ (List.mem_map_of_mem (List.mem_of_getElem? hxs)))
    have HLO0 := Lib.hid hlok
    clear hh hxs hlok
    have HXM0 : Hid ((fs.map (List.map Qu.Cd.ci))[0]? = some (l0.map Qu.Cd.ci)) := Lib.hid (by rw [List.getElem?_map, HX0.out]; rfl)
    have C0_2 := zb B0 B1
    have C0_3 := zb C0_2 B2
    have C0_4 := zb C0_3 B3
    have hhn0 : h0.n ≤ 3 := by have := ((HFR.out.keep C0_4.out).row 0 h0 _ HH0.out HXM0.out).len; rw [List.length_map] at this; omega
    obtain ⟨ft0, hft⟩ : ∃ x, Qu.ftN l0 = x := ⟨_, rfl⟩
    have hftl0 : ft0.length ≤ 120 := by rw [← hft]; exact Nat.le_trans (Qu.ftG_le (by decide) l0) (by omega)
    have HFT0 := Lib.hid hft
    clear hft hl3
    go_upto_region 6 with fail
    refine wp_region_lit ?_
    refine zr (.string (sB ((((kw ++ ([32])) ++ nm) ++ ([32])) ++ dk))) V4 rfl ?_
    simp only [Act.put, zA, zB, zC]
    refine zr (.pointer (some ⟨w.heap.size, 3, none⟩)) V4 (xo_fld0 3 w.heap.size 3 (by kernel_rfl) rfl rfl) ?_
    simp only [Act.put, zA, zB, zC]
    have C1_4 := zb C1_3 B3
    refine zr (.slice A 1 c) V4 (xo_load1 ⟨w.heap.size, 3, none⟩ _ (cells_at (heap_keep Fv0_1.out C1_4.out) 3 rfl) Tryd.underlying22 rfl rfl rfl) ?_
    simp only [Act.put, zA, zB, zC]
    refine zr (.pointer (some (gad A (0 * 1)))) V4 (xg_idx .i64 (HFR.out.keep C0_4.out).sg HH0.out Tryd.underlying22 (by kernel_rfl) rfl rfl rfl) ?_
    simp only [Act.put, zA, zB, zC]
    refine zr (.slice h0.A h0.n h0.c) V4 (xg_load1 (E := hdC) (i := 0) (j := 0) (HFR.out.keep C0_4.out).sg HH0.out rfl rfl Tryd.underlying28 rfl rfl rfl) ?_
    simp only [Act.put, zA, zB, zC]
    refine wpList_call (by kernel_rfl) 40 Tryd.func40 (by kernel_rfl) (by kernel_rfl) _ _ #[.slice h0.A h0.n h0.c] rfl (by kernel_rfl) ?_
    refine (rft_as h0.A h0.n h0.c hhn0 l0 HLO0.out ft0 HFT0.out V4 ((HFR.out.keep C0_4.out).row 0 h0 _ HH0.out HXM0.out)).mono ?_
    rintro e V5 ⟨rfl, hb⟩
    have B4 := Lib.hid hb
    clear hb 
    refine ⟨_, rfl, ?_⟩
    simp only [Act.put, zA, zB, zC]
    refine zr (.string (sB (((((kw ++ ([32])) ++ nm) ++ ([32])) ++ dk) ++ ft0))) V5 (xs_add ((((kw ++ ([32])) ++ nm) ++ ([32])) ++ dk) ft0 (by (try simp only [List.length_append, List.length_cons, List.length_nil]); omega) Tryd.underlying9 rfl rfl rfl) ?_
    simp only [Act.put, zA, zB, zC]
    refine zr (.string (sB (((((kw ++ ([32])) ++ nm) ++ ([32])) ++ dk) ++ ft0))) V5 rfl ?_
    simp only [Act.put, zA, zB, zC]
    refine wpList_nil ?_
    have hci2 : ¬ ((kd : Int) = 7) := by omega
    go_upto_region 7 with fail
    refine wp_region_lit ?_
    refine zr (.pointer (some ⟨w.heap.size, 0, none⟩)) V5 (xo_fld0 0 w.heap.size 0 (by kernel_rfl) rfl rfl) ?_
    simp only [Act.put, zA, zB, zC]
    have C1_5 := zb C1_4 B4
    refine zr (.int .i64 (kd : Int)) V5 (xo_load1 ⟨w.heap.size, 0, none⟩ _ (cells_at (heap_keep Fv0_1.out C1_5.out) 0 rfl) Tryd.underlying3 rfl rfl rfl) ?_
    simp only [Act.put, zA, zB, zC]
    refine zr (.bool false) V5 (xo_eqlF .i64 (kd : Int) 7 (by omega) rfl rfl rfl) ?_
    simp only [Act.put, zA, zB, zC]
    refine wpList_nil ?_
    go_upto_region 9 with fail
    refine wp_region_lit ?_
    refine zr (.string (sB (((((kw ++ ([32])) ++ nm) ++ ([32])) ++ dk) ++ ft0))) V5 rfl ?_
    simp only [Act.put, zA, zB, zC]
    refine zr (.string (sB (((((kw ++ ([32])) ++ nm) ++ ([32])) ++ dk) ++ ft0))) V5 rfl ?_
    simp only [Act.put, zA, zB, zC]
    refine wpList_nil ?_
    have hfs : fs = [l0] := by
         apply List.ext_getElem?
         intro i
         rcases i with _ | i
         ·exact HX0.out
         ·rw [List.getElem?_eq_none (by omega)]; rfl
    have he : Qu.fmtN ⟨kd, col, k, fs⟩ = (((kw ++ [32]) ++ nm ++ [32]) ++ dk) ++ ft0 := by rw [hfs]; simp [Qu.fmtN, Qu.hdN, Qu.fsN, Qu.fsG, HKW.out, HCB.out, HMK.out, Hnm.out, HDK.out, HFT0.out, hmk0]
    have HE := Lib.hid he
    clear hfs he h7
    have C0_5 := zb C0_4 B4
    have hbf := C0_5.out
    go_wp2_with fail
    go_ret
    exact ⟨by first | rfl | (rw [HE.out] <;> rfl) | (rw [HE.out]; simp), hbf⟩
  ·have hci1 : ¬ ((mk : Int) > 0) := by omega
   go_upto_region 4 with fail
   refine wp_region_lit ?_
   refine zr (.pointer (some ⟨w.heap.size, 0, none⟩)) V3 (xo_fld0 0 w.heap.size 0 (by kernel_rfl) rfl rfl) ?_
   simp only [Act.put, zA, zB, zC]
   have C1_3 := zb B1 B2
   refine zr (.int .i64 (kd : Int)) V3 (xo_load1 ⟨w.heap.size, 0, none⟩ _ (cells_at (heap_keep Fv0_1.out C1_3.out) 0 rfl) Tryd.underlying3 rfl rfl rfl) ?_
   simp only [Act.put, zA, zB, zC]
   refine wpList_call (by kernel_rfl) 33 Tryd.func33 (by kernel_rfl) (by kernel_rfl) _ _ #[.int .i64 (kd : Int)] rfl (by kernel_rfl) ?_
   refine (rmaxK_as kd mk HMK.out V3).mono ?_
   rintro e W1 ⟨rfl, hw1⟩
   rw [hw1]
   clear hw1 W1
   refine ⟨_, rfl, ?_⟩
   simp only [Act.put, zA, zB, zC]
   refine zr (.bool false) V3 (xo_gtrF .i64 (mk : Int) 0 (by omega) rfl rfl rfl) ?_
   simp only [Act.put, zA, zB, zC]
   refine wpList_nil ?_
   by_cases h7 : kd = 7
   ·obtain rfl : n = 2 := by rw [HNN.out, HN7.out, if_pos h7]
    obtain ⟨h0, hh⟩ : ∃ h, hs[0]? = some h := ⟨_, List.getElem?_eq_getElem (by omega)⟩
    obtain ⟨l0, hxs⟩ : ∃ x, fs[0]? = some x := ⟨_, List.getElem?_eq_getElem (by omega)⟩
    have HH0 := Lib.hid hh
    have HX0 := Lib.hid hxs
    obtain ⟨hl3, hlok⟩ := Qu.vL_ok (HALL.out _ (List.mem_map_of_mem (List.mem_of_getElem? hxs)))
    have HLO0 := Lib.hid hlok
    clear hh hxs hlok
    have HXM0 : Hid ((fs.map (List.map Qu.Cd.ci))[0]? = some (l0.map Qu.Cd.ci)) := Lib.hid (by rw [List.getElem?_map, HX0.out]; rfl)
    have C0_2 := zb B0 B1
    have C0_3 := zb C0_2 B2
    have hhn0 : h0.n ≤ 3 := by have := ((HFR.out.keep C0_3.out).row 0 h0 _ HH0.out HXM0.out).len; rw [List.length_map] at this; omega
    obtain ⟨ft0, hft⟩ : ∃ x, Qu.ftN l0 = x := ⟨_, rfl⟩
    have hftl0 : ft0.length ≤ 120 := by rw [← hft]; exact Nat.le_trans (Qu.ftG_le (by decide) l0) (by omega)
    have HFT0 := Lib.hid hft
    clear hft hl3
    go_upto_region 6 with fail
    refine wp_region_lit ?_
    refine zr (.string (sB ((kw ++ ([32])) ++ nm))) V3 rfl ?_
    simp only [Act.put, zA, zB, zC]
    refine zr (.pointer (some ⟨w.heap.size, 3, none⟩)) V3 (xo_fld0 3 w.heap.size 3 (by kernel_rfl) rfl rfl) ?_
    simp only [Act.put, zA, zB, zC]
    refine zr (.slice A 2 c) V3 (xo_load1 ⟨w.heap.size, 3, none⟩ _ (cells_at (heap_keep Fv0_1.out C1_3.out) 3 rfl) Tryd.underlying22 rfl rfl rfl) ?_
    simp only [Act.put, zA, zB, zC]
    refine zr (.pointer (some (gad A (0 * 1)))) V3 (xg_idx .i64 (HFR.out.keep C0_3.out).sg HH0.out Tryd.underlying22 (by kernel_rfl) rfl rfl rfl) ?_
    simp only [Act.put, zA, zB, zC]
    refine zr (.slice h0.A h0.n h0.c) V3 (xg_load1 (E := hdC) (i := 0) (j := 0) (HFR.out.keep C0_3.out).sg HH0.out rfl rfl Tryd.underlying28 rfl rfl rfl) ?_
    simp only [Act.put, zA, zB, zC]
    refine wpList_call (by kernel_rfl) 40 Tryd.func40 (by kernel_rfl) (by kernel_rfl) _ _ #[.slice h0.A h0.n h0.c] rfl (by kernel_rfl) ?_
    refine (rft_as h0.A h0.n h0.c hhn0 l0 HLO0.out ft0 HFT0.out V3 ((HFR.out.keep C0_3.out).row 0 h0 _ HH0.out HXM0.out)).mono ?_
    rintro e V4 ⟨rfl, hb⟩
    have B3 := Lib.hid hb
    clear hb 
    refine ⟨_, rfl, ?_⟩
    simp only [Act.put, zA, zB, zC]
    refine zr (.string (sB (((kw ++ ([32])) ++ nm) ++ ft0))) V4 (xs_add ((kw ++ ([32])) ++ nm) ft0 (by (try simp only [List.length_append, List.length_cons, List.length_nil]); omega) Tryd.underlying9 rfl rfl rfl) ?_
    simp only [Act.put, zA, zB, zC]
    refine zr (.string (sB (((kw ++ ([32])) ++ nm) ++ ft0))) V4 rfl ?_
    simp only [Act.put, zA, zB, zC]
    refine wpList_nil ?_
    have hci2 : ((kd : Int) = 7) := by omega
    go_upto_region 7 with fail
    refine wp_region_lit ?_
    refine zr (.pointer (some ⟨w.heap.size, 0, none⟩)) V4 (xo_fld0 0 w.heap.size 0 (by kernel_rfl) rfl rfl) ?_
    simp only [Act.put, zA, zB, zC]
    have C1_4 := zb C1_3 B3
    refine zr (.int .i64 (kd : Int)) V4 (xo_load1 ⟨w.heap.size, 0, none⟩ _ (cells_at (heap_keep Fv0_1.out C1_4.out) 0 rfl) Tryd.underlying3 rfl rfl rfl) ?_
    simp only [Act.put, zA, zB, zC]
    refine zr (.bool true) V4 (xo_eqlT .i64 (kd : Int) 7 (by omega) rfl rfl rfl) ?_
    simp only [Act.put, zA, zB, zC]
    refine wpList_nil ?_
    obtain ⟨h1, hh⟩ : ∃ h, hs[1]? = some h := ⟨_, List.getElem?_eq_getElem (by omega)⟩
    obtain ⟨l1, hxs⟩ : ∃ x, fs[1]? = some x := ⟨_, List.getElem?_eq_getElem (by omega)⟩
    have HH1 := Lib.hid hh
    have HX1 := Lib.hid hxs
    obtain ⟨hl3, hlok⟩ := Qu.vL_ok (HALL.out _ (List.mem_map_of_mem (List.mem_of_getElem? hxs)))
    have HLO1 := Lib.hid hlok
    clear hh hxs hlok
    have HXM1 : Hid ((fs.map (List.map Qu.Cd.ci))[1]? = some (l1.map Qu.Cd.ci)) := Lib.hid (by rw [List.getElem?_map, HX1.out]; rfl)
    have C0_4 := zb C0_3 B3
    have hhn1 : h1.n ≤ 3 := by have := ((HFR.out.keep C0_4.out).row 1 h1 _ HH1.out HXM1.out).len; rw [List.length_map] at this; omega
    obtain ⟨ft1, hft⟩ : ∃ x, Qu.ftN l1 = x := ⟨_, rfl⟩
    have hftl1 : ft1.length ≤ 120 := by rw [← hft]; exact Nat.le_trans (Qu.ftG_le (by decide) l1) (by omega)
    have HFT1 := Lib.hid hft
    clear hft hl3
    go_upto_region 8 with fail
    refine wp_region_lit ?_
    refine zr (.string (sB (((kw ++ ([32])) ++ nm) ++ ft0))) V4 rfl ?_
    simp only [Act.put, zA, zB, zC]
    refine zr (.string (sB ((((kw ++ ([32])) ++ nm) ++ ft0) ++ ([32, 119, 105, 116, 104])))) V4 (xs_add (((kw ++ ([32])) ++ nm) ++ ft0) ([32, 119, 105, 116, 104]) (by (try simp only [List.length_append, List.length_cons, List.length_nil]); omega) Tryd.underlying9 rfl rfl rfl) ?_
    simp only [Act.put, zA, zB, zC]
    refine zr (.pointer (some ⟨w.heap.size, 3, none⟩)) V4 (xo_fld0 3 w.heap.size 3 (by kernel_rfl) rfl rfl) ?_
    simp only [Act.put, zA, zB, zC]
    refine zr (.slice A 2 c) V4 (xo_load1 ⟨w.heap.size, 3, none⟩ _ (cells_at (heap_keep Fv0_1.out C1_4.out) 3 rfl) Tryd.underlying22 rfl rfl rfl) ?_
    simp only [Act.put, zA, zB, zC]
    refine zr (.pointer (some (gad A (1 * 1)))) V4 (xg_idx .i64 (HFR.out.keep C0_4.out).sg HH1.out Tryd.underlying22 (by kernel_rfl) rfl rfl rfl) ?_
    simp only [Act.put, zA, zB, zC]
    refine zr (.slice h1.A h1.n h1.c) V4 (xg_load1 (E := hdC) (i := 1) (j := 0) (HFR.out.keep C0_4.out).sg HH1.out rfl rfl Tryd.underlying28 rfl rfl rfl) ?_
    simp only [Act.put, zA, zB, zC]
    refine wpList_call (by kernel_rfl) 40 Tryd.func40 (by kernel_rfl) (by kernel_rfl) _ _ #[.slice h1.A h1.n h1.c] rfl (by kernel_rfl) ?_
    refine (rft_as h1.A h1.n h1.c hhn1 l1 HLO1.out ft1 HFT1.out V4 ((HFR.out.keep C0_4.out).row 1 h1 _ HH1.out HXM1.out)).mono ?_
    rintro e V5 ⟨rfl, hb⟩
    have B4 := Lib.hid hb
    clear hb 
    refine ⟨_, rfl, ?_⟩
    simp only [Act.put, zA, zB, zC]
    refine zr (.string (sB (((((kw ++ ([32])) ++ nm) ++ ft0) ++ ([32, 119, 105, 116, 104])) ++ ft1))) V5 (xs_add ((((kw ++ ([32])) ++ nm) ++ ft0) ++ ([32, 119, 105, 116, 104])) ft1 (by (try simp only [List.length_append, List.length_cons, List.length_nil]); omega) Tryd.underlying9 rfl rfl rfl) ?_
    simp only [Act.put, zA, zB, zC]
    refine zr (.string (sB (((((kw ++ ([32])) ++ nm) ++ ft0) ++ ([32, 119, 105, 116, 104])) ++ ft1))) V5 rfl ?_
    simp only [Act.put, zA, zB, zC]
    refine wpList_nil ?_
    go_upto_region 9 with fail
    refine wp_region_lit ?_
    refine zr (.string (sB (((((kw ++ ([32])) ++ nm) ++ ft0) ++ ([32, 119, 105, 116, 104])) ++ ft1))) V5 rfl ?_
    simp only [Act.put, zA, zB, zC]
    refine zr (.string (sB (((((kw ++ ([32])) ++ nm) ++ ft0) ++ ([32, 119, 105, 116, 104])) ++ ft1))) V5 rfl ?_
    simp only [Act.put, zA, zB, zC]
    refine wpList_nil ?_
    have hfs : fs = [l0, l1] := by
         apply List.ext_getElem?
         intro i
         rcases i with _ | _ | i
         ·exact HX0.out
         ·exact HX1.out
         ·rw [List.getElem?_eq_none (by omega)]; rfl
    have he : Qu.fmtN ⟨kd, col, k, fs⟩ = ((((kw ++ [32]) ++ nm) ++ ft0) ++ [32, 119, 105, 116, 104]) ++ ft1 := by rw [hfs]; simp [Qu.fmtN, Qu.hdN, Qu.fsN, Qu.fsG, HKW.out, HCB.out, HMK.out, Hnm.out, HDK.out, HFT0.out, HFT1.out, Qu.withT, hmk0]
    have HE := Lib.hid he
    clear hfs he h7
    have C0_5 := zb C0_4 B4
    have hbf := C0_5.out
    go_wp2_with fail
    go_ret
    exact ⟨by first | rfl | (rw [HE.out] <;> rfl) | (rw [HE.out]; simp), hbf⟩
   ·obtain rfl : n = 1 := by rw [HNN.out, HN7.out, if_neg h7]
    obtain ⟨h0, hh⟩ : ∃ h, hs[0]? = some h := ⟨_, List.getElem?_eq_getElem (by omega)⟩
    obtain ⟨l0, hxs⟩ : ∃ x, fs[0]? = some x := ⟨_, List.getElem?_eq_getElem (by omega)⟩
    have HH0 := Lib.hid hh
    have HX0 := Lib.hid hxs
    obtain ⟨hl3, hlok⟩ := Qu.vL_ok (HALL.out _ (List.mem_map_of_mem (List.mem_of_getElem? hxs)))
    have HLO0 := Lib.hid hlok
    clear hh hxs hlok
    have HXM0 : Hid ((fs.map (List.map Qu.Cd.ci))[0]? = some (l0.map Qu.Cd.ci)) := Lib.hid (by rw [List.getElem?_map, HX0.out]; rfl)
    have C0_2 := zb B0 B1
    have C0_3 := zb C0_2 B2
    have hhn0 : h0.n ≤ 3 := by have := ((HFR.out.keep C0_3.out).row 0 h0 _ HH0.out HXM0.out).len; rw [List.length_map] at this; omega
    obtain ⟨ft0, hft⟩ : ∃ x, Qu.ftN l0 = x := ⟨_, rfl⟩
    have hftl0 : ft0.length ≤ 120 := by rw [← hft]; exact Nat.le_trans (Qu.ftG_le (by decide) l0) (by omega)
    have HFT0 := Lib.hid hft
    clear hft hl3
    go_upto_region 6 with fail
    refine wp_region_lit ?_
    refine zr (.string (sB ((kw ++ ([32])) ++ nm))) V3 rfl ?_
    simp only [Act.put, zA, zB, zC]
    refine zr (.pointer (some ⟨w.heap.size, 3, none⟩)) V3 (xo_fld0 3 w.heap.size 3 (by kernel_rfl) rfl rfl) ?_
    simp only [Act.put, zA, zB, zC]
    refine zr (.slice A 1 c) V3 (xo_load1 ⟨w.heap.size, 3, none⟩ _ (cells_at (heap_keep Fv0_1.out C1_3.out) 3 rfl) Tryd.underlying22 rfl rfl rfl) ?_
    simp only [Act.put, zA, zB, zC]
    refine zr (.pointer (some (gad A (0 * 1)))) V3 (xg_idx .i64 (HFR.out.keep C0_3.out).sg HH0.out Tryd.underlying22 (by kernel_rfl) rfl rfl rfl) ?_
    simp only [Act.put, zA, zB, zC]
    refine zr (.slice h0.A h0.n h0.c) V3 (xg_load1 (E := hdC) (i := 0) (j := 0) (HFR.out.keep C0_3.out).sg HH0.out rfl rfl Tryd.underlying28 rfl rfl rfl) ?_
    simp only [Act.put, zA, zB, zC]
    refine wpList_call (by kernel_rfl) 40 Tryd.func40 (by kernel_rfl) (by kernel_rfl) _ _ #[.slice h0.A h0.n h0.c] rfl (by kernel_rfl) ?_
    refine (rft_as h0.A h0.n h0.c hhn0 l0 HLO0.out ft0 HFT0.out V3 ((HFR.out.keep C0_3.out).row 0 h0 _ HH0.out HXM0.out)).mono ?_
    rintro e V4 ⟨rfl, hb⟩
    have B3 := Lib.hid hb
    clear hb 
    refine ⟨_, rfl, ?_⟩
    simp only [Act.put, zA, zB, zC]
    refine zr (.string (sB (((kw ++ ([32])) ++ nm) ++ ft0))) V4 (xs_add ((kw ++ ([32])) ++ nm) ft0 (by (try simp only [List.length_append, List.length_cons, List.length_nil]); omega) Tryd.underlying9 rfl rfl rfl) ?_
    simp only [Act.put, zA, zB, zC]
    refine zr (.string (sB (((kw ++ ([32])) ++ nm) ++ ft0))) V4 rfl ?_
    simp only [Act.put, zA, zB, zC]
    refine wpList_nil ?_
    have hci2 : ¬ ((kd : Int) = 7) := by omega
    go_upto_region 7 with fail
    refine wp_region_lit ?_
    refine zr (.pointer (some ⟨w.heap.size, 0, none⟩)) V4 (xo_fld0 0 w.heap.size 0 (by kernel_rfl) rfl rfl) ?_
    simp only [Act.put, zA, zB, zC]
    have C1_4 := zb C1_3 B3
    refine zr (.int .i64 (kd : Int)) V4 (xo_load1 ⟨w.heap.size, 0, none⟩ _ (cells_at (heap_keep Fv0_1.out C1_4.out) 0 rfl) Tryd.underlying3 rfl rfl rfl) ?_
    simp only [Act.put, zA, zB, zC]
    refine zr (.bool false) V4 (xo_eqlF .i64 (kd : Int) 7 (by omega) rfl rfl rfl) ?_
    simp only [Act.put, zA, zB, zC]
    refine wpList_nil ?_
    go_upto_region 9 with fail
    refine wp_region_lit ?_
    refine zr (.string (sB (((kw ++ ([32])) ++ nm) ++ ft0))) V4 rfl ?_
    simp only [Act.put, zA, zB, zC]
    refine zr (.string (sB (((kw ++ ([32])) ++ nm) ++ ft0))) V4 rfl ?_
    simp only [Act.put, zA, zB, zC]
    refine wpList_nil ?_
    have hfs : fs = [l0] := by
         apply List.ext_getElem?
         intro i
         rcases i with _ | i
         ·exact HX0.out
         ·rw [List.getElem?_eq_none (by omega)]; rfl
    have he : Qu.fmtN ⟨kd, col, k, fs⟩ = ((kw ++ [32]) ++ nm) ++ ft0 := by rw [hfs]; simp [Qu.fmtN, Qu.hdN, Qu.fsN, Qu.fsG, HKW.out, HCB.out, HMK.out, Hnm.out, HDK.out, HFT0.out, hmk0]
    have HE := Lib.hid he
    clear hfs he h7
    have C0_4 := zb C0_3 B3
    have hbf := C0_4.out
    go_wp2_with fail
    go_ret
    exact ⟨by first | rfl | (rw [HE.out] <;> rfl) | (rw [HE.out]; simp), hbf⟩
 | false =>
  go_upto_region 2 with fail
  refine wp_region_lit ?_
  refine zr (.pointer (some ⟨w.heap.size, 0, none⟩)) V2 (xo_fld0 0 w.heap.size 0 (by kernel_rfl) rfl rfl) ?_
  simp only [Act.put, zA, zB, zC]
  refine zr (.int .i64 (kd : Int)) V2 (xo_load1 ⟨w.heap.size, 0, none⟩ _ (cells_at (heap_keep Fv0_1.out B1.out) 0 rfl) Tryd.underlying3 rfl rfl rfl) ?_
  simp only [Act.put, zA, zB, zC]
  refine wpList_call (by kernel_rfl) 32 Tryd.func32 (by kernel_rfl) (by kernel_rfl) _ _ #[.int .i64 (kd : Int)] rfl (by kernel_rfl) ?_
  refine (rhasC_as kd false HCB.out V2).mono ?_
  rintro e W1 ⟨rfl, hw1⟩
  rw [hw1]
  clear hw1 W1
  refine ⟨_, rfl, ?_⟩
  simp only [Act.put, zA, zB, zC]
  refine wpList_nil ?_
  have HW2 := trivial
  by_cases hmk0 : 0 < mk
  ·have hci1 : ((mk : Int) > 0) := by omega
   go_upto_region 4 with fail
   refine wp_region_lit ?_
   refine zr (.pointer (some ⟨w.heap.size, 0, none⟩)) V2 (xo_fld0 0 w.heap.size 0 (by kernel_rfl) rfl rfl) ?_
   simp only [Act.put, zA, zB, zC]
   refine zr (.int .i64 (kd : Int)) V2 (xo_load1 ⟨w.heap.size, 0, none⟩ _ (cells_at (heap_keep Fv0_1.out B1.out) 0 rfl) Tryd.underlying3 rfl rfl rfl) ?_
   simp only [Act.put, zA, zB, zC]
   refine wpList_call (by kernel_rfl) 33 Tryd.func33 (by kernel_rfl) (by kernel_rfl) _ _ #[.int .i64 (kd : Int)] rfl (by kernel_rfl) ?_
   refine (rmaxK_as kd mk HMK.out V2).mono ?_
   rintro e W1 ⟨rfl, hw1⟩
   rw [hw1]
   clear hw1 W1
   refine ⟨_, rfl, ?_⟩
   simp only [Act.put, zA, zB, zC]
   refine zr (.bool true) V2 (xo_gtrT .i64 (mk : Int) 0 (by omega) rfl rfl rfl) ?_
   simp only [Act.put, zA, zB, zC]
   refine wpList_nil ?_
   go_upto_region 5 with fail
   refine wp_region_lit ?_
   refine zr (.string (sB kw)) V2 rfl ?_
   simp only [Act.put, zA, zB, zC]
   refine zr (.string (sB (kw ++ ([32])))) V2 (xs_add kw ([32]) (by (try simp only [List.length_append, List.length_cons, List.length_nil]); omega) Tryd.underlying9 rfl rfl rfl) ?_
   simp only [Act.put, zA, zB, zC]
   refine zr (.pointer (some ⟨w.heap.size, 2, none⟩)) V2 (xo_fld0 2 w.heap.size 2 (by kernel_rfl) rfl rfl) ?_
   simp only [Act.put, zA, zB, zC]
   refine zr (.int .i64 (k : Int)) V2 (xo_load1 ⟨w.heap.size, 2, none⟩ _ (cells_at (heap_keep Fv0_1.out B1.out) 2 rfl) Tryd.underlying3 rfl rfl rfl) ?_
   simp only [Act.put, zA, zB, zC]
   refine wpList_call (by kernel_rfl) 25 Tryd.func25 (by kernel_rfl) (by kernel_rfl) _ _ #[.int .i64 (k : Int)] rfl (by kernel_rfl) ?_
   refine (rdigits_as k dk HDK.out (by omega) V2).mono ?_
   rintro e V3 ⟨rfl, hb⟩
   have B2 := Lib.hid hb
   clear hb 
   refine ⟨_, rfl, ?_⟩
   simp only [Act.put, zA, zB, zC]
   refine zr (.string (sB ((kw ++ ([32])) ++ dk))) V3 (xs_add (kw ++ ([32])) dk (by (try simp only [List.length_append, List.length_cons, List.length_nil]); omega) Tryd.underlying9 rfl rfl rfl) ?_
   simp only [Act.put, zA, zB, zC]
   refine zr (.string (sB ((kw ++ ([32])) ++ dk))) V3 rfl ?_
   simp only [Act.put, zA, zB, zC]
   refine wpList_nil ?_
   by_cases h7 : kd = 7
   ·obtain rfl : n = 2 := by rw [HNN.out, HN7.out, if_pos h7]
    obtain ⟨h0, hh⟩ : ∃ h, hs[0]? = some h := ⟨_, List.getElem?_eq_getElem (by omega)⟩
    obtain ⟨l0, hxs⟩ : ∃ x, fs[0]? = some x := ⟨_, List.getElem?_eq_getElem (by omega)⟩
    have HH0 := Lib.hid hh
    have HX0 := Lib.hid hxs
    obtain ⟨hl3, hlok⟩ := Qu.vL_ok (HALL.out _ (List.mem_map_of_mem (List.mem_of_getElem? hxs)))
    have HLO0 := Lib.hid hlok
    clear hh hxs hlok
    have HXM0 : Hid ((fs.map (List.map Qu.Cd.ci))[0]? = some (l0.map Qu.Cd.ci)) := Lib.hid (by rw [List.getElem?_map, HX0.out]; rfl)
    have C0_2 := zb B0 B1
    have C0_3 := zb C0_2 B2
    have hhn0 : h0.n ≤ 3 := by have := ((HFR.out.keep C0_3.out).row 0 h0 _ HH0.out HXM0.out).len; rw [List.length_map] at this; omega
    obtain ⟨ft0, hft⟩ : ∃ x, Qu.ftN l0 = x := ⟨_, rfl⟩
    have hftl0 : ft0.length ≤ 120 := by rw [← hft]; exact Nat.le_trans (Qu.ftG_le (by decide) l0) (by omega)
    have HFT0 := Lib.hid hft
    clear hft hl3
    go_upto_region 6 with fail
    refine wp_region_lit ?_
    refine zr (.string (sB ((kw ++ ([32])) ++ dk))) V3 rfl ?_
    simp only [Act.put, zA, zB, zC]
    refine zr (.pointer (some ⟨w.heap.size, 3, none⟩)) V3 (xo_fld0 3 w.heap.size 3 (by kernel_rfl) rfl rfl) ?_
    simp only [Act.put, zA, zB, zC]
    have C1_3 := zb B1 B2
    refine zr (.slice A 2 c) V3 (xo_load1 ⟨w.heap.size, 3, none⟩ _ (cells_at (heap_keep Fv0_1.out C1_3.out) 3 rfl) Tryd.underlying22 rfl rfl rfl) ?_
    simp only [Act.put, zA, zB, zC]
    refine zr (.pointer (some (gad A (0 * 1)))) V3 (xg_idx .i64 (HFR.out.keep C0_3.out).sg HH0.out Tryd.underlying22 (by kernel_rfl) rfl rfl rfl) ?_
    simp only [Act.put, zA, zB, zC]
    refine zr (.slice h0.A h0.n h0.c) V3 (xg_load1 (E := hdC) (i := 0) (j := 0) (HFR.out.keep C0_3.out).sg HH0.out rfl rfl Tryd.underlying28 rfl rfl rfl) ?_
    simp only [Act.put, zA, zB, zC]
    refine wpList_call (by kernel_rfl) 40 Tryd.func40 (by kernel_rfl) (by kernel_rfl) _ _ #[.slice h0.A h0.n h0.c] rfl (by kernel_rfl) ?_
    refine (rft_as h0.A h0.n h0.c hhn0 l0 HLO0.out ft0 HFT0.out V3 ((HFR.out.keep C0_3.out).row 0 h0 _ HH0.out HXM0.out)).mono ?_
    rintro e V4 ⟨rfl, hb⟩
    have B3 := Lib.hid hb
    clear hb 
    refine ⟨_, rfl, ?_⟩
    simp only [Act.put, zA, zB, zC]
    refine zr (.string (sB (((kw ++ ([32])) ++ dk) ++ ft0))) V4 (xs_add ((kw ++ ([32])) ++ dk) ft0 (by (try simp only [List.length_append, List.length_cons, List.length_nil]); omega) Tryd.underlying9 rfl rfl rfl) ?_
    simp only [Act.put, zA, zB, zC]
    refine zr (.string (sB (((kw ++ ([32])) ++ dk) ++ ft0))) V4 rfl ?_
    simp only [Act.put, zA, zB, zC]
    refine wpList_nil ?_
    have hci2 : ((kd : Int) = 7) := by omega
    go_upto_region 7 with fail
    refine wp_region_lit ?_
    refine zr (.pointer (some ⟨w.heap.size, 0, none⟩)) V4 (xo_fld0 0 w.heap.size 0 (by kernel_rfl) rfl rfl) ?_
    simp only [Act.put, zA, zB, zC]
    have C1_4 := zb C1_3 B3
    refine zr (.int .i64 (kd : Int)) V4 (xo_load1 ⟨w.heap.size, 0, none⟩ _ (cells_at (heap_keep Fv0_1.out C1_4.out) 0 rfl) Tryd.underlying3 rfl rfl rfl) ?_
    simp only [Act.put, zA, zB, zC]
    refine zr (.bool true) V4 (xo_eqlT .i64 (kd : Int) 7 (by omega) rfl rfl rfl) ?_
    simp only [Act.put, zA, zB, zC]
    refine wpList_nil ?_
    obtain ⟨h1, hh⟩ : ∃ h, hs[1]? = some h := ⟨_, List.getElem?_eq_getElem (by omega)⟩
    obtain ⟨l1, hxs⟩ : ∃ x, fs[1]? = some x := ⟨_, List.getElem?_eq_getElem (by omega)⟩
    have HH1 := Lib.hid hh
    have HX1 := Lib.hid hxs
    obtain ⟨hl3, hlok⟩ := Qu.vL_ok (HALL.out _ (List.mem_map_of_mem (List.mem_of_getElem? hxs)))
    have HLO1 := Lib.hid hlok
    clear hh hxs hlok
    have HXM1 : Hid ((fs.map (List.map Qu.Cd.ci))[1]? = some (l1.map Qu.Cd.ci)) := Lib.hid (by rw [List.getElem?_map, HX1.out]; rfl)
    have C0_4 := zb C0_3 B3
    have hhn1 : h1.n ≤ 3 := by have := ((HFR.out.keep C0_4.out).row 1 h1 _ HH1.out HXM1.out).len; rw [List.length_map] at this; omega
    obtain ⟨ft1, hft⟩ : ∃ x, Qu.ftN l1 = x := ⟨_, rfl⟩
    have hftl1 : ft1.length ≤ 120 := by rw [← hft]; exact Nat.le_trans (Qu.ftG_le (by decide) l1) (by omega)
    have HFT1 := Lib.hid hft
    clear hft hl3
    go_upto_region 8 with fail
    refine wp_region_lit ?_
    refine zr (.string (sB (((kw ++ ([32])) ++ dk) ++ ft0))) V4 rfl ?_
    simp only [Act.put, zA, zB, zC]
    refine zr (.string (sB ((((kw ++ ([32])) ++ dk) ++ ft0) ++ ([32, 119, 105, 116, 104])))) V4 (xs_add (((kw ++ ([32])) ++ dk) ++ ft0) ([32, 119, 105, 116, 104]) (by (try simp only [List.length_append, List.length_cons, List.length_nil]); omega) Tryd.underlying9 rfl rfl rfl) ?_
    simp only [Act.put, zA, zB, zC]
    refine zr (.pointer (some ⟨w.heap.size, 3, none⟩)) V4 (xo_fld0 3 w.heap.size 3 (by kernel_rfl) rfl rfl) ?_
    simp only [Act.put, zA, zB, zC]
    refine zr (.slice A 2 c) V4 (xo_load1 ⟨w.heap.size, 3, none⟩ _ (cells_at (heap_keep Fv0_1.out C1_4.out) 3 rfl) Tryd.underlying22 rfl rfl rfl) ?_
    simp only [Act.put, zA, zB, zC]
    refine zr (.pointer (some (gad A (1 * 1)))) V4 (xg_idx .i64 (HFR.out.keep C0_4.out).sg HH1.out Tryd.underlying22 (by kernel_rfl) rfl rfl rfl) ?_
    simp only [Act.put, zA, zB, zC]
    refine zr (.slice h1.A h1.n h1.c) V4 (xg_load1 (E := hdC) (i := 1) (j := 0) (HFR.out.keep C0_4.out).sg HH1.out rfl rfl Tryd.underlying28 rfl rfl rfl) ?_
    simp only [Act.put, zA, zB, zC]
    refine wpList_call (by kernel_rfl) 40 Tryd.func40 (by kernel_rfl) (by kernel_rfl) _ _ #[.slice h1.A h1.n h1.c] rfl (by kernel_rfl) ?_
    refine (rft_as h1.A h1.n h1.c hhn1 l1 HLO1.out ft1 HFT1.out V4 ((HFR.out.keep C0_4.out).row 1 h1 _ HH1.out HXM1.out)).mono ?_
    rintro e V5 ⟨rfl, hb⟩
    have B4 := Lib.hid hb
    clear hb 
    refine ⟨_, rfl, ?_⟩
    simp only [Act.put, zA, zB, zC]
    refine zr (.string (sB (((((kw ++ ([32])) ++ dk) ++ ft0) ++ ([32, 119, 105, 116, 104])) ++ ft1))) V5 (xs_add ((((kw ++ ([32])) ++ dk) ++ ft0) ++ ([32, 119, 105, 116, 104])) ft1 (by (try simp only [List.length_append, List.length_cons, List.length_nil]); omega) Tryd.underlying9 rfl rfl rfl) ?_
    simp only [Act.put, zA, zB, zC]
    refine zr (.string (sB (((((kw ++ ([32])) ++ dk) ++ ft0) ++ ([32, 119, 105, 116, 104])) ++ ft1))) V5 rfl ?_
    simp only [Act.put, zA, zB, zC]
    refine wpList_nil ?_
    go_upto_region 9 with fail
    refine wp_region_lit ?_
    refine zr (.string (sB (((((kw ++ ([32])) ++ dk) ++ ft0) ++ ([32, 119, 105, 116, 104])) ++ ft1))) V5 rfl ?_
    simp only [Act.put, zA, zB, zC]
    refine zr (.string (sB (((((kw ++ ([32])) ++ dk) ++ ft0) ++ ([32, 119, 105, 116, 104])) ++ ft1))) V5 rfl ?_
    simp only [Act.put, zA, zB, zC]
    refine wpList_nil ?_
    have hfs : fs = [l0, l1] := by
         apply List.ext_getElem?
         intro i
         rcases i with _ | _ | i
         ·exact HX0.out
         ·exact HX1.out
         ·rw [List.getElem?_eq_none (by omega)]; rfl
    have he : Qu.fmtN ⟨kd, col, k, fs⟩ = ((((kw ++ [32]) ++ dk) ++ ft0) ++ [32, 119, 105, 116, 104]) ++ ft1 := by rw [hfs]; simp [Qu.fmtN, Qu.hdN, Qu.fsN, Qu.fsG, HKW.out, HCB.out, HMK.out, Hnm.out, HDK.out, HFT0.out, HFT1.out, Qu.withT, hmk0]
    have HE := Lib.hid he
    clear hfs he h7
    have C0_5 := zb C0_4 B4
    have hbf := C0_5.out
    go_wp2_with fail
    go_ret
    exact ⟨by first | rfl | (rw [HE.out] <;> rfl) | (rw [HE.out]; simp), hbf⟩
   ·obtain rfl : n = 1 := by rw [HNN.out, HN7.out, if_neg h7]
    obtain ⟨h0, hh⟩ : ∃ h, hs[0]? = some h := ⟨_, List.getElem?_eq_getElem (by omega)⟩
    obtain ⟨l0, hxs⟩ : ∃ x, fs[0]? = some x := ⟨_, List.getElem?_eq_getElem (by omega)⟩
    have HH0 := Lib.hid hh
    have HX0 := Lib.hid hxs
    obtain ⟨hl3, hlok⟩ := Qu.vL_ok (HALL.out _ (List.mem_map_of_mem (List.mem_of_getElem? hxs)))
    have HLO0 := Lib.hid hlok
    clear hh hxs hlok
    have HXM0 : Hid ((fs.map (List.map Qu.Cd.ci))[0]? = some (l0.map Qu.Cd.ci)) := Lib.hid (by rw [List.getElem?_map, HX0.out]; rfl)
    have C0_2 := zb B0 B1
    have C0_3 := zb C0_2 B2
    have hhn0 : h0.n ≤ 3 := by have := ((HFR.out.keep C0_3.out).row 0 h0 _ HH0.out HXM0.out).len; rw [List.length_map] at this; omega
    obtain ⟨ft0, hft⟩ : ∃ x, Qu.ftN l0 = x := ⟨_, rfl⟩
    have hftl0 : ft0.length ≤ 120 := by rw [← hft]; exact Nat.le_trans (Qu.ftG_le (by decide) l0) (by omega)
    have HFT0 := Lib.hid hft
    clear hft hl3
    go_upto_region 6 with fail
    refine wp_region_lit ?_
    refine zr (.string (sB ((kw ++ ([32])) ++ dk))) V3 rfl ?_
    simp only [Act.put, zA, zB, zC]
    refine zr (.pointer (some ⟨w.heap.size, 3, none⟩)) V3 (xo_fld0 3 w.heap.size 3 (by kernel_rfl) rfl rfl) ?_
    simp only [Act.put, zA, zB, zC]
    have C1_3 := zb B1 B2
    refine zr (.slice A 1 c) V3 (xo_load1 ⟨w.heap.size, 3, none⟩ _ (cells_at (heap_keep Fv0_1.out C1_3.out) 3 rfl) Tryd.underlying22 rfl rfl rfl) ?_
    simp only [Act.put, zA, zB, zC]
    refine zr (.pointer (some (gad A (0 * 1)))) V3 (xg_idx .i64 (HFR.out.keep C0_3.out).sg HH0.out Tryd.underlying22 (by kernel_rfl) rfl rfl rfl) ?_
    simp only [Act.put, zA, zB, zC]
    refine zr (.slice h0.A h0.n h0.c) V3 (xg_load1 (E := hdC) (i := 0) (j := 0) (HFR.out.keep C0_3.out).sg HH0.out rfl rfl Tryd.underlying28 rfl rfl rfl) ?_
    simp only [Act.put, zA, zB, zC]
    refine wpList_call (by kernel_rfl) 40 Tryd.func40 (by kernel_rfl) (by kernel_rfl) _ _ #[.slice h0.A h0.n h0.c] rfl (by kernel_rfl) ?_
    refine (rft_as h0.A h0.n h0.c hhn0 l0 HLO0.out ft0 HFT0.out V3 ((HFR.out.keep C0_3.out).row 0 h0 _ HH0.out HXM0.out)).mono ?_
    rintro e V4 ⟨rfl, hb⟩
    have B3 := Lib.hid hb
    clear hb 
    refine ⟨_, rfl, ?_⟩
    simp only [Act.put, zA, zB, zC]
    refine zr (.string (sB (((kw ++ ([32])) ++ dk) ++ ft0))) V4 (xs_add ((kw ++ ([32])) ++ dk) ft0 (by (try simp only [List.length_append, List.length_cons, List.length_nil]); omega) Tryd.underlying9 rfl rfl rfl) ?_
    simp only [Act.put, zA, zB, zC]
    refine zr (.string (sB (((kw ++ ([32])) ++ dk) ++ ft0))) V4 rfl ?_
    simp only [Act.put, zA, zB, zC]
    refine wpList_nil ?_
    have hci2 : ¬ ((kd : Int) = 7) := by omega
    go_upto_region 7 with fail
    refine wp_region_lit ?_
    refine zr (.pointer (some ⟨w.heap.size, 0, none⟩)) V4 (xo_fld0 0 w.heap.size 0 (by kernel_rfl) rfl rfl) ?_
    simp only [Act.put, zA, zB, zC]
    have C1_4 := zb C1_3 B3
    refine zr (.int .i64 (kd : Int)) V4 (xo_load1 ⟨w.heap.size, 0, none⟩ _ (cells_at (heap_keep Fv0_1.out C1_4.out) 0 rfl) Tryd.underlying3 rfl rfl rfl) ?_
    simp only [Act.put, zA, zB, zC]
    refine zr (.bool false) V4 (xo_eqlF .i64 (kd : Int) 7 (by omega) rfl rfl rfl) ?_
    simp only [Act.put, zA, zB, zC]
    refine wpList_nil ?_
    go_upto_region 9 with fail
    refine wp_region_lit ?_
    refine zr (.string (sB (((kw ++ ([32])) ++ dk) ++ ft0))) V4 rfl ?_
    simp only [Act.put, zA, zB, zC]
    refine zr (.string (sB (((kw ++ ([32])) ++ dk) ++ ft0))) V4 rfl ?_
    simp only [Act.put, zA, zB, zC]
    refine wpList_nil ?_
    have hfs : fs = [l0] := by
         apply List.ext_getElem?
         intro i
         rcases i with _ | i
         ·exact HX0.out
         ·rw [List.getElem?_eq_none (by omega)]; rfl
    have he : Qu.fmtN ⟨kd, col, k, fs⟩ = ((kw ++ [32]) ++ dk) ++ ft0 := by rw [hfs]; simp [Qu.fmtN, Qu.hdN, Qu.fsN, Qu.fsG, HKW.out, HCB.out, HMK.out, Hnm.out, HDK.out, HFT0.out, hmk0]
    have HE := Lib.hid he
    clear hfs he h7
    have C0_4 := zb C0_3 B3
    have hbf := C0_4.out
    go_wp2_with fail
    go_ret
    exact ⟨by first | rfl | (rw [HE.out] <;> rfl) | (rw [HE.out]; simp), hbf⟩
  ·have hci1 : ¬ ((mk : Int) > 0) := by omega
   go_upto_region 4 with fail
   refine wp_region_lit ?_
   refine zr (.pointer (some ⟨w.heap.size, 0, none⟩)) V2 (xo_fld0 0 w.heap.size 0 (by kernel_rfl) rfl rfl) ?_
   simp only [Act.put, zA, zB, zC]
   refine zr (.int .i64 (kd : Int)) V2 (xo_load1 ⟨w.heap.size, 0, none⟩ _ (cells_at (heap_keep Fv0_1.out B1.out) 0 rfl) Tryd.underlying3 rfl rfl rfl) ?_
   simp only [Act.put, zA, zB, zC]
   refine wpList_call (by kernel_rfl) 33 Tryd.func33 (by kernel_rfl) (by kernel_rfl) _ _ #[.int .i64 (kd : Int)] rfl (by kernel_rfl) ?_
   refine (rmaxK_as kd mk HMK.out V2).mono ?_
   rintro e W1 ⟨rfl, hw1⟩
   rw [hw1]
   clear hw1 W1
   refine ⟨_, rfl, ?_⟩
   simp only [Act.put, zA, zB, zC]
   refine zr (.bool false) V2 (xo_gtrF .i64 (mk : Int) 0 (by omega) rfl rfl rfl) ?_
   simp only [Act.put, zA, zB, zC]
   refine wpList_nil ?_
   by_cases h7 : kd = 7
   ·obtain rfl : n = 2 := by rw [HNN.out, HN7.out, if_pos h7]
    obtain ⟨h0, hh⟩ : ∃ h, hs[0]? = some h := ⟨_, List.getElem?_eq_getElem (by omega)⟩
    obtain ⟨l0, hxs⟩ : ∃ x, fs[0]? = some x := ⟨_, List.getElem?_eq_getElem (by omega)⟩
    have HH0 := Lib.hid hh
    have HX0 := Lib.hid hxs
    obtain ⟨hl3, hlok⟩ := Qu.vL_ok (HALL.out _ (List.mem_map_of_mem (List.mem_of_getElem? hxs)))
    have HLO0 := Lib.hid hlok
    clear hh hxs hlok
    have HXM0 : Hid ((fs.map (List.map Qu.Cd.ci))[0]? = some (l0.map Qu.Cd.ci)) := Lib.hid (by rw [List.getElem?_map, HX0.out]; rfl)
    have C0_2 := zb B0 B1
    have hhn0 : h0.n ≤ 3 := by have := ((HFR.out.keep C0_2.out).row 0 h0 _ HH0.out HXM0.out).len; rw [List.length_map] at this; omega
    obtain ⟨ft0, hft⟩ : ∃ x, Qu.ftN l0 = x := ⟨_, rfl⟩
    have hftl0 : ft0.length ≤ 120 := by rw [← hft]; exact Nat.le_trans (Qu.ftG_le (by decide) l0) (by omega)
    have HFT0 := Lib.hid hft
    clear hft hl3
    go_upto_region 6 with fail
    refine wp_region_lit ?_
    refine zr (.string (sB kw)) V2 rfl ?_
    simp only [Act.put, zA, zB, zC]
    refine zr (.pointer (some ⟨w.heap.size, 3, none⟩)) V2 (xo_fld0 3 w.heap.size 3 (by kernel_rfl) rfl rfl) ?_
    simp only [Act.put, zA, zB, zC]
    refine zr (.slice A 2 c) V2 (xo_load1 ⟨w.heap.size, 3, none⟩ _ (cells_at (heap_keep Fv0_1.out B1.out) 3 rfl) Tryd.underlying22 rfl rfl rfl) ?_
    simp only [Act.put, zA, zB, zC]
    refine zr (.pointer (some (gad A (0 * 1)))) V2 (xg_idx .i64 (HFR.out.keep C0_2.out).sg HH0.out Tryd.underlying22 (by kernel_rfl) rfl rfl rfl) ?_
    simp only [Act.put, zA, zB, zC]
    refine zr (.slice h0.A h0.n h0.c) V2 (xg_load1 (E := hdC) (i := 0) (j := 0) (HFR.out.keep C0_2.out).sg HH0.out rfl rfl Tryd.underlying28 rfl rfl rfl) ?_
    simp only [Act.put, zA, zB, zC]
    refine wpList_call (by kernel_rfl) 40 Tryd.func40 (by kernel_rfl) (by kernel_rfl) _ _ #[.slice h0.A h0.n h0.c] rfl (by kernel_rfl) ?_
    refine (rft_as h0.A h0.n h0.c hhn0 l0 HLO0.out ft0 HFT0.out V2 ((HFR.out.keep C0_2.out).row 0 h0 _ HH0.out HXM0.out)).mono ?_
    rintro e V3 ⟨rfl, hb⟩
    have B2 := Lib.hid hb
    clear hb 
    refine ⟨_, rfl, ?_⟩
    simp only [Act.put, zA, zB, zC]
    refine zr (.string (sB (kw ++ ft0))) V3 (xs_add kw ft0 (by (try simp only [List.length_append, List.length_cons, List.length_nil]); omega) Tryd.underlying9 rfl rfl rfl) ?_
    simp only [Act.put, zA, zB, zC]
    refine zr (.string (sB (kw ++ ft0))) V3 rfl ?_
    simp only [Act.put, zA, zB, zC]
    refine wpList_nil ?_
    have hci2 : ((kd : Int) = 7) := by omega
    go_upto_region 7 with fail
    refine wp_region_lit ?_
    refine zr (.pointer (some ⟨w.heap.size, 0, none⟩)) V3 (xo_fld0 0 w.heap.size 0 (by kernel_rfl) rfl rfl) ?_
    simp only [Act.put, zA, zB, zC]
    have C1_3 := zb B1 B2
    refine zr (.int .i64 (kd : Int)) V3 (xo_load1 ⟨w.heap.size, 0, none⟩ _ (cells_at (heap_keep Fv0_1.out C1_3.out) 0 rfl) Tryd.underlying3 rfl rfl rfl) ?_
    simp only [Act.put, zA, zB, zC]
    refine zr (.bool true) V3 (xo_eqlT .i64 (kd : Int) 7 (by omega) rfl rfl rfl) ?_
    simp only [Act.put, zA, zB, zC]
    refine wpList_nil ?_
    obtain ⟨h1, hh⟩ : ∃ h, hs[1]? = some h := ⟨_, List.getElem?_eq_getElem (by omega)⟩
    obtain ⟨l1, hxs⟩ : ∃ x, fs[1]? = some x := ⟨_, List.getElem?_eq_getElem (by omega)⟩
    have HH1 := Lib.hid hh
    have HX1 := Lib.hid hxs
    obtain ⟨hl3, hlok⟩ := Qu.vL_ok (HALL.out _ (List.mem_map_of_mem (List.mem_of_getElem? hxs)))
    have HLO1 := Lib.hid hlok
    clear hh hxs hlok
    have HXM1 : Hid ((fs.map (List.map Qu.Cd.ci))[1]? = some (l1.map Qu.Cd.ci)) := Lib.hid (by rw [List.getElem?_map, HX1.out]; rfl)
    have C0_3 := zb C0_2 B2
    have hhn1 : h1.n ≤ 3 := by have := ((HFR.out.keep C0_3.out).row 1 h1 _ HH1.out HXM1.out).len; rw [List.length_map] at this; omega
    obtain ⟨ft1, hft⟩ : ∃ x, Qu.ftN l1 = x := ⟨_, rfl⟩
    have hftl1 : ft1.length ≤ 120 := by rw [← hft]; exact Nat.le_trans (Qu.ftG_le (by decide) l1) (by omega)
    have HFT1 := Lib.hid hft
    clear hft hl3
    go_upto_region 8 with fail
    refine wp_region_lit ?_
    refine zr (.string (sB (kw ++ ft0))) V3 rfl ?_
    simp only [Act.put, zA, zB, zC]
    refine zr (.string (sB ((kw ++ ft0) ++ ([32, 119, 105, 116, 104])))) V3 (xs_add (kw ++ ft0) ([32, 119, 105, 116, 104]) (by (try simp only [List.length_append, List.length_cons, List.length_nil]); omega) Tryd.underlying9 rfl rfl rfl) ?_
    simp only [Act.put, zA, zB, zC]
    refine zr (.pointer (some ⟨w.heap.size, 3, none⟩)) V3 (xo_fld0 3 w.heap.size 3 (by kernel_rfl) rfl rfl) ?_
    simp only [Act.put, zA, zB, zC]
    refine zr (.slice A 2 c) V3 (xo_load1 ⟨w.heap.size, 3, none⟩ _ (cells_at (heap_keep Fv0_1.out C1_3.out) 3 rfl) Tryd.underlying22 rfl rfl rfl) ?_
    simp only [Act.put, zA, zB, zC]
    refine zr (.pointer (some (gad A (1 * 1)))) V3 (xg_idx .i64 (HFR.out.keep C0_3.out).sg HH1.out Tryd.underlying22 (by kernel_rfl) rfl rfl rfl) ?_
    simp only [Act.put, zA, zB, zC]
    refine zr (.slice h1.A h1.n h1.c) V3 (xg_load1 (E := hdC) (i := 1) (j := 0) (HFR.out.keep C0_3.out).sg HH1.out rfl rfl Tryd.underlying28 rfl rfl rfl) ?_
    simp only [Act.put, zA, zB, zC]
    refine wpList_call (by kernel_rfl) 40 Tryd.func40 (by kernel_rfl) (by kernel_rfl) _ _ #[.slice h1.A h1.n h1.c] rfl (by kernel_rfl) ?_
    refine (rft_as h1.A h1.n h1.c hhn1 l1 HLO1.out ft1 HFT1.out V3 ((HFR.out.keep C0_3.out).row 1 h1 _ HH1.out HXM1.out)).mono ?_
    rintro e V4 ⟨rfl, hb⟩
    have B3 := Lib.hid hb
    clear hb 
    refine ⟨_, rfl, ?_⟩
    simp only [Act.put, zA, zB, zC]
    refine zr (.string (sB (((kw ++ ft0) ++ ([32, 119, 105, 116, 104])) ++ ft1))) V4 (xs_add ((kw ++ ft0) ++ ([32, 119, 105, 116, 104])) ft1 (by (try simp only [List.length_append, List.length_cons, List.length_nil]); omega) Tryd.underlying9 rfl rfl rfl) ?_
    simp only [Act.put, zA, zB, zC]
    refine zr (.string (sB (((kw ++ ft0) ++ ([32, 119, 105, 116, 104])) ++ ft1))) V4 rfl ?_
    simp only [Act.put, zA, zB, zC]
    refine wpList_nil ?_
    go_upto_region 9 with fail
    refine wp_region_lit ?_
    refine zr (.string (sB (((kw ++ ft0) ++ ([32, 119, 105, 116, 104])) ++ ft1))) V4 rfl ?_
    simp only [Act.put, zA, zB, zC]
    refine zr (.string (sB (((kw ++ ft0) ++ ([32, 119, 105, 116, 104])) ++ ft1))) V4 rfl ?_
    simp only [Act.put, zA, zB, zC]
    refine wpList_nil ?_
    have hfs : fs = [l0, l1] := by
         apply List.ext_getElem?
         intro i
         rcases i with _ | _ | i
         ·exact HX0.out
         ·exact HX1.out
         ·rw [List.getElem?_eq_none (by omega)]; rfl
    have he : Qu.fmtN ⟨kd, col, k, fs⟩ = (((kw) ++ ft0) ++ [32, 119, 105, 116, 104]) ++ ft1 := by rw [hfs]; simp [Qu.fmtN, Qu.hdN, Qu.fsN, Qu.fsG, HKW.out, HCB.out, HMK.out, Hnm.out, HDK.out, HFT0.out, HFT1.out, Qu.withT, hmk0]
    have HE := Lib.hid he
    clear hfs he h7
    have C0_4 := zb C0_3 B3
    have hbf := C0_4.out
    go_wp2_with fail
    go_ret
    exact ⟨by first | rfl | (rw [HE.out] <;> rfl) | (rw [HE.out]; simp), hbf⟩
   ·obtain rfl : n = 1 := by rw [HNN.out, HN7.out, if_neg h7]
    obtain ⟨h0, hh⟩ : ∃ h, hs[0]? = some h := ⟨_, List.getElem?_eq_getElem (by omega)⟩
    obtain ⟨l0, hxs⟩ : ∃ x, fs[0]? = some x := ⟨_, List.getElem?_eq_getElem (by omega)⟩
    have HH0 := Lib.hid hh
    have HX0 := Lib.hid hxs
    obtain ⟨hl3, hlok⟩ := Qu.vL_ok (HALL.out _ (List.mem_map_of_mem (List.mem_of_getElem? hxs)))
    have HLO0 := Lib.hid hlok
    clear hh hxs hlok
    have HXM0 : Hid ((fs.map (List.map Qu.Cd.ci))[0]? = some (l0.map Qu.Cd.ci)) := Lib.hid (by rw [List.getElem?_map, HX0.out]; rfl)
    have C0_2 := zb B0 B1
    have hhn0 : h0.n ≤ 3 := by have := ((HFR.out.keep C0_2.out).row 0 h0 _ HH0.out HXM0.out).len; rw [List.length_map] at this; omega
    obtain ⟨ft0, hft⟩ : ∃ x, Qu.ftN l0 = x := ⟨_, rfl⟩
    have hftl0 : ft0.length ≤ 120 := by rw [← hft]; exact Nat.le_trans (Qu.ftG_le (by decide) l0) (by omega)
    have HFT0 := Lib.hid hft
    clear hft hl3
    go_upto_region 6 with fail
    refine wp_region_lit ?_
    refine zr (.string (sB kw)) V2 rfl ?_
    simp only [Act.put, zA, zB, zC]
    refine zr (.pointer (some ⟨w.heap.size, 3, none⟩)) V2 (xo_fld0 3 w.heap.size 3 (by kernel_rfl) rfl rfl) ?_
    simp only [Act.put, zA, zB, zC]
    refine zr (.slice A 1 c) V2 (xo_load1 ⟨w.heap.size, 3, none⟩ _ (cells_at (heap_keep Fv0_1.out B1.out) 3 rfl) Tryd.underlying22 rfl rfl rfl) ?_
    simp only [Act.put, zA, zB, zC]
    refine zr (.pointer (some (gad A (0 * 1)))) V2 (xg_idx .i64 (HFR.out.keep C0_2.out).sg HH0.out Tryd.underlying22 (by kernel_rfl) rfl rfl rfl) ?_
    simp only [Act.put, zA, zB, zC]
    refine zr (.slice h0.A h0.n h0.c) V2 (xg_load1 (E := hdC) (i := 0) (j := 0) (HFR.out.keep C0_2.out).sg HH0.out rfl rfl Tryd.underlying28 rfl rfl rfl) ?_
    simp only [Act.put, zA, zB, zC]
    refine wpList_call (by kernel_rfl) 40 Tryd.func40 (by kernel_rfl) (by kernel_rfl) _ _ #[.slice h0.A h0.n h0.c] rfl (by kernel_rfl) ?_
    refine (rft_as h0.A h0.n h0.c hhn0 l0 HLO0.out ft0 HFT0.out V2 ((HFR.out.keep C0_2.out).row 0 h0 _ HH0.out HXM0.out)).mono ?_
    rintro e V3 ⟨rfl, hb⟩
    have B2 := Lib.hid hb
    clear hb 
    refine ⟨_, rfl, ?_⟩
    simp only [Act.put, zA, zB, zC]
    refine zr (.string (sB (kw ++ ft0))) V3 (xs_add kw ft0 (by (try simp only [List.length_append, List.length_cons, List.length_nil]); omega) Tryd.underlying9 rfl rfl rfl) ?_
    simp only [Act.put, zA, zB, zC]
    refine zr (.string (sB (kw ++ ft0))) V3 rfl ?_
    simp only [Act.put, zA, zB, zC]
    refine wpList_nil ?_
    have hci2 : ¬ ((kd : Int) = 7) := by omega
    go_upto_region 7 with fail
    refine wp_region_lit ?_
    refine zr (.pointer (some ⟨w.heap.size, 0, none⟩)) V3 (xo_fld0 0 w.heap.size 0 (by kernel_rfl) rfl rfl) ?_
    simp only [Act.put, zA, zB, zC]
    have C1_3 := zb B1 B2
    refine zr (.int .i64 (kd : Int)) V3 (xo_load1 ⟨w.heap.size, 0, none⟩ _ (cells_at (heap_keep Fv0_1.out C1_3.out) 0 rfl) Tryd.underlying3 rfl rfl rfl) ?_
    simp only [Act.put, zA, zB, zC]
    refine zr (.bool false) V3 (xo_eqlF .i64 (kd : Int) 7 (by omega) rfl rfl rfl) ?_
    simp only [Act.put, zA, zB, zC]
    refine wpList_nil ?_
    go_upto_region 9 with fail
    refine wp_region_lit ?_
    refine zr (.string (sB (kw ++ ft0))) V3 rfl ?_
    simp only [Act.put, zA, zB, zC]
    refine zr (.string (sB (kw ++ ft0))) V3 rfl ?_
    simp only [Act.put, zA, zB, zC]
    refine wpList_nil ?_
    have hfs : fs = [l0] := by
         apply List.ext_getElem?
         intro i
         rcases i with _ | i
         ·exact HX0.out
         ·rw [List.getElem?_eq_none (by omega)]; rfl
    have he : Qu.fmtN ⟨kd, col, k, fs⟩ = (kw) ++ ft0 := by rw [hfs]; simp [Qu.fmtN, Qu.hdN, Qu.fsN, Qu.fsG, HKW.out, HCB.out, HMK.out, Hnm.out, HDK.out, HFT0.out, hmk0]
    have HE := Lib.hid he
    clear hfs he h7
    have C0_3 := zb C0_2 B2
    have hbf := C0_3.out
    go_wp2_with fail
    go_ret
    exact ⟨by first | rfl | (rw [HE.out] <;> rfl) | (rw [HE.out]; simp), hbf⟩
end Go.Proofs.YtlicfidcfhbmpaaDoor

namespace Go.Proofs.YtlicfidcfhbmpaaDoor
set_option maxRecDepth 8000
open Go.ChangeShapes Go.WideShapes Go.ChangeAt Go.RowKit Go.Joins Go.Deep Go.Proofs.YtlicfidcfhbmpaaDoor.K
theorem own : ownKnob Tryd.prog.godebug = none := by kernel_rfl
theorem laidOut : laidOutB Tryd.prog = true := by kernel_rfl
section
variable {H : Type} {enc : TypeId × Value → H} {W : World} {base : Nat} {sp : Nat → Bool} {b1 : Nat} {hd : Bool} {v : Value} {d : DataW H} {p : List MemPlace}
theorem cells13I : Tryd.prog.cellsOf 3 = 1 := by kernel_rfl
theorem cells13S : Tryd.prog.cellsOf 9 = 1 := by kernel_rfl
theorem cells13C : Tryd.prog.cellsOf 62 = 2 := by kernel_rfl
theorem cells13T : Tryd.prog.cellsOf 63 = 8 := by kernel_rfl
theorem trod13_col {fuel : Nat} {c0 c1 : Value} {s : List UInt8} {z : Int} {q : List MemPlace} (h : DataW.trod enc Tryd.prog W b1 sp hd fuel 62 [c0, c1] = some (.agg [.lit (.string s), .lit (.int .i64 z)], q)) : c0 = .string (sB s) ∧ c1 = .int .i64 z := by
 obtain ⟨ys, m', _, hx, _, hn, hel⟩ := DataW.trod_struct Tryd.underlying62 h
 match ys, hn with
 | [y0, y1], _ =>
  have g0 : DataW.trod enc Tryd.prog W b1 sp hd m' 9 [c0] = some y0 := by simpa [cells13S] using hel 0 _ rfl
  have g1 : DataW.trod enc Tryd.prog W b1 sp hd m' 3 [c1] = some y1 := by simpa [cells13I] using hel 1 _ rfl
  obtain ⟨b0, e0, x0, _⟩ := DataW.trod_string Tryd.underlying9 g0
  obtain ⟨a1, e1, x1, _⟩ := DataW.trod_int Tryd.underlying3 g1
  subst x0
  have hx' := congrArg Prod.fst hx
  simp [x1] at hx' e0 e1
  obtain ⟨rfl, rfl⟩ := hx'
  subst e0 e1
  exact ⟨by rw [sB_of], rfl⟩
end
def laid13 : List (String × DataW Unit) := [("attestor/query.columns", Rows.laid_attestor_query_columns)]
theorem of_laid13 {W : World} (h : laidMetH Tryd.prog laid13 W) : Gc W := by
 rw [MakeChecks.laidMetH_plain _ _ _ (by kernel_rfl)] at h
 obtain ⟨ps, ⟨g', t', cs, fuel, p, q, hg', ht', hvar, hd, _, _⟩, _⟩ := h
 have g1 : Tryd.prog.globalNamed "attestor/query.columns" = some 0 := by kernel_rfl
 obtain rfl := Option.some.inj (g1.symm.trans hg')
 have t1 : (Tryd.prog.globals[0]?).map (·.type) = some 63 := by kernel_rfl
 obtain rfl := Option.some.inj (t1.symm.trans ht')
 obtain ⟨xs, m, _, hx, hl, hn, hel⟩ := DataW.trod_array Tryd.underlying63 hd
 rw [cells13T] at hl
 rw [cells13C] at hel
 have hx' := congrArg Prod.fst hx
 match cs, hl, xs, hn with
 | ⟨[c0, c1, c2, c3, c4, c5, c6, c7]⟩, _, [y0, y1, y2, y3], _ =>
  simp [Rows.laid_attestor_query_columns] at hx'
  obtain ⟨h0, h1, h2, h3⟩ := hx'
  have k0 := hel 0 (by omega)
  have k1 := hel 1 (by omega)
  have k2 := hel 2 (by omega)
  have k3 := hel 3 (by omega)
  simp at k0 k1 k2 k3
  obtain ⟨e0, e1⟩ := trod13_col (q := y0.2) (by rw [k0]; rw [h0])
  obtain ⟨e2, e3⟩ := trod13_col (q := y1.2) (by rw [k1]; rw [h1])
  obtain ⟨e4, e5⟩ := trod13_col (q := y2.2) (by rw [k2]; rw [h2])
  obtain ⟨e6, e7⟩ := trod13_col (q := y3.2) (by rw [k3]; rw [h3])
  subst e0 e1 e2 e3 e4 e5 e6 e7
  intro j v hv
  rw [Nat.zero_add]
  have hc := World.var?_cell g1 hvar j
  rw [hc]
  simpa [Qu.nameN] using hv
theorem door_met13 (os : Os) (args : Array Value) : laidMetH Tryd.prog laid13 ((World.doorLaid Tryd.prog 400 os).forCall (fun _ _ => 0) ⟨#[], args, []⟩).memory :=
 laidMetH_of_parts3 (fuel := 8) (laidMet_of_run' 8 (by kernel_rfl) (by kernel_rfl)) (by kernel_rfl) (by kernel_rfl)
end Go.Proofs.YtlicfidcfhbmpaaDoor

