/- Several texts in one: Ys. -/
import Derived.Test.YtlicfidcfhbmpaaDoorE15
set_option linter.unusedVariables false
set_option linter.unusedSimpArgs false
set_option linter.unusedSectionVars false
namespace Go.Proofs.YtlicfidcfhbmpaaDoor
set_option maxRecDepth 8000
open Go.RowKit Go.Proofs.YtlicfidcfhbmpaaDoor.K
attribute [local irreducible] wpList wpQuiet
theorem xc_ne {ev : Operand → Value} {o : Oper} {w : World} {x y : Operand} {t : TypeId} (a b c : Int) (ho : o.op = .binOp .neq 46 x y t) (hx : ev x = .agg #[.int .i64 a, .int .i64 b, .int .i64 c]) (hy : ev y = .agg #[.int .i64 a, .int .i64 b, .int .i64 c]) : (execOp ev o).run Tryd.prog w = .ok (.value (.bool false)) w := by
 unfold execOp
 simp [ho, hx, hy, go_sem, Tryd.underlying46, Tryd.underlying3]
theorem fl_ci (xs : List Qu.Cd) : fl ciC (xs.map Qu.Cd.ci) = fl cdC xs := by
 unfold fl
 rw [List.flatMap_map]
 rfl
theorem FsOwn.fsR {w : World} {base : Nat} {A : Option Addr} {n c : Nat} {fs : List (List Qu.Cd)} (h : FsOwn w base (.slice A n c) fs) : n = fs.length ∧ ∃ hs, FsR w A n c hs (fs.map (List.map Qu.Cd.ci)) := by
 obtain ⟨A2, c2, hs, he, ho, hc⟩ := h
 injection he with e1 e2 e3
 subst e1 e2 e3
 refine ⟨rfl, hs, Sg.ownS ho, by rw [List.length_map]; exact hc.len, fun i d xs hi hx => ?_⟩
 rw [List.getElem?_map] at hx
 obtain ⟨ys, hy, rfl⟩ := Option.map_eq_some_iff.1 hx
 have h2 := (hc.row i d ys hi hy).2
 rw [← fl_ci] at h2
 exact Sg.ownS h2
theorem fsR_nil {w : World} : FsR w none 0 0 [] [] := ⟨Sg.ownS (base := 0) (e := 0) own_nil, rfl, fun i h xs hi => by simp at hi⟩
set_option maxRecDepth 100000 in
set_option maxHeartbeats 32000000 in
theorem same_yes (kind col k : Int) (A : Option Addr) (n c : Nat) (hs : List Hd) (A2 : Option Addr) (c2 : Nat) (hs2 : List Hd) (fs : List (List Qu.Ci)) (w : World) (hF1 : FsR w A n c hs fs) (hF2 : FsR w A2 n c2 hs2 fs) :
  Calls Tryd.prog 22 #[.agg #[.int .i64 kind, .int .i64 col, .int .i64 k, .slice A n c], .agg #[.int .i64 kind, .int .i64 col, .int .i64 k, .slice A2 n c2]] w fun e w' => e = .returned (.bool true) ∧ Below w.heap.size w w' := by
 have HF1 := zh hF1
 have HF2 := zh hF2
 have hln := hF1.sg.len
 have hln2 := hF2.sg.len
 have hlc := hF1.sg.cap
 have hlt := hF1.sg.top
 have hlc2 := hF2.sg.cap
 have hlt2 := hF2.sg.top
 have hfl := hF1.len
 clear hF1 hF2
 go_enter Tryd.func22, Tryd.ntmps22
 go_upto_region 1 with fail
 refine wp_named2 (fun V1 hb g0 g1 hlt => ?_)
 have B0 := zh hb
 have Fv0_2 : Hid (V1.heap[w.heap.size]? = some (.cells #[.int .i64 kind, .int .i64 col, .int .i64 k, .slice A n c] 24 (0, 0))) := zh (g0)
 have Fv1_3 : Hid (V1.heap[(w.heap.size + 1)]? = some (.cells #[.int .i64 kind, .int .i64 col, .int .i64 k, .slice A2 n c2] 24 (0, 0))) := zh (g1)
 have Nb0_1 : Hid (w.heap.size ≠ (w.heap.size + 1)) := zh (by omega)
 have Gb0 : Hid (w.heap.size ≤ w.heap.size) := zh (by omega)
 have Gb1 : Hid (w.heap.size ≤ (w.heap.size + 1)) := zh (by omega)
 clear hb g0 g1 hlt
 have Lt0 : Hid (w.heap.size < V1.heap.size) := zh (xp_lt Fv0_2.out)
 have Lt1 : Hid ((w.heap.size + 1) < V1.heap.size) := zh (xp_lt Fv1_3.out)
 have hci2 : ¬ ((n : Int) ≠ (n : Int)) := by omega
 refine wp_region_lit ?_
 refine zr (.pointer (some ⟨w.heap.size, 0, none⟩)) V1 (xo_fld0 0 w.heap.size 0 (by kernel_rfl) rfl rfl) ?_
 simp only [Act.put, zA]
 refine zr (.int .i64 kind) V1 (xo_load1 ⟨w.heap.size, 0, none⟩ _ (cells_at Fv0_2.out 0 rfl) Tryd.underlying3 rfl rfl rfl) ?_
 simp only [Act.put, zA]
 refine zr (.pointer (some ⟨(w.heap.size + 1), 0, none⟩)) V1 (xo_fld0 0 (w.heap.size + 1) 0 (by kernel_rfl) rfl rfl) ?_
 simp only [Act.put, zA]
 refine zr (.int .i64 kind) V1 (xo_load1 ⟨(w.heap.size + 1), 0, none⟩ _ (cells_at Fv1_3.out 0 rfl) Tryd.underlying3 rfl rfl rfl) ?_
 simp only [Act.put, zA]
 refine zr (.bool false) V1 (xo_neqF .i64 kind kind (by omega) rfl rfl rfl) ?_
 simp only [Act.put, zA]
 refine zr (.bool false) V1 rfl ?_
 simp only [Act.put, zA]
 refine zr (.pointer (some ⟨w.heap.size, 1, none⟩)) V1 (xo_fld0 1 w.heap.size 1 (by kernel_rfl) rfl rfl) ?_
 simp only [Act.put, zA]
 refine zr (.int .i64 col) V1 (xo_load1 ⟨w.heap.size, 1, none⟩ _ (cells_at Fv0_2.out 1 rfl) Tryd.underlying3 rfl rfl rfl) ?_
 simp only [Act.put, zA]
 refine zr (.pointer (some ⟨(w.heap.size + 1), 1, none⟩)) V1 (xo_fld0 1 (w.heap.size + 1) 1 (by kernel_rfl) rfl rfl) ?_
 simp only [Act.put, zA]
 refine zr (.int .i64 col) V1 (xo_load1 ⟨(w.heap.size + 1), 1, none⟩ _ (cells_at Fv1_3.out 1 rfl) Tryd.underlying3 rfl rfl rfl) ?_
 simp only [Act.put, zA]
 refine zr (.bool false) V1 (xo_neqF .i64 col col (by omega) rfl rfl rfl) ?_
 simp only [Act.put, zA]
 refine zr (.bool false) V1 rfl ?_
 simp only [Act.put, zA]
 refine zr (.bool false) V1 rfl ?_
 simp only [Act.put, zA]
 refine zr (.pointer (some ⟨w.heap.size, 2, none⟩)) V1 (xo_fld0 2 w.heap.size 2 (by kernel_rfl) rfl rfl) ?_
 simp only [Act.put, zA]
 refine zr (.int .i64 k) V1 (xo_load1 ⟨w.heap.size, 2, none⟩ _ (cells_at Fv0_2.out 2 rfl) Tryd.underlying3 rfl rfl rfl) ?_
 simp only [Act.put, zA]
 refine zr (.pointer (some ⟨(w.heap.size + 1), 2, none⟩)) V1 (xo_fld0 2 (w.heap.size + 1) 2 (by kernel_rfl) rfl rfl) ?_
 simp only [Act.put, zA]
 refine zr (.int .i64 k) V1 (xo_load1 ⟨(w.heap.size + 1), 2, none⟩ _ (cells_at Fv1_3.out 2 rfl) Tryd.underlying3 rfl rfl rfl) ?_
 simp only [Act.put, zA]
 refine zr (.bool false) V1 (xo_neqF .i64 k k (by omega) rfl rfl rfl) ?_
 simp only [Act.put, zA]
 refine zr (.bool false) V1 rfl ?_
 simp only [Act.put, zA]
 refine zr (.bool false) V1 rfl ?_
 simp only [Act.put, zA]
 refine zr (.pointer (some ⟨w.heap.size, 3, none⟩)) V1 (xo_fld0 3 w.heap.size 3 (by kernel_rfl) rfl rfl) ?_
 simp only [Act.put, zA]
 refine zr (.slice A n c) V1 (xo_load1 ⟨w.heap.size, 3, none⟩ _ (cells_at Fv0_2.out 3 rfl) Tryd.underlying22 rfl rfl rfl) ?_
 simp only [Act.put, zA]
 refine zr (.int .i64 (n : Int)) V1 (xo_len A n c Tryd.underlying22 rfl rfl) ?_
 simp only [Act.put, zA]
 refine zr (.pointer (some ⟨(w.heap.size + 1), 3, none⟩)) V1 (xo_fld0 3 (w.heap.size + 1) 3 (by kernel_rfl) rfl rfl) ?_
 simp only [Act.put, zA]
 refine zr (.slice A2 n c2) V1 (xo_load1 ⟨(w.heap.size + 1), 3, none⟩ _ (cells_at Fv1_3.out 3 rfl) Tryd.underlying22 rfl rfl rfl) ?_
 simp only [Act.put, zA]
 refine zr (.int .i64 (n : Int)) V1 (xo_len A2 n c2 Tryd.underlying22 rfl rfl) ?_
 simp only [Act.put, zA]
 refine zr (.bool false) V1 (xo_neqF .i64 (n : Int) (n : Int) (by omega) rfl rfl rfl) ?_
 simp only [Act.put, zA]
 refine zr (.bool false) V1 rfl ?_
 simp only [Act.put, zA]
 refine wpList_nil ?_
 go_upto_region 3 with fail
 refine wp_region_lit ?_
 refine zr (.int .i64 0) V1 rfl ?_
 simp only [Act.put, zA]
 refine wpList_nil ?_
 have O3 := Fv0_2.out
 have O4 := Fv1_3.out
 have O5 := B0.out
 go_wp2_with fail
 go_loopw [5] (fun p wr => ∃ i : Nat, i ≤ n ∧ p = .int .i64 i ∧ wr.heap[w.heap.size]? = some (.cells #[.int .i64 kind, .int .i64 col, .int .i64 k, .slice A n c] 24 (0, 0)) ∧ wr.heap[(w.heap.size + 1)]? = some (.cells #[.int .i64 kind, .int .i64 col, .int .i64 k, .slice A2 n c2] 24 (0, 0)) ∧ Below w.heap.size w wr) (fun p _ => n - (intOf p).toNat)
 case atStart => exact ⟨0, Nat.zero_le _, rfl, O3, O4, O5⟩
 case round =>
  clear O3 O4 O5
  obtain ⟨wo, rfl⟩ : ∃ wo : World, wo = wr := ⟨_, rfl⟩
  obtain ⟨i, hi, rfl, hr0, hr1, hb0⟩ := hrel
  have hbr := hb0
  clear B0
  have B0 := zh hbr
  clear hbr
  clear Fv0_2
  have Fv0_2 : Hid (wo.heap[w.heap.size]? = some (.cells #[.int .i64 kind, .int .i64 col, .int .i64 k, .slice A n c] 24 (0, 0))) := zh (hr0)
  clear Fv1_3
  have Fv1_3 : Hid (wo.heap[(w.heap.size + 1)]? = some (.cells #[.int .i64 kind, .int .i64 col, .int .i64 k, .slice A2 n c2] 24 (0, 0))) := zh (hr1)
  clear hb0 hr0 hr1
  by_cases hi2 : i < n
  ·have hci7 : ((i : Int) < (n : Int)) := by omega
   obtain ⟨h, hh⟩ : ∃ h, hs[i]? = some h := ⟨_, List.getElem?_eq_getElem (by omega)⟩
   obtain ⟨h2, hh2⟩ : ∃ h, hs2[i]? = some h := ⟨_, List.getElem?_eq_getElem (by omega)⟩
   obtain ⟨xs, hxs⟩ : ∃ x, fs[i]? = some x := ⟨_, List.getElem?_eq_getElem (by omega)⟩
   have HH := zh hh
   have HH2 := zh hh2
   have HX := zh hxs
   clear hh hh2 hxs
   have hr1 := (HF1.out.keep B0.out).row i h xs HH.out HX.out
   have hr2 := (HF2.out.keep B0.out).row i h2 xs HH2.out HX.out
   obtain ⟨hA, m, hc⟩ := h
   obtain ⟨hA2, m2, hc2⟩ := h2
   have hm1 : xs.length = m := hr1.len
   obtain rfl : m = m2 := hm1.symm.trans hr2.len
   have hmc : m ≤ hc := hr1.cap
   have hmt : hc ≤ 9223372036854775807 := hr1.top
   have hmc2 : m ≤ hc2 := hr2.cap
   have hmt2 : hc2 ≤ 9223372036854775807 := hr2.top
   clear hr1 hr2
   have hci8 : ¬ ((m : Int) ≠ (m : Int)) := by omega
   go_upto_region 4 with fail
   refine wp_region_lit ?_
   refine zr (.int .i64 (i : Int)) wo rfl ?_
   simp only [Act.put, zA]
   refine zr (.pointer (some ⟨w.heap.size, 3, none⟩)) wo (xo_fld0 3 w.heap.size 3 (by kernel_rfl) rfl rfl) ?_
   simp only [Act.put, zA]
   refine zr (.slice A n c) wo (xo_load1 ⟨w.heap.size, 3, none⟩ _ (cells_at Fv0_2.out 3 rfl) Tryd.underlying22 rfl rfl rfl) ?_
   simp only [Act.put, zA]
   refine zr (.int .i64 (n : Int)) wo (xo_len A n c Tryd.underlying22 rfl rfl) ?_
   simp only [Act.put, zA]
   refine zr (.bool true) wo (xo_lssT .i64 (i : Int) (n : Int) (by omega) rfl rfl rfl) ?_
   simp only [Act.put, zA]
   refine wpList_nil ?_
   go_upto_region 6 with fail
   refine wp_later_lex (by kernel_rfl) (lexOK_of (by kernel_rfl) (by kernel_rfl)) ?_
   refine zv (.pointer (some ⟨w.heap.size, 3, none⟩)) (fun v hv => (xo_fld0 3 w.heap.size 3 (by kernel_rfl) rfl rfl)) ?_
   simp only [Act.put, zA]
   refine zv (.slice A n c) (fun v hv => (xo_load1 ⟨w.heap.size, 3, none⟩ _ (cells_at (heap_keep Fv0_2.out (later_bel hv)) 3 rfl) Tryd.underlying22 rfl rfl rfl)) ?_
   simp only [Act.put, zA]
   refine zv (.int .i64 (i : Int)) (fun v hv => rfl) ?_
   simp only [Act.put, zA]
   refine zv (.pointer (some (gad A (i * 1)))) (fun v hv => (xg_idx .i64 ((HF1.out.keep B0.out).keep (later_bel hv)).sg HH.out Tryd.underlying22 (by kernel_rfl) rfl rfl rfl)) ?_
   simp only [Act.put, zA]
   refine zv (.slice hA m hc) (fun v hv => (xg_load1 (E := hdC) (i := i) (j := 0) ((HF1.out.keep B0.out).keep (later_bel hv)).sg HH.out rfl rfl Tryd.underlying28 rfl rfl rfl)) ?_
   simp only [Act.put, zA]
   refine zv (.int .i64 (m : Int)) (fun v hv => (xo_len hA m hc Tryd.underlying28 rfl rfl)) ?_
   simp only [Act.put, zA]
   refine zv (.pointer (some ⟨(w.heap.size + 1), 3, none⟩)) (fun v hv => (xo_fld0 3 (w.heap.size + 1) 3 (by kernel_rfl) rfl rfl)) ?_
   simp only [Act.put, zA]
   refine zv (.slice A2 n c2) (fun v hv => (xo_load1 ⟨(w.heap.size + 1), 3, none⟩ _ (cells_at (heap_keep Fv1_3.out (later_bel hv)) 3 rfl) Tryd.underlying22 rfl rfl rfl)) ?_
   simp only [Act.put, zA]
   refine zv (.int .i64 (i : Int)) (fun v hv => rfl) ?_
   simp only [Act.put, zA]
   refine zv (.pointer (some (gad A2 (i * 1)))) (fun v hv => (xg_idx .i64 ((HF2.out.keep B0.out).keep (later_bel hv)).sg HH2.out Tryd.underlying22 (by kernel_rfl) rfl rfl rfl)) ?_
   simp only [Act.put, zA]
   refine zv (.slice hA2 m hc2) (fun v hv => (xg_load1 (E := hdC) (i := i) (j := 0) ((HF2.out.keep B0.out).keep (later_bel hv)).sg HH2.out rfl rfl Tryd.underlying28 rfl rfl rfl)) ?_
   simp only [Act.put, zA]
   refine zv (.int .i64 (m : Int)) (fun v hv => (xo_len hA2 m hc2 Tryd.underlying28 rfl rfl)) ?_
   simp only [Act.put, zA]
   refine zv (.bool false) (fun v hv => (xo_neqF .i64 (m : Int) (m : Int) (by omega) rfl rfl rfl)) ?_
   simp only [Act.put, zA]
   refine wpQuiet_nil ?_
   intro X1_9
   have hb := X1_9.below
   generalize X1_9.at = V2 at *
   have B1 := zh hb
   clear hb
   go_upto_region 8 with fail
   refine wp_region_lit ?_
   refine zr (.int .i64 0) V2 rfl ?_
   simp only [Act.put, zA]
   refine wpList_nil ?_
   have O10 := (heap_keep Fv0_2.out B1.out)
   have O11 := (heap_keep Fv1_3.out B1.out)
   have C0_2 := zb B0 B1
   have O12 := C0_2.out
   go_wp2_with fail
   go_loopw [6] (fun p wr => ∃ j : Nat, j ≤ m ∧ p = .int .i64 j ∧ wr.heap[w.heap.size]? = some (.cells #[.int .i64 kind, .int .i64 col, .int .i64 k, .slice A n c] 24 (0, 0)) ∧ wr.heap[(w.heap.size + 1)]? = some (.cells #[.int .i64 kind, .int .i64 col, .int .i64 k, .slice A2 n c2] 24 (0, 0)) ∧ Below w.heap.size w wr) (fun p _ => m - (intOf p).toNat)
   case atStart => exact ⟨0, Nat.zero_le _, rfl, O10, O11, O12⟩
   case round =>
    clear O10 O11 O12
    obtain ⟨wq, rfl⟩ : ∃ wq : World, wq = wr := ⟨_, rfl⟩
    obtain ⟨j, hi, rfl, hr0, hr1, hb0⟩ := hrel
    have hbr := hb0
    clear B0
    have B0 := zh hbr
    clear hbr
    clear Fv0_2
    have Fv0_2 : Hid (wq.heap[w.heap.size]? = some (.cells #[.int .i64 kind, .int .i64 col, .int .i64 k, .slice A n c] 24 (0, 0))) := zh (hr0)
    clear Fv1_3
    have Fv1_3 : Hid (wq.heap[(w.heap.size + 1)]? = some (.cells #[.int .i64 kind, .int .i64 col, .int .i64 k, .slice A2 n c2] 24 (0, 0))) := zh (hr1)
    clear hb0 hr0 hr1
    by_cases hj2 : j < m
    ·have hci14 : ((j : Int) < (m : Int)) := by omega
     obtain ⟨e0, hx⟩ : ∃ e, xs[j]? = some e := ⟨_, List.getElem?_eq_getElem (by omega)⟩
     obtain ⟨ca, cb, cc⟩ := e0
     have HE := zh hx
     clear hx
     go_upto_region 9 with fail
     refine wp_region_lit ?_
     refine zr (.int .i64 (j : Int)) wq rfl ?_
     simp only [Act.put, zA]
     refine zr (.pointer (some ⟨w.heap.size, 3, none⟩)) wq (xo_fld0 3 w.heap.size 3 (by kernel_rfl) rfl rfl) ?_
     simp only [Act.put, zA]
     refine zr (.slice A n c) wq (xo_load1 ⟨w.heap.size, 3, none⟩ _ (cells_at Fv0_2.out 3 rfl) Tryd.underlying22 rfl rfl rfl) ?_
     simp only [Act.put, zA]
     refine zr (.int .i64 (i : Int)) wq rfl ?_
     simp only [Act.put, zA]
     refine zr (.pointer (some (gad A (i * 1)))) wq (xg_idx .i64 (HF1.out.keep B0.out).sg HH.out Tryd.underlying22 (by kernel_rfl) rfl rfl rfl) ?_
     simp only [Act.put, zA]
     refine zr (.slice hA m hc) wq (xg_load1 (E := hdC) (i := i) (j := 0) (HF1.out.keep B0.out).sg HH.out rfl rfl Tryd.underlying28 rfl rfl rfl) ?_
     simp only [Act.put, zA]
     refine zr (.int .i64 (m : Int)) wq (xo_len hA m hc Tryd.underlying28 rfl rfl) ?_
     simp only [Act.put, zA]
     refine zr (.bool true) wq (xo_lssT .i64 (j : Int) (m : Int) (by omega) rfl rfl rfl) ?_
     simp only [Act.put, zA]
     refine wpList_nil ?_
     go_upto_region 11 with fail
     refine wp_later_lex (by kernel_rfl) (lexOK_of (by kernel_rfl) (by kernel_rfl)) ?_
     refine zv (.pointer (some ⟨w.heap.size, 3, none⟩)) (fun v hv => (xo_fld0 3 w.heap.size 3 (by kernel_rfl) rfl rfl)) ?_
     simp only [Act.put, zA]
     refine zv (.slice A n c) (fun v hv => (xo_load1 ⟨w.heap.size, 3, none⟩ _ (cells_at (heap_keep Fv0_2.out (later_bel hv)) 3 rfl) Tryd.underlying22 rfl rfl rfl)) ?_
     simp only [Act.put, zA]
     refine zv (.int .i64 (i : Int)) (fun v hv => rfl) ?_
     simp only [Act.put, zA]
     refine zv (.pointer (some (gad A (i * 1)))) (fun v hv => (xg_idx .i64 ((HF1.out.keep B0.out).keep (later_bel hv)).sg HH.out Tryd.underlying22 (by kernel_rfl) rfl rfl rfl)) ?_
     simp only [Act.put, zA]
     refine zv (.slice hA m hc) (fun v hv => (xg_load1 (E := hdC) (i := i) (j := 0) ((HF1.out.keep B0.out).keep (later_bel hv)).sg HH.out rfl rfl Tryd.underlying28 rfl rfl rfl)) ?_
     simp only [Act.put, zA]
     refine zv (.int .i64 (j : Int)) (fun v hv => rfl) ?_
     simp only [Act.put, zA]
     refine zv (.pointer (some (gad hA (j * 3)))) (fun v hv => (xg_idx .i64 (((HF1.out.keep B0.out).keep (later_bel hv)).row i ⟨hA, m, hc⟩ xs HH.out HX.out) HE.out Tryd.underlying28 (by kernel_rfl) rfl rfl rfl)) ?_
     simp only [Act.put, zA]
     refine zv (.agg #[.int .i64 ca, .int .i64 cb, .int .i64 cc]) (fun v hv => (xg_loadE (E := ciC) (((HF1.out.keep B0.out).keep (later_bel hv)).row i ⟨hA, m, hc⟩ xs HH.out HX.out) HE.out Tryd.underlying46 rfl (by kernel_rfl) rfl rfl)) ?_
     simp only [Act.put, zA]
     refine zv (.pointer (some ⟨(w.heap.size + 1), 3, none⟩)) (fun v hv => (xo_fld0 3 (w.heap.size + 1) 3 (by kernel_rfl) rfl rfl)) ?_
     simp only [Act.put, zA]
     refine zv (.slice A2 n c2) (fun v hv => (xo_load1 ⟨(w.heap.size + 1), 3, none⟩ _ (cells_at (heap_keep Fv1_3.out (later_bel hv)) 3 rfl) Tryd.underlying22 rfl rfl rfl)) ?_
     simp only [Act.put, zA]
     refine zv (.int .i64 (i : Int)) (fun v hv => rfl) ?_
     simp only [Act.put, zA]
     refine zv (.pointer (some (gad A2 (i * 1)))) (fun v hv => (xg_idx .i64 ((HF2.out.keep B0.out).keep (later_bel hv)).sg HH2.out Tryd.underlying22 (by kernel_rfl) rfl rfl rfl)) ?_
     simp only [Act.put, zA]
     refine zv (.slice hA2 m hc2) (fun v hv => (xg_load1 (E := hdC) (i := i) (j := 0) ((HF2.out.keep B0.out).keep (later_bel hv)).sg HH2.out rfl rfl Tryd.underlying28 rfl rfl rfl)) ?_
     simp only [Act.put, zA]
     refine zv (.int .i64 (j : Int)) (fun v hv => rfl) ?_
     simp only [Act.put, zA]
     refine zv (.pointer (some (gad hA2 (j * 3)))) (fun v hv => (xg_idx .i64 (((HF2.out.keep B0.out).keep (later_bel hv)).row i ⟨hA2, m, hc2⟩ xs HH2.out HX.out) HE.out Tryd.underlying28 (by kernel_rfl) rfl rfl rfl)) ?_
     simp only [Act.put, zA]
     refine zv (.agg #[.int .i64 ca, .int .i64 cb, .int .i64 cc]) (fun v hv => (xg_loadE (E := ciC) (((HF2.out.keep B0.out).keep (later_bel hv)).row i ⟨hA2, m, hc2⟩ xs HH2.out HX.out) HE.out Tryd.underlying46 rfl (by kernel_rfl) rfl rfl)) ?_
     simp only [Act.put, zA]
     refine zv (.bool false) (fun v hv => (xc_ne ca cb cc rfl rfl rfl)) ?_
     simp only [Act.put, zA]
     refine wpQuiet_nil ?_
     intro X1_15
     have hb := X1_15.below
     generalize X1_15.at = V2 at *
     have B1 := zh hb
     clear hb
     go_upto_region 10 with fail
     refine wp_region_lit ?_
     refine zr (.int .i64 (j : Int)) V2 rfl ?_
     simp only [Act.put, zA]
     refine zr (.int .i64 ((j + 1 : Nat) : Int)) V2 (xo_addI (j : Int) 1 ((j + 1 : Nat) : Int) (by omega) (by omega) (by omega) rfl rfl rfl) ?_
     simp only [Act.put, zA]
     refine zr (.int .i64 ((j + 1 : Nat) : Int)) V2 rfl ?_
     simp only [Act.put, zA]
     refine wpList_nil ?_
     have hq16 := (heap_keep Fv0_2.out B1.out)
     have hq17 := (heap_keep Fv1_3.out B1.out)
     have C0_2 := zb B0 B1
     have hq18 := C0_2.out
     go_wp2_with fail
     go_roundw
     case rel => exact ⟨j + 1, by omega, by go_num, hq16, hq17, hq18⟩
     case measure => simp [intOf]; omega
    ·have hci14 : ¬ ((j : Int) < (m : Int)) := by omega
     go_upto_region 9 with fail
     refine wp_region_lit ?_
     refine zr (.int .i64 (j : Int)) wq rfl ?_
     simp only [Act.put, zA]
     refine zr (.pointer (some ⟨w.heap.size, 3, none⟩)) wq (xo_fld0 3 w.heap.size 3 (by kernel_rfl) rfl rfl) ?_
     simp only [Act.put, zA]
     refine zr (.slice A n c) wq (xo_load1 ⟨w.heap.size, 3, none⟩ _ (cells_at Fv0_2.out 3 rfl) Tryd.underlying22 rfl rfl rfl) ?_
     simp only [Act.put, zA]
     refine zr (.int .i64 (i : Int)) wq rfl ?_
     simp only [Act.put, zA]
     refine zr (.pointer (some (gad A (i * 1)))) wq (xg_idx .i64 (HF1.out.keep B0.out).sg HH.out Tryd.underlying22 (by kernel_rfl) rfl rfl rfl) ?_
     simp only [Act.put, zA]
     refine zr (.slice hA m hc) wq (xg_load1 (E := hdC) (i := i) (j := 0) (HF1.out.keep B0.out).sg HH.out rfl rfl Tryd.underlying28 rfl rfl rfl) ?_
     simp only [Act.put, zA]
     refine zr (.int .i64 (m : Int)) wq (xo_len hA m hc Tryd.underlying28 rfl rfl) ?_
     simp only [Act.put, zA]
     refine zr (.bool false) wq (xo_lssF .i64 (j : Int) (m : Int) (by omega) rfl rfl rfl) ?_
     simp only [Act.put, zA]
     refine wpList_nil ?_
     go_upto_region 5 with fail
     refine wp_region_lit ?_
     refine zr (.int .i64 (i : Int)) wq rfl ?_
     simp only [Act.put, zA]
     refine zr (.int .i64 ((i + 1 : Nat) : Int)) wq (xo_addI (i : Int) 1 ((i + 1 : Nat) : Int) (by omega) (by omega) (by omega) rfl rfl rfl) ?_
     simp only [Act.put, zA]
     refine zr (.int .i64 ((i + 1 : Nat) : Int)) wq rfl ?_
     simp only [Act.put, zA]
     refine wpList_nil ?_
     have hq15 := Fv0_2.out
     have hq16 := Fv1_3.out
     have hq17 := B0.out
     go_wp2_with fail
     go_roundw
     case rel => exact ⟨i + 1, by omega, by go_num, hq15, hq16, hq17⟩
     case measure => simp [intOf]; omega
  ·have hci7 : ¬ ((i : Int) < (n : Int)) := by omega
   go_upto_region 4 with fail
   refine wp_region_lit ?_
   refine zr (.int .i64 (i : Int)) wo rfl ?_
   simp only [Act.put, zA]
   refine zr (.pointer (some ⟨w.heap.size, 3, none⟩)) wo (xo_fld0 3 w.heap.size 3 (by kernel_rfl) rfl rfl) ?_
   simp only [Act.put, zA]
   refine zr (.slice A n c) wo (xo_load1 ⟨w.heap.size, 3, none⟩ _ (cells_at Fv0_2.out 3 rfl) Tryd.underlying22 rfl rfl rfl) ?_
   simp only [Act.put, zA]
   refine zr (.int .i64 (n : Int)) wo (xo_len A n c Tryd.underlying22 rfl rfl) ?_
   simp only [Act.put, zA]
   refine zr (.bool false) wo (xo_lssF .i64 (i : Int) (n : Int) (by omega) rfl rfl rfl) ?_
   simp only [Act.put, zA]
   refine wpList_nil ?_
   go_upto_region 13 with fail
   refine wp_region_lit ?_
   refine zr (.bool true) wo rfl ?_
   simp only [Act.put, zA]
   refine wpList_nil ?_
   have hbf := B0.out
   go_wp2_with fail
   go_ret
   exact ⟨rfl, hbf⟩
set_option maxRecDepth 100000 in
set_option maxHeartbeats 32000000 in
theorem fails_yes (s : List UInt8) (off er : Nat) (hp : Qu.parseN s = (Qu.zeroQ, off, er)) (w : World) (hG : Gc w) :
  Calls Tryd.prog 28 #[.string (sB s), .int .i64 (off : Int), .int .i64 (er : Int)] w fun e w' => e = .returned (.bool true) ∧ Below w.heap.size w w' := by
 have HG := zh hG
 have HP := zh hp
 clear hG hp
 go_enter Tryd.func28, Tryd.ntmps28
 go_upto_region 1 with fail
 refine wp_region_lit ?_
 refine zr (.string (sB s)) w rfl ?_
 simp only [Act.put, zA]
 refine wpList_call (by kernel_rfl) 20 Tryd.func20 (by kernel_rfl) (by kernel_rfl) _ _ #[.string (sB s)] rfl (by kernel_rfl) ?_
 refine (parse_as s w HG.out Qu.zeroQ off er HP.out).mono ?_
 rintro e V1 ⟨A, n, c, rfl, hfo, hb⟩
 have B0 := zh hb
 have HFO := zh hfo
 clear hb hfo
 refine ⟨_, rfl, ?_⟩
 simp only [Act.put, zA]
 refine zr (.tuple #[.agg #[.int .i64 0, .int .i64 0, .int .i64 0, .slice A n c], .int .i64 (off : Int), .int .i64 (er : Int)]) V1 rfl ?_
 simp only [Act.put, zA]
 refine zr (.agg #[.int .i64 0, .int .i64 0, .int .i64 0, .slice A n c]) V1 rfl ?_
 simp only [Act.put, zA]
 refine zr (.int .i64 (off : Int)) V1 rfl ?_
 simp only [Act.put, zA]
 refine zr (.int .i64 (er : Int)) V1 rfl ?_
 simp only [Act.put, zA]
 refine wpList_new #[.int .i64 0, .int .i64 0, .int .i64 0, .slice none 0 0] 24 (by kernel_rfl) (xo_alloc #[.int .i64 0, .int .i64 0, .int .i64 0, .slice none 0 0] (by kernel_rfl) rfl) ?_
 intro b7 V2 hge h0 hb
 have Ge0 : Hid (V1.heap.size ≤ b7) := zh hge
 have B1 := zh hb
 have Fv1_7 : Hid (V2.heap[b7]? = some (.cells #[.int .i64 0, .int .i64 0, .int .i64 0, .slice none 0 0] 24 (0, 0))) := zh (h0)
 have Lt2 : Hid (b7 < V2.heap.size) := zh (xp_lt Fv1_7.out)
 clear hge h0 hb
 simp only [ptr, Act.put, zA]
 refine wpList_storeW b7 #[.int .i64 0, .int .i64 0, .int .i64 0, .slice none 0 0] #[.int .i64 0, .int .i64 0, .int .i64 0, .slice A n c] 24 (by kernel_rfl) Fv1_7.out (xo_storeW b7 #[.int .i64 0, .int .i64 0, .int .i64 0, .slice none 0 0] #[.int .i64 0, .int .i64 0, .int .i64 0, .slice A n c] Fv1_7.out (by kernel_rfl) rfl (by simp [Value.oneCell']) rfl rfl rfl) ?_
 intro X2_3 h1 hfar hbel hsz
 have hbr := hbel _ _ Ge0.out B1.out
 clear B1
 have B1 := zh hbr
 clear hbr
 clear Fv1_7
 have Fv1_7 : Hid (X2_3.heap[b7]? = some (.cells #[.int .i64 0, .int .i64 0, .int .i64 0, .slice A n c] 24 (0, 0))) := zh (h1)
 have HszX2_3 := zh hsz
 clear h1 hfar hbel hsz
 simp only [ptr, Act.put, zA]
 refine zr (.int .i64 (off : Int)) X2_3 rfl ?_
 simp only [Act.put, zA]
 refine zr (.int .i64 (er : Int)) X2_3 rfl ?_
 simp only [Act.put, zA]
 refine wpList_nil ?_
 have hfo2 := FsOwn.fsR (HFO.out.keep B1.out)
 obtain ⟨hn0, hs, hfr⟩ := hfo2
 obtain rfl : n = 0 := hn0
 have HFR := zh hfr
 clear hfr
 have hci4 : ((off : Int) = (off : Int)) := by omega
 have hci5 : ((er : Int) = (er : Int)) := by omega
 go_upto_region 2 with fail
 refine wp_region_lit ?_
 refine zr (.agg #[.int .i64 0, .int .i64 0, .int .i64 0, .slice A 0 c]) X2_3 (xo_loadW b7 _ Fv1_7.out Tryd.underlying24 rfl (by kernel_rfl) rfl rfl) ?_
 simp only [Act.put, zA]
 refine zr (.agg #[.int .i64 0, .int .i64 0, .int .i64 0, .slice none 0 0]) X2_3 (by unfold execOp; go_simp <;> rfl) ?_
 simp only [Act.put, zA]
 refine wpList_call (by kernel_rfl) 22 Tryd.func22 (by kernel_rfl) (by kernel_rfl) _ _ #[.agg #[.int .i64 0, .int .i64 0, .int .i64 0, .slice A 0 c], .agg #[.int .i64 0, .int .i64 0, .int .i64 0, .slice none 0 0]] rfl (by kernel_rfl) ?_
 refine (same_yes 0 0 0 A 0 c hs none 0 [] [] X2_3 HFR.out fsR_nil).mono ?_
 rintro e V3 ⟨rfl, hb⟩
 have B2 := zh hb
 clear hb 
 refine ⟨_, rfl, ?_⟩
 simp only [Act.put, zA]
 refine zr (.bool true) V3 rfl ?_
 simp only [Act.put, zA]
 refine zr (.int .i64 (off : Int)) V3 rfl ?_
 simp only [Act.put, zA]
 refine zr (.int .i64 (off : Int)) V3 rfl ?_
 simp only [Act.put, zA]
 refine zr (.bool true) V3 (xo_eqlT .i64 (off : Int) (off : Int) (by omega) rfl rfl rfl) ?_
 simp only [Act.put, zA]
 refine zr (.bool true) V3 rfl ?_
 simp only [Act.put, zA]
 refine zr (.bool true) V3 rfl ?_
 simp only [Act.put, zA]
 refine zr (.int .i64 (er : Int)) V3 rfl ?_
 simp only [Act.put, zA]
 refine zr (.int .i64 (er : Int)) V3 rfl ?_
 simp only [Act.put, zA]
 refine zr (.bool true) V3 (xo_eqlT .i64 (er : Int) (er : Int) (by omega) rfl rfl rfl) ?_
 simp only [Act.put, zA]
 refine zr (.bool true) V3 rfl ?_
 simp only [Act.put, zA]
 refine zr (.bool true) V3 rfl ?_
 simp only [Act.put, zA]
 refine wpList_nil ?_
 have C0_2 := zb B0 B1
 have C0_3 := zb C0_2 B2
 have hbf := C0_3.out
 go_wp2_with fail
 go_ret
 exact ⟨rfl, hbf⟩
end Go.Proofs.YtlicfidcfhbmpaaDoor

