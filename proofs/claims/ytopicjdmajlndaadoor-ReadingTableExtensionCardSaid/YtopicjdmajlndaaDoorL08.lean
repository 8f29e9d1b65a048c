/- Several texts in one: Qm, Qn. -/
import Derived.Test.YtopicjdmajlndaaDoorL07
namespace Go.Proofs.YtopicjdmajlndaaDoor
set_option linter.unusedVariables false
set_option linter.unusedSimpArgs false
set_option linter.unusedSectionVars false
set_option maxRecDepth 8000
open Go.RowKit Go.Proofs.YtopicjdmajlndaaDoor.K
attribute [local irreducible] wpList wpQuiet
/-- N elements, all of the field -/
def elB (xs : List Nat) (N : Nat) : Bool := xs.all (fun x => decide (x < 18446744069414584321)) && (xs.length == N)
theorem elB_eq (xs : List Nat) (N : Nat) : elB xs N = (xs.all (fun x => decide (x < 18446744069414584321)) && (xs.length == N)) := rfl
set_option maxRecDepth 100000 in
set_option maxHeartbeats 8000000 in
theorem sameCols_yes (A : Option Addr) (n c : Nat) (hs : List Hd) (A2 : Option Addr) (c2 : Nat) (hs2 : List Hd) (xss : List (List Nat)) (w : World) (h1 : Cols w A n c hs xss) (h2 : Cols w A2 n c2 hs2 xss) :
    Calls Tryd.prog 26 #[.slice A n c, .slice A2 n c2] w fun e w' => e = .returned (.bool true) ∧ Below w.heap.size w w' := by
  have HC := Lib.hid h1
  have HD := Lib.hid h2
  have hln := h1.n_eq
  have hcap := h1.head.cap
  have htop := h1.head.top
  clear h1 h2
  go_enter Tryd.func26, Tryd.ntmps26
  go_upto_region 1 with fail
  refine wp_region_lit ?_
  refine wpList_run (by kernel_rfl) (.slice A n c) w rfl ?_
  simp only [Act.put, List.setIfInBounds_toArray, List.set_cons_zero, List.set_cons_succ]
  refine wpList_run (by kernel_rfl) (.int .i64 (n : Int)) w (xo_len A n c Tryd.underlying38 rfl rfl) ?_
  simp only [Act.put, List.setIfInBounds_toArray, List.set_cons_zero, List.set_cons_succ]
  refine wpList_run (by kernel_rfl) (.slice A2 n c2) w rfl ?_
  simp only [Act.put, List.setIfInBounds_toArray, List.set_cons_zero, List.set_cons_succ]
  refine wpList_run (by kernel_rfl) (.int .i64 (n : Int)) w (xo_len A2 n c2 Tryd.underlying38 rfl rfl) ?_
  simp only [Act.put, List.setIfInBounds_toArray, List.set_cons_zero, List.set_cons_succ]
  refine wpList_run (by kernel_rfl) (.bool false) w (xo_neqF .i64 (n : Int) (n : Int) (by omega) rfl rfl rfl) ?_
  simp only [Act.put, List.setIfInBounds_toArray, List.set_cons_zero, List.set_cons_succ]
  refine wpList_nil ?_
  go_upto_region 3 with fail
  refine wp_region_lit ?_
  refine wpList_run (by kernel_rfl) (.int .i64 0) w rfl ?_
  simp only [Act.put, List.setIfInBounds_toArray, List.set_cons_zero, List.set_cons_succ]
  refine wpList_nil ?_
  have O0 := (Below.refl w.heap.size w)
  have B0 := Lib.hid (Below.refl w.heap.size w)
  go_wp2_with fail
  go_loopw [5] (fun p wr => ∃ i : Nat, i ≤ n ∧ p = .int .i64 i ∧ Below w.heap.size w wr) (fun p _ => n - (intOf p).toNat)
  case atStart => exact ⟨0, Nat.zero_le _, rfl, O0⟩
  case round =>
    clear O0
    obtain ⟨wo, rfl⟩ : ∃ wo : World, wo = wr := ⟨_, rfl⟩
    obtain ⟨i, hi, rfl, hb0⟩ := hrel
    have hbr := hb0
    clear B0
    have B0 := Lib.hid hbr
    clear hbr
    clear hb0 
    by_cases hlt2 : i < n
    · have hci2 : ((i : Int) < (n : Int)) := by omega
      obtain ⟨xs, hx⟩ : ∃ xs, xss[i]? = some xs := ⟨_, List.getElem?_eq_getElem (by omega)⟩
      have hl1 := HC.out.len
      have hl2 := HD.out.len
      obtain ⟨⟨A3, m3, c3⟩, hh3⟩ : ∃ h, hs[i]? = some h := ⟨_, List.getElem?_eq_getElem (by have := (HC.out.keep B0.out).len; omega)⟩
      have hrw3 := (HC.out.keep B0.out).row i _ _ hh3 hx
      have hml3 : xs.length = m3 := hrw3.len
      have HE3 := Lib.hid hh3
      have HR3 := Lib.hid hrw3
      simp only at HR3
      clear hh3 hrw3
      obtain ⟨⟨A4, m4, c4⟩, hh4⟩ : ∃ h, hs2[i]? = some h := ⟨_, List.getElem?_eq_getElem (by have := (HD.out.keep B0.out).len; omega)⟩
      have hrw4 := (HD.out.keep B0.out).row i _ _ hh4 hx
      have hml4 : xs.length = m4 := hrw4.len
      have HE4 := Lib.hid hh4
      have HR4 := Lib.hid hrw4
      simp only at HR4
      clear hh4 hrw4
      obtain rfl : m3 = m4 := by omega
      clear hx
      go_upto_region 4 with fail
      refine wp_region_lit ?_
      refine wpList_run (by kernel_rfl) (.int .i64 (i : Int)) wo rfl ?_
      simp only [Act.put, List.setIfInBounds_toArray, List.set_cons_zero, List.set_cons_succ]
      refine wpList_run (by kernel_rfl) (.slice A n c) wo rfl ?_
      simp only [Act.put, List.setIfInBounds_toArray, List.set_cons_zero, List.set_cons_succ]
      refine wpList_run (by kernel_rfl) (.int .i64 (n : Int)) wo (xo_len A n c Tryd.underlying38 rfl rfl) ?_
      simp only [Act.put, List.setIfInBounds_toArray, List.set_cons_zero, List.set_cons_succ]
      refine wpList_run (by kernel_rfl) (.bool true) wo (xo_lssT .i64 (i : Int) (n : Int) (by omega) rfl rfl rfl) ?_
      simp only [Act.put, List.setIfInBounds_toArray, List.set_cons_zero, List.set_cons_succ]
      refine wpList_nil ?_
      go_upto_region 6 with fail
      refine wp_later_lex (by kernel_rfl) (lexOK_of (by kernel_rfl) (by kernel_rfl)) ?_
      refine wpQuiet_val (by kernel_rfl) (.slice A n c) (fun v hv => rfl) ?_
      simp only [Act.put, List.setIfInBounds_toArray, List.set_cons_zero, List.set_cons_succ]
      refine wpQuiet_val (by kernel_rfl) (.int .i64 (i : Int)) (fun v hv => rfl) ?_
      simp only [Act.put, List.setIfInBounds_toArray, List.set_cons_zero, List.set_cons_succ]
      refine wpQuiet_val (by kernel_rfl) (.pointer (some (gad A (i * 1)))) (fun v hv => (xg_idx .i64 (Cols.head ((HC.out.keep B0.out).keep (later_bel hv))) HE3.out Tryd.underlying38 (by kernel_rfl) rfl rfl rfl)) ?_
      simp only [Act.put, List.setIfInBounds_toArray, List.set_cons_zero, List.set_cons_succ]
      refine wpQuiet_val (by kernel_rfl) (.slice A3 m3 c3) (fun v hv => (xg_load1 (E := hdC) (i := i) (j := 0) (Cols.head ((HC.out.keep B0.out).keep (later_bel hv))) HE3.out rfl rfl Tryd.underlying48 rfl rfl rfl)) ?_
      simp only [Act.put, List.setIfInBounds_toArray, List.set_cons_zero, List.set_cons_succ]
      refine wpQuiet_val (by kernel_rfl) (.int .i64 (m3 : Int)) (fun v hv => (xo_len A3 m3 c3 Tryd.underlying48 rfl rfl)) ?_
      simp only [Act.put, List.setIfInBounds_toArray, List.set_cons_zero, List.set_cons_succ]
      refine wpQuiet_val (by kernel_rfl) (.slice A2 n c2) (fun v hv => rfl) ?_
      simp only [Act.put, List.setIfInBounds_toArray, List.set_cons_zero, List.set_cons_succ]
      refine wpQuiet_val (by kernel_rfl) (.int .i64 (i : Int)) (fun v hv => rfl) ?_
      simp only [Act.put, List.setIfInBounds_toArray, List.set_cons_zero, List.set_cons_succ]
      refine wpQuiet_val (by kernel_rfl) (.pointer (some (gad A2 (i * 1)))) (fun v hv => (xg_idx .i64 (Cols.head ((HD.out.keep B0.out).keep (later_bel hv))) HE4.out Tryd.underlying38 (by kernel_rfl) rfl rfl rfl)) ?_
      simp only [Act.put, List.setIfInBounds_toArray, List.set_cons_zero, List.set_cons_succ]
      refine wpQuiet_val (by kernel_rfl) (.slice A4 m3 c4) (fun v hv => (xg_load1 (E := hdC) (i := i) (j := 0) (Cols.head ((HD.out.keep B0.out).keep (later_bel hv))) HE4.out rfl rfl Tryd.underlying48 rfl rfl rfl)) ?_
      simp only [Act.put, List.setIfInBounds_toArray, List.set_cons_zero, List.set_cons_succ]
      refine wpQuiet_val (by kernel_rfl) (.int .i64 (m3 : Int)) (fun v hv => (xo_len A4 m3 c4 Tryd.underlying48 rfl rfl)) ?_
      simp only [Act.put, List.setIfInBounds_toArray, List.set_cons_zero, List.set_cons_succ]
      refine wpQuiet_val (by kernel_rfl) (.bool false) (fun v hv => (xo_neqF .i64 (m3 : Int) (m3 : Int) (by omega) rfl rfl rfl)) ?_
      simp only [Act.put, List.setIfInBounds_toArray, List.set_cons_zero, List.set_cons_succ]
      refine wpQuiet_nil ?_
      intro X1_3
      have hb := X1_3.below
      generalize X1_3.at = V2 at *
      have B1 := Lib.hid hb
      clear hb
      go_upto_region 8 with fail
      refine wp_region_lit ?_
      refine wpList_run (by kernel_rfl) (.int .i64 0) V2 rfl ?_
      simp only [Act.put, List.setIfInBounds_toArray, List.set_cons_zero, List.set_cons_succ]
      refine wpList_nil ?_
      have htop3 := HR3.out.top
      have hcap3 := HR3.out.cap
      have O4 := (HR3.out.keep B1.out)
      have O5 := (HR4.out.keep B1.out)
      have C0_2 := Lib.hid (bel_step B0.out B1.out)
      have O6 := C0_2.out
      go_wp2_with fail
      go_loopw [6] (fun p wr => ∃ j : Nat, j ≤ m3 ∧ p = .int .i64 j ∧ Sg wdC 1 wr A3 m3 c3 xs ∧ Sg wdC 1 wr A4 m3 c4 xs ∧ Below w.heap.size w wr) (fun p _ => m3 - (intOf p).toNat)
      case atStart => exact ⟨0, Nat.zero_le _, rfl, O4, O5, O6⟩
      case round =>
        clear O6 O4 O5
        obtain ⟨wq, rfl⟩ : ∃ wq : World, wq = wr := ⟨_, rfl⟩
        obtain ⟨j, hi, rfl, hHR3, hHR4, hb0⟩ := hrel
        have hbr := hb0
        clear B0
        have B0 := Lib.hid hbr
        clear hbr
        have HR3 := Lib.hid hHR3
        have HR4 := Lib.hid hHR4
        clear hb0 hHR3 hHR4
        by_cases hlt3 : j < m3
        · have hci8 : ((j : Int) < (m3 : Int)) := by omega
          obtain ⟨x, hx⟩ : ∃ x, xs[j]? = some x := ⟨_, List.getElem?_eq_getElem (by omega)⟩
          have HX := Lib.hid hx
          clear hx
          go_upto_region 9 with fail
          refine wp_region_lit ?_
          refine wpList_run (by kernel_rfl) (.int .i64 (j : Int)) wq rfl ?_
          simp only [Act.put, List.setIfInBounds_toArray, List.set_cons_zero, List.set_cons_succ]
          refine wpList_run (by kernel_rfl) (.slice A n c) wq rfl ?_
          simp only [Act.put, List.setIfInBounds_toArray, List.set_cons_zero, List.set_cons_succ]
          refine wpList_run (by kernel_rfl) (.int .i64 (i : Int)) wq rfl ?_
          simp only [Act.put, List.setIfInBounds_toArray, List.set_cons_zero, List.set_cons_succ]
          refine wpList_run (by kernel_rfl) (.pointer (some (gad A (i * 1)))) wq (xg_idx .i64 (Cols.head (HC.out.keep B0.out)) HE3.out Tryd.underlying38 (by kernel_rfl) rfl rfl rfl) ?_
          simp only [Act.put, List.setIfInBounds_toArray, List.set_cons_zero, List.set_cons_succ]
          refine wpList_run (by kernel_rfl) (.slice A3 m3 c3) wq (xg_load1 (E := hdC) (i := i) (j := 0) (Cols.head (HC.out.keep B0.out)) HE3.out rfl rfl Tryd.underlying48 rfl rfl rfl) ?_
          simp only [Act.put, List.setIfInBounds_toArray, List.set_cons_zero, List.set_cons_succ]
          refine wpList_run (by kernel_rfl) (.int .i64 (m3 : Int)) wq (xo_len A3 m3 c3 Tryd.underlying48 rfl rfl) ?_
          simp only [Act.put, List.setIfInBounds_toArray, List.set_cons_zero, List.set_cons_succ]
          refine wpList_run (by kernel_rfl) (.bool true) wq (xo_lssT .i64 (j : Int) (m3 : Int) (by omega) rfl rfl rfl) ?_
          simp only [Act.put, List.setIfInBounds_toArray, List.set_cons_zero, List.set_cons_succ]
          refine wpList_nil ?_
          go_upto_region 11 with fail
          refine wp_later_lex (by kernel_rfl) (lexOK_of (by kernel_rfl) (by kernel_rfl)) ?_
          refine wpQuiet_val (by kernel_rfl) (.slice A n c) (fun v hv => rfl) ?_
          simp only [Act.put, List.setIfInBounds_toArray, List.set_cons_zero, List.set_cons_succ]
          refine wpQuiet_val (by kernel_rfl) (.int .i64 (i : Int)) (fun v hv => rfl) ?_
          simp only [Act.put, List.setIfInBounds_toArray, List.set_cons_zero, List.set_cons_succ]
          refine wpQuiet_val (by kernel_rfl) (.pointer (some (gad A (i * 1)))) (fun v hv => (xg_idx .i64 (Cols.head ((HC.out.keep B0.out).keep (later_bel hv))) HE3.out Tryd.underlying38 (by kernel_rfl) rfl rfl rfl)) ?_
          simp only [Act.put, List.setIfInBounds_toArray, List.set_cons_zero, List.set_cons_succ]
          refine wpQuiet_val (by kernel_rfl) (.slice A3 m3 c3) (fun v hv => (xg_load1 (E := hdC) (i := i) (j := 0) (Cols.head ((HC.out.keep B0.out).keep (later_bel hv))) HE3.out rfl rfl Tryd.underlying48 rfl rfl rfl)) ?_
          simp only [Act.put, List.setIfInBounds_toArray, List.set_cons_zero, List.set_cons_succ]
          refine wpQuiet_val (by kernel_rfl) (.int .i64 (j : Int)) (fun v hv => rfl) ?_
          simp only [Act.put, List.setIfInBounds_toArray, List.set_cons_zero, List.set_cons_succ]
          refine wpQuiet_val (by kernel_rfl) (.pointer (some (gad A3 (j * 1)))) (fun v hv => (xg_idx .i64 (HR3.out.keep (later_bel hv)) HX.out Tryd.underlying48 (by kernel_rfl) rfl rfl rfl)) ?_
          simp only [Act.put, List.setIfInBounds_toArray, List.set_cons_zero, List.set_cons_succ]
          refine wpQuiet_val (by kernel_rfl) (.int .u64 (x : Int)) (fun v hv => (xg_load1 (E := wdC) (i := j) (j := 0) (HR3.out.keep (later_bel hv)) HX.out rfl rfl Tryd.underlying50 rfl rfl rfl)) ?_
          simp only [Act.put, List.setIfInBounds_toArray, List.set_cons_zero, List.set_cons_succ]
          refine wpQuiet_val (by kernel_rfl) (.slice A2 n c2) (fun v hv => rfl) ?_
          simp only [Act.put, List.setIfInBounds_toArray, List.set_cons_zero, List.set_cons_succ]
          refine wpQuiet_val (by kernel_rfl) (.int .i64 (i : Int)) (fun v hv => rfl) ?_
          simp only [Act.put, List.setIfInBounds_toArray, List.set_cons_zero, List.set_cons_succ]
          refine wpQuiet_val (by kernel_rfl) (.pointer (some (gad A2 (i * 1)))) (fun v hv => (xg_idx .i64 (Cols.head ((HD.out.keep B0.out).keep (later_bel hv))) HE4.out Tryd.underlying38 (by kernel_rfl) rfl rfl rfl)) ?_
          simp only [Act.put, List.setIfInBounds_toArray, List.set_cons_zero, List.set_cons_succ]
          refine wpQuiet_val (by kernel_rfl) (.slice A4 m3 c4) (fun v hv => (xg_load1 (E := hdC) (i := i) (j := 0) (Cols.head ((HD.out.keep B0.out).keep (later_bel hv))) HE4.out rfl rfl Tryd.underlying48 rfl rfl rfl)) ?_
          simp only [Act.put, List.setIfInBounds_toArray, List.set_cons_zero, List.set_cons_succ]
          refine wpQuiet_val (by kernel_rfl) (.int .i64 (j : Int)) (fun v hv => rfl) ?_
          simp only [Act.put, List.setIfInBounds_toArray, List.set_cons_zero, List.set_cons_succ]
          refine wpQuiet_val (by kernel_rfl) (.pointer (some (gad A4 (j * 1)))) (fun v hv => (xg_idx .i64 (HR4.out.keep (later_bel hv)) HX.out Tryd.underlying48 (by kernel_rfl) rfl rfl rfl)) ?_
          simp only [Act.put, List.setIfInBounds_toArray, List.set_cons_zero, List.set_cons_succ]
          refine wpQuiet_val (by kernel_rfl) (.int .u64 (x : Int)) (fun v hv => (xg_load1 (E := wdC) (i := j) (j := 0) (HR4.out.keep (later_bel hv)) HX.out rfl rfl Tryd.underlying50 rfl rfl rfl)) ?_
          simp only [Act.put, List.setIfInBounds_toArray, List.set_cons_zero, List.set_cons_succ]
          refine wpQuiet_val (by kernel_rfl) (.bool false) (fun v hv => (xo_neqF .u64 (x : Int) (x : Int) (by omega) rfl rfl rfl)) ?_
          simp only [Act.put, List.setIfInBounds_toArray, List.set_cons_zero, List.set_cons_succ]
          refine wpQuiet_nil ?_
          intro X1_9
          have hb := X1_9.below
          generalize X1_9.at = V2 at *
          have B1 := Lib.hid hb
          clear hb
          have hk3 := (HR3.out.keep B1.out)
          have hk4 := (HR4.out.keep B1.out)
          go_upto_region 10 with fail
          refine wp_region_lit ?_
          refine wpList_run (by kernel_rfl) (.int .i64 (j : Int)) V2 rfl ?_
          simp only [Act.put, List.setIfInBounds_toArray, List.set_cons_zero, List.set_cons_succ]
          refine wpList_run (by kernel_rfl) (.int .i64 ((j + 1 : Nat) : Int)) V2 (xo_addI (j : Int) 1 ((j + 1 : Nat) : Int) (by omega) (by omega) (by omega) rfl rfl rfl) ?_
          simp only [Act.put, List.setIfInBounds_toArray, List.set_cons_zero, List.set_cons_succ]
          refine wpList_run (by kernel_rfl) (.int .i64 ((j + 1 : Nat) : Int)) V2 rfl ?_
          simp only [Act.put, List.setIfInBounds_toArray, List.set_cons_zero, List.set_cons_succ]
          refine wpList_nil ?_
          have C0_2 := Lib.hid (bel_step B0.out B1.out)
          have hq10 := C0_2.out
          go_wp2_with fail
          go_roundw
          case rel => exact ⟨j + 1, by omega, by go_num, hk3, hk4, hq10⟩
          case measure => simp [intOf]; omega
        · have hci8 : ¬ ((j : Int) < (m3 : Int)) := by omega
          go_upto_region 9 with fail
          refine wp_region_lit ?_
          refine wpList_run (by kernel_rfl) (.int .i64 (j : Int)) wq rfl ?_
          simp only [Act.put, List.setIfInBounds_toArray, List.set_cons_zero, List.set_cons_succ]
          refine wpList_run (by kernel_rfl) (.slice A n c) wq rfl ?_
          simp only [Act.put, List.setIfInBounds_toArray, List.set_cons_zero, List.set_cons_succ]
          refine wpList_run (by kernel_rfl) (.int .i64 (i : Int)) wq rfl ?_
          simp only [Act.put, List.setIfInBounds_toArray, List.set_cons_zero, List.set_cons_succ]
          refine wpList_run (by kernel_rfl) (.pointer (some (gad A (i * 1)))) wq (xg_idx .i64 (Cols.head (HC.out.keep B0.out)) HE3.out Tryd.underlying38 (by kernel_rfl) rfl rfl rfl) ?_
          simp only [Act.put, List.setIfInBounds_toArray, List.set_cons_zero, List.set_cons_succ]
          refine wpList_run (by kernel_rfl) (.slice A3 m3 c3) wq (xg_load1 (E := hdC) (i := i) (j := 0) (Cols.head (HC.out.keep B0.out)) HE3.out rfl rfl Tryd.underlying48 rfl rfl rfl) ?_
          simp only [Act.put, List.setIfInBounds_toArray, List.set_cons_zero, List.set_cons_succ]
          refine wpList_run (by kernel_rfl) (.int .i64 (m3 : Int)) wq (xo_len A3 m3 c3 Tryd.underlying48 rfl rfl) ?_
          simp only [Act.put, List.setIfInBounds_toArray, List.set_cons_zero, List.set_cons_succ]
          refine wpList_run (by kernel_rfl) (.bool false) wq (xo_lssF .i64 (j : Int) (m3 : Int) (by omega) rfl rfl rfl) ?_
          simp only [Act.put, List.setIfInBounds_toArray, List.set_cons_zero, List.set_cons_succ]
          refine wpList_nil ?_
          go_upto_region 5 with fail
          refine wp_region_lit ?_
          refine wpList_run (by kernel_rfl) (.int .i64 (i : Int)) wq rfl ?_
          simp only [Act.put, List.setIfInBounds_toArray, List.set_cons_zero, List.set_cons_succ]
          refine wpList_run (by kernel_rfl) (.int .i64 ((i + 1 : Nat) : Int)) wq (xo_addI (i : Int) 1 ((i + 1 : Nat) : Int) (by omega) (by omega) (by omega) rfl rfl rfl) ?_
          simp only [Act.put, List.setIfInBounds_toArray, List.set_cons_zero, List.set_cons_succ]
          refine wpList_run (by kernel_rfl) (.int .i64 ((i + 1 : Nat) : Int)) wq rfl ?_
          simp only [Act.put, List.setIfInBounds_toArray, List.set_cons_zero, List.set_cons_succ]
          refine wpList_nil ?_
          have hq9 := B0.out
          go_wp2_with fail
          go_roundw
          case rel => exact ⟨i + 1, by omega, by go_num, hq9⟩
          case measure => simp [intOf]; omega
    · have hci2 : ¬ ((i : Int) < (n : Int)) := by omega
      go_upto_region 4 with fail
      refine wp_region_lit ?_
      refine wpList_run (by kernel_rfl) (.int .i64 (i : Int)) wo rfl ?_
      simp only [Act.put, List.setIfInBounds_toArray, List.set_cons_zero, List.set_cons_succ]
      refine wpList_run (by kernel_rfl) (.slice A n c) wo rfl ?_
      simp only [Act.put, List.setIfInBounds_toArray, List.set_cons_zero, List.set_cons_succ]
      refine wpList_run (by kernel_rfl) (.int .i64 (n : Int)) wo (xo_len A n c Tryd.underlying38 rfl rfl) ?_
      simp only [Act.put, List.setIfInBounds_toArray, List.set_cons_zero, List.set_cons_succ]
      refine wpList_run (by kernel_rfl) (.bool false) wo (xo_lssF .i64 (i : Int) (n : Int) (by omega) rfl rfl rfl) ?_
      simp only [Act.put, List.setIfInBounds_toArray, List.set_cons_zero, List.set_cons_succ]
      refine wpList_nil ?_
      go_upto_region 13 with fail
      refine wp_region_lit ?_
      refine wpList_run (by kernel_rfl) (.bool true) wo rfl ?_
      simp only [Act.put, List.setIfInBounds_toArray, List.set_cons_zero, List.set_cons_succ]
      refine wpList_nil ?_
      go_wp2_with fail
      go_ret
      exact ⟨rfl, B0.out⟩
set_option maxRecDepth 100000 in
set_option maxHeartbeats 8000000 in
theorem elements_as (A : Option Addr) (n c : Nat) (xs : List Nat) (N : Nat) (b : Bool) (hb : elB xs N = b) (w : World) (h : Sg wdC 1 w A n c xs) :
    Calls Tryd.prog 64 #[.slice A n c, .int .i64 (N : Int)] w fun e w' => e = .returned (.bool b) ∧ Below w.heap.size w w' := by
  have HX := Lib.hid h
  have hln := h.len
  have hcap := h.cap
  have htop := h.top
  clear h
  go_enter Tryd.func64, Tryd.ntmps64
  go_upto_region 1 with fail
  refine wp_region_lit ?_
  refine wpList_run (by kernel_rfl) (.slice A n c) w rfl ?_
  simp only [Act.put, List.setIfInBounds_toArray, List.set_cons_zero, List.set_cons_succ]
  refine wpList_run (by kernel_rfl) (.int .i64 (n : Int)) w (xo_len A n c Tryd.underlying48 rfl rfl) ?_
  simp only [Act.put, List.setIfInBounds_toArray, List.set_cons_zero, List.set_cons_succ]
  refine wpList_run (by kernel_rfl) (.int .i64 0) w rfl ?_
  simp only [Act.put, List.setIfInBounds_toArray, List.set_cons_zero, List.set_cons_succ]
  refine wpList_nil ?_
  have O0 := (Below.refl w.heap.size w)
  have B0 := Lib.hid (Below.refl w.heap.size w)
  go_wp2_with fail
  go_loopw [9] (fun p wr => ∃ i : Nat, i ≤ n ∧ p = .int .i64 i ∧ (∀ x ∈ xs.take i, x < 18446744069414584321) ∧ Below w.heap.size w wr) (fun p _ => n - (intOf p).toNat)
  case atStart => exact ⟨0, Nat.zero_le _, rfl, (fun x hx => by simp at hx), O0⟩
  case round =>
    clear O0
    obtain ⟨wo, rfl⟩ : ∃ wo : World, wo = wr := ⟨_, rfl⟩
    obtain ⟨i, hi, rfl, hHA, hb0⟩ := hrel
    have hbr := hb0
    clear B0
    have B0 := Lib.hid hbr
    clear hbr
    have HA := Lib.hid hHA
    clear hb0 hHA
    by_cases hlt2 : i < n
    · have hci2 : ((i : Int) < (n : Int)) := by omega
      obtain ⟨x, hx⟩ : ∃ x, xs[i]? = some x := ⟨_, List.getElem?_eq_getElem (by omega)⟩
      have HE := Lib.hid hx
      go_upto_region 2 with fail
      refine wp_region_lit ?_
      refine wpList_run (by kernel_rfl) (.bool true) wo (xo_lssT .i64 (i : Int) (n : Int) (by omega) rfl rfl rfl) ?_
      simp only [Act.put, List.setIfInBounds_toArray, List.set_cons_zero, List.set_cons_succ]
      refine wpList_nil ?_
      go_upto_region 3 with fail
      refine wp_region_lit ?_
      refine wpList_run (by kernel_rfl) (.pointer (some (gad A (i * 1)))) wo (xg_idx .i64 (HX.out.keep B0.out) HE.out Tryd.underlying48 (by kernel_rfl) rfl rfl rfl) ?_
      simp only [Act.put, List.setIfInBounds_toArray, List.set_cons_zero, List.set_cons_succ]
      refine wpList_run (by kernel_rfl) (.int .u64 (x : Int)) wo (xg_load1 (E := wdC) (i := i) (j := 0) (HX.out.keep B0.out) HE.out rfl rfl Tryd.underlying50 rfl rfl rfl) ?_
      simp only [Act.put, List.setIfInBounds_toArray, List.set_cons_zero, List.set_cons_succ]
      refine wpList_run (by kernel_rfl) (.int .u64 (x : Int)) wo rfl ?_
      simp only [Act.put, List.setIfInBounds_toArray, List.set_cons_zero, List.set_cons_succ]
      refine wpList_nil ?_
      cases hv : decide (x < 18446744069414584321) with
      | false =>
        obtain rfl : b = false := by rw [← hb, elB_eq]; simp only [Bool.and_eq_false_iff, List.all_eq_false]; exact .inl ⟨x, List.mem_of_getElem? HE.out, by rw [hv]; exact Bool.false_ne_true⟩
        go_upto_region 4 with fail
        refine wp_region_lit ?_
        refine wpList_run (by kernel_rfl) (.int .u64 (x : Int)) wo rfl ?_
        simp only [Act.put, List.setIfInBounds_toArray, List.set_cons_zero, List.set_cons_succ]
        refine wpList_call (by kernel_rfl) 71 Tryd.func71 (by kernel_rfl) (by kernel_rfl) _ _ #[.int .u64 (x : Int)] rfl (by kernel_rfl) ?_
        refine (fvalid_as x false hv wo).mono ?_
        rintro e V2 ⟨rfl, hb⟩
        have B1 := Lib.hid hb
        clear hb 
        refine ⟨_, rfl, ?_⟩
        simp only [Act.put, List.setIfInBounds_toArray, List.set_cons_zero, List.set_cons_succ]
        refine wpList_run (by kernel_rfl) (.bool true) V2 rfl ?_
        simp only [Act.put, List.setIfInBounds_toArray, List.set_cons_zero, List.set_cons_succ]
        refine wpList_nil ?_
        go_upto_region 5 with fail
        refine wp_region_lit ?_
        refine wpList_run (by kernel_rfl) (.bool false) V2 rfl ?_
        simp only [Act.put, List.setIfInBounds_toArray, List.set_cons_zero, List.set_cons_succ]
        refine wpList_nil ?_
        go_wp2_with fail
        go_ret
        have C0_2 := Lib.hid (bel_step B0.out B1.out)
        exact ⟨rfl, C0_2.out⟩
      | true =>
        go_upto_region 4 with fail
        refine wp_region_lit ?_
        refine wpList_run (by kernel_rfl) (.int .u64 (x : Int)) wo rfl ?_
        simp only [Act.put, List.setIfInBounds_toArray, List.set_cons_zero, List.set_cons_succ]
        refine wpList_call (by kernel_rfl) 71 Tryd.func71 (by kernel_rfl) (by kernel_rfl) _ _ #[.int .u64 (x : Int)] rfl (by kernel_rfl) ?_
        refine (fvalid_as x true hv wo).mono ?_
        rintro e V2 ⟨rfl, hb⟩
        have B1 := Lib.hid hb
        clear hb 
        refine ⟨_, rfl, ?_⟩
        simp only [Act.put, List.setIfInBounds_toArray, List.set_cons_zero, List.set_cons_succ]
        refine wpList_run (by kernel_rfl) (.bool false) V2 rfl ?_
        simp only [Act.put, List.setIfInBounds_toArray, List.set_cons_zero, List.set_cons_succ]
        refine wpList_nil ?_
        go_upto_region 6 with fail
        refine wp_region_lit ?_
        refine wpList_run (by kernel_rfl) (.int .i64 ((i + 1 : Nat) : Int)) V2 (xo_addI (i : Int) 1 ((i + 1 : Nat) : Int) (by omega) (by omega) (by omega) rfl rfl rfl) ?_
        simp only [Act.put, List.setIfInBounds_toArray, List.set_cons_zero, List.set_cons_succ]
        refine wpList_run (by kernel_rfl) (.int .i64 ((i + 1 : Nat) : Int)) V2 rfl ?_
        simp only [Act.put, List.setIfInBounds_toArray, List.set_cons_zero, List.set_cons_succ]
        refine wpList_nil ?_
        have hta : ∀ y ∈ xs.take (i + 1), y < 18446744069414584321 := by
          intro y hy
          obtain ⟨hi1, rfl⟩ := List.getElem?_eq_some_iff.1 HE.out
          rw [List.take_succ_eq_append_getElem hi1] at hy
          rcases List.mem_append.1 hy with hy | hy
          · exact HA.out y hy
          · rw [List.mem_singleton] at hy; subst hy; exact of_decide_eq_true hv
        have C0_2 := Lib.hid (bel_step B0.out B1.out)
        have hq3 := C0_2.out
        go_wp2_with fail
        go_roundw
        case rel => exact ⟨i + 1, by omega, by go_num, hta, hq3⟩
        case measure => simp [intOf]; omega
    · have hci2 : ¬ ((i : Int) < (n : Int)) := by omega
      have hall : xs.all (fun x => decide (x < 18446744069414584321)) = true := by rw [List.all_eq_true]; intro x hx; exact decide_eq_true (HA.out x (by rw [List.take_of_length_le (by omega)]; exact hx))
      go_upto_region 2 with fail
      refine wp_region_lit ?_
      refine wpList_run (by kernel_rfl) (.bool false) wo (xo_lssF .i64 (i : Int) (n : Int) (by omega) rfl rfl rfl) ?_
      simp only [Act.put, List.setIfInBounds_toArray, List.set_cons_zero, List.set_cons_succ]
      refine wpList_nil ?_
      go_upto_region 7 with fail
      refine wp_region_lit ?_
      refine wpList_run (by kernel_rfl) (.slice A n c) wo rfl ?_
      simp only [Act.put, List.setIfInBounds_toArray, List.set_cons_zero, List.set_cons_succ]
      refine wpList_run (by kernel_rfl) (.int .i64 (n : Int)) wo (xo_len A n c Tryd.underlying48 rfl rfl) ?_
      simp only [Act.put, List.setIfInBounds_toArray, List.set_cons_zero, List.set_cons_succ]
      refine wpList_run (by kernel_rfl) (.int .i64 (N : Int)) wo rfl ?_
      simp only [Act.put, List.setIfInBounds_toArray, List.set_cons_zero, List.set_cons_succ]
      refine wpList_run (by kernel_rfl) (.bool b) wo (xo_cmp .eql .i64 (n : Int) (N : Int) b (.inl ⟨rfl, (by rw [← hb, elB_eq, hall, Bool.true_and, hln, Bool.eq_iff_iff]; simp only [beq_iff_eq]; omega)⟩) rfl rfl rfl) ?_
      simp only [Act.put, List.setIfInBounds_toArray, List.set_cons_zero, List.set_cons_succ]
      refine wpList_run (by kernel_rfl) (.bool b) wo rfl ?_
      simp only [Act.put, List.setIfInBounds_toArray, List.set_cons_zero, List.set_cons_succ]
      refine wpList_nil ?_
      go_wp2_with fail
      go_ret
      exact ⟨rfl, B0.out⟩
set_option maxRecDepth 100000 in
set_option maxHeartbeats 8000000 in
theorem zeros_any (q N : Nat) (hq : q ≤ 1000) (hN : N ≤ 1000000) (w : World) :
    Calls Tryd.prog 45 #[.int .i64 (q : Int), .int .i64 (N : Int)] w fun e w' => ∃ g, e = .returned (.slice (some ⟨g, 0, none⟩) q q) ∧ ∃ bs, RowG hdC w' g 48 (bs.map (mkH N)) ∧ RowsU w' 50 w.heap.size bs (List.replicate q (List.replicate N 0)) ∧ w.heap.size ≤ g ∧ g ∉ bs ∧ Below w.heap.size w w' := by
  go_enter Tryd.func45, Tryd.ntmps45
  go_upto_region 1 with fail
  refine wp_region_lit ?_
  refine wpList_run (by kernel_rfl) (.int .i64 (q : Int)) w rfl ?_
  simp only [Act.put, List.setIfInBounds_toArray, List.set_cons_zero, List.set_cons_succ]
  refine wpList_mk (by kernel_rfl) ((List.replicate q (Hd.mk none 0 0)).flatMap hdC).toArray 48 q q (xg_make (E := hdC) (bytes := 24) (.slice none 0 0) (Hd.mk none 0 0) q .i64 Tryd.underlying38 (by kernel_rfl) rfl (by omega) (by omega) rfl rfl rfl) ?_
  intro g8 V1 hge h0 hb
  have Ge0 : Hid (w.heap.size ≤ g8) := Lib.hid hge
  have B0 := Lib.hid hb
  have Fv1_8 : Hid (RowG hdC V1 g8 48 (List.replicate q (Hd.mk none 0 0))) := Lib.hid (h0)
  have Lt2 : Hid (g8 < V1.heap.size) := Lib.hid (xp_lt Fv1_8.out)
  clear hge h0 hb
  simp only [ptr, Act.put, List.setIfInBounds_toArray, List.set_cons_zero, List.set_cons_succ]
  refine wpList_run (by kernel_rfl) (.slice (some ⟨g8, 0, none⟩) q q) V1 rfl ?_
  simp only [Act.put, List.setIfInBounds_toArray, List.set_cons_zero, List.set_cons_succ]
  refine wpList_nil ?_
  go_upto_region 2 with fail
  refine wp_region_lit ?_
  refine wpList_run (by kernel_rfl) (.slice (some ⟨g8, 0, none⟩) q q) V1 rfl ?_
  simp only [Act.put, List.setIfInBounds_toArray, List.set_cons_zero, List.set_cons_succ]
  refine wpList_run (by kernel_rfl) (.int .i64 (q : Int)) V1 (xo_len (some ⟨g8, 0, none⟩) q q Tryd.underlying38 rfl rfl) ?_
  simp only [Act.put, List.setIfInBounds_toArray, List.set_cons_zero, List.set_cons_succ]
  refine wpList_run (by kernel_rfl) (.int .i64 0) V1 rfl ?_
  simp only [Act.put, List.setIfInBounds_toArray, List.set_cons_zero, List.set_cons_succ]
  refine wpList_nil ?_
  have GE8 : Hid (w.heap.size ≤ g8) := Lib.hid Ge0.out
  have O3 := Fv1_8.out
  have O4 := B0.out
  go_wp2_with fail
  go_loopw [11] (fun p wr => ∃ i : Nat, ∃ bs : List Nat, i ≤ q ∧ p = .int .i64 i ∧ bs.length = i ∧ RowsU wr 50 w.heap.size bs (List.replicate i (List.replicate N 0)) ∧ g8 ∉ bs ∧ RowG hdC wr g8 48 (bs.map (mkH N) ++ List.replicate (q - i) (Hd.mk none 0 0)) ∧ Below w.heap.size w wr) (fun p _ => q - (intOf p).toNat)
  case atStart => exact ⟨0, [], Nat.zero_le _, rfl, rfl, RowsU.nil, List.not_mem_nil, O3, O4⟩
  case round =>
    clear O3 O4
    obtain ⟨wo, rfl⟩ : ∃ wo : World, wo = wr := ⟨_, rfl⟩
    obtain ⟨i, bs, hi, rfl, hhbl, hHB, hHNB, hr0, hb0⟩ := hrel
    have hbr := hb0
    clear B0
    have B0 := Lib.hid hbr
    clear hbr
    clear Fv1_8
    have Fv1_8 : Hid (RowG hdC wo g8 48 (bs.map (mkH N) ++ List.replicate (q - i) (Hd.mk none 0 0))) := Lib.hid (hr0)
    have hbl := Lib.hid hhbl
    have HB := Lib.hid hHB
    have HNB := Lib.hid hHNB
    clear hb0 hr0 hhbl hHB hHNB
    by_cases hlt2 : i < q
    · have hci6 : ((i : Int) < (q : Int)) := by omega
      have HR := Lib.hid (get_fill (bs.map (mkH N)) (Hd.mk none 0 0) (q - i) i (by rw [List.length_map, hbl.out]) (by omega))
      go_upto_region 3 with fail
      refine wp_region_lit ?_
      refine wpList_run (by kernel_rfl) (.bool true) wo (xo_lssT .i64 (i : Int) (q : Int) (by omega) rfl rfl rfl) ?_
      simp only [Act.put, List.setIfInBounds_toArray, List.set_cons_zero, List.set_cons_succ]
      refine wpList_nil ?_
      go_upto_region 4 with fail
      refine wp_region_lit ?_
      refine wpList_run (by kernel_rfl) (.int .i64 (i : Int)) wo rfl ?_
      simp only [Act.put, List.setIfInBounds_toArray, List.set_cons_zero, List.set_cons_succ]
      refine wpList_run (by kernel_rfl) (.int .i64 (i : Int)) wo rfl ?_
      simp only [Act.put, List.setIfInBounds_toArray, List.set_cons_zero, List.set_cons_succ]
      refine wpList_nil ?_
      go_upto_region 5 with fail
      refine wp_region_lit ?_
      refine wpList_run (by kernel_rfl) (.slice (some ⟨g8, 0, none⟩) q q) wo rfl ?_
      simp only [Act.put, List.setIfInBounds_toArray, List.set_cons_zero, List.set_cons_succ]
      refine wpList_run (by kernel_rfl) (.int .i64 (i : Int)) wo rfl ?_
      simp only [Act.put, List.setIfInBounds_toArray, List.set_cons_zero, List.set_cons_succ]
      refine wpList_run (by kernel_rfl) (.int .i64 (N : Int)) wo rfl ?_
      simp only [Act.put, List.setIfInBounds_toArray, List.set_cons_zero, List.set_cons_succ]
      refine wpList_mk (by kernel_rfl) ((List.replicate N 0).flatMap wdC).toArray 50 N N (xg_make (E := wdC) (bytes := 8) (.int .u64 0) 0 N .i64 Tryd.underlying48 (by kernel_rfl) rfl (by omega) (by omega) rfl rfl rfl) ?_
      intro g17 V2 hge h0 hb
      have N7_0 : Hid (g8 ≠ g17) := Lib.hid (xp_lt0 Fv1_8.out hge)
      have Ge8 : Hid (wo.heap.size ≤ g17) := Lib.hid hge
      have B1 := Lib.hid hb
      have Fv9_17 : Hid (RowG wdC V2 g17 50 (List.replicate N 0)) := Lib.hid (h0)
      have Lt10 : Hid (g17 < V2.heap.size) := Lib.hid (xp_lt Fv9_17.out)
      clear hge h0 hb
      simp only [ptr, Act.put, List.setIfInBounds_toArray, List.set_cons_zero, List.set_cons_succ]
      have hnb : g17 ∉ bs := fun hm => by have h1 := HB.out.lt g17 hm; have h2 := Ge8.out; omega
      have HPU := Lib.hid (RowsU.push (HB.out.keep B1.out) Fv9_17.out (Nat.le_trans B0.out.size Ge8.out) hnb)
      have hng : g8 ∉ bs ++ [g17] := fun hm => by rcases List.mem_append.1 hm with hm | hm; exact HNB.out hm; rw [List.mem_singleton] at hm; exact N7_0.out hm
      refine wpList_run (by kernel_rfl) (.pointer (some (gad (some ⟨g8, 0, none⟩) (i * 1)))) V2 (xg_idx .i64 (RowG.sg (Fv1_8.out.keep B1.out) (by rw [List.length_append, List.length_map, List.length_replicate, hbl.out]; omega) (Nat.le_refl _) (by omega)) HR.out Tryd.underlying38 (by kernel_rfl) rfl rfl rfl) ?_
      simp only [Act.put, List.setIfInBounds_toArray, List.set_cons_zero, List.set_cons_succ]
      refine wpList_storeW g8 _ _ 48 (by kernel_rfl) (RowG.h (Fv1_8.out.keep B1.out)) (xg_store (Fv1_8.out.keep B1.out) (List.getElem?_eq_some_iff.1 HR.out).1 (Hd.mk (some ⟨g17, 0, none⟩) N N) (by kernel_rfl) rfl rfl rfl) ?_
      intro X2_11 h1 hfar hbel hsz
      have YHPU : RowsU X2_11 50 w.heap.size (bs ++ [g17]) (List.replicate i (List.replicate N 0) ++ [List.replicate N 0]) := RowsU.far HPU.out hng hfar
      have YFv9_17 : RowG wdC X2_11 g17 50 (List.replicate N 0) := hfar _ _ (Ne.symm N7_0.out) Fv9_17.out
      -- drops HB
      have Gs12 : Hid (w.heap.size ≤ g17) := Lib.hid (Nat.le_trans B0.out.size Ge8.out)
      have C0_2 := Lib.hid (bel_step B0.out B1.out)
      have hbr := hbel _ _ GE8.out C0_2.out
      clear B0
      have B0 := Lib.hid hbr
      clear hbr
      clear Fv9_17
      have Fv9_17 : Hid (RowG wdC X2_11 g17 50 (List.replicate N 0)) := Lib.hid YFv9_17
      clear YFv9_17
      clear HPU
      have HPU := Lib.hid YHPU
      clear YHPU
      clear Fv1_8
      have Fv1_8 : Hid (RowG hdC X2_11 g8 48 ((bs.map (mkH N) ++ List.replicate (q - i) (Hd.mk none 0 0)).set i (Hd.mk (some ⟨g17, 0, none⟩) N N))) := Lib.hid (h1)
      have HszX2_11 := Lib.hid hsz
      clear h1 hfar hbel hsz
      simp only [ptr, Act.put, List.setIfInBounds_toArray, List.set_cons_zero, List.set_cons_succ]
      refine wpList_nil ?_
      have hrow : RowG hdC X2_11 g8 48 ((bs ++ [g17]).map (mkH N) ++ List.replicate (q - (i + 1)) (Hd.mk none 0 0)) := by
        have h0 := Fv1_8.out
        have e : q - i = (q - (i + 1)) + 1 := by omega
        have h2 := set_fill (bs.map (mkH N)) (mkH N g17) (Hd.mk none 0 0) (q - (i + 1))
        rw [List.length_map, hbl.out] at h2
        rw [e] at h0
        rw [List.map_append]
        exact h2 ▸ h0
      have hru : RowsU X2_11 50 w.heap.size (bs ++ [g17]) (List.replicate (i + 1) (List.replicate N 0)) := by rw [List.replicate_succ']; exact HPU.out
      go_upto_region 6 with fail
      refine wp_region_lit ?_
      refine wpList_run (by kernel_rfl) (.int .i64 ((i + 1 : Nat) : Int)) X2_11 (xo_addI (i : Int) 1 ((i + 1 : Nat) : Int) (by omega) (by omega) (by omega) rfl rfl rfl) ?_
      simp only [Act.put, List.setIfInBounds_toArray, List.set_cons_zero, List.set_cons_succ]
      refine wpList_run (by kernel_rfl) (.int .i64 ((i + 1 : Nat) : Int)) X2_11 rfl ?_
      simp only [Act.put, List.setIfInBounds_toArray, List.set_cons_zero, List.set_cons_succ]
      refine wpList_nil ?_
      have hq13 := B0.out
      go_wp2_with fail
      go_roundw
      case rel => exact ⟨i + 1, bs ++ [g17], by omega, by go_num, (by rw [List.length_append, hbl.out]; rfl), hru, hng, hrow, hq13⟩
      case measure => simp [intOf]; omega
    · have hci6 : ¬ ((i : Int) < (q : Int)) := by omega
      have hiq : i = q := by omega
      go_upto_region 3 with fail
      refine wp_region_lit ?_
      refine wpList_run (by kernel_rfl) (.bool false) wo (xo_lssF .i64 (i : Int) (q : Int) (by omega) rfl rfl rfl) ?_
      simp only [Act.put, List.setIfInBounds_toArray, List.set_cons_zero, List.set_cons_succ]
      refine wpList_nil ?_
      go_upto_region 7 with fail
      refine wp_region_lit ?_
      refine wpList_run (by kernel_rfl) (.slice (some ⟨g8, 0, none⟩) q q) wo rfl ?_
      simp only [Act.put, List.setIfInBounds_toArray, List.set_cons_zero, List.set_cons_succ]
      refine wpList_run (by kernel_rfl) (.slice (some ⟨g8, 0, none⟩) q q) wo rfl ?_
      simp only [Act.put, List.setIfInBounds_toArray, List.set_cons_zero, List.set_cons_succ]
      refine wpList_nil ?_
      have hrow : RowG hdC wo g8 48 (bs.map (mkH N)) := by
        have h0 := Fv1_8.out
        rw [hiq, Nat.sub_self, List.replicate_zero, List.append_nil] at h0
        exact h0
      have hru := HB.out
      rw [hiq] at hru
      go_wp2_with fail
      go_ret
      exact ⟨g8, rfl, bs, hrow, hru, GE8.out, HNB.out, B0.out⟩
end Go.Proofs.YtopicjdmajlndaaDoor

namespace Go.Proofs.YtopicjdmajlndaaDoor
set_option linter.unusedVariables false
set_option linter.unusedSimpArgs false
set_option linter.unusedSectionVars false
set_option maxRecDepth 8000
open Go.RowKit Go.Proofs.YtopicjdmajlndaaDoor.K
attribute [local irreducible] wpList wpQuiet
def L0 (xss : List (List Nat)) : Nat := (xss.headD []).length
/-- the columns can be joined -/
def jB (xss : List (List Nat)) : Bool := decide (1 ≤ xss.length) && decide (xss.length ≤ 64) && clB (L0 xss) && xss.all fun xs => elB xs (L0 xss)
theorem jB_eq (xss : List (List Nat)) : jB xss = (decide (1 ≤ xss.length) && decide (xss.length ≤ 64) && clB (L0 xss) && xss.all fun xs => elB xs (L0 xss)) := rfl
theorem jB_parts {xss : List (List Nat)} (h : jB xss = true) : 1 ≤ xss.length ∧ xss.length ≤ 64 ∧ clB (L0 xss) = true ∧ 1 ≤ L0 xss ∧ ∀ xs ∈ xss, elB xs (L0 xss) = true := by
  simp only [jB, Bool.and_eq_true, decide_eq_true_eq, List.all_eq_true] at h
  refine ⟨h.1.1.1, h.1.1.2, h.1.2, ?_, h.2⟩
  have := h.1.2
  simp only [clB, Bool.and_eq_true, decide_eq_true_eq] at this
  exact this.1
theorem widthN_ge (n : Nat) : ∀ f v : Nat, n ≤ v * 2 ^ f → n ≤ widthN n f v
  | 0, v, h => by simpa [widthN] using h
  | f + 1, v, h => by
    unfold widthN
    split
    · exact widthN_ge n f (2 * v) (by rw [Nat.pow_succ] at h; rw [Nat.mul_comm 2 v, Nat.mul_assoc, Nat.mul_comm 2]; exact h)
    · omega
theorem widthN_le' (n : Nat) : ∀ f v : Nat, widthN n f v ≤ v * 2 ^ f
  | 0, v => by simp [widthN]
  | f + 1, v => by
    unfold widthN
    have e : 2 * v * 2 ^ f = v * 2 ^ (f + 1) := by rw [Nat.pow_succ, Nat.mul_comm 2 v, Nat.mul_assoc, Nat.mul_comm 2]
    split
    · exact e ▸ widthN_le' n f (2 * v)
    · exact Nat.le_mul_of_pos_right _ (Nat.pow_pos (by omega))
theorem widthN_le (n f v : Nat) (hf : f = 7 := by rfl) (hv : v = 1 := by rfl) : widthN n f v ≤ 128 := by subst hf hv; exact widthN_le' n 7 1
/-- the table, its first c columns and i elements of the next one filled -/
def tabP (xss : List (List Nat)) (W L c i : Nat) : List Nat := (List.range (W * L)).map fun q => if q % W < c ∨ (q % W = c ∧ q / W < i) then (xss.getD (q % W) []).getD (q / W) 0 else 0
def tabN (xss : List (List Nat)) (W L : Nat) : List Nat := (List.range (W * L)).map fun q => (xss.getD (q % W) []).getD (q / W) 0
theorem tabP_length (xss : List (List Nat)) (W L c i : Nat) : (tabP xss W L c i).length = W * L := by simp [tabP]
theorem tabP_zero (xss : List (List Nat)) (W L : Nat) : tabP xss W L 0 0 = List.replicate (W * L) 0 := by
  apply List.ext_getElem?
  intro q
  simp only [tabP, List.getElem?_map, List.getElem?_replicate]
  by_cases h : q < W * L
  · simp [h]
  · simp [h]
theorem idx_lt {i W j L : Nat} (hi : i < W) (hj : j < L) : i + W * j < W * L := by
  have h1 : W * (j + 1) ≤ W * L := Nat.mul_le_mul_left _ (by omega)
  rw [Nat.mul_add] at h1
  omega
theorem tabP_step {xss : List (List Nat)} {W L c i x : Nat} {xs : List Nat} (hc : c < W) (hi : i < L) (hx : xss[c]? = some xs) (hxx : xs[i]? = some x) : (tabP xss W L c i).set (c + W * i) x = tabP xss W L c (i + 1) := by
  unfold tabP
  rw [set_tab]
  apply List.map_congr_left
  intro q _
  have hW : 0 < W := by omega
  by_cases e : q = c + W * i
  · subst e
    have h1 : (c + W * i) % W = c := by rw [Nat.add_mul_mod_self_left, Nat.mod_eq_of_lt hc]
    have h2 : (c + W * i) / W = i := by rw [Nat.add_mul_div_left _ _ hW, Nat.div_eq_of_lt hc, Nat.zero_add]
    rw [h1, h2]
    simp [hx, hxx]
  · have hne : ¬ (q % W = c ∧ q / W = i) := by
      rintro ⟨h1, h2⟩
      apply e
      have := Nat.mod_add_div q W
      rw [h1, h2] at this
      exact this.symm
    rw [if_neg e]
    by_cases h1 : q % W < c
    · simp [h1]
    · by_cases h2 : q % W = c
      · have h3 : (q / W < i) ↔ (q / W < i + 1) := by
          have : q / W ≠ i := fun e3 => hne ⟨h2, e3⟩
          omega
        simp only [h3]
      · simp [h1, h2]
theorem tabP_next (xss : List (List Nat)) (W L c : Nat) : tabP xss W L c L = tabP xss W L (c + 1) 0 := by
  unfold tabP
  apply List.map_congr_left
  intro q hq
  rw [List.mem_range] at hq
  have h1 : q / W < L := Nat.div_lt_of_lt_mul hq
  have h2 : (q % W < c ∨ (q % W = c ∧ q / W < L)) ↔ (q % W < c + 1 ∨ (q % W = c + 1 ∧ q / W < 0)) := by
    simp only [Nat.not_lt_zero, and_false, or_false, h1, and_true]
    omega
  simp only [h2]
theorem tabP_all {xss : List (List Nat)} {W L c : Nat} (h : xss.length ≤ c) : tabP xss W L c 0 = tabN xss W L := by
  unfold tabP tabN
  apply List.map_congr_left
  intro q _
  by_cases h1 : q % W < c
  · simp [h1]
  · have h2 : ¬ (q % W < c ∨ (q % W = c ∧ q / W < 0)) := by
      simp only [Nat.not_lt_zero, and_false, or_false]
      exact h1
    rw [if_neg h2]
    simp [List.getD_eq_getElem?_getD, List.getElem?_eq_none (show xss.length ≤ q % W by omega)]
set_option maxRecDepth 100000 in
set_option maxHeartbeats 8000000 in
theorem joinable_as (A : Option Addr) (n c : Nat) (hs : List Hd) (xss : List (List Nat)) (hsmall : ∀ xs ∈ xss, xs.length < 4611686018427387904) (b : Bool) (hb : jB xss = b) (w : World) (h : Cols w A n c hs xss) :
    Calls Tryd.prog 50 #[.slice A n c] w fun e w' => e = .returned (.bool b) ∧ Below w.heap.size w w' := by
  have HC := Lib.hid h
  have hln := h.n_eq.symm
  have hlh := h.len
  have hcap := h.head.cap
  have htop := h.head.top
  clear h
  go_enter Tryd.func50, Tryd.ntmps50
  go_upto_region 1 with fail
  by_cases hn0 : n = 0
  · subst hn0
    obtain rfl : b = false := by rw [← hb, jB]; simp [hln]
    refine wp_region_lit ?_
    refine wpList_run (by kernel_rfl) (.slice A 0 c) w rfl ?_
    simp only [Act.put, List.setIfInBounds_toArray, List.set_cons_zero, List.set_cons_succ]
    refine wpList_run (by kernel_rfl) (.int .i64 0) w (xo_len A 0 c Tryd.underlying38 rfl rfl) ?_
    simp only [Act.put, List.setIfInBounds_toArray, List.set_cons_zero, List.set_cons_succ]
    refine wpList_run (by kernel_rfl) (.bool true) w (xo_eqlT .i64 0 0 (by omega) rfl rfl rfl) ?_
    simp only [Act.put, List.setIfInBounds_toArray, List.set_cons_zero, List.set_cons_succ]
    refine wpList_run (by kernel_rfl) (.bool true) w rfl ?_
    simp only [Act.put, List.setIfInBounds_toArray, List.set_cons_zero, List.set_cons_succ]
    refine wpList_skip (by kernel_rfl) ?_
    try simp only [Act.put, List.setIfInBounds_toArray, List.set_cons_zero, List.set_cons_succ]
    refine wpList_skip (by kernel_rfl) ?_
    try simp only [Act.put, List.setIfInBounds_toArray, List.set_cons_zero, List.set_cons_succ]
    refine wpList_skip (by kernel_rfl) ?_
    try simp only [Act.put, List.setIfInBounds_toArray, List.set_cons_zero, List.set_cons_succ]
    refine wpList_run (by kernel_rfl) (.bool true) w rfl ?_
    simp only [Act.put, List.setIfInBounds_toArray, List.set_cons_zero, List.set_cons_succ]
    refine wpList_run (by kernel_rfl) (.bool true) w rfl ?_
    simp only [Act.put, List.setIfInBounds_toArray, List.set_cons_zero, List.set_cons_succ]
    refine wpList_skip (by kernel_rfl) ?_
    try simp only [Act.put, List.setIfInBounds_toArray, List.set_cons_zero, List.set_cons_succ]
    refine wpList_skip (by kernel_rfl) ?_
    try simp only [Act.put, List.setIfInBounds_toArray, List.set_cons_zero, List.set_cons_succ]
    refine wpList_skip (by kernel_rfl) ?_
    try simp only [Act.put, List.setIfInBounds_toArray, List.set_cons_zero, List.set_cons_succ]
    refine wpList_skip (by kernel_rfl) ?_
    try simp only [Act.put, List.setIfInBounds_toArray, List.set_cons_zero, List.set_cons_succ]
    refine wpList_skip (by kernel_rfl) ?_
    try simp only [Act.put, List.setIfInBounds_toArray, List.set_cons_zero, List.set_cons_succ]
    refine wpList_skip (by kernel_rfl) ?_
    try simp only [Act.put, List.setIfInBounds_toArray, List.set_cons_zero, List.set_cons_succ]
    refine wpList_run (by kernel_rfl) (.bool true) w rfl ?_
    simp only [Act.put, List.setIfInBounds_toArray, List.set_cons_zero, List.set_cons_succ]
    refine wpList_nil ?_
    go_upto_region 2 with fail
    refine wp_region_lit ?_
    refine wpList_run (by kernel_rfl) (.bool false) w rfl ?_
    simp only [Act.put, List.setIfInBounds_toArray, List.set_cons_zero, List.set_cons_succ]
    refine wpList_nil ?_
    go_wp2_with fail
    go_ret
    exact ⟨rfl, (Below.refl w.heap.size w)⟩
  · have hci0 : ¬ ((n : Int) = 0) := by omega
    by_cases hn64 : n ≤ 64
    · have hci1 : ¬ ((n : Int) > 64) := by omega
      obtain ⟨x0, hx0⟩ : ∃ x, xss[0]? = some x := ⟨_, List.getElem?_eq_getElem (by omega)⟩
      have hL0 : L0 xss = x0.length := by simp [L0, List.headD_eq_head?_getD, List.head?_eq_getElem?, hx0]
      obtain ⟨⟨A0, m0, c0⟩, hh0⟩ : ∃ h, hs[0]? = some h := ⟨_, List.getElem?_eq_getElem (by have := HC.out.len; omega)⟩
      have hrw0 := HC.out.row 0 _ _ hh0 hx0
      have hml0 : x0.length = m0 := hrw0.len
      have HE0 := Lib.hid hh0
      have HR0 := Lib.hid hrw0
      simp only at HR0
      have hcp0 : m0 ≤ c0 := hrw0.cap
      have htp0 : c0 ≤ 9223372036854775807 := hrw0.top
      clear hh0 hrw0
      cases hcl : clB m0 with
      | false =>
        obtain rfl : b = false := by rw [← hb, jB, hL0, hml0, hcl]; simp
        have hsm : m0 < 4611686018427387904 := by have := hsmall x0 (List.mem_of_getElem? hx0); omega
        refine wp_region_lit ?_
        refine wpList_run (by kernel_rfl) (.slice A n c) w rfl ?_
        simp only [Act.put, List.setIfInBounds_toArray, List.set_cons_zero, List.set_cons_succ]
        refine wpList_run (by kernel_rfl) (.int .i64 (n : Int)) w (xo_len A n c Tryd.underlying38 rfl rfl) ?_
        simp only [Act.put, List.setIfInBounds_toArray, List.set_cons_zero, List.set_cons_succ]
        refine wpList_run (by kernel_rfl) (.bool false) w (xo_eqlF .i64 (n : Int) 0 (by omega) rfl rfl rfl) ?_
        simp only [Act.put, List.setIfInBounds_toArray, List.set_cons_zero, List.set_cons_succ]
        refine wpList_run (by kernel_rfl) (.bool false) w rfl ?_
        simp only [Act.put, List.setIfInBounds_toArray, List.set_cons_zero, List.set_cons_succ]
        refine wpList_run (by kernel_rfl) (.slice A n c) w rfl ?_
        simp only [Act.put, List.setIfInBounds_toArray, List.set_cons_zero, List.set_cons_succ]
        refine wpList_run (by kernel_rfl) (.int .i64 (n : Int)) w (xo_len A n c Tryd.underlying38 rfl rfl) ?_
        simp only [Act.put, List.setIfInBounds_toArray, List.set_cons_zero, List.set_cons_succ]
        refine wpList_run (by kernel_rfl) (.bool false) w (xo_gtrF .i64 (n : Int) 64 (by omega) rfl rfl rfl) ?_
        simp only [Act.put, List.setIfInBounds_toArray, List.set_cons_zero, List.set_cons_succ]
        refine wpList_run (by kernel_rfl) (.bool false) w rfl ?_
        simp only [Act.put, List.setIfInBounds_toArray, List.set_cons_zero, List.set_cons_succ]
        refine wpList_run (by kernel_rfl) (.bool false) w rfl ?_
        simp only [Act.put, List.setIfInBounds_toArray, List.set_cons_zero, List.set_cons_succ]
        refine wpList_run (by kernel_rfl) (.slice A n c) w rfl ?_
        simp only [Act.put, List.setIfInBounds_toArray, List.set_cons_zero, List.set_cons_succ]
        refine wpList_run (by kernel_rfl) (.pointer (some (gad A (0 * 1)))) w (xg_idx .i64 (Cols.head HC.out) HE0.out Tryd.underlying38 (by kernel_rfl) rfl rfl rfl) ?_
        simp only [Act.put, List.setIfInBounds_toArray, List.set_cons_zero, List.set_cons_succ]
        refine wpList_run (by kernel_rfl) (.slice A0 m0 c0) w (xg_load1 (E := hdC) (i := 0) (j := 0) (Cols.head HC.out) HE0.out rfl rfl Tryd.underlying48 rfl rfl rfl) ?_
        simp only [Act.put, List.setIfInBounds_toArray, List.set_cons_zero, List.set_cons_succ]
        refine wpList_run (by kernel_rfl) (.int .i64 (m0 : Int)) w (xo_len A0 m0 c0 Tryd.underlying48 rfl rfl) ?_
        simp only [Act.put, List.setIfInBounds_toArray, List.set_cons_zero, List.set_cons_succ]
        refine wpList_call (by kernel_rfl) 63 Tryd.func63 (by kernel_rfl) (by kernel_rfl) _ _ #[.int .i64 (m0 : Int)] rfl (by kernel_rfl) ?_
        refine (columnLength_as m0 hsm false hcl w).mono ?_
        rintro e V1 ⟨rfl, hb⟩
        have B0 := Lib.hid hb
        clear hb 
        refine ⟨_, rfl, ?_⟩
        simp only [Act.put, List.setIfInBounds_toArray, List.set_cons_zero, List.set_cons_succ]
        refine wpList_run (by kernel_rfl) (.bool true) V1 rfl ?_
        simp only [Act.put, List.setIfInBounds_toArray, List.set_cons_zero, List.set_cons_succ]
        refine wpList_run (by kernel_rfl) (.bool true) V1 rfl ?_
        simp only [Act.put, List.setIfInBounds_toArray, List.set_cons_zero, List.set_cons_succ]
        refine wpList_nil ?_
        go_upto_region 2 with fail
        refine wp_region_lit ?_
        refine wpList_run (by kernel_rfl) (.bool false) V1 rfl ?_
        simp only [Act.put, List.setIfInBounds_toArray, List.set_cons_zero, List.set_cons_succ]
        refine wpList_nil ?_
        go_wp2_with fail
        go_ret
        exact ⟨rfl, B0.out⟩
      | true =>
        have hsm : m0 < 4611686018427387904 := by have := hsmall x0 (List.mem_of_getElem? hx0); omega
        refine wp_region_lit ?_
        refine wpList_run (by kernel_rfl) (.slice A n c) w rfl ?_
        simp only [Act.put, List.setIfInBounds_toArray, List.set_cons_zero, List.set_cons_succ]
        refine wpList_run (by kernel_rfl) (.int .i64 (n : Int)) w (xo_len A n c Tryd.underlying38 rfl rfl) ?_
        simp only [Act.put, List.setIfInBounds_toArray, List.set_cons_zero, List.set_cons_succ]
        refine wpList_run (by kernel_rfl) (.bool false) w (xo_eqlF .i64 (n : Int) 0 (by omega) rfl rfl rfl) ?_
        simp only [Act.put, List.setIfInBounds_toArray, List.set_cons_zero, List.set_cons_succ]
        refine wpList_run (by kernel_rfl) (.bool false) w rfl ?_
        simp only [Act.put, List.setIfInBounds_toArray, List.set_cons_zero, List.set_cons_succ]
        refine wpList_run (by kernel_rfl) (.slice A n c) w rfl ?_
        simp only [Act.put, List.setIfInBounds_toArray, List.set_cons_zero, List.set_cons_succ]
        refine wpList_run (by kernel_rfl) (.int .i64 (n : Int)) w (xo_len A n c Tryd.underlying38 rfl rfl) ?_
        simp only [Act.put, List.setIfInBounds_toArray, List.set_cons_zero, List.set_cons_succ]
        refine wpList_run (by kernel_rfl) (.bool false) w (xo_gtrF .i64 (n : Int) 64 (by omega) rfl rfl rfl) ?_
        simp only [Act.put, List.setIfInBounds_toArray, List.set_cons_zero, List.set_cons_succ]
        refine wpList_run (by kernel_rfl) (.bool false) w rfl ?_
        simp only [Act.put, List.setIfInBounds_toArray, List.set_cons_zero, List.set_cons_succ]
        refine wpList_run (by kernel_rfl) (.bool false) w rfl ?_
        simp only [Act.put, List.setIfInBounds_toArray, List.set_cons_zero, List.set_cons_succ]
        refine wpList_run (by kernel_rfl) (.slice A n c) w rfl ?_
        simp only [Act.put, List.setIfInBounds_toArray, List.set_cons_zero, List.set_cons_succ]
        refine wpList_run (by kernel_rfl) (.pointer (some (gad A (0 * 1)))) w (xg_idx .i64 (Cols.head HC.out) HE0.out Tryd.underlying38 (by kernel_rfl) rfl rfl rfl) ?_
        simp only [Act.put, List.setIfInBounds_toArray, List.set_cons_zero, List.set_cons_succ]
        refine wpList_run (by kernel_rfl) (.slice A0 m0 c0) w (xg_load1 (E := hdC) (i := 0) (j := 0) (Cols.head HC.out) HE0.out rfl rfl Tryd.underlying48 rfl rfl rfl) ?_
        simp only [Act.put, List.setIfInBounds_toArray, List.set_cons_zero, List.set_cons_succ]
        refine wpList_run (by kernel_rfl) (.int .i64 (m0 : Int)) w (xo_len A0 m0 c0 Tryd.underlying48 rfl rfl) ?_
        simp only [Act.put, List.setIfInBounds_toArray, List.set_cons_zero, List.set_cons_succ]
        refine wpList_call (by kernel_rfl) 63 Tryd.func63 (by kernel_rfl) (by kernel_rfl) _ _ #[.int .i64 (m0 : Int)] rfl (by kernel_rfl) ?_
        refine (columnLength_as m0 hsm true hcl w).mono ?_
        rintro e V1 ⟨rfl, hb⟩
        have B0 := Lib.hid hb
        clear hb 
        refine ⟨_, rfl, ?_⟩
        simp only [Act.put, List.setIfInBounds_toArray, List.set_cons_zero, List.set_cons_succ]
        refine wpList_run (by kernel_rfl) (.bool false) V1 rfl ?_
        simp only [Act.put, List.setIfInBounds_toArray, List.set_cons_zero, List.set_cons_succ]
        refine wpList_run (by kernel_rfl) (.bool false) V1 rfl ?_
        simp only [Act.put, List.setIfInBounds_toArray, List.set_cons_zero, List.set_cons_succ]
        refine wpList_nil ?_
        go_upto_region 3 with fail
        refine wp_region_lit ?_
        refine wpList_run (by kernel_rfl) (.slice A n c) V1 rfl ?_
        simp only [Act.put, List.setIfInBounds_toArray, List.set_cons_zero, List.set_cons_succ]
        refine wpList_run (by kernel_rfl) (.int .i64 (n : Int)) V1 (xo_len A n c Tryd.underlying38 rfl rfl) ?_
        simp only [Act.put, List.setIfInBounds_toArray, List.set_cons_zero, List.set_cons_succ]
        refine wpList_run (by kernel_rfl) (.int .i64 0) V1 rfl ?_
        simp only [Act.put, List.setIfInBounds_toArray, List.set_cons_zero, List.set_cons_succ]
        refine wpList_nil ?_
        have O2 := B0.out
        go_wp2_with fail
        go_loopw [23] (fun p wr => ∃ i : Nat, i ≤ n ∧ p = .int .i64 i ∧ (∀ xs ∈ xss.take i, elB xs m0 = true) ∧ Below w.heap.size w wr) (fun p _ => n - (intOf p).toNat)
        case atStart => exact ⟨0, Nat.zero_le _, rfl, (fun x hx => by simp at hx), O2⟩
        case round =>
          clear O2
          obtain ⟨wo, rfl⟩ : ∃ wo : World, wo = wr := ⟨_, rfl⟩
          obtain ⟨i, hi, rfl, hHA, hb0⟩ := hrel
          have hbr := hb0
          clear B0
          have B0 := Lib.hid hbr
          clear hbr
          have HA := Lib.hid hHA
          clear hb0 hHA
          by_cases hlt2 : i < n
          · have hci4 : ((i : Int) < (n : Int)) := by omega
            obtain ⟨xs, hx⟩ : ∃ xs, xss[i]? = some xs := ⟨_, List.getElem?_eq_getElem (by omega)⟩
            obtain ⟨⟨A3, m3, c3⟩, hh3⟩ : ∃ h, hs[i]? = some h := ⟨_, List.getElem?_eq_getElem (by have := HC.out.len; omega)⟩
            have hrw3 := HC.out.row i _ _ hh3 hx
            have hml3 : xs.length = m3 := hrw3.len
            have HE3 := Lib.hid hh3
            have HR3 := Lib.hid hrw3
            simp only at HR3
            have hcp3 : m3 ≤ c3 := hrw3.cap
            have htp3 : c3 ≤ 9223372036854775807 := hrw3.top
            clear hh3 hrw3
            have HX := Lib.hid hx
            clear hx
            go_upto_region 4 with fail
            refine wp_region_lit ?_
            refine wpList_run (by kernel_rfl) (.bool true) wo (xo_lssT .i64 (i : Int) (n : Int) (by omega) rfl rfl rfl) ?_
            simp only [Act.put, List.setIfInBounds_toArray, List.set_cons_zero, List.set_cons_succ]
            refine wpList_nil ?_
            go_upto_region 5 with fail
            refine wp_region_lit ?_
            refine wpList_run (by kernel_rfl) (.pointer (some (gad A (i * 1)))) wo (xg_idx .i64 (Cols.head (HC.out.keep B0.out)) HE3.out Tryd.underlying38 (by kernel_rfl) rfl rfl rfl) ?_
            simp only [Act.put, List.setIfInBounds_toArray, List.set_cons_zero, List.set_cons_succ]
            refine wpList_run (by kernel_rfl) (.slice A3 m3 c3) wo (xg_load1 (E := hdC) (i := i) (j := 0) (Cols.head (HC.out.keep B0.out)) HE3.out rfl rfl Tryd.underlying48 rfl rfl rfl) ?_
            simp only [Act.put, List.setIfInBounds_toArray, List.set_cons_zero, List.set_cons_succ]
            refine wpList_run (by kernel_rfl) (.slice A3 m3 c3) wo rfl ?_
            simp only [Act.put, List.setIfInBounds_toArray, List.set_cons_zero, List.set_cons_succ]
            refine wpList_nil ?_
            cases hel : elB xs m0 with
            | false =>
              obtain rfl : b = false := by rw [← hb, jB_eq, hL0, hml0]; simp only [Bool.and_eq_false_iff, List.all_eq_false]; exact .inr ⟨xs, List.mem_of_getElem? HX.out, by rw [hel]; exact Bool.false_ne_true⟩
              go_upto_region 6 with fail
              refine wp_region_lit ?_
              refine wpList_run (by kernel_rfl) (.slice A3 m3 c3) wo rfl ?_
              simp only [Act.put, List.setIfInBounds_toArray, List.set_cons_zero, List.set_cons_succ]
              refine wpList_run (by kernel_rfl) (.slice A n c) wo rfl ?_
              simp only [Act.put, List.setIfInBounds_toArray, List.set_cons_zero, List.set_cons_succ]
              refine wpList_run (by kernel_rfl) (.pointer (some (gad A (0 * 1)))) wo (xg_idx .i64 (Cols.head (HC.out.keep B0.out)) HE0.out Tryd.underlying38 (by kernel_rfl) rfl rfl rfl) ?_
              simp only [Act.put, List.setIfInBounds_toArray, List.set_cons_zero, List.set_cons_succ]
              refine wpList_run (by kernel_rfl) (.slice A0 m0 c0) wo (xg_load1 (E := hdC) (i := 0) (j := 0) (Cols.head (HC.out.keep B0.out)) HE0.out rfl rfl Tryd.underlying48 rfl rfl rfl) ?_
              simp only [Act.put, List.setIfInBounds_toArray, List.set_cons_zero, List.set_cons_succ]
              refine wpList_run (by kernel_rfl) (.int .i64 (m0 : Int)) wo (xo_len A0 m0 c0 Tryd.underlying48 rfl rfl) ?_
              simp only [Act.put, List.setIfInBounds_toArray, List.set_cons_zero, List.set_cons_succ]
              refine wpList_call (by kernel_rfl) 64 Tryd.func64 (by kernel_rfl) (by kernel_rfl) _ _ #[.slice A3 m3 c3, .int .i64 (m0 : Int)] rfl (by kernel_rfl) ?_
              refine (elements_as A3 m3 c3 xs m0 false hel wo (HR3.out.keep B0.out)).mono ?_
              rintro e V2 ⟨rfl, hb⟩
              have B1 := Lib.hid hb
              clear hb 
              refine ⟨_, rfl, ?_⟩
              simp only [Act.put, List.setIfInBounds_toArray, List.set_cons_zero, List.set_cons_succ]
              refine wpList_run (by kernel_rfl) (.bool true) V2 rfl ?_
              simp only [Act.put, List.setIfInBounds_toArray, List.set_cons_zero, List.set_cons_succ]
              refine wpList_nil ?_
              go_upto_region 7 with fail
              refine wp_region_lit ?_
              refine wpList_run (by kernel_rfl) (.bool false) V2 rfl ?_
              simp only [Act.put, List.setIfInBounds_toArray, List.set_cons_zero, List.set_cons_succ]
              refine wpList_nil ?_
              go_wp2_with fail
              go_ret
              have C0_2 := Lib.hid (bel_step B0.out B1.out)
              exact ⟨rfl, C0_2.out⟩
            | true =>
              go_upto_region 6 with fail
              refine wp_region_lit ?_
              refine wpList_run (by kernel_rfl) (.slice A3 m3 c3) wo rfl ?_
              simp only [Act.put, List.setIfInBounds_toArray, List.set_cons_zero, List.set_cons_succ]
              refine wpList_run (by kernel_rfl) (.slice A n c) wo rfl ?_
              simp only [Act.put, List.setIfInBounds_toArray, List.set_cons_zero, List.set_cons_succ]
              refine wpList_run (by kernel_rfl) (.pointer (some (gad A (0 * 1)))) wo (xg_idx .i64 (Cols.head (HC.out.keep B0.out)) HE0.out Tryd.underlying38 (by kernel_rfl) rfl rfl rfl) ?_
              simp only [Act.put, List.setIfInBounds_toArray, List.set_cons_zero, List.set_cons_succ]
              refine wpList_run (by kernel_rfl) (.slice A0 m0 c0) wo (xg_load1 (E := hdC) (i := 0) (j := 0) (Cols.head (HC.out.keep B0.out)) HE0.out rfl rfl Tryd.underlying48 rfl rfl rfl) ?_
              simp only [Act.put, List.setIfInBounds_toArray, List.set_cons_zero, List.set_cons_succ]
              refine wpList_run (by kernel_rfl) (.int .i64 (m0 : Int)) wo (xo_len A0 m0 c0 Tryd.underlying48 rfl rfl) ?_
              simp only [Act.put, List.setIfInBounds_toArray, List.set_cons_zero, List.set_cons_succ]
              refine wpList_call (by kernel_rfl) 64 Tryd.func64 (by kernel_rfl) (by kernel_rfl) _ _ #[.slice A3 m3 c3, .int .i64 (m0 : Int)] rfl (by kernel_rfl) ?_
              refine (elements_as A3 m3 c3 xs m0 true hel wo (HR3.out.keep B0.out)).mono ?_
              rintro e V2 ⟨rfl, hb⟩
              have B1 := Lib.hid hb
              clear hb 
              refine ⟨_, rfl, ?_⟩
              simp only [Act.put, List.setIfInBounds_toArray, List.set_cons_zero, List.set_cons_succ]
              refine wpList_run (by kernel_rfl) (.bool false) V2 rfl ?_
              simp only [Act.put, List.setIfInBounds_toArray, List.set_cons_zero, List.set_cons_succ]
              refine wpList_nil ?_
              go_upto_region 8 with fail
              refine wp_region_lit ?_
              refine wpList_run (by kernel_rfl) (.int .i64 ((i + 1 : Nat) : Int)) V2 (xo_addI (i : Int) 1 ((i + 1 : Nat) : Int) (by omega) (by omega) (by omega) rfl rfl rfl) ?_
              simp only [Act.put, List.setIfInBounds_toArray, List.set_cons_zero, List.set_cons_succ]
              refine wpList_run (by kernel_rfl) (.int .i64 ((i + 1 : Nat) : Int)) V2 rfl ?_
              simp only [Act.put, List.setIfInBounds_toArray, List.set_cons_zero, List.set_cons_succ]
              refine wpList_nil ?_
              have hta : ∀ y ∈ xss.take (i + 1), elB y m0 = true := by
                intro y hy
                obtain ⟨hi1, rfl⟩ := List.getElem?_eq_some_iff.1 HX.out
                rw [List.take_succ_eq_append_getElem hi1] at hy
                rcases List.mem_append.1 hy with hy | hy
                · exact HA.out y hy
                · rw [List.mem_singleton] at hy; subst hy; exact hel
              have C0_2 := Lib.hid (bel_step B0.out B1.out)
              have hq5 := C0_2.out
              go_wp2_with fail
              go_roundw
              case rel => exact ⟨i + 1, by omega, by go_num, hta, hq5⟩
              case measure => simp [intOf]; omega
          · have hci4 : ¬ ((i : Int) < (n : Int)) := by omega
            obtain rfl : b = true := by rw [← hb, jB_eq, hL0, hml0, hcl]; simp only [Bool.and_eq_true, decide_eq_true_eq, List.all_eq_true]; exact ⟨⟨⟨by omega, by omega⟩, trivial⟩, fun x hx => HA.out x (by rw [List.take_of_length_le (by omega)]; exact hx)⟩
            go_upto_region 4 with fail
            refine wp_region_lit ?_
            refine wpList_run (by kernel_rfl) (.bool false) wo (xo_lssF .i64 (i : Int) (n : Int) (by omega) rfl rfl rfl) ?_
            simp only [Act.put, List.setIfInBounds_toArray, List.set_cons_zero, List.set_cons_succ]
            refine wpList_nil ?_
            go_upto_region 9 with fail
            refine wp_region_lit ?_
            refine wpList_run (by kernel_rfl) (.bool true) wo rfl ?_
            simp only [Act.put, List.setIfInBounds_toArray, List.set_cons_zero, List.set_cons_succ]
            refine wpList_nil ?_
            go_wp2_with fail
            go_ret
            exact ⟨rfl, B0.out⟩
    · have hci1 : ((n : Int) > 64) := by omega
      obtain rfl : b = false := by rw [← hb, jB]; simp [hln, hn64]
      refine wp_region_lit ?_
      refine wpList_run (by kernel_rfl) (.slice A n c) w rfl ?_
      simp only [Act.put, List.setIfInBounds_toArray, List.set_cons_zero, List.set_cons_succ]
      refine wpList_run (by kernel_rfl) (.int .i64 (n : Int)) w (xo_len A n c Tryd.underlying38 rfl rfl) ?_
      simp only [Act.put, List.setIfInBounds_toArray, List.set_cons_zero, List.set_cons_succ]
      refine wpList_run (by kernel_rfl) (.bool false) w (xo_eqlF .i64 (n : Int) 0 (by omega) rfl rfl rfl) ?_
      simp only [Act.put, List.setIfInBounds_toArray, List.set_cons_zero, List.set_cons_succ]
      refine wpList_run (by kernel_rfl) (.bool false) w rfl ?_
      simp only [Act.put, List.setIfInBounds_toArray, List.set_cons_zero, List.set_cons_succ]
      refine wpList_run (by kernel_rfl) (.slice A n c) w rfl ?_
      simp only [Act.put, List.setIfInBounds_toArray, List.set_cons_zero, List.set_cons_succ]
      refine wpList_run (by kernel_rfl) (.int .i64 (n : Int)) w (xo_len A n c Tryd.underlying38 rfl rfl) ?_
      simp only [Act.put, List.setIfInBounds_toArray, List.set_cons_zero, List.set_cons_succ]
      refine wpList_run (by kernel_rfl) (.bool true) w (xo_gtrT .i64 (n : Int) 64 (by omega) rfl rfl rfl) ?_
      simp only [Act.put, List.setIfInBounds_toArray, List.set_cons_zero, List.set_cons_succ]
      refine wpList_run (by kernel_rfl) (.bool true) w rfl ?_
      simp only [Act.put, List.setIfInBounds_toArray, List.set_cons_zero, List.set_cons_succ]
      refine wpList_run (by kernel_rfl) (.bool true) w rfl ?_
      simp only [Act.put, List.setIfInBounds_toArray, List.set_cons_zero, List.set_cons_succ]
      refine wpList_skip (by kernel_rfl) ?_
      try simp only [Act.put, List.setIfInBounds_toArray, List.set_cons_zero, List.set_cons_succ]
      refine wpList_skip (by kernel_rfl) ?_
      try simp only [Act.put, List.setIfInBounds_toArray, List.set_cons_zero, List.set_cons_succ]
      refine wpList_skip (by kernel_rfl) ?_
      try simp only [Act.put, List.setIfInBounds_toArray, List.set_cons_zero, List.set_cons_succ]
      refine wpList_skip (by kernel_rfl) ?_
      try simp only [Act.put, List.setIfInBounds_toArray, List.set_cons_zero, List.set_cons_succ]
      refine wpList_skip (by kernel_rfl) ?_
      try simp only [Act.put, List.setIfInBounds_toArray, List.set_cons_zero, List.set_cons_succ]
      refine wpList_skip (by kernel_rfl) ?_
      try simp only [Act.put, List.setIfInBounds_toArray, List.set_cons_zero, List.set_cons_succ]
      refine wpList_run (by kernel_rfl) (.bool true) w rfl ?_
      simp only [Act.put, List.setIfInBounds_toArray, List.set_cons_zero, List.set_cons_succ]
      refine wpList_nil ?_
      go_upto_region 2 with fail
      refine wp_region_lit ?_
      refine wpList_run (by kernel_rfl) (.bool false) w rfl ?_
      simp only [Act.put, List.setIfInBounds_toArray, List.set_cons_zero, List.set_cons_succ]
      refine wpList_nil ?_
      go_wp2_with fail
      go_ret
      exact ⟨rfl, (Below.refl w.heap.size w)⟩
set_option maxRecDepth 100000 in
set_option maxHeartbeats 8000000 in
theorem table_no (A : Option Addr) (n c : Nat) (hs : List Hd) (xss : List (List Nat)) (hsmall : ∀ xs ∈ xss, xs.length < 4611686018427387904) (hj : jB xss = false) (w : World) (h : Cols w A n c hs xss) :
    Calls Tryd.prog 29 #[.slice A n c] w fun e w' => e = .returned (.tuple #[.slice none 0 0, .int .i64 1]) ∧ Below w.heap.size w w' := by
  have HC := Lib.hid h
  have hln := h.n_eq.symm
  have hlh := h.len
  have hcap := h.head.cap
  have htop := h.head.top
  clear h
  go_enter Tryd.func29, Tryd.ntmps29
  go_upto_region 1 with fail
  refine wp_region_lit ?_
  refine wpList_run (by kernel_rfl) (.slice A n c) w rfl ?_
  simp only [Act.put, List.setIfInBounds_toArray, List.set_cons_zero, List.set_cons_succ]
  refine wpList_call (by kernel_rfl) 50 Tryd.func50 (by kernel_rfl) (by kernel_rfl) _ _ #[.slice A n c] rfl (by kernel_rfl) ?_
  refine (joinable_as A n c hs xss hsmall false hj w HC.out).mono ?_
  rintro e V1 ⟨rfl, hb⟩
  have B0 := Lib.hid hb
  clear hb 
  refine ⟨_, rfl, ?_⟩
  simp only [Act.put, List.setIfInBounds_toArray, List.set_cons_zero, List.set_cons_succ]
  refine wpList_run (by kernel_rfl) (.bool true) V1 rfl ?_
  simp only [Act.put, List.setIfInBounds_toArray, List.set_cons_zero, List.set_cons_succ]
  refine wpList_nil ?_
  go_upto_region 2 with fail
  refine wp_region_lit ?_
  refine wpList_run (by kernel_rfl) (.slice none 0 0) V1 rfl ?_
  simp only [Act.put, List.setIfInBounds_toArray, List.set_cons_zero, List.set_cons_succ]
  refine wpList_run (by kernel_rfl) (.int .i64 1) V1 rfl ?_
  simp only [Act.put, List.setIfInBounds_toArray, List.set_cons_zero, List.set_cons_succ]
  refine wpList_nil ?_
  go_wp2_with fail
  go_ret2
  exact ⟨rfl, B0.out⟩
set_option maxRecDepth 100000 in
set_option maxHeartbeats 8000000 in
theorem table_yes (A : Option Addr) (n c : Nat) (hs : List Hd) (xss : List (List Nat)) (hsmall : ∀ xs ∈ xss, xs.length < 4611686018427387904) (hj : jB xss = true) (w : World) (h : Cols w A n c hs xss) :
    Calls Tryd.prog 29 #[.slice A n c] w fun e w' => ∃ g W L M, e = .returned (.tuple #[.slice (some ⟨g, 0, none⟩) M M, .int .i64 0]) ∧ widthN n 7 1 = W ∧ L0 xss = L ∧ W * L = M ∧ M ≤ 8388608 ∧ RowG wdC w' g 50 (tabN xss W L) ∧ w.heap.size ≤ g ∧ Below w.heap.size w w' := by
  have hjj := hj
  have HC := Lib.hid h
  have hln := h.n_eq.symm
  have hlh := h.len
  have hcap := h.head.cap
  have htop := h.head.top
  clear h
  go_enter Tryd.func29, Tryd.ntmps29
  go_upto_region 1 with fail
  obtain ⟨hj1, hj2, hj3, hj4, hj5⟩ := jB_parts hj
  obtain ⟨x0, hx0⟩ : ∃ x, xss[0]? = some x := ⟨_, List.getElem?_eq_getElem (by omega)⟩
  have hL0 : L0 xss = x0.length := by simp [L0, List.headD_eq_head?_getD, List.head?_eq_getElem?, hx0]
  rw [hL0] at hj3 hj4 hj5
  obtain ⟨W, hW⟩ : ∃ W, widthN n 7 1 = W := ⟨_, rfl⟩
  have hWn : n ≤ W := by rw [← hW]; exact widthN_ge _ _ _ (by omega)
  have hWt : W ≤ 128 := by rw [← hW]; exact widthN_le _ _ _
  obtain ⟨⟨A0, m0, c0⟩, hh0⟩ : ∃ h, hs[0]? = some h := ⟨_, List.getElem?_eq_getElem (by have := HC.out.len; omega)⟩
  have hrw0 := HC.out.row 0 _ _ hh0 hx0
  have hml0 : x0.length = m0 := hrw0.len
  have HE0 := Lib.hid hh0
  have HR0 := Lib.hid hrw0
  simp only at HR0
  have hcp0 : m0 ≤ c0 := hrw0.cap
  have htp0 : c0 ≤ 9223372036854775807 := hrw0.top
  clear hh0 hrw0
  rw [hml0] at hj3 hj4 hj5
  have hm0 : 1 ≤ m0 ∧ m0 ≤ 65536 := by simp only [clB, Bool.and_eq_true, decide_eq_true_eq] at hj3; exact ⟨hj3.1, hj3.2.1⟩
  obtain ⟨M, hM⟩ : ∃ M, W * m0 = M := ⟨_, rfl⟩
  have hMt : M ≤ 8388608 := by rw [← hM]; exact Nat.mul_le_mul hWt hm0.2
  have hMi : (W : Int) * (m0 : Int) = (M : Int) := by rw [← hM]; exact (Int.natCast_mul W m0).symm
  refine wp_region_lit ?_
  refine wpList_run (by kernel_rfl) (.slice A n c) w rfl ?_
  simp only [Act.put, List.setIfInBounds_toArray, List.set_cons_zero, List.set_cons_succ]
  refine wpList_call (by kernel_rfl) 50 Tryd.func50 (by kernel_rfl) (by kernel_rfl) _ _ #[.slice A n c] rfl (by kernel_rfl) ?_
  refine (joinable_as A n c hs xss hsmall true hjj w HC.out).mono ?_
  rintro e V1 ⟨rfl, hb⟩
  have B0 := Lib.hid hb
  clear hb 
  refine ⟨_, rfl, ?_⟩
  simp only [Act.put, List.setIfInBounds_toArray, List.set_cons_zero, List.set_cons_succ]
  refine wpList_run (by kernel_rfl) (.bool false) V1 rfl ?_
  simp only [Act.put, List.setIfInBounds_toArray, List.set_cons_zero, List.set_cons_succ]
  refine wpList_nil ?_
  go_upto_region 3 with fail
  refine wp_region_lit ?_
  refine wpList_run (by kernel_rfl) (.slice A n c) V1 rfl ?_
  simp only [Act.put, List.setIfInBounds_toArray, List.set_cons_zero, List.set_cons_succ]
  refine wpList_run (by kernel_rfl) (.int .i64 (n : Int)) V1 (xo_len A n c Tryd.underlying38 rfl rfl) ?_
  simp only [Act.put, List.setIfInBounds_toArray, List.set_cons_zero, List.set_cons_succ]
  refine wpList_call (by kernel_rfl) 51 Tryd.func51 (by kernel_rfl) (by kernel_rfl) _ _ #[.int .i64 (n : Int)] rfl (by kernel_rfl) ?_
  refine ((hW ▸ rowWidth_any n (by omega) V1 : Calls Tryd.prog 51 #[.int .i64 (n : Int)] V1 fun e w' => e = .returned (.int .i64 (W : Int)) ∧ Below V1.heap.size V1 w')).mono ?_
  rintro e V2 ⟨rfl, hb⟩
  have B1 := Lib.hid hb
  clear hb 
  refine ⟨_, rfl, ?_⟩
  simp only [Act.put, List.setIfInBounds_toArray, List.set_cons_zero, List.set_cons_succ]
  refine wpList_run (by kernel_rfl) (.int .i64 (W : Int)) V2 rfl ?_
  simp only [Act.put, List.setIfInBounds_toArray, List.set_cons_zero, List.set_cons_succ]
  refine wpList_nil ?_
  go_upto_region 4 with fail
  refine wp_region_lit ?_
  refine wpList_run (by kernel_rfl) (.int .i64 (W : Int)) V2 rfl ?_
  simp only [Act.put, List.setIfInBounds_toArray, List.set_cons_zero, List.set_cons_succ]
  refine wpList_run (by kernel_rfl) (.slice A n c) V2 rfl ?_
  simp only [Act.put, List.setIfInBounds_toArray, List.set_cons_zero, List.set_cons_succ]
  have C0_2 := Lib.hid (bel_step B0.out B1.out)
  refine wpList_run (by kernel_rfl) (.pointer (some (gad A (0 * 1)))) V2 (xg_idx .i64 (Cols.head (HC.out.keep C0_2.out)) HE0.out Tryd.underlying38 (by kernel_rfl) rfl rfl rfl) ?_
  simp only [Act.put, List.setIfInBounds_toArray, List.set_cons_zero, List.set_cons_succ]
  refine wpList_run (by kernel_rfl) (.slice A0 m0 c0) V2 (xg_load1 (E := hdC) (i := 0) (j := 0) (Cols.head (HC.out.keep C0_2.out)) HE0.out rfl rfl Tryd.underlying48 rfl rfl rfl) ?_
  simp only [Act.put, List.setIfInBounds_toArray, List.set_cons_zero, List.set_cons_succ]
  refine wpList_run (by kernel_rfl) (.int .i64 (m0 : Int)) V2 (xo_len A0 m0 c0 Tryd.underlying48 rfl rfl) ?_
  simp only [Act.put, List.setIfInBounds_toArray, List.set_cons_zero, List.set_cons_succ]
  refine wpList_run (by kernel_rfl) (.int .i64 (M : Int)) V2 (xo_mulI (W : Int) (m0 : Int) (M : Int) hMi (by omega) (by omega) rfl rfl rfl) ?_
  simp only [Act.put, List.setIfInBounds_toArray, List.set_cons_zero, List.set_cons_succ]
  refine wpList_mk (by kernel_rfl) ((List.replicate M 0).flatMap wdC).toArray 50 M M (xg_make (E := wdC) (bytes := 8) (.int .u64 0) 0 M .i64 Tryd.underlying48 (by kernel_rfl) rfl (by omega) (by omega) rfl rfl rfl) ?_
  intro g22 V3 hge h0 hb
  have Ge0 : Hid (V2.heap.size ≤ g22) := Lib.hid hge
  have B2 := Lib.hid hb
  have Fv1_22 : Hid (RowG wdC V3 g22 50 (List.replicate M 0)) := Lib.hid (h0)
  have Lt2 : Hid (g22 < V3.heap.size) := Lib.hid (xp_lt Fv1_22.out)
  clear hge h0 hb
  simp only [ptr, Act.put, List.setIfInBounds_toArray, List.set_cons_zero, List.set_cons_succ]
  refine wpList_run (by kernel_rfl) (.slice (some ⟨g22, 0, none⟩) M M) V3 rfl ?_
  simp only [Act.put, List.setIfInBounds_toArray, List.set_cons_zero, List.set_cons_succ]
  refine wpList_nil ?_
  go_upto_region 5 with fail
  refine wp_region_lit ?_
  refine wpList_run (by kernel_rfl) (.slice A n c) V3 rfl ?_
  simp only [Act.put, List.setIfInBounds_toArray, List.set_cons_zero, List.set_cons_succ]
  refine wpList_run (by kernel_rfl) (.int .i64 (n : Int)) V3 (xo_len A n c Tryd.underlying38 rfl rfl) ?_
  simp only [Act.put, List.setIfInBounds_toArray, List.set_cons_zero, List.set_cons_succ]
  refine wpList_run (by kernel_rfl) (.int .i64 0) V3 rfl ?_
  simp only [Act.put, List.setIfInBounds_toArray, List.set_cons_zero, List.set_cons_succ]
  refine wpList_nil ?_
  have ht0 : RowG wdC V3 g22 50 (tabP xss W m0 0 0) := by rw [tabP_zero, hM]; exact Fv1_22.out
  clear Fv1_22
  have Fv1_22 := Lib.hid ht0
  clear ht0
  have O3 := Fv1_22.out
  have C0_3 := Lib.hid (bel_step C0_2.out B2.out)
  have O4 := C0_3.out
  have Gr5 : Hid (w.heap.size ≤ g22) := Lib.hid (Nat.le_trans C0_2.out.size Ge0.out)
  go_wp2_with fail
  go_loopw [25] (fun p wr => ∃ i : Nat, i ≤ n ∧ p = .int .i64 i ∧ RowG wdC wr g22 50 (tabP xss W m0 i 0) ∧ Below w.heap.size w wr) (fun p _ => n - (intOf p).toNat)
  case atStart => exact ⟨0, Nat.zero_le _, rfl, O3, O4⟩
  case round =>
    clear O3 O4
    obtain ⟨wo, rfl⟩ : ∃ wo : World, wo = wr := ⟨_, rfl⟩
    obtain ⟨i, hi, rfl, hr0, hb0⟩ := hrel
    have hbr := hb0
    clear B0
    have B0 := Lib.hid hbr
    clear hbr
    clear Fv1_22
    have Fv1_22 : Hid (RowG wdC wo g22 50 (tabP xss W m0 i 0)) := Lib.hid (hr0)
    clear hb0 hr0
    by_cases hlt2 : i < n
    · have hci7 : ((i : Int) < (n : Int)) := by omega
      obtain ⟨xs, hx⟩ : ∃ xs, xss[i]? = some xs := ⟨_, List.getElem?_eq_getElem (by omega)⟩
      obtain ⟨⟨A3, m3, c3⟩, hh3⟩ : ∃ h, hs[i]? = some h := ⟨_, List.getElem?_eq_getElem (by have := HC.out.len; omega)⟩
      have hrw3 := HC.out.row i _ _ hh3 hx
      have hml3 : xs.length = m3 := hrw3.len
      have HE3 := Lib.hid hh3
      have HR3 := Lib.hid hrw3
      simp only at HR3
      have hcp3 : m3 ≤ c3 := hrw3.cap
      have htp3 : c3 ≤ 9223372036854775807 := hrw3.top
      clear hh3 hrw3
      have hel := hj5 xs (List.mem_of_getElem? hx)
      have h30 : m3 = m0 := by rw [elB_eq, Bool.and_eq_true, beq_iff_eq] at hel; omega
      subst h30
      have HX := Lib.hid hx
      clear hx hel
      go_upto_region 6 with fail
      refine wp_region_lit ?_
      refine wpList_run (by kernel_rfl) (.bool true) wo (xo_lssT .i64 (i : Int) (n : Int) (by omega) rfl rfl rfl) ?_
      simp only [Act.put, List.setIfInBounds_toArray, List.set_cons_zero, List.set_cons_succ]
      refine wpList_nil ?_
      go_upto_region 7 with fail
      refine wp_region_lit ?_
      refine wpList_run (by kernel_rfl) (.int .i64 (i : Int)) wo rfl ?_
      simp only [Act.put, List.setIfInBounds_toArray, List.set_cons_zero, List.set_cons_succ]
      refine wpList_run (by kernel_rfl) (.pointer (some (gad A (i * 1)))) wo (xg_idx .i64 (Cols.head (HC.out.keep B0.out)) HE3.out Tryd.underlying38 (by kernel_rfl) rfl rfl rfl) ?_
      simp only [Act.put, List.setIfInBounds_toArray, List.set_cons_zero, List.set_cons_succ]
      refine wpList_run (by kernel_rfl) (.slice A3 m3 c3) wo (xg_load1 (E := hdC) (i := i) (j := 0) (Cols.head (HC.out.keep B0.out)) HE3.out rfl rfl Tryd.underlying48 rfl rfl rfl) ?_
      simp only [Act.put, List.setIfInBounds_toArray, List.set_cons_zero, List.set_cons_succ]
      refine wpList_run (by kernel_rfl) (.int .i64 (i : Int)) wo rfl ?_
      simp only [Act.put, List.setIfInBounds_toArray, List.set_cons_zero, List.set_cons_succ]
      refine wpList_run (by kernel_rfl) (.slice A3 m3 c3) wo rfl ?_
      simp only [Act.put, List.setIfInBounds_toArray, List.set_cons_zero, List.set_cons_succ]
      refine wpList_nil ?_
      go_upto_region 8 with fail
      refine wp_region_lit ?_
      refine wpList_run (by kernel_rfl) (.slice A3 m3 c3) wo rfl ?_
      simp only [Act.put, List.setIfInBounds_toArray, List.set_cons_zero, List.set_cons_succ]
      refine wpList_run (by kernel_rfl) (.int .i64 (m3 : Int)) wo (xo_len A3 m3 c3 Tryd.underlying48 rfl rfl) ?_
      simp only [Act.put, List.setIfInBounds_toArray, List.set_cons_zero, List.set_cons_succ]
      refine wpList_run (by kernel_rfl) (.int .i64 0) wo rfl ?_
      simp only [Act.put, List.setIfInBounds_toArray, List.set_cons_zero, List.set_cons_succ]
      refine wpList_nil ?_
      have O8 := Fv1_22.out
      have O9 := B0.out
      go_wp2_with fail
      go_loopw [32] (fun p wr => ∃ j : Nat, j ≤ m3 ∧ p = .int .i64 j ∧ RowG wdC wr g22 50 (tabP xss W m3 i j) ∧ Below w.heap.size w wr) (fun p _ => m3 - (intOf p).toNat)
      case atStart => exact ⟨0, Nat.zero_le _, rfl, O8, O9⟩
      case round =>
        clear O8 O9
        obtain ⟨wq, rfl⟩ : ∃ wq : World, wq = wr := ⟨_, rfl⟩
        obtain ⟨j, hi, rfl, hr0, hb0⟩ := hrel
        have hbr := hb0
        clear B0
        have B0 := Lib.hid hbr
        clear hbr
        clear Fv1_22
        have Fv1_22 : Hid (RowG wdC wq g22 50 (tabP xss W m3 i j)) := Lib.hid (hr0)
        clear hb0 hr0
        by_cases hlt3 : j < m3
        · have hci11 : ((j : Int) < (m3 : Int)) := by omega
          obtain ⟨x, hx⟩ : ∃ x, xs[j]? = some x := ⟨_, List.getElem?_eq_getElem (by omega)⟩
          have HXX := Lib.hid hx
          clear hx
          obtain ⟨J, hJ⟩ : ∃ J, i + W * j = J := ⟨_, rfl⟩
          have hJM : J < M := by rw [← hJ, ← hM]; exact idx_lt (by omega) hlt3
          obtain ⟨WJ, hWJ⟩ : ∃ x, W * j = x := ⟨_, rfl⟩
          have hWi : (W : Int) * (j : Int) = (WJ : Int) := by rw [← hWJ]; exact (Int.natCast_mul W j).symm
          have hJ2 : (i : Int) + (WJ : Int) = (J : Int) := by omega
          obtain ⟨y, hy⟩ : ∃ y, (tabP xss W m3 i j)[J]? = some y := ⟨_, List.getElem?_eq_getElem (by rw [tabP_length, hM]; exact hJM)⟩
          have HY := Lib.hid hy
          clear hy
          go_upto_region 9 with fail
          refine wp_region_lit ?_
          refine wpList_run (by kernel_rfl) (.bool true) wq (xo_lssT .i64 (j : Int) (m3 : Int) (by omega) rfl rfl rfl) ?_
          simp only [Act.put, List.setIfInBounds_toArray, List.set_cons_zero, List.set_cons_succ]
          refine wpList_nil ?_
          go_upto_region 10 with fail
          refine wp_region_lit ?_
          refine wpList_run (by kernel_rfl) (.int .i64 (j : Int)) wq rfl ?_
          simp only [Act.put, List.setIfInBounds_toArray, List.set_cons_zero, List.set_cons_succ]
          refine wpList_run (by kernel_rfl) (.pointer (some (gad A3 (j * 1)))) wq (xg_idx .i64 (HR3.out.keep B0.out) HXX.out Tryd.underlying48 (by kernel_rfl) rfl rfl rfl) ?_
          simp only [Act.put, List.setIfInBounds_toArray, List.set_cons_zero, List.set_cons_succ]
          refine wpList_run (by kernel_rfl) (.int .u64 (x : Int)) wq (xg_load1 (E := wdC) (i := j) (j := 0) (HR3.out.keep B0.out) HXX.out rfl rfl Tryd.underlying50 rfl rfl rfl) ?_
          simp only [Act.put, List.setIfInBounds_toArray, List.set_cons_zero, List.set_cons_succ]
          refine wpList_run (by kernel_rfl) (.int .i64 (j : Int)) wq rfl ?_
          simp only [Act.put, List.setIfInBounds_toArray, List.set_cons_zero, List.set_cons_succ]
          refine wpList_run (by kernel_rfl) (.int .u64 (x : Int)) wq rfl ?_
          simp only [Act.put, List.setIfInBounds_toArray, List.set_cons_zero, List.set_cons_succ]
          refine wpList_nil ?_
          go_upto_region 11 with fail
          refine wp_region_lit ?_
          refine wpList_run (by kernel_rfl) (.slice (some ⟨g22, 0, none⟩) M M) wq rfl ?_
          simp only [Act.put, List.setIfInBounds_toArray, List.set_cons_zero, List.set_cons_succ]
          refine wpList_run (by kernel_rfl) (.int .i64 (i : Int)) wq rfl ?_
          simp only [Act.put, List.setIfInBounds_toArray, List.set_cons_zero, List.set_cons_succ]
          refine wpList_run (by kernel_rfl) (.int .i64 (W : Int)) wq rfl ?_
          simp only [Act.put, List.setIfInBounds_toArray, List.set_cons_zero, List.set_cons_succ]
          refine wpList_run (by kernel_rfl) (.int .i64 (j : Int)) wq rfl ?_
          simp only [Act.put, List.setIfInBounds_toArray, List.set_cons_zero, List.set_cons_succ]
          refine wpList_run (by kernel_rfl) (.int .i64 (WJ : Int)) wq (xo_mulI (W : Int) (j : Int) (WJ : Int) hWi (by omega) (by omega) rfl rfl rfl) ?_
          simp only [Act.put, List.setIfInBounds_toArray, List.set_cons_zero, List.set_cons_succ]
          refine wpList_run (by kernel_rfl) (.int .i64 (J : Int)) wq (xo_addI (i : Int) (WJ : Int) (J : Int) hJ2 (by omega) (by omega) rfl rfl rfl) ?_
          simp only [Act.put, List.setIfInBounds_toArray, List.set_cons_zero, List.set_cons_succ]
          refine wpList_run (by kernel_rfl) (.int .u64 (x : Int)) wq rfl ?_
          simp only [Act.put, List.setIfInBounds_toArray, List.set_cons_zero, List.set_cons_succ]
          refine wpList_run (by kernel_rfl) (.pointer (some (gad (some ⟨g22, 0, none⟩) (J * 1)))) wq (xg_idx .i64 (RowG.sg Fv1_22.out (by rw [tabP_length, hM]) (Nat.le_refl _) (by omega)) HY.out Tryd.underlying48 (by kernel_rfl) rfl rfl rfl) ?_
          simp only [Act.put, List.setIfInBounds_toArray, List.set_cons_zero, List.set_cons_succ]
          refine wpList_storeW g22 _ _ 50 (by kernel_rfl) (RowG.h Fv1_22.out) (xg_store Fv1_22.out (List.getElem?_eq_some_iff.1 HY.out).1 x (by kernel_rfl) rfl rfl rfl) ?_
          intro X1_12 h1 hfar hbel hsz
          have hbr := hbel _ _ Gr5.out B0.out
          clear B0
          have B0 := Lib.hid hbr
          clear hbr
          clear Fv1_22
          have Fv1_22 : Hid (RowG wdC X1_12 g22 50 ((tabP xss W m3 i j).set J x)) := Lib.hid (h1)
          have HszX1_12 := Lib.hid hsz
          clear h1 hfar hbel hsz
          simp only [ptr, Act.put, List.setIfInBounds_toArray, List.set_cons_zero, List.set_cons_succ]
          refine wpList_nil ?_
          go_upto_region 12 with fail
          refine wp_region_lit ?_
          refine wpList_run (by kernel_rfl) (.int .i64 ((j + 1 : Nat) : Int)) X1_12 (xo_addI (j : Int) 1 ((j + 1 : Nat) : Int) (by omega) (by omega) (by omega) rfl rfl rfl) ?_
          simp only [Act.put, List.setIfInBounds_toArray, List.set_cons_zero, List.set_cons_succ]
          refine wpList_run (by kernel_rfl) (.int .i64 ((j + 1 : Nat) : Int)) X1_12 rfl ?_
          simp only [Act.put, List.setIfInBounds_toArray, List.set_cons_zero, List.set_cons_succ]
          refine wpList_nil ?_
          have hrow : RowG wdC X1_12 g22 50 (tabP xss W m3 i (j + 1)) := by
            have h0 := Fv1_22.out
            rw [← hJ, tabP_step (by omega) hlt3 HX.out HXX.out] at h0
            exact h0
          have hq13 := B0.out
          go_wp2_with fail
          go_roundw
          case rel => exact ⟨j + 1, by omega, by go_num, hrow, hq13⟩
          case measure => simp [intOf]; omega
        · have hci11 : ¬ ((j : Int) < (m3 : Int)) := by omega
          go_upto_region 9 with fail
          refine wp_region_lit ?_
          refine wpList_run (by kernel_rfl) (.bool false) wq (xo_lssF .i64 (j : Int) (m3 : Int) (by omega) rfl rfl rfl) ?_
          simp only [Act.put, List.setIfInBounds_toArray, List.set_cons_zero, List.set_cons_succ]
          refine wpList_nil ?_
          go_upto_region 13 with fail
          refine wp_region_lit ?_
          refine wpList_run (by kernel_rfl) (.int .i64 ((i + 1 : Nat) : Int)) wq (xo_addI (i : Int) 1 ((i + 1 : Nat) : Int) (by omega) (by omega) (by omega) rfl rfl rfl) ?_
          simp only [Act.put, List.setIfInBounds_toArray, List.set_cons_zero, List.set_cons_succ]
          refine wpList_run (by kernel_rfl) (.int .i64 ((i + 1 : Nat) : Int)) wq rfl ?_
          simp only [Act.put, List.setIfInBounds_toArray, List.set_cons_zero, List.set_cons_succ]
          refine wpList_nil ?_
          have hjm : j = m3 := by omega
          have hrow : RowG wdC wq g22 50 (tabP xss W m3 (i + 1) 0) := by
            have h0 := Fv1_22.out
            rw [hjm, tabP_next] at h0
            exact h0
          have hq12 := B0.out
          go_wp2_with fail
          go_roundw
          case rel => exact ⟨i + 1, by omega, by go_num, hrow, hq12⟩
          case measure => simp [intOf]; omega
    · have hci7 : ¬ ((i : Int) < (n : Int)) := by omega
      go_upto_region 6 with fail
      refine wp_region_lit ?_
      refine wpList_run (by kernel_rfl) (.bool false) wo (xo_lssF .i64 (i : Int) (n : Int) (by omega) rfl rfl rfl) ?_
      simp only [Act.put, List.setIfInBounds_toArray, List.set_cons_zero, List.set_cons_succ]
      refine wpList_nil ?_
      go_upto_region 14 with fail
      refine wp_region_lit ?_
      refine wpList_run (by kernel_rfl) (.slice (some ⟨g22, 0, none⟩) M M) wo rfl ?_
      simp only [Act.put, List.setIfInBounds_toArray, List.set_cons_zero, List.set_cons_succ]
      refine wpList_run (by kernel_rfl) (.slice (some ⟨g22, 0, none⟩) M M) wo rfl ?_
      simp only [Act.put, List.setIfInBounds_toArray, List.set_cons_zero, List.set_cons_succ]
      refine wpList_run (by kernel_rfl) (.int .i64 0) wo rfl ?_
      simp only [Act.put, List.setIfInBounds_toArray, List.set_cons_zero, List.set_cons_succ]
      refine wpList_nil ?_
      have hrow : RowG wdC wo g22 50 (tabN xss W m0) := by
        have h0 := Fv1_22.out
        rw [tabP_all (by omega)] at h0
        exact h0
      go_wp2_with fail
      go_ret2
      exact ⟨g22, W, m0, M, rfl, (by first | rfl | exact hW), (by first | rfl | (rw [hL0, hml0])), (by first | rfl | exact hM), hMt, hrow, Gr5.out, B0.out⟩
end Go.Proofs.YtopicjdmajlndaaDoor

