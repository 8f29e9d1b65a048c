/- Several texts in one: Qo. -/
import Derived.Test.YtopicjdmajlndaaDoorH10
namespace Go.Proofs.YtopicjdmajlndaaDoor
set_option linter.unusedVariables false
set_option linter.unusedSimpArgs false
set_option linter.unusedSectionVars false
set_option maxRecDepth 8000
open Go.RowKit Go.Proofs.YtopicjdmajlndaaDoor.K
attribute [local irreducible] wpList wpQuiet
set_option maxRecDepth 100000 in
set_option maxHeartbeats 8000000 in
theorem rtable_yes (A : Option Addr) (n c : Nat) (hs : List Hd) (xss : List (List Nat)) (hsmall : ∀ xs ∈ xss, xs.length < 4611686018427387904) (hj : jB xss = true) (w : World) (h : Cols w A n c hs xss) :
    Calls Tryd.prog 30 #[.slice A n c] w fun e w' => ∃ g W L M, e = .returned (.tuple #[.slice (some ⟨g, 0, none⟩) M M, .int .i64 0]) ∧ widthN n 7 1 = W ∧ L0 xss = L ∧ W * L = M ∧ M ≤ 8388608 ∧ RowG wdC w' g 50 (tabN xss W L) ∧ w.heap.size ≤ g ∧ Below w.heap.size w w' := by
  have HC := Lib.hid h
  have hln := h.n_eq.symm
  have hlh := h.len
  have hcap := h.head.cap
  have htop := h.head.top
  clear h
  go_enter Tryd.func30, Tryd.ntmps30
  go_upto_region 1 with fail
  obtain ⟨hj1, hj2, hj3, hj4, hj5⟩ := jB_parts hj
  have hci0 : ¬ ((n : Int) < 1) := by omega
  have hci1 : ¬ ((n : Int) > 64) := by omega
  obtain ⟨x0, hx0⟩ : ∃ x, xss[0]? = some x := ⟨_, List.getElem?_eq_getElem (by omega)⟩
  have hL0 : L0 xss = x0.length := by simp [L0, List.headD_eq_head?_getD, List.head?_eq_getElem?, hx0]
  obtain ⟨⟨A0, m0, c0⟩, hh0⟩ : ∃ h, hs[0]? = some h := ⟨_, List.getElem?_eq_getElem (by have := HC.out.len; omega)⟩
  have hrw0 := HC.out.row 0 _ _ hh0 hx0
  have hml0 : x0.length = m0 := hrw0.len
  have HE0 := Lib.hid hh0
  have HR0 := Lib.hid hrw0
  simp only at HR0
  have hcp0 : m0 ≤ c0 := hrw0.cap
  have htp0 : c0 ≤ 9223372036854775807 := hrw0.top
  clear hh0 hrw0
  rw [hml0] at hL0
  have HL0 := Lib.hid hL0
  clear hL0
  have hsm : m0 < 4611686018427387904 := by have := hsmall x0 (List.mem_of_getElem? hx0); omega
  have hand : m0 &&& (m0 - 1) ≤ m0 := Nat.and_le_left
  refine wp_region_lit ?_
  refine wpList_run (by kernel_rfl) (.slice A n c) w rfl ?_
  simp only [Act.put, List.setIfInBounds_toArray, List.set_cons_zero, List.set_cons_succ]
  refine wpList_run (by kernel_rfl) (.int .i64 (n : Int)) w (xo_len A n c Tryd.underlying38 rfl rfl) ?_
  simp only [Act.put, List.setIfInBounds_toArray, List.set_cons_zero, List.set_cons_succ]
  refine wpList_run (by kernel_rfl) (.bool false) w (xo_lssF .i64 (n : Int) 1 (by omega) rfl rfl rfl) ?_
  simp only [Act.put, List.setIfInBounds_toArray, List.set_cons_zero, List.set_cons_succ]
  refine wpList_run (by kernel_rfl) (.bool false) w rfl ?_
  simp only [Act.put, List.setIfInBounds_toArray, List.set_cons_zero, List.set_cons_succ]
  refine wpList_run (by kernel_rfl) (.slice A n c) w rfl ?_
  simp only [Act.put, List.setIfInBounds_toArray, List.set_cons_zero, List.set_cons_succ]
  refine wpList_run (by kernel_rfl) (.int .i64 (n : Int)) w (xo_len A n c Tryd.underlying38 rfl rfl) ?_
  simp only [Act.put, List.setIfInBounds_toArray, List.set_cons_zero, List.set_cons_succ]
  refine wpList_run (by kernel_rfl) (.bool false) w (xo_gtrF .i64 (n : Int) 64 (by omega) rfl rfl rfl) ?_
  simp only [Act.put, List.setIfInBounds_toArray, List.set_cons_zero, List.set_cons_succ]
  refine wpList_run (by kernel_rfl) (.bool false) w rfl ?_
  simp only [Act.put, List.setIfInBounds_toArray, List.set_cons_zero, List.set_cons_succ]
  refine wpList_nil ?_
  go_upto_region 3 with fail
  refine wp_region_lit ?_
  refine wpList_run (by kernel_rfl) (.slice A n c) w rfl ?_
  simp only [Act.put, List.setIfInBounds_toArray, List.set_cons_zero, List.set_cons_succ]
  refine wpList_run (by kernel_rfl) (.pointer (some (gad A (0 * 1)))) w (xg_idx .i64 (Cols.head HC.out) HE0.out Tryd.underlying38 (by kernel_rfl) rfl rfl rfl) ?_
  simp only [Act.put, List.setIfInBounds_toArray, List.set_cons_zero, List.set_cons_succ]
  refine wpList_run (by kernel_rfl) (.slice A0 m0 c0) w (xg_load1 (E := hdC) (i := 0) (j := 0) (Cols.head HC.out) HE0.out rfl rfl Tryd.underlying48 rfl rfl rfl) ?_
  simp only [Act.put, List.setIfInBounds_toArray, List.set_cons_zero, List.set_cons_succ]
  refine wpList_run (by kernel_rfl) (.int .i64 (m0 : Int)) w (xo_len A0 m0 c0 Tryd.underlying48 rfl rfl) ?_
  simp only [Act.put, List.setIfInBounds_toArray, List.set_cons_zero, List.set_cons_succ]
  refine wpList_run (by kernel_rfl) (.int .i64 (m0 : Int)) w rfl ?_
  simp only [Act.put, List.setIfInBounds_toArray, List.set_cons_zero, List.set_cons_succ]
  refine wpList_nil ?_
  rw [HL0.out] at hj3 hj4 hj5
  have hcl : clB m0 = true := hj3
  have hm0 : 1 ≤ m0 ∧ m0 ≤ 65536 := by simp only [clB, Bool.and_eq_true, decide_eq_true_eq] at hcl; exact ⟨hcl.1, hcl.2.1⟩
  have hn0 : ((m0 &&& (m0 - 1) : Nat) : Int) = 0 := by simp only [clB, Bool.and_eq_true, decide_eq_true_eq, beq_iff_eq] at hcl; have := hcl.2.2; omega
  have hci2 : ¬ ((m0 : Int) < 1) := by omega
  have hci3 : ¬ ((m0 : Int) > 65536) := by omega
  go_upto_region 4 with fail
  refine wp_region_lit ?_
  refine wpList_run (by kernel_rfl) (.int .i64 (m0 : Int)) w rfl ?_
  simp only [Act.put, List.setIfInBounds_toArray, List.set_cons_zero, List.set_cons_succ]
  refine wpList_run (by kernel_rfl) (.bool false) w (xo_lssF .i64 (m0 : Int) 1 (by omega) rfl rfl rfl) ?_
  simp only [Act.put, List.setIfInBounds_toArray, List.set_cons_zero, List.set_cons_succ]
  refine wpList_run (by kernel_rfl) (.bool false) w rfl ?_
  simp only [Act.put, List.setIfInBounds_toArray, List.set_cons_zero, List.set_cons_succ]
  refine wpList_run (by kernel_rfl) (.int .i64 (m0 : Int)) w rfl ?_
  simp only [Act.put, List.setIfInBounds_toArray, List.set_cons_zero, List.set_cons_succ]
  refine wpList_run (by kernel_rfl) (.bool false) w (xo_gtrF .i64 (m0 : Int) 65536 (by omega) rfl rfl rfl) ?_
  simp only [Act.put, List.setIfInBounds_toArray, List.set_cons_zero, List.set_cons_succ]
  refine wpList_run (by kernel_rfl) (.bool false) w rfl ?_
  simp only [Act.put, List.setIfInBounds_toArray, List.set_cons_zero, List.set_cons_succ]
  refine wpList_run (by kernel_rfl) (.bool false) w rfl ?_
  simp only [Act.put, List.setIfInBounds_toArray, List.set_cons_zero, List.set_cons_succ]
  refine wpList_run (by kernel_rfl) (.int .i64 (m0 : Int)) w rfl ?_
  simp only [Act.put, List.setIfInBounds_toArray, List.set_cons_zero, List.set_cons_succ]
  refine wpList_run (by kernel_rfl) (.int .i64 (m0 : Int)) w rfl ?_
  simp only [Act.put, List.setIfInBounds_toArray, List.set_cons_zero, List.set_cons_succ]
  refine wpList_run (by kernel_rfl) (.int .i64 ((m0 - 1 : Nat) : Int)) w (xo_subI (m0 : Int) 1 ((m0 - 1 : Nat) : Int) (by omega) (by omega) (by omega) rfl rfl rfl) ?_
  simp only [Act.put, List.setIfInBounds_toArray, List.set_cons_zero, List.set_cons_succ]
  refine wpList_run (by kernel_rfl) (.int .i64 ((m0 &&& (m0 - 1) : Nat) : Int)) w (xo_and .i64 m0 (m0 - 1) (m0 &&& (m0 - 1)) (by show _ < 2 ^ 64; omega) (by show _ < 2 ^ 64; omega) rfl (by rw [IntKind.wrap_i64]; omega) rfl rfl rfl) ?_
  simp only [Act.put, List.setIfInBounds_toArray, List.set_cons_zero, List.set_cons_succ]
  refine wpList_run (by kernel_rfl) (.bool false) w (xo_neqF .i64 ((m0 &&& (m0 - 1) : Nat) : Int) 0 (by omega) rfl rfl rfl) ?_
  simp only [Act.put, List.setIfInBounds_toArray, List.set_cons_zero, List.set_cons_succ]
  refine wpList_run (by kernel_rfl) (.bool false) w rfl ?_
  simp only [Act.put, List.setIfInBounds_toArray, List.set_cons_zero, List.set_cons_succ]
  refine wpList_nil ?_
  go_upto_region 6 with fail
  refine wp_region_lit ?_
  refine wpList_run (by kernel_rfl) (.int .i64 1) w rfl ?_
  simp only [Act.put, List.setIfInBounds_toArray, List.set_cons_zero, List.set_cons_succ]
  refine wpList_nil ?_
  have O9 := (Below.refl w.heap.size w)
  have B0 := Lib.hid (Below.refl w.heap.size w)
  go_wp2_with fail
  go_loopw [5] (fun p wr => ∃ f v : Nat, p = .int .i64 v ∧ n ≤ v * 2 ^ f ∧ 1 ≤ v ∧ v ≤ 256 ∧ widthN n f v = widthN n 7 1 ∧ Below w.heap.size w wr) (fun p _ => 128 - (intOf p).toNat)
  case atStart => exact ⟨7, 1, rfl, by omega, by omega, by omega, rfl, O9⟩
  case round =>
    clear O9
    obtain ⟨wo, rfl⟩ : ∃ wo : World, wo = wr := ⟨_, rfl⟩
    obtain ⟨f, v, rfl, hf, hv1, hv2, he, hb0⟩ := hrel
    have HE := Lib.hid he
    have hbr := hb0
    clear B0
    have B0 := Lib.hid hbr
    clear hbr
    clear hb0 he
    by_cases hlt : v < n
    · have hci5 : ((v : Int) < (n : Int)) := by omega
      go_upto_region 7 with fail
      refine wp_region_lit ?_
      refine wpList_run (by kernel_rfl) (.int .i64 (v : Int)) wo rfl ?_
      simp only [Act.put, List.setIfInBounds_toArray, List.set_cons_zero, List.set_cons_succ]
      refine wpList_run (by kernel_rfl) (.slice A n c) wo rfl ?_
      simp only [Act.put, List.setIfInBounds_toArray, List.set_cons_zero, List.set_cons_succ]
      refine wpList_run (by kernel_rfl) (.int .i64 (n : Int)) wo (xo_len A n c Tryd.underlying38 rfl rfl) ?_
      simp only [Act.put, List.setIfInBounds_toArray, List.set_cons_zero, List.set_cons_succ]
      refine wpList_run (by kernel_rfl) (.bool true) wo (xo_lssT .i64 (v : Int) (n : Int) (by omega) rfl rfl rfl) ?_
      simp only [Act.put, List.setIfInBounds_toArray, List.set_cons_zero, List.set_cons_succ]
      refine wpList_nil ?_
      go_upto_region 8 with fail
      refine wp_region_lit ?_
      refine wpList_run (by kernel_rfl) (.int .i64 (v : Int)) wo rfl ?_
      simp only [Act.put, List.setIfInBounds_toArray, List.set_cons_zero, List.set_cons_succ]
      refine wpList_run (by kernel_rfl) (.int .i64 ((2 * v : Nat) : Int)) wo (xo_mulI 2 (v : Int) ((2 * v : Nat) : Int) (by omega) (by omega) (by omega) rfl rfl rfl) ?_
      simp only [Act.put, List.setIfInBounds_toArray, List.set_cons_zero, List.set_cons_succ]
      refine wpList_run (by kernel_rfl) (.int .i64 ((2 * v : Nat) : Int)) wo rfl ?_
      simp only [Act.put, List.setIfInBounds_toArray, List.set_cons_zero, List.set_cons_succ]
      refine wpList_nil ?_
      go_wp2_with fail
      go_roundw
      case rel => cases f with
      | zero => exact absurd hf (by rw [Nat.pow_zero]; omega)
      | succ f => exact ⟨f, 2 * v, rfl, (by rw [Nat.pow_succ] at hf; have e : 2 * v * 2 ^ f = v * (2 ^ f * 2) := (by rw [Nat.mul_comm 2 v, Nat.mul_assoc, Nat.mul_comm 2]); omega), by omega, by omega, by rw [← HE.out, widthN, if_pos hlt], B0.out⟩
      case measure => simp [intOf]; omega
    · have hci5 : ¬ ((v : Int) < (n : Int)) := by omega
      have HW := Lib.hid (show widthN n 7 1 = v by rw [← HE.out]; cases f with | zero => rfl | succ f => rw [widthN, if_neg hlt])
      have hWn : n ≤ v := by omega
      have hWt : v ≤ 128 := by rw [← HW.out]; exact widthN_le _ _ _
      obtain ⟨M, hM⟩ : ∃ M, v * m0 = M := ⟨_, rfl⟩
      have hMt : M ≤ 8388608 := by rw [← hM]; exact Nat.mul_le_mul hWt hm0.2
      have hMi : (v : Int) * (m0 : Int) = (M : Int) := by rw [← hM]; exact (Int.natCast_mul v m0).symm
      go_upto_region 7 with fail
      refine wp_region_lit ?_
      refine wpList_run (by kernel_rfl) (.int .i64 (v : Int)) wo rfl ?_
      simp only [Act.put, List.setIfInBounds_toArray, List.set_cons_zero, List.set_cons_succ]
      refine wpList_run (by kernel_rfl) (.slice A n c) wo rfl ?_
      simp only [Act.put, List.setIfInBounds_toArray, List.set_cons_zero, List.set_cons_succ]
      refine wpList_run (by kernel_rfl) (.int .i64 (n : Int)) wo (xo_len A n c Tryd.underlying38 rfl rfl) ?_
      simp only [Act.put, List.setIfInBounds_toArray, List.set_cons_zero, List.set_cons_succ]
      refine wpList_run (by kernel_rfl) (.bool false) wo (xo_lssF .i64 (v : Int) (n : Int) (by omega) rfl rfl rfl) ?_
      simp only [Act.put, List.setIfInBounds_toArray, List.set_cons_zero, List.set_cons_succ]
      refine wpList_nil ?_
      go_upto_region 9 with fail
      refine wp_region_lit ?_
      refine wpList_run (by kernel_rfl) (.int .i64 (v : Int)) wo rfl ?_
      simp only [Act.put, List.setIfInBounds_toArray, List.set_cons_zero, List.set_cons_succ]
      refine wpList_run (by kernel_rfl) (.int .i64 (m0 : Int)) wo rfl ?_
      simp only [Act.put, List.setIfInBounds_toArray, List.set_cons_zero, List.set_cons_succ]
      refine wpList_run (by kernel_rfl) (.int .i64 (M : Int)) wo (xo_mulI (v : Int) (m0 : Int) (M : Int) hMi (by omega) (by omega) rfl rfl rfl) ?_
      simp only [Act.put, List.setIfInBounds_toArray, List.set_cons_zero, List.set_cons_succ]
      refine wpList_mk (by kernel_rfl) ((List.replicate M 0).flatMap wdC).toArray 50 M M (xg_make (E := wdC) (bytes := 8) (.int .u64 0) 0 M .i64 Tryd.underlying48 (by kernel_rfl) rfl (by omega) (by omega) rfl rfl rfl) ?_
      intro g43 V2 hge h0 hb
      have Ge6 : Hid (wo.heap.size ≤ g43) := Lib.hid hge
      have B1 := Lib.hid hb
      have Fv7_43 : Hid (RowG wdC V2 g43 50 (List.replicate M 0)) := Lib.hid (h0)
      have Lt8 : Hid (g43 < V2.heap.size) := Lib.hid (xp_lt Fv7_43.out)
      clear hge h0 hb
      simp only [ptr, Act.put, List.setIfInBounds_toArray, List.set_cons_zero, List.set_cons_succ]
      refine wpList_run (by kernel_rfl) (.slice (some ⟨g43, 0, none⟩) M M) V2 rfl ?_
      simp only [Act.put, List.setIfInBounds_toArray, List.set_cons_zero, List.set_cons_succ]
      refine wpList_nil ?_
      go_upto_region 10 with fail
      refine wp_region_lit ?_
      refine wpList_run (by kernel_rfl) (.int .i64 0) V2 rfl ?_
      simp only [Act.put, List.setIfInBounds_toArray, List.set_cons_zero, List.set_cons_succ]
      refine wpList_nil ?_
      have ht0 : RowG wdC V2 g43 50 (tabP xss v m0 0 0) := by rw [tabP_zero, hM]; exact Fv7_43.out
      clear Fv7_43
      have Fv7_43 := Lib.hid ht0
      clear ht0
      have O9 := Fv7_43.out
      have C0_2 := Lib.hid (bel_step B0.out B1.out)
      have O10 := C0_2.out
      have Gr11 : Hid (w.heap.size ≤ g43) := Lib.hid (Nat.le_trans B0.out.size Ge6.out)
      go_wp2_with fail
      go_loopw [7] (fun p wr => ∃ i : Nat, i ≤ n ∧ p = .int .i64 i ∧ RowG wdC wr g43 50 (tabP xss v m0 i 0) ∧ Below w.heap.size w wr) (fun p _ => n - (intOf p).toNat)
      case atStart => exact ⟨0, Nat.zero_le _, rfl, O9, O10⟩
      case round =>
        clear O9 O10
        obtain ⟨wp, rfl⟩ : ∃ wp : World, wp = wr := ⟨_, rfl⟩
        obtain ⟨i, hi, rfl, hr0, hb0⟩ := hrel
        have hbr := hb0
        clear B0
        have B0 := Lib.hid hbr
        clear hbr
        clear Fv7_43
        have Fv7_43 : Hid (RowG wdC wp g43 50 (tabP xss v m0 i 0)) := Lib.hid (hr0)
        clear hb0 hr0
        by_cases hlt2 : i < n
        · have hci13 : ((i : Int) < (n : Int)) := by omega
          obtain ⟨xs, hx⟩ : ∃ xs, xss[i]? = some xs := ⟨_, List.getElem?_eq_getElem (by omega)⟩
          obtain ⟨⟨A3, m3, c3⟩, hh3⟩ : ∃ h, hs[i]? = some h := ⟨_, List.getElem?_eq_getElem (by have := HC.out.len; omega)⟩
          have hrw3 := HC.out.row i _ _ hh3 hx
          have hml3 : xs.length = m3 := hrw3.len
          have HE3 := Lib.hid hh3
          have HR3 := Lib.hid hrw3
          simp only at HR3
          have hcp3 : m3 ≤ c3 := hrw3.cap
          have htp3 : c3 ≤ 9223372036854775807 := hrw3.top
          clear hh3 hrw3
          have HX := Lib.hid hx
          go_upto_region 11 with fail
          refine wp_region_lit ?_
          refine wpList_run (by kernel_rfl) (.int .i64 (i : Int)) wp rfl ?_
          simp only [Act.put, List.setIfInBounds_toArray, List.set_cons_zero, List.set_cons_succ]
          refine wpList_run (by kernel_rfl) (.slice A n c) wp rfl ?_
          simp only [Act.put, List.setIfInBounds_toArray, List.set_cons_zero, List.set_cons_succ]
          refine wpList_run (by kernel_rfl) (.int .i64 (n : Int)) wp (xo_len A n c Tryd.underlying38 rfl rfl) ?_
          simp only [Act.put, List.setIfInBounds_toArray, List.set_cons_zero, List.set_cons_succ]
          refine wpList_run (by kernel_rfl) (.bool true) wp (xo_lssT .i64 (i : Int) (n : Int) (by omega) rfl rfl rfl) ?_
          simp only [Act.put, List.setIfInBounds_toArray, List.set_cons_zero, List.set_cons_succ]
          refine wpList_nil ?_
          have hel := hj5 xs (List.mem_of_getElem? hx)
          have HEL := Lib.hid hel
          have h30 : m3 = m0 := by rw [elB_eq, Bool.and_eq_true, beq_iff_eq] at hel; omega
          clear hel hx
          have hci14 : ¬ ((m3 : Int) ≠ (m0 : Int)) := by omega
          go_upto_region 13 with fail
          refine wp_region_lit ?_
          refine wpList_run (by kernel_rfl) (.slice A n c) wp rfl ?_
          simp only [Act.put, List.setIfInBounds_toArray, List.set_cons_zero, List.set_cons_succ]
          refine wpList_run (by kernel_rfl) (.int .i64 (i : Int)) wp rfl ?_
          simp only [Act.put, List.setIfInBounds_toArray, List.set_cons_zero, List.set_cons_succ]
          refine wpList_run (by kernel_rfl) (.pointer (some (gad A (i * 1)))) wp (xg_idx .i64 (Cols.head (HC.out.keep B0.out)) HE3.out Tryd.underlying38 (by kernel_rfl) rfl rfl rfl) ?_
          simp only [Act.put, List.setIfInBounds_toArray, List.set_cons_zero, List.set_cons_succ]
          refine wpList_run (by kernel_rfl) (.slice A3 m3 c3) wp (xg_load1 (E := hdC) (i := i) (j := 0) (Cols.head (HC.out.keep B0.out)) HE3.out rfl rfl Tryd.underlying48 rfl rfl rfl) ?_
          simp only [Act.put, List.setIfInBounds_toArray, List.set_cons_zero, List.set_cons_succ]
          refine wpList_run (by kernel_rfl) (.int .i64 (m3 : Int)) wp (xo_len A3 m3 c3 Tryd.underlying48 rfl rfl) ?_
          simp only [Act.put, List.setIfInBounds_toArray, List.set_cons_zero, List.set_cons_succ]
          refine wpList_run (by kernel_rfl) (.int .i64 (m0 : Int)) wp rfl ?_
          simp only [Act.put, List.setIfInBounds_toArray, List.set_cons_zero, List.set_cons_succ]
          refine wpList_run (by kernel_rfl) (.bool false) wp (xo_neqF .i64 (m3 : Int) (m0 : Int) (by omega) rfl rfl rfl) ?_
          simp only [Act.put, List.setIfInBounds_toArray, List.set_cons_zero, List.set_cons_succ]
          refine wpList_nil ?_
          go_upto_region 15 with fail
          refine wp_region_lit ?_
          refine wpList_run (by kernel_rfl) (.int .i64 0) wp rfl ?_
          simp only [Act.put, List.setIfInBounds_toArray, List.set_cons_zero, List.set_cons_succ]
          refine wpList_nil ?_
          have O15 := Fv7_43.out
          have O16 := B0.out
          go_wp2_with fail
          go_loopw [8] (fun p wr => ∃ j : Nat, j ≤ m0 ∧ p = .int .i64 j ∧ RowG wdC wr g43 50 (tabP xss v m0 i j) ∧ Below w.heap.size w wr) (fun p _ => m0 - (intOf p).toNat)
          case atStart => exact ⟨0, Nat.zero_le _, rfl, O15, O16⟩
          case round =>
            clear O15 O16
            obtain ⟨wq, rfl⟩ : ∃ wq : World, wq = wr := ⟨_, rfl⟩
            obtain ⟨j, hi, rfl, hr0, hb0⟩ := hrel
            have hbr := hb0
            clear B0
            have B0 := Lib.hid hbr
            clear hbr
            clear Fv7_43
            have Fv7_43 : Hid (RowG wdC wq g43 50 (tabP xss v m0 i j)) := Lib.hid (hr0)
            clear hb0 hr0
            by_cases hlt3 : j < m0
            · have hci18 : ((j : Int) < (m0 : Int)) := by omega
              obtain ⟨x, hx⟩ : ∃ x, xs[j]? = some x := ⟨_, List.getElem?_eq_getElem (by omega)⟩
              have HXX := Lib.hid hx
              clear hx
              go_upto_region 16 with fail
              refine wp_region_lit ?_
              refine wpList_run (by kernel_rfl) (.int .i64 (j : Int)) wq rfl ?_
              simp only [Act.put, List.setIfInBounds_toArray, List.set_cons_zero, List.set_cons_succ]
              refine wpList_run (by kernel_rfl) (.int .i64 (m0 : Int)) wq rfl ?_
              simp only [Act.put, List.setIfInBounds_toArray, List.set_cons_zero, List.set_cons_succ]
              refine wpList_run (by kernel_rfl) (.bool true) wq (xo_lssT .i64 (j : Int) (m0 : Int) (by omega) rfl rfl rfl) ?_
              simp only [Act.put, List.setIfInBounds_toArray, List.set_cons_zero, List.set_cons_succ]
              refine wpList_nil ?_
              have hv : decide (x < 18446744069414584321) = true := by have h1 := HEL.out; rw [elB_eq, Bool.and_eq_true, List.all_eq_true] at h1; exact h1.1 x (List.mem_of_getElem? HXX.out)
              go_upto_region 18 with fail
              refine wp_region_lit ?_
              refine wpList_run (by kernel_rfl) (.slice A n c) wq rfl ?_
              simp only [Act.put, List.setIfInBounds_toArray, List.set_cons_zero, List.set_cons_succ]
              refine wpList_run (by kernel_rfl) (.int .i64 (i : Int)) wq rfl ?_
              simp only [Act.put, List.setIfInBounds_toArray, List.set_cons_zero, List.set_cons_succ]
              refine wpList_run (by kernel_rfl) (.pointer (some (gad A (i * 1)))) wq (xg_idx .i64 (Cols.head (HC.out.keep B0.out)) HE3.out Tryd.underlying38 (by kernel_rfl) rfl rfl rfl) ?_
              simp only [Act.put, List.setIfInBounds_toArray, List.set_cons_zero, List.set_cons_succ]
              refine wpList_run (by kernel_rfl) (.slice A3 m3 c3) wq (xg_load1 (E := hdC) (i := i) (j := 0) (Cols.head (HC.out.keep B0.out)) HE3.out rfl rfl Tryd.underlying48 rfl rfl rfl) ?_
              simp only [Act.put, List.setIfInBounds_toArray, List.set_cons_zero, List.set_cons_succ]
              refine wpList_run (by kernel_rfl) (.int .i64 (j : Int)) wq rfl ?_
              simp only [Act.put, List.setIfInBounds_toArray, List.set_cons_zero, List.set_cons_succ]
              refine wpList_run (by kernel_rfl) (.pointer (some (gad A3 (j * 1)))) wq (xg_idx .i64 (HR3.out.keep B0.out) HXX.out Tryd.underlying48 (by kernel_rfl) rfl rfl rfl) ?_
              simp only [Act.put, List.setIfInBounds_toArray, List.set_cons_zero, List.set_cons_succ]
              refine wpList_run (by kernel_rfl) (.int .u64 (x : Int)) wq (xg_load1 (E := wdC) (i := j) (j := 0) (HR3.out.keep B0.out) HXX.out rfl rfl Tryd.underlying50 rfl rfl rfl) ?_
              simp only [Act.put, List.setIfInBounds_toArray, List.set_cons_zero, List.set_cons_succ]
              refine wpList_call (by kernel_rfl) 41 Tryd.func41 (by kernel_rfl) (by kernel_rfl) _ _ #[.int .u64 (x : Int)] rfl (by kernel_rfl) ?_
              refine (rfvalid_as x true hv wq).mono ?_
              rintro e V2 ⟨rfl, hb⟩
              have B1 := Lib.hid hb
              clear hb 
              refine ⟨_, rfl, ?_⟩
              simp only [Act.put, List.setIfInBounds_toArray, List.set_cons_zero, List.set_cons_succ]
              refine wpList_run (by kernel_rfl) (.bool false) V2 rfl ?_
              simp only [Act.put, List.setIfInBounds_toArray, List.set_cons_zero, List.set_cons_succ]
              refine wpList_nil ?_
              obtain ⟨J, hJ⟩ : ∃ J, i + v * j = J := ⟨_, rfl⟩
              have hJM : J < M := by rw [← hJ, ← hM]; exact idx_lt (by omega) (by omega)
              obtain ⟨WJ, hWJ⟩ : ∃ x, v * j = x := ⟨_, rfl⟩
              have hWi : (v : Int) * (j : Int) = (WJ : Int) := by rw [← hWJ]; exact (Int.natCast_mul v j).symm
              have hJ2 : (i : Int) + (WJ : Int) = (J : Int) := by omega
              obtain ⟨y, hy⟩ : ∃ y, (tabP xss v m0 i j)[J]? = some y := ⟨_, List.getElem?_eq_getElem (by rw [tabP_length, hM]; exact hJM)⟩
              have HY := Lib.hid hy
              clear hy
              go_upto_region 20 with fail
              refine wp_region_lit ?_
              refine wpList_run (by kernel_rfl) (.slice (some ⟨g43, 0, none⟩) M M) V2 rfl ?_
              simp only [Act.put, List.setIfInBounds_toArray, List.set_cons_zero, List.set_cons_succ]
              refine wpList_run (by kernel_rfl) (.int .i64 (i : Int)) V2 rfl ?_
              simp only [Act.put, List.setIfInBounds_toArray, List.set_cons_zero, List.set_cons_succ]
              refine wpList_run (by kernel_rfl) (.int .i64 (v : Int)) V2 rfl ?_
              simp only [Act.put, List.setIfInBounds_toArray, List.set_cons_zero, List.set_cons_succ]
              refine wpList_run (by kernel_rfl) (.int .i64 (j : Int)) V2 rfl ?_
              simp only [Act.put, List.setIfInBounds_toArray, List.set_cons_zero, List.set_cons_succ]
              refine wpList_run (by kernel_rfl) (.int .i64 (WJ : Int)) V2 (xo_mulI (v : Int) (j : Int) (WJ : Int) hWi (by omega) (by omega) rfl rfl rfl) ?_
              simp only [Act.put, List.setIfInBounds_toArray, List.set_cons_zero, List.set_cons_succ]
              refine wpList_run (by kernel_rfl) (.int .i64 (J : Int)) V2 (xo_addI (i : Int) (WJ : Int) (J : Int) hJ2 (by omega) (by omega) rfl rfl rfl) ?_
              simp only [Act.put, List.setIfInBounds_toArray, List.set_cons_zero, List.set_cons_succ]
              refine wpList_run (by kernel_rfl) (.slice A n c) V2 rfl ?_
              simp only [Act.put, List.setIfInBounds_toArray, List.set_cons_zero, List.set_cons_succ]
              refine wpList_run (by kernel_rfl) (.int .i64 (i : Int)) V2 rfl ?_
              simp only [Act.put, List.setIfInBounds_toArray, List.set_cons_zero, List.set_cons_succ]
              have C0_2 := Lib.hid (bel_step B0.out B1.out)
              refine wpList_run (by kernel_rfl) (.pointer (some (gad A (i * 1)))) V2 (xg_idx .i64 (Cols.head (HC.out.keep C0_2.out)) HE3.out Tryd.underlying38 (by kernel_rfl) rfl rfl rfl) ?_
              simp only [Act.put, List.setIfInBounds_toArray, List.set_cons_zero, List.set_cons_succ]
              refine wpList_run (by kernel_rfl) (.slice A3 m3 c3) V2 (xg_load1 (E := hdC) (i := i) (j := 0) (Cols.head (HC.out.keep C0_2.out)) HE3.out rfl rfl Tryd.underlying48 rfl rfl rfl) ?_
              simp only [Act.put, List.setIfInBounds_toArray, List.set_cons_zero, List.set_cons_succ]
              refine wpList_run (by kernel_rfl) (.int .i64 (j : Int)) V2 rfl ?_
              simp only [Act.put, List.setIfInBounds_toArray, List.set_cons_zero, List.set_cons_succ]
              refine wpList_run (by kernel_rfl) (.pointer (some (gad A3 (j * 1)))) V2 (xg_idx .i64 (HR3.out.keep C0_2.out) HXX.out Tryd.underlying48 (by kernel_rfl) rfl rfl rfl) ?_
              simp only [Act.put, List.setIfInBounds_toArray, List.set_cons_zero, List.set_cons_succ]
              refine wpList_run (by kernel_rfl) (.int .u64 (x : Int)) V2 (xg_load1 (E := wdC) (i := j) (j := 0) (HR3.out.keep C0_2.out) HXX.out rfl rfl Tryd.underlying50 rfl rfl rfl) ?_
              simp only [Act.put, List.setIfInBounds_toArray, List.set_cons_zero, List.set_cons_succ]
              refine wpList_run (by kernel_rfl) (.pointer (some (gad (some ⟨g43, 0, none⟩) (J * 1)))) V2 (xg_idx .i64 (RowG.sg (Fv7_43.out.keep B1.out) (by rw [tabP_length, hM]) (Nat.le_refl _) (by omega)) HY.out Tryd.underlying48 (by kernel_rfl) rfl rfl rfl) ?_
              simp only [Act.put, List.setIfInBounds_toArray, List.set_cons_zero, List.set_cons_succ]
              refine wpList_storeW g43 _ _ 50 (by kernel_rfl) (RowG.h (Fv7_43.out.keep B1.out)) (xg_store (Fv7_43.out.keep B1.out) (List.getElem?_eq_some_iff.1 HY.out).1 x (by kernel_rfl) rfl rfl rfl) ?_
              intro X2_19 h1 hfar hbel hsz
              have hbr := hbel _ _ Gr11.out C0_2.out
              clear B0
              have B0 := Lib.hid hbr
              clear hbr
              clear Fv7_43
              have Fv7_43 : Hid (RowG wdC X2_19 g43 50 ((tabP xss v m0 i j).set J x)) := Lib.hid (h1)
              have HszX2_19 := Lib.hid hsz
              clear h1 hfar hbel hsz
              simp only [ptr, Act.put, List.setIfInBounds_toArray, List.set_cons_zero, List.set_cons_succ]
              refine wpList_nil ?_
              go_upto_region 17 with fail
              refine wp_region_lit ?_
              refine wpList_run (by kernel_rfl) (.int .i64 (j : Int)) X2_19 rfl ?_
              simp only [Act.put, List.setIfInBounds_toArray, List.set_cons_zero, List.set_cons_succ]
              refine wpList_run (by kernel_rfl) (.int .i64 ((j + 1 : Nat) : Int)) X2_19 (xo_addI (j : Int) 1 ((j + 1 : Nat) : Int) (by omega) (by omega) (by omega) rfl rfl rfl) ?_
              simp only [Act.put, List.setIfInBounds_toArray, List.set_cons_zero, List.set_cons_succ]
              refine wpList_run (by kernel_rfl) (.int .i64 ((j + 1 : Nat) : Int)) X2_19 rfl ?_
              simp only [Act.put, List.setIfInBounds_toArray, List.set_cons_zero, List.set_cons_succ]
              refine wpList_nil ?_
              have hrow : RowG wdC X2_19 g43 50 (tabP xss v m0 i (j + 1)) := by
                have h0 := Fv7_43.out
                rw [← hJ, tabP_step (by omega) hlt3 HX.out HXX.out] at h0
                exact h0
              have hq20 := B0.out
              go_wp2_with fail
              go_roundw
              case rel => exact ⟨j + 1, by omega, by go_num, hrow, hq20⟩
              case measure => simp [intOf]; omega
            · have hci18 : ¬ ((j : Int) < (m0 : Int)) := by omega
              go_upto_region 16 with fail
              refine wp_region_lit ?_
              refine wpList_run (by kernel_rfl) (.int .i64 (j : Int)) wq rfl ?_
              simp only [Act.put, List.setIfInBounds_toArray, List.set_cons_zero, List.set_cons_succ]
              refine wpList_run (by kernel_rfl) (.int .i64 (m0 : Int)) wq rfl ?_
              simp only [Act.put, List.setIfInBounds_toArray, List.set_cons_zero, List.set_cons_succ]
              refine wpList_run (by kernel_rfl) (.bool false) wq (xo_lssF .i64 (j : Int) (m0 : Int) (by omega) rfl rfl rfl) ?_
              simp only [Act.put, List.setIfInBounds_toArray, List.set_cons_zero, List.set_cons_succ]
              refine wpList_nil ?_
              go_upto_region 12 with fail
              refine wp_region_lit ?_
              refine wpList_run (by kernel_rfl) (.int .i64 (i : Int)) wq rfl ?_
              simp only [Act.put, List.setIfInBounds_toArray, List.set_cons_zero, List.set_cons_succ]
              refine wpList_run (by kernel_rfl) (.int .i64 ((i + 1 : Nat) : Int)) wq (xo_addI (i : Int) 1 ((i + 1 : Nat) : Int) (by omega) (by omega) (by omega) rfl rfl rfl) ?_
              simp only [Act.put, List.setIfInBounds_toArray, List.set_cons_zero, List.set_cons_succ]
              refine wpList_run (by kernel_rfl) (.int .i64 ((i + 1 : Nat) : Int)) wq rfl ?_
              simp only [Act.put, List.setIfInBounds_toArray, List.set_cons_zero, List.set_cons_succ]
              refine wpList_nil ?_
              have hjm : j = m0 := by omega
              have hrow : RowG wdC wq g43 50 (tabP xss v m0 (i + 1) 0) := by
                have h0 := Fv7_43.out
                rw [hjm, tabP_next] at h0
                exact h0
              have hq19 := B0.out
              go_wp2_with fail
              go_roundw
              case rel => exact ⟨i + 1, by omega, by go_num, hrow, hq19⟩
              case measure => simp [intOf]; omega
        · have hci13 : ¬ ((i : Int) < (n : Int)) := by omega
          go_upto_region 11 with fail
          refine wp_region_lit ?_
          refine wpList_run (by kernel_rfl) (.int .i64 (i : Int)) wp rfl ?_
          simp only [Act.put, List.setIfInBounds_toArray, List.set_cons_zero, List.set_cons_succ]
          refine wpList_run (by kernel_rfl) (.slice A n c) wp rfl ?_
          simp only [Act.put, List.setIfInBounds_toArray, List.set_cons_zero, List.set_cons_succ]
          refine wpList_run (by kernel_rfl) (.int .i64 (n : Int)) wp (xo_len A n c Tryd.underlying38 rfl rfl) ?_
          simp only [Act.put, List.setIfInBounds_toArray, List.set_cons_zero, List.set_cons_succ]
          refine wpList_run (by kernel_rfl) (.bool false) wp (xo_lssF .i64 (i : Int) (n : Int) (by omega) rfl rfl rfl) ?_
          simp only [Act.put, List.setIfInBounds_toArray, List.set_cons_zero, List.set_cons_succ]
          refine wpList_nil ?_
          go_upto_region 21 with fail
          refine wp_region_lit ?_
          refine wpList_run (by kernel_rfl) (.slice (some ⟨g43, 0, none⟩) M M) wp rfl ?_
          simp only [Act.put, List.setIfInBounds_toArray, List.set_cons_zero, List.set_cons_succ]
          refine wpList_run (by kernel_rfl) (.slice (some ⟨g43, 0, none⟩) M M) wp rfl ?_
          simp only [Act.put, List.setIfInBounds_toArray, List.set_cons_zero, List.set_cons_succ]
          refine wpList_run (by kernel_rfl) (.int .i64 0) wp rfl ?_
          simp only [Act.put, List.setIfInBounds_toArray, List.set_cons_zero, List.set_cons_succ]
          refine wpList_nil ?_
          have hrow : RowG wdC wp g43 50 (tabN xss v m0) := by
            have h0 := Fv7_43.out
            rw [tabP_all (by omega)] at h0
            exact h0
          go_wp2_with fail
          go_ret2
          exact ⟨g43, v, m0, M, rfl, HW.out, HL0.out, (by first | rfl | exact hM), hMt, hrow, Gr11.out, B0.out⟩
set_option maxRecDepth 100000 in
set_option maxHeartbeats 8000000 in
theorem rtable_no (A : Option Addr) (n c : Nat) (hs : List Hd) (xss : List (List Nat)) (hsmall : ∀ xs ∈ xss, xs.length < 4611686018427387904) (hj : jB xss = false) (w : World) (h : Cols w A n c hs xss) :
    Calls Tryd.prog 30 #[.slice A n c] w fun e w' => e = .returned (.tuple #[.slice none 0 0, .int .i64 1]) ∧ Below w.heap.size w w' := by
  have HC := Lib.hid h
  have hln := h.n_eq.symm
  have hlh := h.len
  have hcap := h.head.cap
  have htop := h.head.top
  clear h
  go_enter Tryd.func30, Tryd.ntmps30
  go_upto_region 1 with fail
  by_cases hj1 : 1 ≤ n
  · by_cases hj2 : n ≤ 64
    · have hci0 : ¬ ((n : Int) < 1) := by omega
      have hci1 : ¬ ((n : Int) > 64) := by omega
      obtain ⟨x0, hx0⟩ : ∃ x, xss[0]? = some x := ⟨_, List.getElem?_eq_getElem (by omega)⟩
      have hL0 : L0 xss = x0.length := by simp [L0, List.headD_eq_head?_getD, List.head?_eq_getElem?, hx0]
      obtain ⟨⟨A0, m0, c0⟩, hh0⟩ : ∃ h, hs[0]? = some h := ⟨_, List.getElem?_eq_getElem (by have := HC.out.len; omega)⟩
      have hrw0 := HC.out.row 0 _ _ hh0 hx0
      have hml0 : x0.length = m0 := hrw0.len
      have HE0 := Lib.hid hh0
      have HR0 := Lib.hid hrw0
      simp only at HR0
      have hcp0 : m0 ≤ c0 := hrw0.cap
      have htp0 : c0 ≤ 9223372036854775807 := hrw0.top
      clear hh0 hrw0
      rw [hml0] at hL0
      have HL0 := Lib.hid hL0
      clear hL0
      have hsm : m0 < 4611686018427387904 := by have := hsmall x0 (List.mem_of_getElem? hx0); omega
      have hand : m0 &&& (m0 - 1) ≤ m0 := Nat.and_le_left
      refine wp_region_lit ?_
      refine wpList_run (by kernel_rfl) (.slice A n c) w rfl ?_
      simp only [Act.put, List.setIfInBounds_toArray, List.set_cons_zero, List.set_cons_succ]
      refine wpList_run (by kernel_rfl) (.int .i64 (n : Int)) w (xo_len A n c Tryd.underlying38 rfl rfl) ?_
      simp only [Act.put, List.setIfInBounds_toArray, List.set_cons_zero, List.set_cons_succ]
      refine wpList_run (by kernel_rfl) (.bool false) w (xo_lssF .i64 (n : Int) 1 (by omega) rfl rfl rfl) ?_
      simp only [Act.put, List.setIfInBounds_toArray, List.set_cons_zero, List.set_cons_succ]
      refine wpList_run (by kernel_rfl) (.bool false) w rfl ?_
      simp only [Act.put, List.setIfInBounds_toArray, List.set_cons_zero, List.set_cons_succ]
      refine wpList_run (by kernel_rfl) (.slice A n c) w rfl ?_
      simp only [Act.put, List.setIfInBounds_toArray, List.set_cons_zero, List.set_cons_succ]
      refine wpList_run (by kernel_rfl) (.int .i64 (n : Int)) w (xo_len A n c Tryd.underlying38 rfl rfl) ?_
      simp only [Act.put, List.setIfInBounds_toArray, List.set_cons_zero, List.set_cons_succ]
      refine wpList_run (by kernel_rfl) (.bool false) w (xo_gtrF .i64 (n : Int) 64 (by omega) rfl rfl rfl) ?_
      simp only [Act.put, List.setIfInBounds_toArray, List.set_cons_zero, List.set_cons_succ]
      refine wpList_run (by kernel_rfl) (.bool false) w rfl ?_
      simp only [Act.put, List.setIfInBounds_toArray, List.set_cons_zero, List.set_cons_succ]
      refine wpList_nil ?_
      go_upto_region 3 with fail
      refine wp_region_lit ?_
      refine wpList_run (by kernel_rfl) (.slice A n c) w rfl ?_
      simp only [Act.put, List.setIfInBounds_toArray, List.set_cons_zero, List.set_cons_succ]
      refine wpList_run (by kernel_rfl) (.pointer (some (gad A (0 * 1)))) w (xg_idx .i64 (Cols.head HC.out) HE0.out Tryd.underlying38 (by kernel_rfl) rfl rfl rfl) ?_
      simp only [Act.put, List.setIfInBounds_toArray, List.set_cons_zero, List.set_cons_succ]
      refine wpList_run (by kernel_rfl) (.slice A0 m0 c0) w (xg_load1 (E := hdC) (i := 0) (j := 0) (Cols.head HC.out) HE0.out rfl rfl Tryd.underlying48 rfl rfl rfl) ?_
      simp only [Act.put, List.setIfInBounds_toArray, List.set_cons_zero, List.set_cons_succ]
      refine wpList_run (by kernel_rfl) (.int .i64 (m0 : Int)) w (xo_len A0 m0 c0 Tryd.underlying48 rfl rfl) ?_
      simp only [Act.put, List.setIfInBounds_toArray, List.set_cons_zero, List.set_cons_succ]
      refine wpList_run (by kernel_rfl) (.int .i64 (m0 : Int)) w rfl ?_
      simp only [Act.put, List.setIfInBounds_toArray, List.set_cons_zero, List.set_cons_succ]
      refine wpList_nil ?_
      cases hcl : clB m0 with
      | false =>
        by_cases h1 : 1 ≤ m0
        · have hci2 : ¬ ((m0 : Int) < 1) := by omega
          by_cases h2 : m0 ≤ 65536
          · have hci3 : ¬ ((m0 : Int) > 65536) := by omega
            have hne : ((m0 &&& (m0 - 1) : Nat) : Int) ≠ 0 := by simp only [clB, h1, h2, decide_true, Bool.true_and, beq_eq_false_iff_ne] at hcl; omega
            go_upto_region 4 with fail
            refine wp_region_lit ?_
            refine wpList_run (by kernel_rfl) (.int .i64 (m0 : Int)) w rfl ?_
            simp only [Act.put, List.setIfInBounds_toArray, List.set_cons_zero, List.set_cons_succ]
            refine wpList_run (by kernel_rfl) (.bool false) w (xo_lssF .i64 (m0 : Int) 1 (by omega) rfl rfl rfl) ?_
            simp only [Act.put, List.setIfInBounds_toArray, List.set_cons_zero, List.set_cons_succ]
            refine wpList_run (by kernel_rfl) (.bool false) w rfl ?_
            simp only [Act.put, List.setIfInBounds_toArray, List.set_cons_zero, List.set_cons_succ]
            refine wpList_run (by kernel_rfl) (.int .i64 (m0 : Int)) w rfl ?_
            simp only [Act.put, List.setIfInBounds_toArray, List.set_cons_zero, List.set_cons_succ]
            refine wpList_run (by kernel_rfl) (.bool false) w (xo_gtrF .i64 (m0 : Int) 65536 (by omega) rfl rfl rfl) ?_
            simp only [Act.put, List.setIfInBounds_toArray, List.set_cons_zero, List.set_cons_succ]
            refine wpList_run (by kernel_rfl) (.bool false) w rfl ?_
            simp only [Act.put, List.setIfInBounds_toArray, List.set_cons_zero, List.set_cons_succ]
            refine wpList_run (by kernel_rfl) (.bool false) w rfl ?_
            simp only [Act.put, List.setIfInBounds_toArray, List.set_cons_zero, List.set_cons_succ]
            refine wpList_run (by kernel_rfl) (.int .i64 (m0 : Int)) w rfl ?_
            simp only [Act.put, List.setIfInBounds_toArray, List.set_cons_zero, List.set_cons_succ]
            refine wpList_run (by kernel_rfl) (.int .i64 (m0 : Int)) w rfl ?_
            simp only [Act.put, List.setIfInBounds_toArray, List.set_cons_zero, List.set_cons_succ]
            refine wpList_run (by kernel_rfl) (.int .i64 ((m0 - 1 : Nat) : Int)) w (xo_subI (m0 : Int) 1 ((m0 - 1 : Nat) : Int) (by omega) (by omega) (by omega) rfl rfl rfl) ?_
            simp only [Act.put, List.setIfInBounds_toArray, List.set_cons_zero, List.set_cons_succ]
            refine wpList_run (by kernel_rfl) (.int .i64 ((m0 &&& (m0 - 1) : Nat) : Int)) w (xo_and .i64 m0 (m0 - 1) (m0 &&& (m0 - 1)) (by show _ < 2 ^ 64; omega) (by show _ < 2 ^ 64; omega) rfl (by rw [IntKind.wrap_i64]; omega) rfl rfl rfl) ?_
            simp only [Act.put, List.setIfInBounds_toArray, List.set_cons_zero, List.set_cons_succ]
            refine wpList_run (by kernel_rfl) (.bool true) w (xo_neqT .i64 ((m0 &&& (m0 - 1) : Nat) : Int) 0 (by omega) rfl rfl rfl) ?_
            simp only [Act.put, List.setIfInBounds_toArray, List.set_cons_zero, List.set_cons_succ]
            refine wpList_run (by kernel_rfl) (.bool true) w rfl ?_
            simp only [Act.put, List.setIfInBounds_toArray, List.set_cons_zero, List.set_cons_succ]
            refine wpList_nil ?_
            go_upto_region 5 with fail
            refine wp_region_lit ?_
            refine wpList_run (by kernel_rfl) (.slice none 0 0) w rfl ?_
            simp only [Act.put, List.setIfInBounds_toArray, List.set_cons_zero, List.set_cons_succ]
            refine wpList_run (by kernel_rfl) (.int .i64 1) w rfl ?_
            simp only [Act.put, List.setIfInBounds_toArray, List.set_cons_zero, List.set_cons_succ]
            refine wpList_nil ?_
            go_wp2_with fail
            go_ret2
            exact ⟨rfl, (Below.refl w.heap.size w)⟩
          · have hci3 : ((m0 : Int) > 65536) := by omega
            go_upto_region 4 with fail
            refine wp_region_lit ?_
            refine wpList_run (by kernel_rfl) (.int .i64 (m0 : Int)) w rfl ?_
            simp only [Act.put, List.setIfInBounds_toArray, List.set_cons_zero, List.set_cons_succ]
            refine wpList_run (by kernel_rfl) (.bool false) w (xo_lssF .i64 (m0 : Int) 1 (by omega) rfl rfl rfl) ?_
            simp only [Act.put, List.setIfInBounds_toArray, List.set_cons_zero, List.set_cons_succ]
            refine wpList_run (by kernel_rfl) (.bool false) w rfl ?_
            simp only [Act.put, List.setIfInBounds_toArray, List.set_cons_zero, List.set_cons_succ]
            refine wpList_run (by kernel_rfl) (.int .i64 (m0 : Int)) w rfl ?_
            simp only [Act.put, List.setIfInBounds_toArray, List.set_cons_zero, List.set_cons_succ]
            refine wpList_run (by kernel_rfl) (.bool true) w (xo_gtrT .i64 (m0 : Int) 65536 (by omega) rfl rfl rfl) ?_
            simp only [Act.put, List.setIfInBounds_toArray, List.set_cons_zero, List.set_cons_succ]
            refine wpList_run (by kernel_rfl) (.bool true) w rfl ?_
            simp only [Act.put, List.setIfInBounds_toArray, List.set_cons_zero, List.set_cons_succ]
            refine wpList_run (by kernel_rfl) (.bool true) w rfl ?_
            simp only [Act.put, List.setIfInBounds_toArray, List.set_cons_zero, List.set_cons_succ]
            refine wpList_skip (by kernel_rfl) ?_
            try simp only [Act.put, List.setIfInBounds_toArray, List.set_cons_zero, List.set_cons_succ]
            refine wpList_skip (by kernel_rfl) ?_
            try simp only [Act.put, List.setIfInBounds_toArray, List.set_cons_zero, List.set_cons_succ]
            refine wpList_skip (by kernel_rfl) ?_
            try simp only [Act.put, List.setIfInBounds_toArray, List.set_cons_zero, List.set_cons_succ]
            refine wpList_skip (by kernel_rfl) ?_
            try simp only [Act.put, List.setIfInBounds_toArray, List.set_cons_zero, List.set_cons_succ]
            refine wpList_skip (by kernel_rfl) ?_
            try simp only [Act.put, List.setIfInBounds_toArray, List.set_cons_zero, List.set_cons_succ]
            refine wpList_run (by kernel_rfl) (.bool true) w rfl ?_
            simp only [Act.put, List.setIfInBounds_toArray, List.set_cons_zero, List.set_cons_succ]
            refine wpList_nil ?_
            go_upto_region 5 with fail
            refine wp_region_lit ?_
            refine wpList_run (by kernel_rfl) (.slice none 0 0) w rfl ?_
            simp only [Act.put, List.setIfInBounds_toArray, List.set_cons_zero, List.set_cons_succ]
            refine wpList_run (by kernel_rfl) (.int .i64 1) w rfl ?_
            simp only [Act.put, List.setIfInBounds_toArray, List.set_cons_zero, List.set_cons_succ]
            refine wpList_nil ?_
            go_wp2_with fail
            go_ret2
            exact ⟨rfl, (Below.refl w.heap.size w)⟩
        · have hci2 : ((m0 : Int) < 1) := by omega
          go_upto_region 4 with fail
          refine wp_region_lit ?_
          refine wpList_run (by kernel_rfl) (.int .i64 (m0 : Int)) w rfl ?_
          simp only [Act.put, List.setIfInBounds_toArray, List.set_cons_zero, List.set_cons_succ]
          refine wpList_run (by kernel_rfl) (.bool true) w (xo_lssT .i64 (m0 : Int) 1 (by omega) rfl rfl rfl) ?_
          simp only [Act.put, List.setIfInBounds_toArray, List.set_cons_zero, List.set_cons_succ]
          refine wpList_run (by kernel_rfl) (.bool true) w rfl ?_
          simp only [Act.put, List.setIfInBounds_toArray, List.set_cons_zero, List.set_cons_succ]
          refine wpList_skip (by kernel_rfl) ?_
          try simp only [Act.put, List.setIfInBounds_toArray, List.set_cons_zero, List.set_cons_succ]
          refine wpList_skip (by kernel_rfl) ?_
          try simp only [Act.put, List.setIfInBounds_toArray, List.set_cons_zero, List.set_cons_succ]
          refine wpList_run (by kernel_rfl) (.bool true) w rfl ?_
          simp only [Act.put, List.setIfInBounds_toArray, List.set_cons_zero, List.set_cons_succ]
          refine wpList_run (by kernel_rfl) (.bool true) w rfl ?_
          simp only [Act.put, List.setIfInBounds_toArray, List.set_cons_zero, List.set_cons_succ]
          refine wpList_skip (by kernel_rfl) ?_
          try simp only [Act.put, List.setIfInBounds_toArray, List.set_cons_zero, List.set_cons_succ]
          refine wpList_skip (by kernel_rfl) ?_
          try simp only [Act.put, List.setIfInBounds_toArray, List.set_cons_zero, List.set_cons_succ]
          refine wpList_skip (by kernel_rfl) ?_
          try simp only [Act.put, List.setIfInBounds_toArray, List.set_cons_zero, List.set_cons_succ]
          refine wpList_skip (by kernel_rfl) ?_
          try simp only [Act.put, List.setIfInBounds_toArray, List.set_cons_zero, List.set_cons_succ]
          refine wpList_skip (by kernel_rfl) ?_
          try simp only [Act.put, List.setIfInBounds_toArray, List.set_cons_zero, List.set_cons_succ]
          refine wpList_run (by kernel_rfl) (.bool true) w rfl ?_
          simp only [Act.put, List.setIfInBounds_toArray, List.set_cons_zero, List.set_cons_succ]
          refine wpList_nil ?_
          go_upto_region 5 with fail
          refine wp_region_lit ?_
          refine wpList_run (by kernel_rfl) (.slice none 0 0) w rfl ?_
          simp only [Act.put, List.setIfInBounds_toArray, List.set_cons_zero, List.set_cons_succ]
          refine wpList_run (by kernel_rfl) (.int .i64 1) w rfl ?_
          simp only [Act.put, List.setIfInBounds_toArray, List.set_cons_zero, List.set_cons_succ]
          refine wpList_nil ?_
          go_wp2_with fail
          go_ret2
          exact ⟨rfl, (Below.refl w.heap.size w)⟩
      | true =>
        have hm0 : 1 ≤ m0 ∧ m0 ≤ 65536 := by simp only [clB, Bool.and_eq_true, decide_eq_true_eq] at hcl; exact ⟨hcl.1, hcl.2.1⟩
        have hn0 : ((m0 &&& (m0 - 1) : Nat) : Int) = 0 := by simp only [clB, Bool.and_eq_true, decide_eq_true_eq, beq_iff_eq] at hcl; have := hcl.2.2; omega
        have hci2 : ¬ ((m0 : Int) < 1) := by omega
        have hci3 : ¬ ((m0 : Int) > 65536) := by omega
        go_upto_region 4 with fail
        refine wp_region_lit ?_
        refine wpList_run (by kernel_rfl) (.int .i64 (m0 : Int)) w rfl ?_
        simp only [Act.put, List.setIfInBounds_toArray, List.set_cons_zero, List.set_cons_succ]
        refine wpList_run (by kernel_rfl) (.bool false) w (xo_lssF .i64 (m0 : Int) 1 (by omega) rfl rfl rfl) ?_
        simp only [Act.put, List.setIfInBounds_toArray, List.set_cons_zero, List.set_cons_succ]
        refine wpList_run (by kernel_rfl) (.bool false) w rfl ?_
        simp only [Act.put, List.setIfInBounds_toArray, List.set_cons_zero, List.set_cons_succ]
        refine wpList_run (by kernel_rfl) (.int .i64 (m0 : Int)) w rfl ?_
        simp only [Act.put, List.setIfInBounds_toArray, List.set_cons_zero, List.set_cons_succ]
        refine wpList_run (by kernel_rfl) (.bool false) w (xo_gtrF .i64 (m0 : Int) 65536 (by omega) rfl rfl rfl) ?_
        simp only [Act.put, List.setIfInBounds_toArray, List.set_cons_zero, List.set_cons_succ]
        refine wpList_run (by kernel_rfl) (.bool false) w rfl ?_
        simp only [Act.put, List.setIfInBounds_toArray, List.set_cons_zero, List.set_cons_succ]
        refine wpList_run (by kernel_rfl) (.bool false) w rfl ?_
        simp only [Act.put, List.setIfInBounds_toArray, List.set_cons_zero, List.set_cons_succ]
        refine wpList_run (by kernel_rfl) (.int .i64 (m0 : Int)) w rfl ?_
        simp only [Act.put, List.setIfInBounds_toArray, List.set_cons_zero, List.set_cons_succ]
        refine wpList_run (by kernel_rfl) (.int .i64 (m0 : Int)) w rfl ?_
        simp only [Act.put, List.setIfInBounds_toArray, List.set_cons_zero, List.set_cons_succ]
        refine wpList_run (by kernel_rfl) (.int .i64 ((m0 - 1 : Nat) : Int)) w (xo_subI (m0 : Int) 1 ((m0 - 1 : Nat) : Int) (by omega) (by omega) (by omega) rfl rfl rfl) ?_
        simp only [Act.put, List.setIfInBounds_toArray, List.set_cons_zero, List.set_cons_succ]
        refine wpList_run (by kernel_rfl) (.int .i64 ((m0 &&& (m0 - 1) : Nat) : Int)) w (xo_and .i64 m0 (m0 - 1) (m0 &&& (m0 - 1)) (by show _ < 2 ^ 64; omega) (by show _ < 2 ^ 64; omega) rfl (by rw [IntKind.wrap_i64]; omega) rfl rfl rfl) ?_
        simp only [Act.put, List.setIfInBounds_toArray, List.set_cons_zero, List.set_cons_succ]
        refine wpList_run (by kernel_rfl) (.bool false) w (xo_neqF .i64 ((m0 &&& (m0 - 1) : Nat) : Int) 0 (by omega) rfl rfl rfl) ?_
        simp only [Act.put, List.setIfInBounds_toArray, List.set_cons_zero, List.set_cons_succ]
        refine wpList_run (by kernel_rfl) (.bool false) w rfl ?_
        simp only [Act.put, List.setIfInBounds_toArray, List.set_cons_zero, List.set_cons_succ]
        refine wpList_nil ?_
        go_upto_region 6 with fail
        refine wp_region_lit ?_
        refine wpList_run (by kernel_rfl) (.int .i64 1) w rfl ?_
        simp only [Act.put, List.setIfInBounds_toArray, List.set_cons_zero, List.set_cons_succ]
        refine wpList_nil ?_
        have O9 := (Below.refl w.heap.size w)
        have B0 := Lib.hid (Below.refl w.heap.size w)
        go_wp2_with fail
        go_loopw [5] (fun p wr => ∃ f v : Nat, p = .int .i64 v ∧ n ≤ v * 2 ^ f ∧ 1 ≤ v ∧ v ≤ 256 ∧ widthN n f v = widthN n 7 1 ∧ Below w.heap.size w wr) (fun p _ => 128 - (intOf p).toNat)
        case atStart => exact ⟨7, 1, rfl, by omega, by omega, by omega, rfl, O9⟩
        case round =>
          clear O9
          obtain ⟨wo, rfl⟩ : ∃ wo : World, wo = wr := ⟨_, rfl⟩
          obtain ⟨f, v, rfl, hf, hv1, hv2, he, hb0⟩ := hrel
          have HE := Lib.hid he
          have hbr := hb0
          clear B0
          have B0 := Lib.hid hbr
          clear hbr
          clear hb0 he
          by_cases hlt : v < n
          · have hci5 : ((v : Int) < (n : Int)) := by omega
            go_upto_region 7 with fail
            refine wp_region_lit ?_
            refine wpList_run (by kernel_rfl) (.int .i64 (v : Int)) wo rfl ?_
            simp only [Act.put, List.setIfInBounds_toArray, List.set_cons_zero, List.set_cons_succ]
            refine wpList_run (by kernel_rfl) (.slice A n c) wo rfl ?_
            simp only [Act.put, List.setIfInBounds_toArray, List.set_cons_zero, List.set_cons_succ]
            refine wpList_run (by kernel_rfl) (.int .i64 (n : Int)) wo (xo_len A n c Tryd.underlying38 rfl rfl) ?_
            simp only [Act.put, List.setIfInBounds_toArray, List.set_cons_zero, List.set_cons_succ]
            refine wpList_run (by kernel_rfl) (.bool true) wo (xo_lssT .i64 (v : Int) (n : Int) (by omega) rfl rfl rfl) ?_
            simp only [Act.put, List.setIfInBounds_toArray, List.set_cons_zero, List.set_cons_succ]
            refine wpList_nil ?_
            go_upto_region 8 with fail
            refine wp_region_lit ?_
            refine wpList_run (by kernel_rfl) (.int .i64 (v : Int)) wo rfl ?_
            simp only [Act.put, List.setIfInBounds_toArray, List.set_cons_zero, List.set_cons_succ]
            refine wpList_run (by kernel_rfl) (.int .i64 ((2 * v : Nat) : Int)) wo (xo_mulI 2 (v : Int) ((2 * v : Nat) : Int) (by omega) (by omega) (by omega) rfl rfl rfl) ?_
            simp only [Act.put, List.setIfInBounds_toArray, List.set_cons_zero, List.set_cons_succ]
            refine wpList_run (by kernel_rfl) (.int .i64 ((2 * v : Nat) : Int)) wo rfl ?_
            simp only [Act.put, List.setIfInBounds_toArray, List.set_cons_zero, List.set_cons_succ]
            refine wpList_nil ?_
            go_wp2_with fail
            go_roundw
            case rel => cases f with
            | zero => exact absurd hf (by rw [Nat.pow_zero]; omega)
            | succ f => exact ⟨f, 2 * v, rfl, (by rw [Nat.pow_succ] at hf; have e : 2 * v * 2 ^ f = v * (2 ^ f * 2) := (by rw [Nat.mul_comm 2 v, Nat.mul_assoc, Nat.mul_comm 2]); omega), by omega, by omega, by rw [← HE.out, widthN, if_pos hlt], B0.out⟩
            case measure => simp [intOf]; omega
          · have hci5 : ¬ ((v : Int) < (n : Int)) := by omega
            have HW := Lib.hid (show widthN n 7 1 = v by rw [← HE.out]; cases f with | zero => rfl | succ f => rw [widthN, if_neg hlt])
            have hWn : n ≤ v := by omega
            have hWt : v ≤ 128 := by rw [← HW.out]; exact widthN_le _ _ _
            obtain ⟨M, hM⟩ : ∃ M, v * m0 = M := ⟨_, rfl⟩
            have hMt : M ≤ 8388608 := by rw [← hM]; exact Nat.mul_le_mul hWt hm0.2
            have hMi : (v : Int) * (m0 : Int) = (M : Int) := by rw [← hM]; exact (Int.natCast_mul v m0).symm
            go_upto_region 7 with fail
            refine wp_region_lit ?_
            refine wpList_run (by kernel_rfl) (.int .i64 (v : Int)) wo rfl ?_
            simp only [Act.put, List.setIfInBounds_toArray, List.set_cons_zero, List.set_cons_succ]
            refine wpList_run (by kernel_rfl) (.slice A n c) wo rfl ?_
            simp only [Act.put, List.setIfInBounds_toArray, List.set_cons_zero, List.set_cons_succ]
            refine wpList_run (by kernel_rfl) (.int .i64 (n : Int)) wo (xo_len A n c Tryd.underlying38 rfl rfl) ?_
            simp only [Act.put, List.setIfInBounds_toArray, List.set_cons_zero, List.set_cons_succ]
            refine wpList_run (by kernel_rfl) (.bool false) wo (xo_lssF .i64 (v : Int) (n : Int) (by omega) rfl rfl rfl) ?_
            simp only [Act.put, List.setIfInBounds_toArray, List.set_cons_zero, List.set_cons_succ]
            refine wpList_nil ?_
            go_upto_region 9 with fail
            refine wp_region_lit ?_
            refine wpList_run (by kernel_rfl) (.int .i64 (v : Int)) wo rfl ?_
            simp only [Act.put, List.setIfInBounds_toArray, List.set_cons_zero, List.set_cons_succ]
            refine wpList_run (by kernel_rfl) (.int .i64 (m0 : Int)) wo rfl ?_
            simp only [Act.put, List.setIfInBounds_toArray, List.set_cons_zero, List.set_cons_succ]
            refine wpList_run (by kernel_rfl) (.int .i64 (M : Int)) wo (xo_mulI (v : Int) (m0 : Int) (M : Int) hMi (by omega) (by omega) rfl rfl rfl) ?_
            simp only [Act.put, List.setIfInBounds_toArray, List.set_cons_zero, List.set_cons_succ]
            refine wpList_mk (by kernel_rfl) ((List.replicate M 0).flatMap wdC).toArray 50 M M (xg_make (E := wdC) (bytes := 8) (.int .u64 0) 0 M .i64 Tryd.underlying48 (by kernel_rfl) rfl (by omega) (by omega) rfl rfl rfl) ?_
            intro g43 V2 hge h0 hb
            have Ge6 : Hid (wo.heap.size ≤ g43) := Lib.hid hge
            have B1 := Lib.hid hb
            have Fv7_43 : Hid (RowG wdC V2 g43 50 (List.replicate M 0)) := Lib.hid (h0)
            have Lt8 : Hid (g43 < V2.heap.size) := Lib.hid (xp_lt Fv7_43.out)
            clear hge h0 hb
            simp only [ptr, Act.put, List.setIfInBounds_toArray, List.set_cons_zero, List.set_cons_succ]
            refine wpList_run (by kernel_rfl) (.slice (some ⟨g43, 0, none⟩) M M) V2 rfl ?_
            simp only [Act.put, List.setIfInBounds_toArray, List.set_cons_zero, List.set_cons_succ]
            refine wpList_nil ?_
            go_upto_region 10 with fail
            refine wp_region_lit ?_
            refine wpList_run (by kernel_rfl) (.int .i64 0) V2 rfl ?_
            simp only [Act.put, List.setIfInBounds_toArray, List.set_cons_zero, List.set_cons_succ]
            refine wpList_nil ?_
            have O9 := Fv7_43.out
            have C0_2 := Lib.hid (bel_step B0.out B1.out)
            have O10 := C0_2.out
            have Gr11 : Hid (w.heap.size ≤ g43) := Lib.hid (Nat.le_trans B0.out.size Ge6.out)
            go_wp2_with fail
            go_loopw [7] (fun p wr => ∃ i : Nat, ∃ ys : List Nat, i ≤ n ∧ p = .int .i64 i ∧ ys.length = M ∧ (∀ xs ∈ xss.take i, elB xs m0 = true) ∧ RowG wdC wr g43 50 ys ∧ Below w.heap.size w wr) (fun p _ => n - (intOf p).toNat)
            case atStart => exact ⟨0, _, Nat.zero_le _, rfl, List.length_replicate .., (fun x hx => by simp at hx), O9, O10⟩
            case round =>
              clear O9 O10
              obtain ⟨wp, rfl⟩ : ∃ wp : World, wp = wr := ⟨_, rfl⟩
              obtain ⟨i, ys, hi, rfl, hhysl, hHA, hr0, hb0⟩ := hrel
              have hbr := hb0
              clear B0
              have B0 := Lib.hid hbr
              clear hbr
              clear Fv7_43
              have Fv7_43 : Hid (RowG wdC wp g43 50 ys) := Lib.hid (hr0)
              have hysl := Lib.hid hhysl
              have HA := Lib.hid hHA
              clear hb0 hr0 hhysl hHA
              by_cases hlt2 : i < n
              · have hci13 : ((i : Int) < (n : Int)) := by omega
                obtain ⟨xs, hx⟩ : ∃ xs, xss[i]? = some xs := ⟨_, List.getElem?_eq_getElem (by omega)⟩
                obtain ⟨⟨A3, m3, c3⟩, hh3⟩ : ∃ h, hs[i]? = some h := ⟨_, List.getElem?_eq_getElem (by have := HC.out.len; omega)⟩
                have hrw3 := HC.out.row i _ _ hh3 hx
                have hml3 : xs.length = m3 := hrw3.len
                have HE3 := Lib.hid hh3
                have HR3 := Lib.hid hrw3
                simp only at HR3
                have hcp3 : m3 ≤ c3 := hrw3.cap
                have htp3 : c3 ≤ 9223372036854775807 := hrw3.top
                clear hh3 hrw3
                have HX := Lib.hid hx
                go_upto_region 11 with fail
                refine wp_region_lit ?_
                refine wpList_run (by kernel_rfl) (.int .i64 (i : Int)) wp rfl ?_
                simp only [Act.put, List.setIfInBounds_toArray, List.set_cons_zero, List.set_cons_succ]
                refine wpList_run (by kernel_rfl) (.slice A n c) wp rfl ?_
                simp only [Act.put, List.setIfInBounds_toArray, List.set_cons_zero, List.set_cons_succ]
                refine wpList_run (by kernel_rfl) (.int .i64 (n : Int)) wp (xo_len A n c Tryd.underlying38 rfl rfl) ?_
                simp only [Act.put, List.setIfInBounds_toArray, List.set_cons_zero, List.set_cons_succ]
                refine wpList_run (by kernel_rfl) (.bool true) wp (xo_lssT .i64 (i : Int) (n : Int) (by omega) rfl rfl rfl) ?_
                simp only [Act.put, List.setIfInBounds_toArray, List.set_cons_zero, List.set_cons_succ]
                refine wpList_nil ?_
                clear hx
                by_cases h30 : m3 = m0
                · have hci14 : ¬ ((m3 : Int) ≠ (m0 : Int)) := by omega
                  go_upto_region 13 with fail
                  refine wp_region_lit ?_
                  refine wpList_run (by kernel_rfl) (.slice A n c) wp rfl ?_
                  simp only [Act.put, List.setIfInBounds_toArray, List.set_cons_zero, List.set_cons_succ]
                  refine wpList_run (by kernel_rfl) (.int .i64 (i : Int)) wp rfl ?_
                  simp only [Act.put, List.setIfInBounds_toArray, List.set_cons_zero, List.set_cons_succ]
                  refine wpList_run (by kernel_rfl) (.pointer (some (gad A (i * 1)))) wp (xg_idx .i64 (Cols.head (HC.out.keep B0.out)) HE3.out Tryd.underlying38 (by kernel_rfl) rfl rfl rfl) ?_
                  simp only [Act.put, List.setIfInBounds_toArray, List.set_cons_zero, List.set_cons_succ]
                  refine wpList_run (by kernel_rfl) (.slice A3 m3 c3) wp (xg_load1 (E := hdC) (i := i) (j := 0) (Cols.head (HC.out.keep B0.out)) HE3.out rfl rfl Tryd.underlying48 rfl rfl rfl) ?_
                  simp only [Act.put, List.setIfInBounds_toArray, List.set_cons_zero, List.set_cons_succ]
                  refine wpList_run (by kernel_rfl) (.int .i64 (m3 : Int)) wp (xo_len A3 m3 c3 Tryd.underlying48 rfl rfl) ?_
                  simp only [Act.put, List.setIfInBounds_toArray, List.set_cons_zero, List.set_cons_succ]
                  refine wpList_run (by kernel_rfl) (.int .i64 (m0 : Int)) wp rfl ?_
                  simp only [Act.put, List.setIfInBounds_toArray, List.set_cons_zero, List.set_cons_succ]
                  refine wpList_run (by kernel_rfl) (.bool false) wp (xo_neqF .i64 (m3 : Int) (m0 : Int) (by omega) rfl rfl rfl) ?_
                  simp only [Act.put, List.setIfInBounds_toArray, List.set_cons_zero, List.set_cons_succ]
                  refine wpList_nil ?_
                  go_upto_region 15 with fail
                  refine wp_region_lit ?_
                  refine wpList_run (by kernel_rfl) (.int .i64 0) wp rfl ?_
                  simp only [Act.put, List.setIfInBounds_toArray, List.set_cons_zero, List.set_cons_succ]
                  refine wpList_nil ?_
                  have O15 := Fv7_43.out
                  have O16 := B0.out
                  go_wp2_with fail
                  go_loopw [8] (fun p wr => ∃ j : Nat, ∃ ys : List Nat, j ≤ m0 ∧ p = .int .i64 j ∧ ys.length = M ∧ (∀ x ∈ xs.take j, x < 18446744069414584321) ∧ RowG wdC wr g43 50 ys ∧ Below w.heap.size w wr) (fun p _ => m0 - (intOf p).toNat)
                  case atStart => exact ⟨0, _, Nat.zero_le _, rfl, hysl.out, (fun x hx => by simp at hx), O15, O16⟩
                  case round =>
                    clear O15 O16
                    obtain ⟨wq, rfl⟩ : ∃ wq : World, wq = wr := ⟨_, rfl⟩
                    obtain ⟨j, ys, hi, rfl, hhysl, hHB, hr0, hb0⟩ := hrel
                    have hbr := hb0
                    clear B0
                    have B0 := Lib.hid hbr
                    clear hbr
                    clear Fv7_43
                    have Fv7_43 : Hid (RowG wdC wq g43 50 ys) := Lib.hid (hr0)
                    have hysl := Lib.hid hhysl
                    have HB := Lib.hid hHB
                    clear hb0 hr0 hhysl hHB
                    by_cases hlt3 : j < m0
                    · have hci18 : ((j : Int) < (m0 : Int)) := by omega
                      obtain ⟨x, hx⟩ : ∃ x, xs[j]? = some x := ⟨_, List.getElem?_eq_getElem (by omega)⟩
                      have HXX := Lib.hid hx
                      clear hx
                      go_upto_region 16 with fail
                      refine wp_region_lit ?_
                      refine wpList_run (by kernel_rfl) (.int .i64 (j : Int)) wq rfl ?_
                      simp only [Act.put, List.setIfInBounds_toArray, List.set_cons_zero, List.set_cons_succ]
                      refine wpList_run (by kernel_rfl) (.int .i64 (m0 : Int)) wq rfl ?_
                      simp only [Act.put, List.setIfInBounds_toArray, List.set_cons_zero, List.set_cons_succ]
                      refine wpList_run (by kernel_rfl) (.bool true) wq (xo_lssT .i64 (j : Int) (m0 : Int) (by omega) rfl rfl rfl) ?_
                      simp only [Act.put, List.setIfInBounds_toArray, List.set_cons_zero, List.set_cons_succ]
                      refine wpList_nil ?_
                      cases hv : decide (x < 18446744069414584321) with
                      | false =>
                        go_upto_region 18 with fail
                        refine wp_region_lit ?_
                        refine wpList_run (by kernel_rfl) (.slice A n c) wq rfl ?_
                        simp only [Act.put, List.setIfInBounds_toArray, List.set_cons_zero, List.set_cons_succ]
                        refine wpList_run (by kernel_rfl) (.int .i64 (i : Int)) wq rfl ?_
                        simp only [Act.put, List.setIfInBounds_toArray, List.set_cons_zero, List.set_cons_succ]
                        refine wpList_run (by kernel_rfl) (.pointer (some (gad A (i * 1)))) wq (xg_idx .i64 (Cols.head (HC.out.keep B0.out)) HE3.out Tryd.underlying38 (by kernel_rfl) rfl rfl rfl) ?_
                        simp only [Act.put, List.setIfInBounds_toArray, List.set_cons_zero, List.set_cons_succ]
                        refine wpList_run (by kernel_rfl) (.slice A3 m3 c3) wq (xg_load1 (E := hdC) (i := i) (j := 0) (Cols.head (HC.out.keep B0.out)) HE3.out rfl rfl Tryd.underlying48 rfl rfl rfl) ?_
                        simp only [Act.put, List.setIfInBounds_toArray, List.set_cons_zero, List.set_cons_succ]
                        refine wpList_run (by kernel_rfl) (.int .i64 (j : Int)) wq rfl ?_
                        simp only [Act.put, List.setIfInBounds_toArray, List.set_cons_zero, List.set_cons_succ]
                        refine wpList_run (by kernel_rfl) (.pointer (some (gad A3 (j * 1)))) wq (xg_idx .i64 (HR3.out.keep B0.out) HXX.out Tryd.underlying48 (by kernel_rfl) rfl rfl rfl) ?_
                        simp only [Act.put, List.setIfInBounds_toArray, List.set_cons_zero, List.set_cons_succ]
                        refine wpList_run (by kernel_rfl) (.int .u64 (x : Int)) wq (xg_load1 (E := wdC) (i := j) (j := 0) (HR3.out.keep B0.out) HXX.out rfl rfl Tryd.underlying50 rfl rfl rfl) ?_
                        simp only [Act.put, List.setIfInBounds_toArray, List.set_cons_zero, List.set_cons_succ]
                        refine wpList_call (by kernel_rfl) 41 Tryd.func41 (by kernel_rfl) (by kernel_rfl) _ _ #[.int .u64 (x : Int)] rfl (by kernel_rfl) ?_
                        refine (rfvalid_as x false hv wq).mono ?_
                        rintro e V2 ⟨rfl, hb⟩
                        have B1 := Lib.hid hb
                        clear hb 
                        refine ⟨_, rfl, ?_⟩
                        simp only [Act.put, List.setIfInBounds_toArray, List.set_cons_zero, List.set_cons_succ]
                        refine wpList_run (by kernel_rfl) (.bool true) V2 rfl ?_
                        simp only [Act.put, List.setIfInBounds_toArray, List.set_cons_zero, List.set_cons_succ]
                        refine wpList_nil ?_
                        go_upto_region 19 with fail
                        refine wp_region_lit ?_
                        refine wpList_run (by kernel_rfl) (.slice none 0 0) V2 rfl ?_
                        simp only [Act.put, List.setIfInBounds_toArray, List.set_cons_zero, List.set_cons_succ]
                        refine wpList_run (by kernel_rfl) (.int .i64 1) V2 rfl ?_
                        simp only [Act.put, List.setIfInBounds_toArray, List.set_cons_zero, List.set_cons_succ]
                        refine wpList_nil ?_
                        go_wp2_with fail
                        go_ret2
                        have C0_2 := Lib.hid (bel_step B0.out B1.out)
                        exact ⟨rfl, C0_2.out⟩
                      | true =>
                        go_upto_region 18 with fail
                        refine wp_region_lit ?_
                        refine wpList_run (by kernel_rfl) (.slice A n c) wq rfl ?_
                        simp only [Act.put, List.setIfInBounds_toArray, List.set_cons_zero, List.set_cons_succ]
                        refine wpList_run (by kernel_rfl) (.int .i64 (i : Int)) wq rfl ?_
                        simp only [Act.put, List.setIfInBounds_toArray, List.set_cons_zero, List.set_cons_succ]
                        refine wpList_run (by kernel_rfl) (.pointer (some (gad A (i * 1)))) wq (xg_idx .i64 (Cols.head (HC.out.keep B0.out)) HE3.out Tryd.underlying38 (by kernel_rfl) rfl rfl rfl) ?_
                        simp only [Act.put, List.setIfInBounds_toArray, List.set_cons_zero, List.set_cons_succ]
                        refine wpList_run (by kernel_rfl) (.slice A3 m3 c3) wq (xg_load1 (E := hdC) (i := i) (j := 0) (Cols.head (HC.out.keep B0.out)) HE3.out rfl rfl Tryd.underlying48 rfl rfl rfl) ?_
                        simp only [Act.put, List.setIfInBounds_toArray, List.set_cons_zero, List.set_cons_succ]
                        refine wpList_run (by kernel_rfl) (.int .i64 (j : Int)) wq rfl ?_
                        simp only [Act.put, List.setIfInBounds_toArray, List.set_cons_zero, List.set_cons_succ]
                        refine wpList_run (by kernel_rfl) (.pointer (some (gad A3 (j * 1)))) wq (xg_idx .i64 (HR3.out.keep B0.out) HXX.out Tryd.underlying48 (by kernel_rfl) rfl rfl rfl) ?_
                        simp only [Act.put, List.setIfInBounds_toArray, List.set_cons_zero, List.set_cons_succ]
                        refine wpList_run (by kernel_rfl) (.int .u64 (x : Int)) wq (xg_load1 (E := wdC) (i := j) (j := 0) (HR3.out.keep B0.out) HXX.out rfl rfl Tryd.underlying50 rfl rfl rfl) ?_
                        simp only [Act.put, List.setIfInBounds_toArray, List.set_cons_zero, List.set_cons_succ]
                        refine wpList_call (by kernel_rfl) 41 Tryd.func41 (by kernel_rfl) (by kernel_rfl) _ _ #[.int .u64 (x : Int)] rfl (by kernel_rfl) ?_
                        refine (rfvalid_as x true hv wq).mono ?_
                        rintro e V2 ⟨rfl, hb⟩
                        have B1 := Lib.hid hb
                        clear hb 
                        refine ⟨_, rfl, ?_⟩
                        simp only [Act.put, List.setIfInBounds_toArray, List.set_cons_zero, List.set_cons_succ]
                        refine wpList_run (by kernel_rfl) (.bool false) V2 rfl ?_
                        simp only [Act.put, List.setIfInBounds_toArray, List.set_cons_zero, List.set_cons_succ]
                        refine wpList_nil ?_
                        obtain ⟨J, hJ⟩ : ∃ J, i + v * j = J := ⟨_, rfl⟩
                        have hJM : J < M := by rw [← hJ, ← hM]; exact idx_lt (by omega) (by omega)
                        obtain ⟨WJ, hWJ⟩ : ∃ x, v * j = x := ⟨_, rfl⟩
                        have hWi : (v : Int) * (j : Int) = (WJ : Int) := by rw [← hWJ]; exact (Int.natCast_mul v j).symm
                        have hJ2 : (i : Int) + (WJ : Int) = (J : Int) := by omega
                        obtain ⟨y, hy⟩ : ∃ y, (ys)[J]? = some y := ⟨_, List.getElem?_eq_getElem (by rw [hysl.out]; exact hJM)⟩
                        have HY := Lib.hid hy
                        clear hy
                        go_upto_region 20 with fail
                        refine wp_region_lit ?_
                        refine wpList_run (by kernel_rfl) (.slice (some ⟨g43, 0, none⟩) M M) V2 rfl ?_
                        simp only [Act.put, List.setIfInBounds_toArray, List.set_cons_zero, List.set_cons_succ]
                        refine wpList_run (by kernel_rfl) (.int .i64 (i : Int)) V2 rfl ?_
                        simp only [Act.put, List.setIfInBounds_toArray, List.set_cons_zero, List.set_cons_succ]
                        refine wpList_run (by kernel_rfl) (.int .i64 (v : Int)) V2 rfl ?_
                        simp only [Act.put, List.setIfInBounds_toArray, List.set_cons_zero, List.set_cons_succ]
                        refine wpList_run (by kernel_rfl) (.int .i64 (j : Int)) V2 rfl ?_
                        simp only [Act.put, List.setIfInBounds_toArray, List.set_cons_zero, List.set_cons_succ]
                        refine wpList_run (by kernel_rfl) (.int .i64 (WJ : Int)) V2 (xo_mulI (v : Int) (j : Int) (WJ : Int) hWi (by omega) (by omega) rfl rfl rfl) ?_
                        simp only [Act.put, List.setIfInBounds_toArray, List.set_cons_zero, List.set_cons_succ]
                        refine wpList_run (by kernel_rfl) (.int .i64 (J : Int)) V2 (xo_addI (i : Int) (WJ : Int) (J : Int) hJ2 (by omega) (by omega) rfl rfl rfl) ?_
                        simp only [Act.put, List.setIfInBounds_toArray, List.set_cons_zero, List.set_cons_succ]
                        refine wpList_run (by kernel_rfl) (.slice A n c) V2 rfl ?_
                        simp only [Act.put, List.setIfInBounds_toArray, List.set_cons_zero, List.set_cons_succ]
                        refine wpList_run (by kernel_rfl) (.int .i64 (i : Int)) V2 rfl ?_
                        simp only [Act.put, List.setIfInBounds_toArray, List.set_cons_zero, List.set_cons_succ]
                        have C0_2 := Lib.hid (bel_step B0.out B1.out)
                        refine wpList_run (by kernel_rfl) (.pointer (some (gad A (i * 1)))) V2 (xg_idx .i64 (Cols.head (HC.out.keep C0_2.out)) HE3.out Tryd.underlying38 (by kernel_rfl) rfl rfl rfl) ?_
                        simp only [Act.put, List.setIfInBounds_toArray, List.set_cons_zero, List.set_cons_succ]
                        refine wpList_run (by kernel_rfl) (.slice A3 m3 c3) V2 (xg_load1 (E := hdC) (i := i) (j := 0) (Cols.head (HC.out.keep C0_2.out)) HE3.out rfl rfl Tryd.underlying48 rfl rfl rfl) ?_
                        simp only [Act.put, List.setIfInBounds_toArray, List.set_cons_zero, List.set_cons_succ]
                        refine wpList_run (by kernel_rfl) (.int .i64 (j : Int)) V2 rfl ?_
                        simp only [Act.put, List.setIfInBounds_toArray, List.set_cons_zero, List.set_cons_succ]
                        refine wpList_run (by kernel_rfl) (.pointer (some (gad A3 (j * 1)))) V2 (xg_idx .i64 (HR3.out.keep C0_2.out) HXX.out Tryd.underlying48 (by kernel_rfl) rfl rfl rfl) ?_
                        simp only [Act.put, List.setIfInBounds_toArray, List.set_cons_zero, List.set_cons_succ]
                        refine wpList_run (by kernel_rfl) (.int .u64 (x : Int)) V2 (xg_load1 (E := wdC) (i := j) (j := 0) (HR3.out.keep C0_2.out) HXX.out rfl rfl Tryd.underlying50 rfl rfl rfl) ?_
                        simp only [Act.put, List.setIfInBounds_toArray, List.set_cons_zero, List.set_cons_succ]
                        refine wpList_run (by kernel_rfl) (.pointer (some (gad (some ⟨g43, 0, none⟩) (J * 1)))) V2 (xg_idx .i64 (RowG.sg (Fv7_43.out.keep B1.out) hysl.out (Nat.le_refl _) (by omega)) HY.out Tryd.underlying48 (by kernel_rfl) rfl rfl rfl) ?_
                        simp only [Act.put, List.setIfInBounds_toArray, List.set_cons_zero, List.set_cons_succ]
                        refine wpList_storeW g43 _ _ 50 (by kernel_rfl) (RowG.h (Fv7_43.out.keep B1.out)) (xg_store (Fv7_43.out.keep B1.out) (List.getElem?_eq_some_iff.1 HY.out).1 x (by kernel_rfl) rfl rfl rfl) ?_
                        intro X2_19 h1 hfar hbel hsz
                        have hbr := hbel _ _ Gr11.out C0_2.out
                        clear B0
                        have B0 := Lib.hid hbr
                        clear hbr
                        clear Fv7_43
                        have Fv7_43 : Hid (RowG wdC X2_19 g43 50 (ys.set J x)) := Lib.hid (h1)
                        have HszX2_19 := Lib.hid hsz
                        clear h1 hfar hbel hsz
                        simp only [ptr, Act.put, List.setIfInBounds_toArray, List.set_cons_zero, List.set_cons_succ]
                        refine wpList_nil ?_
                        go_upto_region 17 with fail
                        refine wp_region_lit ?_
                        refine wpList_run (by kernel_rfl) (.int .i64 (j : Int)) X2_19 rfl ?_
                        simp only [Act.put, List.setIfInBounds_toArray, List.set_cons_zero, List.set_cons_succ]
                        refine wpList_run (by kernel_rfl) (.int .i64 ((j + 1 : Nat) : Int)) X2_19 (xo_addI (j : Int) 1 ((j + 1 : Nat) : Int) (by omega) (by omega) (by omega) rfl rfl rfl) ?_
                        simp only [Act.put, List.setIfInBounds_toArray, List.set_cons_zero, List.set_cons_succ]
                        refine wpList_run (by kernel_rfl) (.int .i64 ((j + 1 : Nat) : Int)) X2_19 rfl ?_
                        simp only [Act.put, List.setIfInBounds_toArray, List.set_cons_zero, List.set_cons_succ]
                        refine wpList_nil ?_
                        have hta : ∀ y ∈ xs.take (j + 1), y < 18446744069414584321 := by
                          intro y hy
                          obtain ⟨hi1, rfl⟩ := List.getElem?_eq_some_iff.1 HXX.out
                          rw [List.take_succ_eq_append_getElem hi1] at hy
                          rcases List.mem_append.1 hy with hy | hy
                          · exact HB.out y hy
                          · rw [List.mem_singleton] at hy; subst hy; exact of_decide_eq_true hv
                        have hq20 := Fv7_43.out
                        have hq21 := B0.out
                        go_wp2_with fail
                        go_roundw
                        case rel => exact ⟨j + 1, _, by omega, by go_num, (by rw [List.length_set]; exact hysl.out), hta, hq20, hq21⟩
                        case measure => simp [intOf]; omega
                    · have hci18 : ¬ ((j : Int) < (m0 : Int)) := by omega
                      go_upto_region 16 with fail
                      refine wp_region_lit ?_
                      refine wpList_run (by kernel_rfl) (.int .i64 (j : Int)) wq rfl ?_
                      simp only [Act.put, List.setIfInBounds_toArray, List.set_cons_zero, List.set_cons_succ]
                      refine wpList_run (by kernel_rfl) (.int .i64 (m0 : Int)) wq rfl ?_
                      simp only [Act.put, List.setIfInBounds_toArray, List.set_cons_zero, List.set_cons_succ]
                      refine wpList_run (by kernel_rfl) (.bool false) wq (xo_lssF .i64 (j : Int) (m0 : Int) (by omega) rfl rfl rfl) ?_
                      simp only [Act.put, List.setIfInBounds_toArray, List.set_cons_zero, List.set_cons_succ]
                      refine wpList_nil ?_
                      go_upto_region 12 with fail
                      refine wp_region_lit ?_
                      refine wpList_run (by kernel_rfl) (.int .i64 (i : Int)) wq rfl ?_
                      simp only [Act.put, List.setIfInBounds_toArray, List.set_cons_zero, List.set_cons_succ]
                      refine wpList_run (by kernel_rfl) (.int .i64 ((i + 1 : Nat) : Int)) wq (xo_addI (i : Int) 1 ((i + 1 : Nat) : Int) (by omega) (by omega) (by omega) rfl rfl rfl) ?_
                      simp only [Act.put, List.setIfInBounds_toArray, List.set_cons_zero, List.set_cons_succ]
                      refine wpList_run (by kernel_rfl) (.int .i64 ((i + 1 : Nat) : Int)) wq rfl ?_
                      simp only [Act.put, List.setIfInBounds_toArray, List.set_cons_zero, List.set_cons_succ]
                      refine wpList_nil ?_
                      have hel : elB xs m0 = true := by rw [elB_eq, Bool.and_eq_true, List.all_eq_true, beq_iff_eq]; exact ⟨fun x hx => decide_eq_true (HB.out x (by rw [List.take_of_length_le (by omega)]; exact hx)), by omega⟩
                      have hta : ∀ y ∈ xss.take (i + 1), elB y m0 = true := by
                        intro y hy
                        obtain ⟨hi1, rfl⟩ := List.getElem?_eq_some_iff.1 HX.out
                        rw [List.take_succ_eq_append_getElem hi1] at hy
                        rcases List.mem_append.1 hy with hy | hy
                        · exact HA.out y hy
                        · rw [List.mem_singleton] at hy; subst hy; exact hel
                      have hq19 := Fv7_43.out
                      have hq20 := B0.out
                      go_wp2_with fail
                      go_roundw
                      case rel => exact ⟨i + 1, _, by omega, by go_num, hysl.out, hta, hq19, hq20⟩
                      case measure => simp [intOf]; omega
                · have hci14 : ((m3 : Int) ≠ (m0 : Int)) := by omega
                  go_upto_region 13 with fail
                  refine wp_region_lit ?_
                  refine wpList_run (by kernel_rfl) (.slice A n c) wp rfl ?_
                  simp only [Act.put, List.setIfInBounds_toArray, List.set_cons_zero, List.set_cons_succ]
                  refine wpList_run (by kernel_rfl) (.int .i64 (i : Int)) wp rfl ?_
                  simp only [Act.put, List.setIfInBounds_toArray, List.set_cons_zero, List.set_cons_succ]
                  refine wpList_run (by kernel_rfl) (.pointer (some (gad A (i * 1)))) wp (xg_idx .i64 (Cols.head (HC.out.keep B0.out)) HE3.out Tryd.underlying38 (by kernel_rfl) rfl rfl rfl) ?_
                  simp only [Act.put, List.setIfInBounds_toArray, List.set_cons_zero, List.set_cons_succ]
                  refine wpList_run (by kernel_rfl) (.slice A3 m3 c3) wp (xg_load1 (E := hdC) (i := i) (j := 0) (Cols.head (HC.out.keep B0.out)) HE3.out rfl rfl Tryd.underlying48 rfl rfl rfl) ?_
                  simp only [Act.put, List.setIfInBounds_toArray, List.set_cons_zero, List.set_cons_succ]
                  refine wpList_run (by kernel_rfl) (.int .i64 (m3 : Int)) wp (xo_len A3 m3 c3 Tryd.underlying48 rfl rfl) ?_
                  simp only [Act.put, List.setIfInBounds_toArray, List.set_cons_zero, List.set_cons_succ]
                  refine wpList_run (by kernel_rfl) (.int .i64 (m0 : Int)) wp rfl ?_
                  simp only [Act.put, List.setIfInBounds_toArray, List.set_cons_zero, List.set_cons_succ]
                  refine wpList_run (by kernel_rfl) (.bool true) wp (xo_neqT .i64 (m3 : Int) (m0 : Int) (by omega) rfl rfl rfl) ?_
                  simp only [Act.put, List.setIfInBounds_toArray, List.set_cons_zero, List.set_cons_succ]
                  refine wpList_nil ?_
                  go_upto_region 14 with fail
                  refine wp_region_lit ?_
                  refine wpList_run (by kernel_rfl) (.slice none 0 0) wp rfl ?_
                  simp only [Act.put, List.setIfInBounds_toArray, List.set_cons_zero, List.set_cons_succ]
                  refine wpList_run (by kernel_rfl) (.int .i64 1) wp rfl ?_
                  simp only [Act.put, List.setIfInBounds_toArray, List.set_cons_zero, List.set_cons_succ]
                  refine wpList_nil ?_
                  go_wp2_with fail
                  go_ret2
                  exact ⟨rfl, B0.out⟩
              · have hci13 : ¬ ((i : Int) < (n : Int)) := by omega
                exact absurd hj (by rw [Bool.not_eq_false, jB_eq, HL0.out, hcl]; simp only [Bool.and_eq_true, decide_eq_true_eq, List.all_eq_true]; exact ⟨⟨⟨by omega, by omega⟩, trivial⟩, fun x hx => HA.out x (by rw [List.take_of_length_le (by omega)]; exact hx)⟩)
    · have hci0 : ¬ ((n : Int) < 1) := by omega
      have hci1 : ((n : Int) > 64) := by omega
      refine wp_region_lit ?_
      refine wpList_run (by kernel_rfl) (.slice A n c) w rfl ?_
      simp only [Act.put, List.setIfInBounds_toArray, List.set_cons_zero, List.set_cons_succ]
      refine wpList_run (by kernel_rfl) (.int .i64 (n : Int)) w (xo_len A n c Tryd.underlying38 rfl rfl) ?_
      simp only [Act.put, List.setIfInBounds_toArray, List.set_cons_zero, List.set_cons_succ]
      refine wpList_run (by kernel_rfl) (.bool false) w (xo_lssF .i64 (n : Int) 1 (by omega) rfl rfl rfl) ?_
      simp only [Act.put, List.setIfInBounds_toArray, List.set_cons_zero, List.set_cons_succ]
      refine wpList_run (by kernel_rfl) (.bool false) w rfl ?_
      simp only [Act.put, List.setIfInBounds_toArray, List.set_cons_zero, List.set_cons_succ]
      refine wpList_run (by kernel_rfl) (.slice A n c) w rfl ?_
      simp only [Act.put, List.setIfInBounds_toArray, List.set_cons_zero, List.set_cons_succ]
      refine wpList_run (by kernel_rfl) (.int .i64 (n : Int)) w (xo_len A n c Tryd.underlying38 rfl rfl) ?_
      simp only [Act.put, List.setIfInBounds_toArray, List.set_cons_zero, List.set_cons_succ]
      refine wpList_run (by kernel_rfl) (.bool true) w (xo_gtrT .i64 (n : Int) 64 (by omega) rfl rfl rfl) ?_
      simp only [Act.put, List.setIfInBounds_toArray, List.set_cons_zero, List.set_cons_succ]
      refine wpList_run (by kernel_rfl) (.bool true) w rfl ?_
      simp only [Act.put, List.setIfInBounds_toArray, List.set_cons_zero, List.set_cons_succ]
      refine wpList_nil ?_
      go_upto_region 2 with fail
      refine wp_region_lit ?_
      refine wpList_run (by kernel_rfl) (.slice none 0 0) w rfl ?_
      simp only [Act.put, List.setIfInBounds_toArray, List.set_cons_zero, List.set_cons_succ]
      refine wpList_run (by kernel_rfl) (.int .i64 1) w rfl ?_
      simp only [Act.put, List.setIfInBounds_toArray, List.set_cons_zero, List.set_cons_succ]
      refine wpList_nil ?_
      go_wp2_with fail
      go_ret2
      exact ⟨rfl, (Below.refl w.heap.size w)⟩
  · have hci0 : ((n : Int) < 1) := by omega
    refine wp_region_lit ?_
    refine wpList_run (by kernel_rfl) (.slice A n c) w rfl ?_
    simp only [Act.put, List.setIfInBounds_toArray, List.set_cons_zero, List.set_cons_succ]
    refine wpList_run (by kernel_rfl) (.int .i64 (n : Int)) w (xo_len A n c Tryd.underlying38 rfl rfl) ?_
    simp only [Act.put, List.setIfInBounds_toArray, List.set_cons_zero, List.set_cons_succ]
    refine wpList_run (by kernel_rfl) (.bool true) w (xo_lssT .i64 (n : Int) 1 (by omega) rfl rfl rfl) ?_
    simp only [Act.put, List.setIfInBounds_toArray, List.set_cons_zero, List.set_cons_succ]
    refine wpList_run (by kernel_rfl) (.bool true) w rfl ?_
    simp only [Act.put, List.setIfInBounds_toArray, List.set_cons_zero, List.set_cons_succ]
    refine wpList_skip (by kernel_rfl) ?_
    try simp only [Act.put, List.setIfInBounds_toArray, List.set_cons_zero, List.set_cons_succ]
    refine wpList_skip (by kernel_rfl) ?_
    try simp only [Act.put, List.setIfInBounds_toArray, List.set_cons_zero, List.set_cons_succ]
    refine wpList_skip (by kernel_rfl) ?_
    try simp only [Act.put, List.setIfInBounds_toArray, List.set_cons_zero, List.set_cons_succ]
    refine wpList_run (by kernel_rfl) (.bool true) w rfl ?_
    simp only [Act.put, List.setIfInBounds_toArray, List.set_cons_zero, List.set_cons_succ]
    refine wpList_nil ?_
    go_upto_region 2 with fail
    refine wp_region_lit ?_
    refine wpList_run (by kernel_rfl) (.slice none 0 0) w rfl ?_
    simp only [Act.put, List.setIfInBounds_toArray, List.set_cons_zero, List.set_cons_succ]
    refine wpList_run (by kernel_rfl) (.int .i64 1) w rfl ?_
    simp only [Act.put, List.setIfInBounds_toArray, List.set_cons_zero, List.set_cons_succ]
    refine wpList_nil ?_
    go_wp2_with fail
    go_ret2
    exact ⟨rfl, (Below.refl w.heap.size w)⟩
end Go.Proofs.YtopicjdmajlndaaDoor

