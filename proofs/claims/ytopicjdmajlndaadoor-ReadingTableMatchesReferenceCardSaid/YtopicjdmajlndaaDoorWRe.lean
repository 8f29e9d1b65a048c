/- A law of stage 12: ReadingTableMatchesReference. -/
import Derived.Test.YtopicjdmajlndaaDoorH18
namespace Go.Proofs.YtopicjdmajlndaaDoor
set_option linter.unusedVariables false
set_option linter.unusedSimpArgs false
set_option linter.unusedSectionVars false
set_option maxRecDepth 8000
open Go.RowKit Go.Proofs.YtopicjdmajlndaaDoor.K
attribute [local irreducible] wpList wpQuiet
theorem all_snoc {α : Type} {p : α → Prop} {l : List α} {x : α} (h : ∀ y ∈ l, p y) (hx : p x) : ∀ y ∈ l ++ [x], p y := fun y hy => by
  rcases List.mem_append.1 hy with hy | hy
  · exact h y hy
  · rw [List.mem_singleton] at hy
    subst hy
    exact hx
theorem pow_small {e : Nat} (h : e < 4) : 1 ≤ 1 * 2 ^ e ∧ 1 * 2 ^ e ≤ 8 := by
  have : e = 0 ∨ e = 1 ∨ e = 2 ∨ e = 3 := by omega
  rcases this with rfl | rfl | rfl | rfl <;> omega
/-- a column that came in, or one of the call's own -/
def RowK (w wr : World) (h : Hd) (xs : List Nat) : Prop := Sg wdC 1 w h.A h.n h.c xs ∨ ∃ g N, h = mkH N g ∧ w.heap.size ≤ g ∧ xs.length = N ∧ N ≤ 8 ∧ RowG wdC wr g 50 xs
structure AllK (w wr : World) (hq : List Hd) (xq : List (List Nat)) : Prop where
  len : hq.length = xq.length
  row : ∀ (i : Nat) (h : Hd) (xs : List Nat), hq[i]? = some h → xq[i]? = some xs → RowK w wr h xs
section
variable {w wr wr2 : World} {hq : List Hd} {xq : List (List Nat)}
theorem AllK.nil : AllK w wr [] [] := ⟨rfl, fun i h xs hi => by simp at hi⟩
theorem AllK.map (h : AllK w wr hq xq) (hr : ∀ g xs, RowG wdC wr g 50 xs → RowG wdC wr2 g 50 xs) : AllK w wr2 hq xq :=
  ⟨h.len, fun i d xs hi hx => by
    rcases h.row i d xs hi hx with h1 | ⟨g, N, e, hg, hl, hN, hw⟩
    · exact .inl h1
    · exact .inr ⟨g, N, e, hg, hl, hN, hr g xs hw⟩⟩
theorem AllK.keep (h : AllK w wr hq xq) (hb : Below wr.heap.size wr wr2) : AllK w wr2 hq xq := h.map fun _ _ hr => hr.keep hb
theorem AllK.grown {base : Nat} {e : TypeId} {size n : Nat} {v : Value} {cs : List Value} (h : AllK w wr hq xq) (ho : wr.ownsRow base e size v n cs) (hg : wr.grownBy wr2 v.ownBlock) (hne : 50 ≠ e) : AllK w wr2 hq xq := h.map fun _ _ hr => own_rowkeep ho hg hr hne
theorem AllK.push {d : Hd} {xs : List Nat} (h : AllK w wr hq xq) (hr : RowK w wr d xs) : AllK w wr (hq ++ [d]) (xq ++ [xs]) :=
  ⟨by simp [h.len], fun i c ys hi hx => by
    rw [List.getElem?_append] at hi hx
    rw [h.len] at hi
    split at hi
    · next hlt => rw [if_pos hlt] at hx; exact h.row i c ys hi hx
    · next hlt =>
      rw [if_neg hlt] at hx
      have h0 : i - xq.length = 0 := by have := (List.getElem?_eq_some_iff.1 hi).1; simp at this; omega
      rw [h0] at hi hx
      simp at hi hx
      subst hi hx
      exact hr⟩
theorem AllK.cols {A : Option Addr} {n c : Nat} (hs : Sg hdC 1 wr A n c hq) (h : AllK w wr hq xq) (hb : Below w.heap.size w wr) : Cols wr A n c hq xq :=
  ⟨hs, h.len, fun i d xs hi hx => by
    rcases h.row i d xs hi hx with h1 | ⟨g, N, e, hg, hl, hN, hw⟩
    · exact h1.keep hb
    · subst e
      exact RowG.sg (n := N) (c := N) hw hl (Nat.le_refl _) (by omega)⟩
end
theorem tab_letters (xq : List (List Nat)) (q : Nat) (hj : jB xq = true) : ∃ TL TM, TL.length = TM ∧ (TL = tabN xq (widthN q 7 1) (L0 xq) ∧ TM = widthN q 7 1 * L0 xq) ∧ TM ≤ 8388608 := by
  refine ⟨_, _, ?_, ⟨rfl, rfl⟩, ?_⟩
  · simp [tabN]
  · obtain ⟨h1, h2, h3, h4, h5⟩ := jB_parts hj
    have hw := widthN_le q 7 1
    have hl : L0 xq ≤ 65536 := by
      simp only [clB, Bool.and_eq_true, decide_eq_true_eq] at h3
      exact h3.2.1
    exact Nat.mul_le_mul hw hl
theorem table_as (A : Option Addr) (n c : Nat) (hs : List Hd) (xss : List (List Nat)) (hsmall : ∀ xs ∈ xss, xs.length < 4611686018427387904) (hj : jB xss = true) (TL : List Nat) (TM : Nat) (ht : TL = tabN xss (widthN n 7 1) (L0 xss) ∧ TM = widthN n 7 1 * L0 xss) (w : World) (h : Cols w A n c hs xss) :
    Calls Tryd.prog 29 #[.slice A n c] w fun e w' => ∃ g, e = .returned (.tuple #[.slice (some ⟨g, 0, none⟩) TM TM, .int .i64 0]) ∧ RowG wdC w' g 50 TL ∧ Below w.heap.size w w' := by
  refine (table_yes A n c hs xss hsmall hj w h).mono ?_
  rintro e w' ⟨g, W, L, M, rfl, rfl, rfl, rfl, _, hr, _, hb⟩
  obtain ⟨rfl, rfl⟩ := ht
  exact ⟨g, rfl, hr, hb⟩
theorem rtable_as (A : Option Addr) (n c : Nat) (hs : List Hd) (xss : List (List Nat)) (hsmall : ∀ xs ∈ xss, xs.length < 4611686018427387904) (hj : jB xss = true) (TL : List Nat) (TM : Nat) (ht : TL = tabN xss (widthN n 7 1) (L0 xss) ∧ TM = widthN n 7 1 * L0 xss) (w : World) (h : Cols w A n c hs xss) :
    Calls Tryd.prog 30 #[.slice A n c] w fun e w' => ∃ g, e = .returned (.tuple #[.slice (some ⟨g, 0, none⟩) TM TM, .int .i64 0]) ∧ RowG wdC w' g 50 TL ∧ Below w.heap.size w w' := by
  refine (rtable_yes A n c hs xss hsmall hj w h).mono ?_
  rintro e w' ⟨g, W, L, M, rfl, rfl, rfl, rfl, _, hr, _, hb⟩
  obtain ⟨rfl, rfl⟩ := ht
  exact ⟨g, rfl, hr, hb⟩
set_option maxRecDepth 100000 in
set_option maxHeartbeats 16000000 in
theorem rTable_any (A : Option Addr) (n c : Nat) (hs : List Hd) (xss : List (List Nat)) (nn : Nat) (hnn : nn < 256) (w : World) (hC : Cols w A n c hs xss) (hW : Gw w) :
    Calls Tryd.prog 4 #[.slice A n c, .int .u8 (nn : Int)] w fun e w' => e = .returned (.bool true) ∧ Below w.heap.size w w' := by
  have HW := Lib.hid hW
  have HC := Lib.hid hC
  have hln := hC.n_eq.symm
  have hlh := hC.len
  have hcap := hC.head.cap
  have htop := hC.head.top
  clear hW hC
  go_enter Tryd.func4, Tryd.ntmps4
  go_upto_region 1 with fail
  refine wp_region_lit ?_
  refine wpList_call (by kernel_rfl) 10 Tryd.func10 (by kernel_rfl) (by kernel_rfl) _ _ #[] rfl (by kernel_rfl) ?_
  refine (sanity12_any w HW.out).mono ?_
  rintro e V1 ⟨rfl, hb⟩
  have B0 := Lib.hid hb
  clear hb 
  refine ⟨_, rfl, ?_⟩
  simp only [Act.put, List.setIfInBounds_toArray, List.set_cons_zero, List.set_cons_succ]
  refine wpList_run (by kernel_rfl) (.bool true) V1 rfl ?_
  simp only [Act.put, List.setIfInBounds_toArray, List.set_cons_zero, List.set_cons_succ]
  refine wpList_nil ?_
  go_upto_region 2 with fail
  refine wp_region_lit ?_
  refine wpList_mk (by kernel_rfl) #[] 48 0 0 (xo_empty (size := 1) Tryd.underlying38 (by kernel_rfl) rfl V1) ?_
  intro g16 V2 hge h0 hb
  have hge2 := Nat.le_trans B0.out.size hge
  have B1 := Lib.hid hb
  have Ow16 : Hid (V2.ownsRow w.heap.size 48 1 (.slice (some ⟨g16, 0, none⟩) 0 0) 0 (fl hdC [])) := Lib.hid (own_new h0 hge2)
  clear hge hge2 h0 hb
  simp only [ptr, Act.put, List.setIfInBounds_toArray, List.set_cons_zero, List.set_cons_succ]
  refine wpList_run (by kernel_rfl) (.slice (some ⟨g16, 0, none⟩) 0 0) V2 rfl ?_
  simp only [Act.put, List.setIfInBounds_toArray, List.set_cons_zero, List.set_cons_succ]
  refine wpList_nil ?_
  go_upto_region 3 with fail
  refine wp_region_lit ?_
  refine wpList_run (by kernel_rfl) (.int .i64 0) V2 rfl ?_
  simp only [Act.put, List.setIfInBounds_toArray, List.set_cons_zero, List.set_cons_succ]
  refine wpList_nil ?_
  have O0 := Ow16.out
  have C0_2 := Lib.hid (bel_step B0.out B1.out)
  have O1 := C0_2.out
  go_wp2_with fail
  go_loopw [6, 7] (fun v p wr => ∃ i : Nat, ∃ (hq : List Hd) (xq : List (List Nat)) (q : Nat), i ≤ n ∧ p = .int .i64 i ∧ hq.length = q ∧ wr.ownsRow w.heap.size 48 1 v q (fl hdC hq) ∧ AllK w wr hq xq ∧ (q ≤ i ∧ q ≤ 66) ∧ (∀ xs ∈ xq, xs.length ≤ 8) ∧ Below w.heap.size w wr) (fun _ p _ => n - (intOf p).toNat)
  case atStart => exact ⟨0, [], [], 0, Nat.zero_le _, rfl, rfl, O0, AllK.nil, ⟨Nat.le_refl _, by omega⟩, (fun x hx => by cases hx), O1⟩
  case round =>
    clear O1 O0
    obtain ⟨wo, rfl⟩ : ∃ wo : World, wo = wr := ⟨_, rfl⟩
    obtain ⟨i, hq, xq, q, hi, rfl, hhql, hOW, hHB, hhqi, hHX8, hb0⟩ := hrel
    have hbr := hb0
    clear B0
    have B0 := Lib.hid hbr
    clear hbr
    have hql := Lib.hid hhql
    have OW := Lib.hid hOW
    have HB := Lib.hid hHB
    have hqi := Lib.hid hhqi
    have HX8 := Lib.hid hHX8
    clear hb0 hhql hOW hHB hhqi hHX8
    by_cases hlt : i < n
    · have hci3 : ((i : Int) < (n : Int)) := by omega
      by_cases hlt66 : i < 66
      · have hci4 : ((i : Int) < 66) := by omega
        obtain ⟨xs, hx⟩ : ∃ xs, xss[i]? = some xs := ⟨_, List.getElem?_eq_getElem (by omega)⟩
        obtain ⟨⟨A3, m3, c3⟩, hh⟩ : ∃ h, hs[i]? = some h := ⟨_, List.getElem?_eq_getElem (by omega)⟩
        have hrw := HC.out.row i _ _ hh hx
        simp only at hrw
        have hml3 : xs.length = m3 := hrw.len
        have hcp3 := hrw.cap
        have htp3 := hrw.top
        have HE3 := Lib.hid hh
        have HR3 := Lib.hid hrw
        have hq66 := hqi.out.2
        have hqii := hqi.out.1
        clear hh hrw
        go_upto_region 4 with fail
        refine wp_region_lit ?_
        refine wpList_run (by kernel_rfl) (.int .i64 (i : Int)) wo rfl ?_
        simp only [Act.put, List.setIfInBounds_toArray, List.set_cons_zero, List.set_cons_succ]
        refine wpList_run (by kernel_rfl) (.slice A n c) wo rfl ?_
        simp only [Act.put, List.setIfInBounds_toArray, List.set_cons_zero, List.set_cons_succ]
        refine wpList_run (by kernel_rfl) (.int .i64 (n : Int)) wo (xo_len A n c Tryd.underlying38 rfl rfl) ?_
        simp only [Act.put, List.setIfInBounds_toArray, List.set_cons_zero, List.set_cons_succ]
        refine wpList_run (by kernel_rfl) (.bool true) wo (xo_lssT .i64 (i : Int) (n : Int) (by omega) rfl rfl rfl) ?_
        simp only [Act.put, List.setIfInBounds_toArray, List.set_cons_zero, List.set_cons_succ]
        refine wpList_run (by kernel_rfl) (.bool true) wo rfl ?_
        simp only [Act.put, List.setIfInBounds_toArray, List.set_cons_zero, List.set_cons_succ]
        refine wpList_run (by kernel_rfl) (.int .i64 (i : Int)) wo rfl ?_
        simp only [Act.put, List.setIfInBounds_toArray, List.set_cons_zero, List.set_cons_succ]
        refine wpList_run (by kernel_rfl) (.bool true) wo (xo_lssT .i64 (i : Int) 66 (by omega) rfl rfl rfl) ?_
        simp only [Act.put, List.setIfInBounds_toArray, List.set_cons_zero, List.set_cons_succ]
        refine wpList_run (by kernel_rfl) (.bool true) wo rfl ?_
        simp only [Act.put, List.setIfInBounds_toArray, List.set_cons_zero, List.set_cons_succ]
        refine wpList_nil ?_
        go_upto_region 6 with fail
        refine wp_region_lit ?_
        refine wpList_run (by kernel_rfl) (.slice A n c) wo rfl ?_
        simp only [Act.put, List.setIfInBounds_toArray, List.set_cons_zero, List.set_cons_succ]
        refine wpList_run (by kernel_rfl) (.int .i64 (i : Int)) wo rfl ?_
        simp only [Act.put, List.setIfInBounds_toArray, List.set_cons_zero, List.set_cons_succ]
        refine wpList_run (by kernel_rfl) (.pointer (some (gad A (i * 1)))) wo (xg_idx .i64 (Cols.head (HC.out.keep B0.out)) HE3.out Tryd.underlying38 (by kernel_rfl) rfl rfl rfl) ?_
        simp only [Act.put, List.setIfInBounds_toArray, List.set_cons_zero, List.set_cons_succ]
        refine wpList_run (by kernel_rfl) (.slice A3 m3 c3) wo (xg_load1 (E := hdC) (i := i) (j := 0) (Cols.head (HC.out.keep B0.out)) HE3.out rfl rfl Tryd.underlying48 rfl rfl rfl) ?_
        simp only [Act.put, List.setIfInBounds_toArray, List.set_cons_zero, List.set_cons_succ]
        refine wpList_run (by kernel_rfl) (.slice A3 m3 c3) wo rfl ?_
        simp only [Act.put, List.setIfInBounds_toArray, List.set_cons_zero, List.set_cons_succ]
        refine wpList_nil ?_
        by_cases hev : nn % 2 = 0
        · have hci5 : (((nn % 2 : Nat) : Int) = 0) := by omega
          go_upto_region 7 with fail
          refine wp_region_lit ?_
          refine wpList_run (by kernel_rfl) (.int .u8 (nn : Int)) wo rfl ?_
          simp only [Act.put, List.setIfInBounds_toArray, List.set_cons_zero, List.set_cons_succ]
          refine wpList_run (by kernel_rfl) (.int .u8 ((nn % 2 : Nat) : Int)) wo (xo_and .u8 nn 1 (nn % 2) (by show _ < 2 ^ 8; omega) (by show _ < 2 ^ 8; omega) (Nat.and_two_pow_sub_one_eq_mod nn 1) (by rw [IntKind.wrap_u8]; omega) rfl rfl rfl) ?_
          simp only [Act.put, List.setIfInBounds_toArray, List.set_cons_zero, List.set_cons_succ]
          refine wpList_run (by kernel_rfl) (.bool true) wo (xo_eqlT .u8 ((nn % 2 : Nat) : Int) 0 (by omega) rfl rfl rfl) ?_
          simp only [Act.put, List.setIfInBounds_toArray, List.set_cons_zero, List.set_cons_succ]
          refine wpList_nil ?_
          obtain ⟨e, he⟩ : ∃ e, nn / 2 % 4 = e := ⟨_, rfl⟩
          have he4 : e < 4 := by omega
          obtain ⟨N, hN⟩ : ∃ N, 1 * 2 ^ e = N := ⟨_, rfl⟩
          have hN8 : 1 ≤ N ∧ N ≤ 8 := by rw [← hN]; exact pow_small he4
          have HBV6 := Lib.hid B0.out
          have YHB := HB.out
          have YHC := (HC.out.keep B0.out)
          have YOW := OW.out
          have YHR3 := (HR3.out.keep B0.out)
          clear HB
          have HB := Lib.hid YHB
          clear YHB
          clear HC
          have HC := Lib.hid YHC
          clear YHC
          clear OW
          have OW := Lib.hid YOW
          clear YOW
          clear HR3
          have HR3 := Lib.hid YHR3
          clear YHR3
          obtain ⟨VB6, rfl⟩ : ∃ VB6 : World, VB6 = wo := ⟨_, rfl⟩
          go_upto_region 8 with fail
          refine wp_region_lit ?_
          refine wpList_run (by kernel_rfl) (.int .u8 (nn : Int)) VB6 rfl ?_
          simp only [Act.put, List.setIfInBounds_toArray, List.set_cons_zero, List.set_cons_succ]
          refine wpList_run (by kernel_rfl) (.int .u8 ((nn / 2 : Nat) : Int)) VB6 (xo_shrN .u8 .u64 nn 1 (nn / 2) (by decide) rfl rfl rfl rfl) ?_
          simp only [Act.put, List.setIfInBounds_toArray, List.set_cons_zero, List.set_cons_succ]
          refine wpList_run (by kernel_rfl) (.int .u8 (e : Int)) VB6 (xo_remN .u8 (nn / 2) 4 e (by omega) he rfl rfl rfl) ?_
          simp only [Act.put, List.setIfInBounds_toArray, List.set_cons_zero, List.set_cons_succ]
          refine wpList_run (by kernel_rfl) (.int .i64 (N : Int)) VB6 (xo_shlI .u8 1 e N hN (by omega) rfl rfl rfl) ?_
          simp only [Act.put, List.setIfInBounds_toArray, List.set_cons_zero, List.set_cons_succ]
          refine wpList_mk (by kernel_rfl) ((List.replicate N 0).flatMap wdC).toArray 50 N N (xg_make (E := wdC) (bytes := 8) (.int .u64 0) 0 N .i64 Tryd.underlying48 (by kernel_rfl) rfl (by omega) (by omega) rfl rfl rfl) ?_
          intro g38 V1 hge h0 hb
          have Ge7 : Hid (VB6.heap.size ≤ g38) := Lib.hid hge
          have B0 := Lib.hid hb
          have Fv8_38 : Hid (RowG wdC V1 g38 50 (List.replicate N 0)) := Lib.hid (h0)
          have Lt9 : Hid (g38 < V1.heap.size) := Lib.hid (xp_lt Fv8_38.out)
          clear hge h0 hb
          simp only [ptr, Act.put, List.setIfInBounds_toArray, List.set_cons_zero, List.set_cons_succ]
          refine wpList_run (by kernel_rfl) (.slice (some ⟨g38, 0, none⟩) N N) V1 rfl ?_
          simp only [Act.put, List.setIfInBounds_toArray, List.set_cons_zero, List.set_cons_succ]
          refine wpList_nil ?_
          go_upto_region 9 with fail
          refine wp_region_lit ?_
          refine wpList_run (by kernel_rfl) (.int .i64 0) V1 rfl ?_
          simp only [Act.put, List.setIfInBounds_toArray, List.set_cons_zero, List.set_cons_succ]
          refine wpList_nil ?_
          have O9 := Fv8_38.out
          have B9 := B0.out
          have Gr9 : Hid (VB6.heap.size ≤ g38) := Lib.hid (Ge7.out)
          go_wp2_with fail
          go_loopw [10] (fun p wr => ∃ k : Nat, ∃ ys : List Nat, k ≤ N ∧ p = .int .i64 k ∧ ys.length = N ∧ RowG wdC wr g38 50 ys ∧ Below VB6.heap.size VB6 wr) (fun p _ => N - (intOf p).toNat)
          case atStart => exact ⟨0, _, Nat.zero_le _, rfl, List.length_replicate .., O9, B9⟩
          case round =>
            clear O9 B9
            obtain ⟨wq, rfl⟩ : ∃ wq : World, wq = wr := ⟨_, rfl⟩
            obtain ⟨k, ys, hk, rfl, hyl0, hrq, hbq⟩ := hrel
            have hyl := Lib.hid hyl0
            have B0 := Lib.hid (Below.refl VB6.heap.size VB6)
            have hbr := hbq
            clear B0
            have B0 := Lib.hid hbr
            clear hbr
            clear Fv8_38
            have Fv8_38 : Hid (RowG wdC wq g38 50 ys) := Lib.hid (hrq)
            clear hbq hrq hyl0
            by_cases hkN : k < N
            · have hci11 : ((k : Int) < (N : Int)) := by omega
              by_cases hkm : k < m3
              · have hci12 : ((k : Int) < (m3 : Int)) := by omega
                obtain ⟨x0, hx0⟩ : ∃ x, xs[k]? = some x := ⟨_, List.getElem?_eq_getElem (by omega)⟩
                have HX0 := Lib.hid hx0
                clear hx0
                obtain ⟨y0, hy0⟩ : ∃ y, ys[k]? = some y := ⟨_, List.getElem?_eq_getElem (by rw [hyl.out]; omega)⟩
                have HY0 := Lib.hid hy0
                clear hy0
                go_upto_region 10 with fail
                refine wp_region_lit ?_
                refine wpList_run (by kernel_rfl) (.int .i64 (k : Int)) wq rfl ?_
                simp only [Act.put, List.setIfInBounds_toArray, List.set_cons_zero, List.set_cons_succ]
                refine wpList_run (by kernel_rfl) (.slice (some ⟨g38, 0, none⟩) N N) wq rfl ?_
                simp only [Act.put, List.setIfInBounds_toArray, List.set_cons_zero, List.set_cons_succ]
                refine wpList_run (by kernel_rfl) (.int .i64 (N : Int)) wq (xo_len (some ⟨g38, 0, none⟩) N N Tryd.underlying48 rfl rfl) ?_
                simp only [Act.put, List.setIfInBounds_toArray, List.set_cons_zero, List.set_cons_succ]
                refine wpList_run (by kernel_rfl) (.bool true) wq (xo_lssT .i64 (k : Int) (N : Int) (by omega) rfl rfl rfl) ?_
                simp only [Act.put, List.setIfInBounds_toArray, List.set_cons_zero, List.set_cons_succ]
                refine wpList_run (by kernel_rfl) (.bool true) wq rfl ?_
                simp only [Act.put, List.setIfInBounds_toArray, List.set_cons_zero, List.set_cons_succ]
                refine wpList_run (by kernel_rfl) (.int .i64 (k : Int)) wq rfl ?_
                simp only [Act.put, List.setIfInBounds_toArray, List.set_cons_zero, List.set_cons_succ]
                refine wpList_run (by kernel_rfl) (.slice A n c) wq rfl ?_
                simp only [Act.put, List.setIfInBounds_toArray, List.set_cons_zero, List.set_cons_succ]
                refine wpList_run (by kernel_rfl) (.int .i64 (i : Int)) wq rfl ?_
                simp only [Act.put, List.setIfInBounds_toArray, List.set_cons_zero, List.set_cons_succ]
                refine wpList_run (by kernel_rfl) (.pointer (some (gad A (i * 1)))) wq (xg_idx .i64 (Cols.head (HC.out.keep B0.out)) HE3.out Tryd.underlying38 (by kernel_rfl) rfl rfl rfl) ?_
                simp only [Act.put, List.setIfInBounds_toArray, List.set_cons_zero, List.set_cons_succ]
                refine wpList_run (by kernel_rfl) (.slice A3 m3 c3) wq (xg_load1 (E := hdC) (i := i) (j := 0) (Cols.head (HC.out.keep B0.out)) HE3.out rfl rfl Tryd.underlying48 rfl rfl rfl) ?_
                simp only [Act.put, List.setIfInBounds_toArray, List.set_cons_zero, List.set_cons_succ]
                refine wpList_run (by kernel_rfl) (.int .i64 (m3 : Int)) wq (xo_len A3 m3 c3 Tryd.underlying48 rfl rfl) ?_
                simp only [Act.put, List.setIfInBounds_toArray, List.set_cons_zero, List.set_cons_succ]
                refine wpList_run (by kernel_rfl) (.bool true) wq (xo_lssT .i64 (k : Int) (m3 : Int) (by omega) rfl rfl rfl) ?_
                simp only [Act.put, List.setIfInBounds_toArray, List.set_cons_zero, List.set_cons_succ]
                refine wpList_run (by kernel_rfl) (.bool true) wq rfl ?_
                simp only [Act.put, List.setIfInBounds_toArray, List.set_cons_zero, List.set_cons_succ]
                refine wpList_nil ?_
                go_upto_region 12 with fail
                refine wp_region_lit ?_
                refine wpList_run (by kernel_rfl) (.slice (some ⟨g38, 0, none⟩) N N) wq rfl ?_
                simp only [Act.put, List.setIfInBounds_toArray, List.set_cons_zero, List.set_cons_succ]
                refine wpList_run (by kernel_rfl) (.int .i64 (k : Int)) wq rfl ?_
                simp only [Act.put, List.setIfInBounds_toArray, List.set_cons_zero, List.set_cons_succ]
                refine wpList_run (by kernel_rfl) (.slice A n c) wq rfl ?_
                simp only [Act.put, List.setIfInBounds_toArray, List.set_cons_zero, List.set_cons_succ]
                refine wpList_run (by kernel_rfl) (.int .i64 (i : Int)) wq rfl ?_
                simp only [Act.put, List.setIfInBounds_toArray, List.set_cons_zero, List.set_cons_succ]
                refine wpList_run (by kernel_rfl) (.pointer (some (gad A (i * 1)))) wq (xg_idx .i64 (Cols.head (HC.out.keep B0.out)) HE3.out Tryd.underlying38 (by kernel_rfl) rfl rfl rfl) ?_
                simp only [Act.put, List.setIfInBounds_toArray, List.set_cons_zero, List.set_cons_succ]
                refine wpList_run (by kernel_rfl) (.slice A3 m3 c3) wq (xg_load1 (E := hdC) (i := i) (j := 0) (Cols.head (HC.out.keep B0.out)) HE3.out rfl rfl Tryd.underlying48 rfl rfl rfl) ?_
                simp only [Act.put, List.setIfInBounds_toArray, List.set_cons_zero, List.set_cons_succ]
                refine wpList_run (by kernel_rfl) (.int .i64 (k : Int)) wq rfl ?_
                simp only [Act.put, List.setIfInBounds_toArray, List.set_cons_zero, List.set_cons_succ]
                refine wpList_run (by kernel_rfl) (.pointer (some (gad A3 (k * 1)))) wq (xg_idx .i64 (HR3.out.keep B0.out) HX0.out Tryd.underlying48 (by kernel_rfl) rfl rfl rfl) ?_
                simp only [Act.put, List.setIfInBounds_toArray, List.set_cons_zero, List.set_cons_succ]
                refine wpList_run (by kernel_rfl) (.int .u64 (x0 : Int)) wq (xg_load1 (E := wdC) (i := k) (j := 0) (HR3.out.keep B0.out) HX0.out rfl rfl Tryd.underlying50 rfl rfl rfl) ?_
                simp only [Act.put, List.setIfInBounds_toArray, List.set_cons_zero, List.set_cons_succ]
                refine wpList_run (by kernel_rfl) (.pointer (some (gad (some ⟨g38, 0, none⟩) (k * 1)))) wq (xg_idx .i64 (RowG.sg (n := N) (c := N) Fv8_38.out hyl.out (Nat.le_refl _) (by omega)) HY0.out Tryd.underlying48 (by kernel_rfl) rfl rfl rfl) ?_
                simp only [Act.put, List.setIfInBounds_toArray, List.set_cons_zero, List.set_cons_succ]
                refine wpList_storeW g38 _ _ 50 (by kernel_rfl) (RowG.h Fv8_38.out) (xg_store Fv8_38.out (List.getElem?_eq_some_iff.1 HY0.out).1 x0 (by kernel_rfl) rfl rfl rfl) ?_
                intro X1_13 h1 hfar hbel hsz
                have hbr := hbel _ _ Gr9.out B0.out
                clear B0
                have B0 := Lib.hid hbr
                clear hbr
                clear Fv8_38
                have Fv8_38 : Hid (RowG wdC X1_13 g38 50 (ys.set k x0)) := Lib.hid (h1)
                have HszX1_13 := Lib.hid hsz
                clear h1 hfar hbel hsz
                simp only [ptr, Act.put, List.setIfInBounds_toArray, List.set_cons_zero, List.set_cons_succ]
                refine wpList_nil ?_
                have hrow := Fv8_38.out
                have hbw := B0.out
                go_upto_region 11 with fail
                refine wp_region_lit ?_
                refine wpList_run (by kernel_rfl) (.int .i64 (k : Int)) X1_13 rfl ?_
                simp only [Act.put, List.setIfInBounds_toArray, List.set_cons_zero, List.set_cons_succ]
                refine wpList_run (by kernel_rfl) (.int .i64 ((k + 1 : Nat) : Int)) X1_13 (xo_addI (k : Int) 1 ((k + 1 : Nat) : Int) (by omega) (by omega) (by omega) rfl rfl rfl) ?_
                simp only [Act.put, List.setIfInBounds_toArray, List.set_cons_zero, List.set_cons_succ]
                refine wpList_run (by kernel_rfl) (.int .i64 ((k + 1 : Nat) : Int)) X1_13 rfl ?_
                simp only [Act.put, List.setIfInBounds_toArray, List.set_cons_zero, List.set_cons_succ]
                refine wpList_nil ?_
                go_wp2_with fail
                go_roundw
                case rel => exact ⟨k + 1, _, by omega, by go_num, by rw [List.length_set, hyl.out], hrow, hbw⟩
                case measure => simp [intOf]; omega
              · have hci12 : ¬ ((k : Int) < (m3 : Int)) := by omega
                go_upto_region 10 with fail
                refine wp_region_lit ?_
                refine wpList_run (by kernel_rfl) (.int .i64 (k : Int)) wq rfl ?_
                simp only [Act.put, List.setIfInBounds_toArray, List.set_cons_zero, List.set_cons_succ]
                refine wpList_run (by kernel_rfl) (.slice (some ⟨g38, 0, none⟩) N N) wq rfl ?_
                simp only [Act.put, List.setIfInBounds_toArray, List.set_cons_zero, List.set_cons_succ]
                refine wpList_run (by kernel_rfl) (.int .i64 (N : Int)) wq (xo_len (some ⟨g38, 0, none⟩) N N Tryd.underlying48 rfl rfl) ?_
                simp only [Act.put, List.setIfInBounds_toArray, List.set_cons_zero, List.set_cons_succ]
                refine wpList_run (by kernel_rfl) (.bool true) wq (xo_lssT .i64 (k : Int) (N : Int) (by omega) rfl rfl rfl) ?_
                simp only [Act.put, List.setIfInBounds_toArray, List.set_cons_zero, List.set_cons_succ]
                refine wpList_run (by kernel_rfl) (.bool true) wq rfl ?_
                simp only [Act.put, List.setIfInBounds_toArray, List.set_cons_zero, List.set_cons_succ]
                refine wpList_run (by kernel_rfl) (.int .i64 (k : Int)) wq rfl ?_
                simp only [Act.put, List.setIfInBounds_toArray, List.set_cons_zero, List.set_cons_succ]
                refine wpList_run (by kernel_rfl) (.slice A n c) wq rfl ?_
                simp only [Act.put, List.setIfInBounds_toArray, List.set_cons_zero, List.set_cons_succ]
                refine wpList_run (by kernel_rfl) (.int .i64 (i : Int)) wq rfl ?_
                simp only [Act.put, List.setIfInBounds_toArray, List.set_cons_zero, List.set_cons_succ]
                refine wpList_run (by kernel_rfl) (.pointer (some (gad A (i * 1)))) wq (xg_idx .i64 (Cols.head (HC.out.keep B0.out)) HE3.out Tryd.underlying38 (by kernel_rfl) rfl rfl rfl) ?_
                simp only [Act.put, List.setIfInBounds_toArray, List.set_cons_zero, List.set_cons_succ]
                refine wpList_run (by kernel_rfl) (.slice A3 m3 c3) wq (xg_load1 (E := hdC) (i := i) (j := 0) (Cols.head (HC.out.keep B0.out)) HE3.out rfl rfl Tryd.underlying48 rfl rfl rfl) ?_
                simp only [Act.put, List.setIfInBounds_toArray, List.set_cons_zero, List.set_cons_succ]
                refine wpList_run (by kernel_rfl) (.int .i64 (m3 : Int)) wq (xo_len A3 m3 c3 Tryd.underlying48 rfl rfl) ?_
                simp only [Act.put, List.setIfInBounds_toArray, List.set_cons_zero, List.set_cons_succ]
                refine wpList_run (by kernel_rfl) (.bool false) wq (xo_lssF .i64 (k : Int) (m3 : Int) (by omega) rfl rfl rfl) ?_
                simp only [Act.put, List.setIfInBounds_toArray, List.set_cons_zero, List.set_cons_succ]
                refine wpList_run (by kernel_rfl) (.bool false) wq rfl ?_
                simp only [Act.put, List.setIfInBounds_toArray, List.set_cons_zero, List.set_cons_succ]
                refine wpList_nil ?_
                go_upto_region 13 with fail
                refine wp_region_lit ?_
                refine wpList_run (by kernel_rfl) (.slice (some ⟨g38, 0, none⟩) N N) wq rfl ?_
                simp only [Act.put, List.setIfInBounds_toArray, List.set_cons_zero, List.set_cons_succ]
                refine wpList_run (by kernel_rfl) (.slice (some ⟨g38, 0, none⟩) N N) wq rfl ?_
                simp only [Act.put, List.setIfInBounds_toArray, List.set_cons_zero, List.set_cons_succ]
                refine wpList_nil ?_
                have hcb := HBV6.out.trans (B0.out.mono HBV6.out.size)
                have YHB := (HB.out.keep B0.out)
                have YHC := (HC.out.keep B0.out)
                have YOW := (own_keep OW.out B0.out)
                have YFv8_38 := Fv8_38.out
                clear HB
                have HB := Lib.hid YHB
                clear YHB
                clear HC
                have HC := Lib.hid YHC
                clear YHC
                clear OW
                have OW := Lib.hid YOW
                clear YOW
                clear Fv8_38
                have Fv8_38 := Lib.hid YFv8_38
                clear YFv8_38
                have B0 := Lib.hid hcb
                clear hcb
                have GrA : Hid (w.heap.size ≤ g38) := Lib.hid (Nat.le_trans HBV6.out.size Gr9.out)
                have hci13 : ((N : Int) ≤ 8) := by omega
                go_upto_region 14 with fail
                refine wp_region_lit ?_
                refine wpList_run (by kernel_rfl) (.slice (some ⟨g38, 0, none⟩) N N) wq rfl ?_
                simp only [Act.put, List.setIfInBounds_toArray, List.set_cons_zero, List.set_cons_succ]
                refine wpList_run (by kernel_rfl) (.int .i64 (N : Int)) wq (xo_len (some ⟨g38, 0, none⟩) N N Tryd.underlying48 rfl rfl) ?_
                simp only [Act.put, List.setIfInBounds_toArray, List.set_cons_zero, List.set_cons_succ]
                refine wpList_run (by kernel_rfl) (.bool true) wq (xo_leqT .i64 (N : Int) 8 (by omega) rfl rfl rfl) ?_
                simp only [Act.put, List.setIfInBounds_toArray, List.set_cons_zero, List.set_cons_succ]
                refine wpList_nil ?_
                have HPU := Lib.hid (AllK.push (d := mkH N g38) (xs := ys) HB.out (.inr ⟨g38, N, rfl, GrA.out, hyl.out, hN8.2, Fv8_38.out⟩))
                go_upto_region 15 with fail
                refine wp_region_lit ?_
                refine wpList_run (by kernel_rfl) (u6) wq rfl ?_
                simp only [Act.put, List.setIfInBounds_toArray, List.set_cons_zero, List.set_cons_succ]
                refine wpList_run (by kernel_rfl) (.slice (some ⟨g38, 0, none⟩) N N) wq rfl ?_
                simp only [Act.put, List.setIfInBounds_toArray, List.set_cons_zero, List.set_cons_succ]
                refine wpList_mk (by kernel_rfl) ([(Hd.mk (some ⟨g38, 0, none⟩) N N)].flatMap hdC).toArray 48 1 1 (xg_lit (E := hdC) (bytes := 24) (.slice none 0 0) [.tmp 69] [(Hd.mk (some ⟨g38, 0, none⟩) N N)] 1 Tryd.underlying38 (by kernel_rfl) rfl (by decide) (by decide) rfl rfl) ?_
                intro g70 V2 hge h0 hb
                have N14_0 : Hid (g38 ≠ g70) := Lib.hid (xp_lt0 Fv8_38.out hge)
                have Ge15 : Hid (wq.heap.size ≤ g70) := Lib.hid hge
                have B1 := Lib.hid hb
                have Fv16_70 : Hid (RowG hdC V2 g70 48 ([(Hd.mk (some ⟨g38, 0, none⟩) N N)])) := Lib.hid (h0)
                have Lt17 : Hid (g70 < V2.heap.size) := Lib.hid (xp_lt Fv16_70.out)
                clear hge h0 hb
                simp only [ptr, Act.put, List.setIfInBounds_toArray, List.set_cons_zero, List.set_cons_succ]
                have C0_2 := Lib.hid (bel_step B0.out B1.out)
                refine wpList_app2 (size := 1) (by kernel_rfl) (.tmp 68) (.tmp 70) 38 rfl (.slice none 0 0) 24 Tryd.underlying38 (by kernel_rfl) rfl (by decide) rfl (own_keep OW.out B1.out) (some ⟨g70, 0, none⟩) 1 1 (fl hdC ([(Hd.mk (some ⟨g38, 0, none⟩) N N)])) rfl (RowG.sg (n := 1) (c := 1) Fv16_70.out (show ([(Hd.mk (some ⟨g38, 0, none⟩) N N)]).length = 1 from rfl) (Nat.le_refl _) (by omega)).src (by unfold maxLen; omega) (by omega) C0_2.out.size ?_
                intro v71 X2_18 ho hb1 hg hloc
                have hox : X2_18.ownsRow w.heap.size 48 1 v71 (q + 1) (fl hdC (hq ++ ([(Hd.mk (some ⟨g38, 0, none⟩) N N)]))) := by rw [fl_append]; exact ho
                have YFv8_38 : RowG wdC X2_18 g38 50 ys := own_rowkeep (own_keep OW.out B1.out) hg (Fv8_38.out.keep B1.out) (by decide)
                have YHPU : AllK w X2_18 (hq ++ [mkH N g38]) (xq ++ [ys]) := AllK.grown (HPU.out.keep B1.out) (own_keep OW.out B1.out) hg (by decide)
                have hbr := C0_2.out.trans hb1
                clear B0
                have B0 := Lib.hid hbr
                clear hbr
                have Ow71_19 := Lib.hid hox
                clear Fv8_38
                have Fv8_38 : Hid (RowG wdC X2_18 g38 50 ys) := Lib.hid YFv8_38
                clear YFv8_38
                have Lt20 : Hid (g38 < X2_18.heap.size) := Lib.hid (xp_lt Fv8_38.out)
                clear HPU
                have HPU : Hid (AllK w X2_18 (hq ++ [mkH N g38]) (xq ++ [ys])) := Lib.hid YHPU
                clear YHPU
                clear ho hox hb1 hg hloc
                simp only [ptr, Act.put, List.setIfInBounds_toArray, List.set_cons_zero, List.set_cons_succ]
                refine wpList_run (by kernel_rfl) (v71) X2_18 rfl ?_
                simp only [Act.put, List.setIfInBounds_toArray, List.set_cons_zero, List.set_cons_succ]
                refine wpList_nil ?_
                have hkb := HPU.out
                have hko := Ow71_19.out
                have hx8 : ∀ zs ∈ xq ++ [ys], zs.length ≤ 8 := all_snoc (p := fun zs : List Nat => zs.length ≤ 8) HX8.out (by rw [hyl.out]; exact hN8.2)
                go_upto_region 5 with fail
                refine wp_region_lit ?_
                refine wpList_run (by kernel_rfl) (.int .i64 (i : Int)) X2_18 rfl ?_
                simp only [Act.put, List.setIfInBounds_toArray, List.set_cons_zero, List.set_cons_succ]
                refine wpList_run (by kernel_rfl) (.int .i64 ((i + 1 : Nat) : Int)) X2_18 (xo_addI (i : Int) 1 ((i + 1 : Nat) : Int) (by omega) (by omega) (by omega) rfl rfl rfl) ?_
                simp only [Act.put, List.setIfInBounds_toArray, List.set_cons_zero, List.set_cons_succ]
                refine wpList_run (by kernel_rfl) (.int .i64 ((i + 1 : Nat) : Int)) X2_18 rfl ?_
                simp only [Act.put, List.setIfInBounds_toArray, List.set_cons_zero, List.set_cons_succ]
                refine wpList_nil ?_
                have hq21 := B0.out
                go_wp2_with fail
                go_roundw
                case rel => exact ⟨i + 1, hq ++ [mkH N g38], xq ++ [ys], q + 1, by omega, by go_num, (by rw [List.length_append, hql.out]; rfl), hko, hkb, ⟨by omega, by omega⟩, hx8, hq21⟩
                case measure => simp [intOf]; omega
            · have hci11 : ¬ ((k : Int) < (N : Int)) := by omega
              go_upto_region 10 with fail
              refine wp_region_lit ?_
              refine wpList_run (by kernel_rfl) (.int .i64 (k : Int)) wq rfl ?_
              simp only [Act.put, List.setIfInBounds_toArray, List.set_cons_zero, List.set_cons_succ]
              refine wpList_run (by kernel_rfl) (.slice (some ⟨g38, 0, none⟩) N N) wq rfl ?_
              simp only [Act.put, List.setIfInBounds_toArray, List.set_cons_zero, List.set_cons_succ]
              refine wpList_run (by kernel_rfl) (.int .i64 (N : Int)) wq (xo_len (some ⟨g38, 0, none⟩) N N Tryd.underlying48 rfl rfl) ?_
              simp only [Act.put, List.setIfInBounds_toArray, List.set_cons_zero, List.set_cons_succ]
              refine wpList_run (by kernel_rfl) (.bool false) wq (xo_lssF .i64 (k : Int) (N : Int) (by omega) rfl rfl rfl) ?_
              simp only [Act.put, List.setIfInBounds_toArray, List.set_cons_zero, List.set_cons_succ]
              refine wpList_run (by kernel_rfl) (.bool false) wq rfl ?_
              simp only [Act.put, List.setIfInBounds_toArray, List.set_cons_zero, List.set_cons_succ]
              refine wpList_skip (by kernel_rfl) ?_
              try simp only [Act.put, List.setIfInBounds_toArray, List.set_cons_zero, List.set_cons_succ]
              refine wpList_skip (by kernel_rfl) ?_
              try simp only [Act.put, List.setIfInBounds_toArray, List.set_cons_zero, List.set_cons_succ]
              refine wpList_skip (by kernel_rfl) ?_
              try simp only [Act.put, List.setIfInBounds_toArray, List.set_cons_zero, List.set_cons_succ]
              refine wpList_skip (by kernel_rfl) ?_
              try simp only [Act.put, List.setIfInBounds_toArray, List.set_cons_zero, List.set_cons_succ]
              refine wpList_skip (by kernel_rfl) ?_
              try simp only [Act.put, List.setIfInBounds_toArray, List.set_cons_zero, List.set_cons_succ]
              refine wpList_skip (by kernel_rfl) ?_
              try simp only [Act.put, List.setIfInBounds_toArray, List.set_cons_zero, List.set_cons_succ]
              refine wpList_skip (by kernel_rfl) ?_
              try simp only [Act.put, List.setIfInBounds_toArray, List.set_cons_zero, List.set_cons_succ]
              refine wpList_run (by kernel_rfl) (.bool false) wq rfl ?_
              simp only [Act.put, List.setIfInBounds_toArray, List.set_cons_zero, List.set_cons_succ]
              refine wpList_nil ?_
              go_upto_region 13 with fail
              refine wp_region_lit ?_
              refine wpList_run (by kernel_rfl) (.slice (some ⟨g38, 0, none⟩) N N) wq rfl ?_
              simp only [Act.put, List.setIfInBounds_toArray, List.set_cons_zero, List.set_cons_succ]
              refine wpList_run (by kernel_rfl) (.slice (some ⟨g38, 0, none⟩) N N) wq rfl ?_
              simp only [Act.put, List.setIfInBounds_toArray, List.set_cons_zero, List.set_cons_succ]
              refine wpList_nil ?_
              have hcb := HBV6.out.trans (B0.out.mono HBV6.out.size)
              have YHB := (HB.out.keep B0.out)
              have YHC := (HC.out.keep B0.out)
              have YOW := (own_keep OW.out B0.out)
              have YFv8_38 := Fv8_38.out
              clear HB
              have HB := Lib.hid YHB
              clear YHB
              clear HC
              have HC := Lib.hid YHC
              clear YHC
              clear OW
              have OW := Lib.hid YOW
              clear YOW
              clear Fv8_38
              have Fv8_38 := Lib.hid YFv8_38
              clear YFv8_38
              have B0 := Lib.hid hcb
              clear hcb
              have GrA : Hid (w.heap.size ≤ g38) := Lib.hid (Nat.le_trans HBV6.out.size Gr9.out)
              have hci12 : ((N : Int) ≤ 8) := by omega
              go_upto_region 14 with fail
              refine wp_region_lit ?_
              refine wpList_run (by kernel_rfl) (.slice (some ⟨g38, 0, none⟩) N N) wq rfl ?_
              simp only [Act.put, List.setIfInBounds_toArray, List.set_cons_zero, List.set_cons_succ]
              refine wpList_run (by kernel_rfl) (.int .i64 (N : Int)) wq (xo_len (some ⟨g38, 0, none⟩) N N Tryd.underlying48 rfl rfl) ?_
              simp only [Act.put, List.setIfInBounds_toArray, List.set_cons_zero, List.set_cons_succ]
              refine wpList_run (by kernel_rfl) (.bool true) wq (xo_leqT .i64 (N : Int) 8 (by omega) rfl rfl rfl) ?_
              simp only [Act.put, List.setIfInBounds_toArray, List.set_cons_zero, List.set_cons_succ]
              refine wpList_nil ?_
              have HPU := Lib.hid (AllK.push (d := mkH N g38) (xs := ys) HB.out (.inr ⟨g38, N, rfl, GrA.out, hyl.out, hN8.2, Fv8_38.out⟩))
              go_upto_region 15 with fail
              refine wp_region_lit ?_
              refine wpList_run (by kernel_rfl) (u6) wq rfl ?_
              simp only [Act.put, List.setIfInBounds_toArray, List.set_cons_zero, List.set_cons_succ]
              refine wpList_run (by kernel_rfl) (.slice (some ⟨g38, 0, none⟩) N N) wq rfl ?_
              simp only [Act.put, List.setIfInBounds_toArray, List.set_cons_zero, List.set_cons_succ]
              refine wpList_mk (by kernel_rfl) ([(Hd.mk (some ⟨g38, 0, none⟩) N N)].flatMap hdC).toArray 48 1 1 (xg_lit (E := hdC) (bytes := 24) (.slice none 0 0) [.tmp 69] [(Hd.mk (some ⟨g38, 0, none⟩) N N)] 1 Tryd.underlying38 (by kernel_rfl) rfl (by decide) (by decide) rfl rfl) ?_
              intro g70 V2 hge h0 hb
              have N13_0 : Hid (g38 ≠ g70) := Lib.hid (xp_lt0 Fv8_38.out hge)
              have Ge14 : Hid (wq.heap.size ≤ g70) := Lib.hid hge
              have B1 := Lib.hid hb
              have Fv15_70 : Hid (RowG hdC V2 g70 48 ([(Hd.mk (some ⟨g38, 0, none⟩) N N)])) := Lib.hid (h0)
              have Lt16 : Hid (g70 < V2.heap.size) := Lib.hid (xp_lt Fv15_70.out)
              clear hge h0 hb
              simp only [ptr, Act.put, List.setIfInBounds_toArray, List.set_cons_zero, List.set_cons_succ]
              have C0_2 := Lib.hid (bel_step B0.out B1.out)
              refine wpList_app2 (size := 1) (by kernel_rfl) (.tmp 68) (.tmp 70) 38 rfl (.slice none 0 0) 24 Tryd.underlying38 (by kernel_rfl) rfl (by decide) rfl (own_keep OW.out B1.out) (some ⟨g70, 0, none⟩) 1 1 (fl hdC ([(Hd.mk (some ⟨g38, 0, none⟩) N N)])) rfl (RowG.sg (n := 1) (c := 1) Fv15_70.out (show ([(Hd.mk (some ⟨g38, 0, none⟩) N N)]).length = 1 from rfl) (Nat.le_refl _) (by omega)).src (by unfold maxLen; omega) (by omega) C0_2.out.size ?_
              intro v71 X2_17 ho hb1 hg hloc
              have hox : X2_17.ownsRow w.heap.size 48 1 v71 (q + 1) (fl hdC (hq ++ ([(Hd.mk (some ⟨g38, 0, none⟩) N N)]))) := by rw [fl_append]; exact ho
              have YFv8_38 : RowG wdC X2_17 g38 50 ys := own_rowkeep (own_keep OW.out B1.out) hg (Fv8_38.out.keep B1.out) (by decide)
              have YHPU : AllK w X2_17 (hq ++ [mkH N g38]) (xq ++ [ys]) := AllK.grown (HPU.out.keep B1.out) (own_keep OW.out B1.out) hg (by decide)
              have hbr := C0_2.out.trans hb1
              clear B0
              have B0 := Lib.hid hbr
              clear hbr
              have Ow71_18 := Lib.hid hox
              clear Fv8_38
              have Fv8_38 : Hid (RowG wdC X2_17 g38 50 ys) := Lib.hid YFv8_38
              clear YFv8_38
              have Lt19 : Hid (g38 < X2_17.heap.size) := Lib.hid (xp_lt Fv8_38.out)
              clear HPU
              have HPU : Hid (AllK w X2_17 (hq ++ [mkH N g38]) (xq ++ [ys])) := Lib.hid YHPU
              clear YHPU
              clear ho hox hb1 hg hloc
              simp only [ptr, Act.put, List.setIfInBounds_toArray, List.set_cons_zero, List.set_cons_succ]
              refine wpList_run (by kernel_rfl) (v71) X2_17 rfl ?_
              simp only [Act.put, List.setIfInBounds_toArray, List.set_cons_zero, List.set_cons_succ]
              refine wpList_nil ?_
              have hkb := HPU.out
              have hko := Ow71_18.out
              have hx8 : ∀ zs ∈ xq ++ [ys], zs.length ≤ 8 := all_snoc (p := fun zs : List Nat => zs.length ≤ 8) HX8.out (by rw [hyl.out]; exact hN8.2)
              go_upto_region 5 with fail
              refine wp_region_lit ?_
              refine wpList_run (by kernel_rfl) (.int .i64 (i : Int)) X2_17 rfl ?_
              simp only [Act.put, List.setIfInBounds_toArray, List.set_cons_zero, List.set_cons_succ]
              refine wpList_run (by kernel_rfl) (.int .i64 ((i + 1 : Nat) : Int)) X2_17 (xo_addI (i : Int) 1 ((i + 1 : Nat) : Int) (by omega) (by omega) (by omega) rfl rfl rfl) ?_
              simp only [Act.put, List.setIfInBounds_toArray, List.set_cons_zero, List.set_cons_succ]
              refine wpList_run (by kernel_rfl) (.int .i64 ((i + 1 : Nat) : Int)) X2_17 rfl ?_
              simp only [Act.put, List.setIfInBounds_toArray, List.set_cons_zero, List.set_cons_succ]
              refine wpList_nil ?_
              have hq20 := B0.out
              go_wp2_with fail
              go_roundw
              case rel => exact ⟨i + 1, hq ++ [mkH N g38], xq ++ [ys], q + 1, by omega, by go_num, (by rw [List.length_append, hql.out]; rfl), hko, hkb, ⟨by omega, by omega⟩, hx8, hq20⟩
              case measure => simp [intOf]; omega
        · have hci5 : ¬ (((nn % 2 : Nat) : Int) = 0) := by omega
          go_upto_region 7 with fail
          refine wp_region_lit ?_
          refine wpList_run (by kernel_rfl) (.int .u8 (nn : Int)) wo rfl ?_
          simp only [Act.put, List.setIfInBounds_toArray, List.set_cons_zero, List.set_cons_succ]
          refine wpList_run (by kernel_rfl) (.int .u8 ((nn % 2 : Nat) : Int)) wo (xo_and .u8 nn 1 (nn % 2) (by show _ < 2 ^ 8; omega) (by show _ < 2 ^ 8; omega) (Nat.and_two_pow_sub_one_eq_mod nn 1) (by rw [IntKind.wrap_u8]; omega) rfl rfl rfl) ?_
          simp only [Act.put, List.setIfInBounds_toArray, List.set_cons_zero, List.set_cons_succ]
          refine wpList_run (by kernel_rfl) (.bool false) wo (xo_eqlF .u8 ((nn % 2 : Nat) : Int) 0 (by omega) rfl rfl rfl) ?_
          simp only [Act.put, List.setIfInBounds_toArray, List.set_cons_zero, List.set_cons_succ]
          refine wpList_nil ?_
          by_cases hm8 : m3 ≤ 8
          · have hci6 : ((m3 : Int) ≤ 8) := by omega
            go_upto_region 14 with fail
            refine wp_region_lit ?_
            refine wpList_run (by kernel_rfl) (.slice A3 m3 c3) wo rfl ?_
            simp only [Act.put, List.setIfInBounds_toArray, List.set_cons_zero, List.set_cons_succ]
            refine wpList_run (by kernel_rfl) (.int .i64 (m3 : Int)) wo (xo_len A3 m3 c3 Tryd.underlying48 rfl rfl) ?_
            simp only [Act.put, List.setIfInBounds_toArray, List.set_cons_zero, List.set_cons_succ]
            refine wpList_run (by kernel_rfl) (.bool true) wo (xo_leqT .i64 (m3 : Int) 8 (by omega) rfl rfl rfl) ?_
            simp only [Act.put, List.setIfInBounds_toArray, List.set_cons_zero, List.set_cons_succ]
            refine wpList_nil ?_
            have HPU := Lib.hid (AllK.push (d := Hd.mk A3 m3 c3) (xs := xs) HB.out (.inl HR3.out))
            go_upto_region 15 with fail
            refine wp_region_lit ?_
            refine wpList_run (by kernel_rfl) (u6) wo rfl ?_
            simp only [Act.put, List.setIfInBounds_toArray, List.set_cons_zero, List.set_cons_succ]
            refine wpList_run (by kernel_rfl) (.slice A3 m3 c3) wo rfl ?_
            simp only [Act.put, List.setIfInBounds_toArray, List.set_cons_zero, List.set_cons_succ]
            refine wpList_mk (by kernel_rfl) ([(Hd.mk A3 m3 c3)].flatMap hdC).toArray 48 1 1 (xg_lit (E := hdC) (bytes := 24) (.slice none 0 0) [.tmp 69] [(Hd.mk A3 m3 c3)] 1 Tryd.underlying38 (by kernel_rfl) rfl (by decide) (by decide) rfl rfl) ?_
            intro g70 V2 hge h0 hb
            have Ge7 : Hid (wo.heap.size ≤ g70) := Lib.hid hge
            have B1 := Lib.hid hb
            have Fv8_70 : Hid (RowG hdC V2 g70 48 ([(Hd.mk A3 m3 c3)])) := Lib.hid (h0)
            have Lt9 : Hid (g70 < V2.heap.size) := Lib.hid (xp_lt Fv8_70.out)
            clear hge h0 hb
            simp only [ptr, Act.put, List.setIfInBounds_toArray, List.set_cons_zero, List.set_cons_succ]
            have C0_2 := Lib.hid (bel_step B0.out B1.out)
            refine wpList_app2 (size := 1) (by kernel_rfl) (.tmp 68) (.tmp 70) 38 rfl (.slice none 0 0) 24 Tryd.underlying38 (by kernel_rfl) rfl (by decide) rfl (own_keep OW.out B1.out) (some ⟨g70, 0, none⟩) 1 1 (fl hdC ([(Hd.mk A3 m3 c3)])) rfl (RowG.sg (n := 1) (c := 1) Fv8_70.out (show ([(Hd.mk A3 m3 c3)]).length = 1 from rfl) (Nat.le_refl _) (by omega)).src (by unfold maxLen; omega) (by omega) C0_2.out.size ?_
            intro v71 X2_10 ho hb1 hg hloc
            have hox : X2_10.ownsRow w.heap.size 48 1 v71 (q + 1) (fl hdC (hq ++ ([(Hd.mk A3 m3 c3)]))) := by rw [fl_append]; exact ho
            have YHPU : AllK w X2_10 (hq ++ [Hd.mk A3 m3 c3]) (xq ++ [xs]) := AllK.grown (HPU.out.keep B1.out) (own_keep OW.out B1.out) hg (by decide)
            have hbr := C0_2.out.trans hb1
            clear B0
            have B0 := Lib.hid hbr
            clear hbr
            have Ow71_11 := Lib.hid hox
            clear HPU
            have HPU : Hid (AllK w X2_10 (hq ++ [Hd.mk A3 m3 c3]) (xq ++ [xs])) := Lib.hid YHPU
            clear YHPU
            clear ho hox hb1 hg hloc
            simp only [ptr, Act.put, List.setIfInBounds_toArray, List.set_cons_zero, List.set_cons_succ]
            refine wpList_run (by kernel_rfl) (v71) X2_10 rfl ?_
            simp only [Act.put, List.setIfInBounds_toArray, List.set_cons_zero, List.set_cons_succ]
            refine wpList_nil ?_
            have hkb := HPU.out
            have hko := Ow71_11.out
            have hx8 : ∀ zs ∈ xq ++ [xs], zs.length ≤ 8 := all_snoc (p := fun zs : List Nat => zs.length ≤ 8) HX8.out (by omega)
            go_upto_region 5 with fail
            refine wp_region_lit ?_
            refine wpList_run (by kernel_rfl) (.int .i64 (i : Int)) X2_10 rfl ?_
            simp only [Act.put, List.setIfInBounds_toArray, List.set_cons_zero, List.set_cons_succ]
            refine wpList_run (by kernel_rfl) (.int .i64 ((i + 1 : Nat) : Int)) X2_10 (xo_addI (i : Int) 1 ((i + 1 : Nat) : Int) (by omega) (by omega) (by omega) rfl rfl rfl) ?_
            simp only [Act.put, List.setIfInBounds_toArray, List.set_cons_zero, List.set_cons_succ]
            refine wpList_run (by kernel_rfl) (.int .i64 ((i + 1 : Nat) : Int)) X2_10 rfl ?_
            simp only [Act.put, List.setIfInBounds_toArray, List.set_cons_zero, List.set_cons_succ]
            refine wpList_nil ?_
            have hq12 := B0.out
            go_wp2_with fail
            go_roundw
            case rel => exact ⟨i + 1, hq ++ [Hd.mk A3 m3 c3], xq ++ [xs], q + 1, by omega, by go_num, (by rw [List.length_append, hql.out]; rfl), hko, hkb, ⟨by omega, by omega⟩, hx8, hq12⟩
            case measure => simp [intOf]; omega
          · have hci6 : ¬ ((m3 : Int) ≤ 8) := by omega
            go_upto_region 14 with fail
            refine wp_region_lit ?_
            refine wpList_run (by kernel_rfl) (.slice A3 m3 c3) wo rfl ?_
            simp only [Act.put, List.setIfInBounds_toArray, List.set_cons_zero, List.set_cons_succ]
            refine wpList_run (by kernel_rfl) (.int .i64 (m3 : Int)) wo (xo_len A3 m3 c3 Tryd.underlying48 rfl rfl) ?_
            simp only [Act.put, List.setIfInBounds_toArray, List.set_cons_zero, List.set_cons_succ]
            refine wpList_run (by kernel_rfl) (.bool false) wo (xo_leqF .i64 (m3 : Int) 8 (by omega) rfl rfl rfl) ?_
            simp only [Act.put, List.setIfInBounds_toArray, List.set_cons_zero, List.set_cons_succ]
            refine wpList_nil ?_
            have hkb := HB.out
            have hko := OW.out
            go_upto_region 5 with fail
            refine wp_region_lit ?_
            refine wpList_run (by kernel_rfl) (.int .i64 (i : Int)) wo rfl ?_
            simp only [Act.put, List.setIfInBounds_toArray, List.set_cons_zero, List.set_cons_succ]
            refine wpList_run (by kernel_rfl) (.int .i64 ((i + 1 : Nat) : Int)) wo (xo_addI (i : Int) 1 ((i + 1 : Nat) : Int) (by omega) (by omega) (by omega) rfl rfl rfl) ?_
            simp only [Act.put, List.setIfInBounds_toArray, List.set_cons_zero, List.set_cons_succ]
            refine wpList_run (by kernel_rfl) (.int .i64 ((i + 1 : Nat) : Int)) wo rfl ?_
            simp only [Act.put, List.setIfInBounds_toArray, List.set_cons_zero, List.set_cons_succ]
            refine wpList_nil ?_
            have hq7 := B0.out
            go_wp2_with fail
            go_roundw
            case rel => exact ⟨i + 1, hq, xq, q, by omega, by go_num, hql.out, hko, hkb, ⟨by omega, by omega⟩, HX8.out, hq7⟩
            case measure => simp [intOf]; omega
      · have hci4 : ¬ ((i : Int) < 66) := by omega
        go_upto_region 4 with fail
        refine wp_region_lit ?_
        refine wpList_run (by kernel_rfl) (.int .i64 (i : Int)) wo rfl ?_
        simp only [Act.put, List.setIfInBounds_toArray, List.set_cons_zero, List.set_cons_succ]
        refine wpList_run (by kernel_rfl) (.slice A n c) wo rfl ?_
        simp only [Act.put, List.setIfInBounds_toArray, List.set_cons_zero, List.set_cons_succ]
        refine wpList_run (by kernel_rfl) (.int .i64 (n : Int)) wo (xo_len A n c Tryd.underlying38 rfl rfl) ?_
        simp only [Act.put, List.setIfInBounds_toArray, List.set_cons_zero, List.set_cons_succ]
        refine wpList_run (by kernel_rfl) (.bool true) wo (xo_lssT .i64 (i : Int) (n : Int) (by omega) rfl rfl rfl) ?_
        simp only [Act.put, List.setIfInBounds_toArray, List.set_cons_zero, List.set_cons_succ]
        refine wpList_run (by kernel_rfl) (.bool true) wo rfl ?_
        simp only [Act.put, List.setIfInBounds_toArray, List.set_cons_zero, List.set_cons_succ]
        refine wpList_run (by kernel_rfl) (.int .i64 (i : Int)) wo rfl ?_
        simp only [Act.put, List.setIfInBounds_toArray, List.set_cons_zero, List.set_cons_succ]
        refine wpList_run (by kernel_rfl) (.bool false) wo (xo_lssF .i64 (i : Int) 66 (by omega) rfl rfl rfl) ?_
        simp only [Act.put, List.setIfInBounds_toArray, List.set_cons_zero, List.set_cons_succ]
        refine wpList_run (by kernel_rfl) (.bool false) wo rfl ?_
        simp only [Act.put, List.setIfInBounds_toArray, List.set_cons_zero, List.set_cons_succ]
        refine wpList_nil ?_
        have hko := OW.out
        obtain ⟨Al, cl, rfl, hsl⟩ := Sg.own hko
        have hkb := HB.out
        have hcl := AllK.cols hsl hkb B0.out
        have HCL := Lib.hid hcl
        have hsm : ∀ ys ∈ xq, ys.length < 4611686018427387904 := fun ys hy => by have := HX8.out ys hy; omega
        have HSM := Lib.hid hsm
        clear hko hsl hkb hcl hsm
        cases hj : jB xq with
        | false =>
          have HJ := Lib.hid hj
          clear hj
          go_upto_region 16 with fail
          refine wp_region_lit ?_
          refine wpList_run (by kernel_rfl) (.slice Al q cl) wo rfl ?_
          simp only [Act.put, List.setIfInBounds_toArray, List.set_cons_zero, List.set_cons_succ]
          refine wpList_call (by kernel_rfl) 29 Tryd.func29 (by kernel_rfl) (by kernel_rfl) _ _ #[.slice Al q cl] rfl (by kernel_rfl) ?_
          refine (table_no Al q cl hq xq HSM.out HJ.out wo HCL.out).mono ?_
          rintro e V2 ⟨rfl, hb⟩
          have B1 := Lib.hid hb
          clear hb 
          refine ⟨_, rfl, ?_⟩
          simp only [Act.put, List.setIfInBounds_toArray, List.set_cons_zero, List.set_cons_succ]
          refine wpList_run (by kernel_rfl) (.tuple #[.slice none 0 0, .int .i64 1]) V2 rfl ?_
          simp only [Act.put, List.setIfInBounds_toArray, List.set_cons_zero, List.set_cons_succ]
          refine wpList_run (by kernel_rfl) (.slice none 0 0) V2 rfl ?_
          simp only [Act.put, List.setIfInBounds_toArray, List.set_cons_zero, List.set_cons_succ]
          refine wpList_run (by kernel_rfl) (.int .i64 1) V2 rfl ?_
          simp only [Act.put, List.setIfInBounds_toArray, List.set_cons_zero, List.set_cons_succ]
          refine wpList_run (by kernel_rfl) (.slice none 0 0) V2 rfl ?_
          simp only [Act.put, List.setIfInBounds_toArray, List.set_cons_zero, List.set_cons_succ]
          refine wpList_run (by kernel_rfl) (.int .i64 1) V2 rfl ?_
          simp only [Act.put, List.setIfInBounds_toArray, List.set_cons_zero, List.set_cons_succ]
          refine wpList_nil ?_
          go_upto_region 17 with fail
          refine wp_region_lit ?_
          refine wpList_run (by kernel_rfl) (.slice Al q cl) V2 rfl ?_
          simp only [Act.put, List.setIfInBounds_toArray, List.set_cons_zero, List.set_cons_succ]
          refine wpList_call (by kernel_rfl) 30 Tryd.func30 (by kernel_rfl) (by kernel_rfl) _ _ #[.slice Al q cl] rfl (by kernel_rfl) ?_
          refine (rtable_no Al q cl hq xq HSM.out HJ.out V2 (HCL.out.keep B1.out)).mono ?_
          rintro e V3 ⟨rfl, hb⟩
          have B2 := Lib.hid hb
          clear hb 
          refine ⟨_, rfl, ?_⟩
          simp only [Act.put, List.setIfInBounds_toArray, List.set_cons_zero, List.set_cons_succ]
          refine wpList_run (by kernel_rfl) (.tuple #[.slice none 0 0, .int .i64 1]) V3 rfl ?_
          simp only [Act.put, List.setIfInBounds_toArray, List.set_cons_zero, List.set_cons_succ]
          refine wpList_run (by kernel_rfl) (.slice none 0 0) V3 rfl ?_
          simp only [Act.put, List.setIfInBounds_toArray, List.set_cons_zero, List.set_cons_succ]
          refine wpList_run (by kernel_rfl) (.int .i64 1) V3 rfl ?_
          simp only [Act.put, List.setIfInBounds_toArray, List.set_cons_zero, List.set_cons_succ]
          refine wpList_run (by kernel_rfl) (.slice none 0 0) V3 rfl ?_
          simp only [Act.put, List.setIfInBounds_toArray, List.set_cons_zero, List.set_cons_succ]
          refine wpList_run (by kernel_rfl) (.int .i64 1) V3 rfl ?_
          simp only [Act.put, List.setIfInBounds_toArray, List.set_cons_zero, List.set_cons_succ]
          refine wpList_nil ?_
          go_upto_region 18 with fail
          refine wp_region_lit ?_
          refine wpList_run (by kernel_rfl) (.bool true) V3 rfl ?_
          simp only [Act.put, List.setIfInBounds_toArray, List.set_cons_zero, List.set_cons_succ]
          refine wpList_run (by kernel_rfl) (.bool true) V3 rfl ?_
          simp only [Act.put, List.setIfInBounds_toArray, List.set_cons_zero, List.set_cons_succ]
          refine wpList_run (by kernel_rfl) (.slice none 0 0) V3 rfl ?_
          simp only [Act.put, List.setIfInBounds_toArray, List.set_cons_zero, List.set_cons_succ]
          refine wpList_mk (by kernel_rfl) ([(Hd.mk none 0 0)].flatMap hdC).toArray 48 1 1 (xg_lit (E := hdC) (bytes := 24) (.slice none 0 0) [.tmp 84] [(Hd.mk none 0 0)] 1 Tryd.underlying38 (by kernel_rfl) rfl (by decide) (by decide) rfl rfl) ?_
          intro g85 V4 hge h0 hb
          have Ge5 : Hid (V3.heap.size ≤ g85) := Lib.hid hge
          have B3 := Lib.hid hb
          have Fv6_85 : Hid (RowG hdC V4 g85 48 ([(Hd.mk none 0 0)])) := Lib.hid (h0)
          have Lt7 : Hid (g85 < V4.heap.size) := Lib.hid (xp_lt Fv6_85.out)
          clear hge h0 hb
          simp only [ptr, Act.put, List.setIfInBounds_toArray, List.set_cons_zero, List.set_cons_succ]
          refine wpList_run (by kernel_rfl) (.slice none 0 0) V4 rfl ?_
          simp only [Act.put, List.setIfInBounds_toArray, List.set_cons_zero, List.set_cons_succ]
          refine wpList_mk (by kernel_rfl) ([(Hd.mk none 0 0)].flatMap hdC).toArray 48 1 1 (xg_lit (E := hdC) (bytes := 24) (.slice none 0 0) [.tmp 86] [(Hd.mk none 0 0)] 1 Tryd.underlying38 (by kernel_rfl) rfl (by decide) (by decide) rfl rfl) ?_
          intro g87 V5 hge h0 hb
          have N8_0 : Hid (g85 ≠ g87) := Lib.hid (xp_lt0 Fv6_85.out hge)
          have Ge9 : Hid (V4.heap.size ≤ g87) := Lib.hid hge
          have B4 := Lib.hid hb
          have Fv10_87 : Hid (RowG hdC V5 g87 48 ([(Hd.mk none 0 0)])) := Lib.hid (h0)
          have Lt11 : Hid (g87 < V5.heap.size) := Lib.hid (xp_lt Fv10_87.out)
          clear hge h0 hb
          simp only [ptr, Act.put, List.setIfInBounds_toArray, List.set_cons_zero, List.set_cons_succ]
          refine wpList_call (by kernel_rfl) 26 Tryd.func26 (by kernel_rfl) (by kernel_rfl) _ _ #[.slice (some ⟨g85, 0, none⟩) 1 1, .slice (some ⟨g87, 0, none⟩) 1 1] rfl (by kernel_rfl) ?_
          refine (sameCols_yes (some ⟨g85, 0, none⟩) 1 1 [(Hd.mk none 0 0)] (some ⟨g87, 0, none⟩) 1 [(Hd.mk none 0 0)] [[]] V5 (Cols.of (RowG.sg (n := 1) (c := 1) (Fv6_85.out.keep B4.out) (show ([(Hd.mk none 0 0)]).length = 1 from rfl) (Nat.le_refl _) (by omega)) ⟨Sg.nil_ _, trivial⟩) (Cols.of (RowG.sg (n := 1) (c := 1) Fv10_87.out (show ([(Hd.mk none 0 0)]).length = 1 from rfl) (Nat.le_refl _) (by omega)) ⟨Sg.nil_ _, trivial⟩)).mono ?_
          rintro e V6 ⟨rfl, hb⟩
          have B5 := Lib.hid hb
          clear hb 
          refine ⟨_, rfl, ?_⟩
          simp only [Act.put, List.setIfInBounds_toArray, List.set_cons_zero, List.set_cons_succ]
          refine wpList_run (by kernel_rfl) (.bool true) V6 rfl ?_
          simp only [Act.put, List.setIfInBounds_toArray, List.set_cons_zero, List.set_cons_succ]
          refine wpList_run (by kernel_rfl) (.bool true) V6 rfl ?_
          simp only [Act.put, List.setIfInBounds_toArray, List.set_cons_zero, List.set_cons_succ]
          refine wpList_run (by kernel_rfl) (.int .i64 1) V6 rfl ?_
          simp only [Act.put, List.setIfInBounds_toArray, List.set_cons_zero, List.set_cons_succ]
          refine wpList_run (by kernel_rfl) (.int .i64 1) V6 rfl ?_
          simp only [Act.put, List.setIfInBounds_toArray, List.set_cons_zero, List.set_cons_succ]
          refine wpList_run (by kernel_rfl) (.bool true) V6 (xo_eqlT .i64 1 1 (by omega) rfl rfl rfl) ?_
          simp only [Act.put, List.setIfInBounds_toArray, List.set_cons_zero, List.set_cons_succ]
          refine wpList_run (by kernel_rfl) (.bool true) V6 rfl ?_
          simp only [Act.put, List.setIfInBounds_toArray, List.set_cons_zero, List.set_cons_succ]
          refine wpList_run (by kernel_rfl) (.bool true) V6 rfl ?_
          simp only [Act.put, List.setIfInBounds_toArray, List.set_cons_zero, List.set_cons_succ]
          refine wpList_nil ?_
          go_wp2_with fail
          go_ret
          have C0_2 := Lib.hid (bel_step B0.out B1.out)
          have C0_3 := Lib.hid (bel_step C0_2.out B2.out)
          have C0_4 := Lib.hid (bel_step C0_3.out B3.out)
          have C0_5 := Lib.hid (bel_step C0_4.out B4.out)
          have C0_6 := Lib.hid (bel_step C0_5.out B5.out)
          exact ⟨rfl, C0_6.out⟩
        | true =>
          have HJ := Lib.hid hj
          clear hj
          obtain ⟨TL, TM, hTL, hTM, hTle⟩ := tab_letters xq q HJ.out
          have HTL := Lib.hid hTL
          have HTM := Lib.hid hTM
          clear hTL hTM
          go_upto_region 16 with fail
          refine wp_region_lit ?_
          refine wpList_run (by kernel_rfl) (.slice Al q cl) wo rfl ?_
          simp only [Act.put, List.setIfInBounds_toArray, List.set_cons_zero, List.set_cons_succ]
          refine wpList_call (by kernel_rfl) 29 Tryd.func29 (by kernel_rfl) (by kernel_rfl) _ _ #[.slice Al q cl] rfl (by kernel_rfl) ?_
          refine (table_as Al q cl hq xq HSM.out HJ.out TL TM HTM.out wo HCL.out).mono ?_
          rintro e V2 ⟨gT1, rfl, hr, hb⟩
          have B1 := Lib.hid hb
          have HT1 := Lib.hid hr
          clear hb hr
          refine ⟨_, rfl, ?_⟩
          simp only [Act.put, List.setIfInBounds_toArray, List.set_cons_zero, List.set_cons_succ]
          refine wpList_run (by kernel_rfl) (.tuple #[.slice (some ⟨gT1, 0, none⟩) TM TM, .int .i64 0]) V2 rfl ?_
          simp only [Act.put, List.setIfInBounds_toArray, List.set_cons_zero, List.set_cons_succ]
          refine wpList_run (by kernel_rfl) (.slice (some ⟨gT1, 0, none⟩) TM TM) V2 rfl ?_
          simp only [Act.put, List.setIfInBounds_toArray, List.set_cons_zero, List.set_cons_succ]
          refine wpList_run (by kernel_rfl) (.int .i64 0) V2 rfl ?_
          simp only [Act.put, List.setIfInBounds_toArray, List.set_cons_zero, List.set_cons_succ]
          refine wpList_run (by kernel_rfl) (.slice (some ⟨gT1, 0, none⟩) TM TM) V2 rfl ?_
          simp only [Act.put, List.setIfInBounds_toArray, List.set_cons_zero, List.set_cons_succ]
          refine wpList_run (by kernel_rfl) (.int .i64 0) V2 rfl ?_
          simp only [Act.put, List.setIfInBounds_toArray, List.set_cons_zero, List.set_cons_succ]
          refine wpList_nil ?_
          go_upto_region 17 with fail
          refine wp_region_lit ?_
          refine wpList_run (by kernel_rfl) (.slice Al q cl) V2 rfl ?_
          simp only [Act.put, List.setIfInBounds_toArray, List.set_cons_zero, List.set_cons_succ]
          refine wpList_call (by kernel_rfl) 30 Tryd.func30 (by kernel_rfl) (by kernel_rfl) _ _ #[.slice Al q cl] rfl (by kernel_rfl) ?_
          refine (rtable_as Al q cl hq xq HSM.out HJ.out TL TM HTM.out V2 (HCL.out.keep B1.out)).mono ?_
          rintro e V3 ⟨gT2, rfl, hr, hb⟩
          have B2 := Lib.hid hb
          have HT2 := Lib.hid hr
          clear hb hr
          refine ⟨_, rfl, ?_⟩
          simp only [Act.put, List.setIfInBounds_toArray, List.set_cons_zero, List.set_cons_succ]
          refine wpList_run (by kernel_rfl) (.tuple #[.slice (some ⟨gT2, 0, none⟩) TM TM, .int .i64 0]) V3 rfl ?_
          simp only [Act.put, List.setIfInBounds_toArray, List.set_cons_zero, List.set_cons_succ]
          refine wpList_run (by kernel_rfl) (.slice (some ⟨gT2, 0, none⟩) TM TM) V3 rfl ?_
          simp only [Act.put, List.setIfInBounds_toArray, List.set_cons_zero, List.set_cons_succ]
          refine wpList_run (by kernel_rfl) (.int .i64 0) V3 rfl ?_
          simp only [Act.put, List.setIfInBounds_toArray, List.set_cons_zero, List.set_cons_succ]
          refine wpList_run (by kernel_rfl) (.slice (some ⟨gT2, 0, none⟩) TM TM) V3 rfl ?_
          simp only [Act.put, List.setIfInBounds_toArray, List.set_cons_zero, List.set_cons_succ]
          refine wpList_run (by kernel_rfl) (.int .i64 0) V3 rfl ?_
          simp only [Act.put, List.setIfInBounds_toArray, List.set_cons_zero, List.set_cons_succ]
          refine wpList_nil ?_
          go_upto_region 18 with fail
          refine wp_region_lit ?_
          refine wpList_run (by kernel_rfl) (.bool true) V3 rfl ?_
          simp only [Act.put, List.setIfInBounds_toArray, List.set_cons_zero, List.set_cons_succ]
          refine wpList_run (by kernel_rfl) (.bool true) V3 rfl ?_
          simp only [Act.put, List.setIfInBounds_toArray, List.set_cons_zero, List.set_cons_succ]
          refine wpList_run (by kernel_rfl) (.slice (some ⟨gT1, 0, none⟩) TM TM) V3 rfl ?_
          simp only [Act.put, List.setIfInBounds_toArray, List.set_cons_zero, List.set_cons_succ]
          refine wpList_mk (by kernel_rfl) ([(Hd.mk (some ⟨gT1, 0, none⟩) TM TM)].flatMap hdC).toArray 48 1 1 (xg_lit (E := hdC) (bytes := 24) (.slice none 0 0) [.tmp 84] [(Hd.mk (some ⟨gT1, 0, none⟩) TM TM)] 1 Tryd.underlying38 (by kernel_rfl) rfl (by decide) (by decide) rfl rfl) ?_
          intro g85 V4 hge h0 hb
          have Ge5 : Hid (V3.heap.size ≤ g85) := Lib.hid hge
          have B3 := Lib.hid hb
          have Fv6_85 : Hid (RowG hdC V4 g85 48 ([(Hd.mk (some ⟨gT1, 0, none⟩) TM TM)])) := Lib.hid (h0)
          have Lt7 : Hid (g85 < V4.heap.size) := Lib.hid (xp_lt Fv6_85.out)
          clear hge h0 hb
          simp only [ptr, Act.put, List.setIfInBounds_toArray, List.set_cons_zero, List.set_cons_succ]
          refine wpList_run (by kernel_rfl) (.slice (some ⟨gT2, 0, none⟩) TM TM) V4 rfl ?_
          simp only [Act.put, List.setIfInBounds_toArray, List.set_cons_zero, List.set_cons_succ]
          refine wpList_mk (by kernel_rfl) ([(Hd.mk (some ⟨gT2, 0, none⟩) TM TM)].flatMap hdC).toArray 48 1 1 (xg_lit (E := hdC) (bytes := 24) (.slice none 0 0) [.tmp 86] [(Hd.mk (some ⟨gT2, 0, none⟩) TM TM)] 1 Tryd.underlying38 (by kernel_rfl) rfl (by decide) (by decide) rfl rfl) ?_
          intro g87 V5 hge h0 hb
          have N8_0 : Hid (g85 ≠ g87) := Lib.hid (xp_lt0 Fv6_85.out hge)
          have Ge9 : Hid (V4.heap.size ≤ g87) := Lib.hid hge
          have B4 := Lib.hid hb
          have Fv10_87 : Hid (RowG hdC V5 g87 48 ([(Hd.mk (some ⟨gT2, 0, none⟩) TM TM)])) := Lib.hid (h0)
          have Lt11 : Hid (g87 < V5.heap.size) := Lib.hid (xp_lt Fv10_87.out)
          clear hge h0 hb
          simp only [ptr, Act.put, List.setIfInBounds_toArray, List.set_cons_zero, List.set_cons_succ]
          have C2_4 := Lib.hid (bel_step B2.out B3.out)
          have C2_5 := Lib.hid (bel_step C2_4.out B4.out)
          have C3_5 := Lib.hid (bel_step B3.out B4.out)
          refine wpList_call (by kernel_rfl) 26 Tryd.func26 (by kernel_rfl) (by kernel_rfl) _ _ #[.slice (some ⟨g85, 0, none⟩) 1 1, .slice (some ⟨g87, 0, none⟩) 1 1] rfl (by kernel_rfl) ?_
          refine (sameCols_yes (some ⟨g85, 0, none⟩) 1 1 [(Hd.mk (some ⟨gT1, 0, none⟩) TM TM)] (some ⟨g87, 0, none⟩) 1 [(Hd.mk (some ⟨gT2, 0, none⟩) TM TM)] [TL] V5 (Cols.of (RowG.sg (n := 1) (c := 1) (Fv6_85.out.keep B4.out) (show ([(Hd.mk (some ⟨gT1, 0, none⟩) TM TM)]).length = 1 from rfl) (Nat.le_refl _) (by omega)) ⟨RowG.sg (n := TM) (c := TM) (HT1.out.keep C2_5.out) HTL.out (Nat.le_refl _) (by omega), trivial⟩) (Cols.of (RowG.sg (n := 1) (c := 1) Fv10_87.out (show ([(Hd.mk (some ⟨gT2, 0, none⟩) TM TM)]).length = 1 from rfl) (Nat.le_refl _) (by omega)) ⟨RowG.sg (n := TM) (c := TM) (HT2.out.keep C3_5.out) HTL.out (Nat.le_refl _) (by omega), trivial⟩)).mono ?_
          rintro e V6 ⟨rfl, hb⟩
          have B5 := Lib.hid hb
          clear hb 
          refine ⟨_, rfl, ?_⟩
          simp only [Act.put, List.setIfInBounds_toArray, List.set_cons_zero, List.set_cons_succ]
          refine wpList_run (by kernel_rfl) (.bool true) V6 rfl ?_
          simp only [Act.put, List.setIfInBounds_toArray, List.set_cons_zero, List.set_cons_succ]
          refine wpList_run (by kernel_rfl) (.bool true) V6 rfl ?_
          simp only [Act.put, List.setIfInBounds_toArray, List.set_cons_zero, List.set_cons_succ]
          refine wpList_run (by kernel_rfl) (.int .i64 0) V6 rfl ?_
          simp only [Act.put, List.setIfInBounds_toArray, List.set_cons_zero, List.set_cons_succ]
          refine wpList_run (by kernel_rfl) (.int .i64 0) V6 rfl ?_
          simp only [Act.put, List.setIfInBounds_toArray, List.set_cons_zero, List.set_cons_succ]
          refine wpList_run (by kernel_rfl) (.bool true) V6 (xo_eqlT .i64 0 0 (by omega) rfl rfl rfl) ?_
          simp only [Act.put, List.setIfInBounds_toArray, List.set_cons_zero, List.set_cons_succ]
          refine wpList_run (by kernel_rfl) (.bool true) V6 rfl ?_
          simp only [Act.put, List.setIfInBounds_toArray, List.set_cons_zero, List.set_cons_succ]
          refine wpList_run (by kernel_rfl) (.bool true) V6 rfl ?_
          simp only [Act.put, List.setIfInBounds_toArray, List.set_cons_zero, List.set_cons_succ]
          refine wpList_nil ?_
          go_wp2_with fail
          go_ret
          have C0_2 := Lib.hid (bel_step B0.out B1.out)
          have C0_3 := Lib.hid (bel_step C0_2.out B2.out)
          have C0_4 := Lib.hid (bel_step C0_3.out B3.out)
          have C0_5 := Lib.hid (bel_step C0_4.out B4.out)
          have C0_6 := Lib.hid (bel_step C0_5.out B5.out)
          exact ⟨rfl, C0_6.out⟩
    · have hci3 : ¬ ((i : Int) < (n : Int)) := by omega
      go_upto_region 4 with fail
      refine wp_region_lit ?_
      refine wpList_run (by kernel_rfl) (.int .i64 (i : Int)) wo rfl ?_
      simp only [Act.put, List.setIfInBounds_toArray, List.set_cons_zero, List.set_cons_succ]
      refine wpList_run (by kernel_rfl) (.slice A n c) wo rfl ?_
      simp only [Act.put, List.setIfInBounds_toArray, List.set_cons_zero, List.set_cons_succ]
      refine wpList_run (by kernel_rfl) (.int .i64 (n : Int)) wo (xo_len A n c Tryd.underlying38 rfl rfl) ?_
      simp only [Act.put, List.setIfInBounds_toArray, List.set_cons_zero, List.set_cons_succ]
      refine wpList_run (by kernel_rfl) (.bool false) wo (xo_lssF .i64 (i : Int) (n : Int) (by omega) rfl rfl rfl) ?_
      simp only [Act.put, List.setIfInBounds_toArray, List.set_cons_zero, List.set_cons_succ]
      refine wpList_run (by kernel_rfl) (.bool false) wo rfl ?_
      simp only [Act.put, List.setIfInBounds_toArray, List.set_cons_zero, List.set_cons_succ]
      refine wpList_skip (by kernel_rfl) ?_
      try simp only [Act.put, List.setIfInBounds_toArray, List.set_cons_zero, List.set_cons_succ]
      refine wpList_skip (by kernel_rfl) ?_
      try simp only [Act.put, List.setIfInBounds_toArray, List.set_cons_zero, List.set_cons_succ]
      refine wpList_run (by kernel_rfl) (.bool false) wo rfl ?_
      simp only [Act.put, List.setIfInBounds_toArray, List.set_cons_zero, List.set_cons_succ]
      refine wpList_nil ?_
      have hko := OW.out
      obtain ⟨Al, cl, rfl, hsl⟩ := Sg.own hko
      have hkb := HB.out
      have hcl := AllK.cols hsl hkb B0.out
      have HCL := Lib.hid hcl
      have hsm : ∀ ys ∈ xq, ys.length < 4611686018427387904 := fun ys hy => by have := HX8.out ys hy; omega
      have HSM := Lib.hid hsm
      clear hko hsl hkb hcl hsm
      cases hj : jB xq with
      | false =>
        have HJ := Lib.hid hj
        clear hj
        go_upto_region 16 with fail
        refine wp_region_lit ?_
        refine wpList_run (by kernel_rfl) (.slice Al q cl) wo rfl ?_
        simp only [Act.put, List.setIfInBounds_toArray, List.set_cons_zero, List.set_cons_succ]
        refine wpList_call (by kernel_rfl) 29 Tryd.func29 (by kernel_rfl) (by kernel_rfl) _ _ #[.slice Al q cl] rfl (by kernel_rfl) ?_
        refine (table_no Al q cl hq xq HSM.out HJ.out wo HCL.out).mono ?_
        rintro e V2 ⟨rfl, hb⟩
        have B1 := Lib.hid hb
        clear hb 
        refine ⟨_, rfl, ?_⟩
        simp only [Act.put, List.setIfInBounds_toArray, List.set_cons_zero, List.set_cons_succ]
        refine wpList_run (by kernel_rfl) (.tuple #[.slice none 0 0, .int .i64 1]) V2 rfl ?_
        simp only [Act.put, List.setIfInBounds_toArray, List.set_cons_zero, List.set_cons_succ]
        refine wpList_run (by kernel_rfl) (.slice none 0 0) V2 rfl ?_
        simp only [Act.put, List.setIfInBounds_toArray, List.set_cons_zero, List.set_cons_succ]
        refine wpList_run (by kernel_rfl) (.int .i64 1) V2 rfl ?_
        simp only [Act.put, List.setIfInBounds_toArray, List.set_cons_zero, List.set_cons_succ]
        refine wpList_run (by kernel_rfl) (.slice none 0 0) V2 rfl ?_
        simp only [Act.put, List.setIfInBounds_toArray, List.set_cons_zero, List.set_cons_succ]
        refine wpList_run (by kernel_rfl) (.int .i64 1) V2 rfl ?_
        simp only [Act.put, List.setIfInBounds_toArray, List.set_cons_zero, List.set_cons_succ]
        refine wpList_nil ?_
        go_upto_region 17 with fail
        refine wp_region_lit ?_
        refine wpList_run (by kernel_rfl) (.slice Al q cl) V2 rfl ?_
        simp only [Act.put, List.setIfInBounds_toArray, List.set_cons_zero, List.set_cons_succ]
        refine wpList_call (by kernel_rfl) 30 Tryd.func30 (by kernel_rfl) (by kernel_rfl) _ _ #[.slice Al q cl] rfl (by kernel_rfl) ?_
        refine (rtable_no Al q cl hq xq HSM.out HJ.out V2 (HCL.out.keep B1.out)).mono ?_
        rintro e V3 ⟨rfl, hb⟩
        have B2 := Lib.hid hb
        clear hb 
        refine ⟨_, rfl, ?_⟩
        simp only [Act.put, List.setIfInBounds_toArray, List.set_cons_zero, List.set_cons_succ]
        refine wpList_run (by kernel_rfl) (.tuple #[.slice none 0 0, .int .i64 1]) V3 rfl ?_
        simp only [Act.put, List.setIfInBounds_toArray, List.set_cons_zero, List.set_cons_succ]
        refine wpList_run (by kernel_rfl) (.slice none 0 0) V3 rfl ?_
        simp only [Act.put, List.setIfInBounds_toArray, List.set_cons_zero, List.set_cons_succ]
        refine wpList_run (by kernel_rfl) (.int .i64 1) V3 rfl ?_
        simp only [Act.put, List.setIfInBounds_toArray, List.set_cons_zero, List.set_cons_succ]
        refine wpList_run (by kernel_rfl) (.slice none 0 0) V3 rfl ?_
        simp only [Act.put, List.setIfInBounds_toArray, List.set_cons_zero, List.set_cons_succ]
        refine wpList_run (by kernel_rfl) (.int .i64 1) V3 rfl ?_
        simp only [Act.put, List.setIfInBounds_toArray, List.set_cons_zero, List.set_cons_succ]
        refine wpList_nil ?_
        go_upto_region 18 with fail
        refine wp_region_lit ?_
        refine wpList_run (by kernel_rfl) (.bool true) V3 rfl ?_
        simp only [Act.put, List.setIfInBounds_toArray, List.set_cons_zero, List.set_cons_succ]
        refine wpList_run (by kernel_rfl) (.bool true) V3 rfl ?_
        simp only [Act.put, List.setIfInBounds_toArray, List.set_cons_zero, List.set_cons_succ]
        refine wpList_run (by kernel_rfl) (.slice none 0 0) V3 rfl ?_
        simp only [Act.put, List.setIfInBounds_toArray, List.set_cons_zero, List.set_cons_succ]
        refine wpList_mk (by kernel_rfl) ([(Hd.mk none 0 0)].flatMap hdC).toArray 48 1 1 (xg_lit (E := hdC) (bytes := 24) (.slice none 0 0) [.tmp 84] [(Hd.mk none 0 0)] 1 Tryd.underlying38 (by kernel_rfl) rfl (by decide) (by decide) rfl rfl) ?_
        intro g85 V4 hge h0 hb
        have Ge4 : Hid (V3.heap.size ≤ g85) := Lib.hid hge
        have B3 := Lib.hid hb
        have Fv5_85 : Hid (RowG hdC V4 g85 48 ([(Hd.mk none 0 0)])) := Lib.hid (h0)
        have Lt6 : Hid (g85 < V4.heap.size) := Lib.hid (xp_lt Fv5_85.out)
        clear hge h0 hb
        simp only [ptr, Act.put, List.setIfInBounds_toArray, List.set_cons_zero, List.set_cons_succ]
        refine wpList_run (by kernel_rfl) (.slice none 0 0) V4 rfl ?_
        simp only [Act.put, List.setIfInBounds_toArray, List.set_cons_zero, List.set_cons_succ]
        refine wpList_mk (by kernel_rfl) ([(Hd.mk none 0 0)].flatMap hdC).toArray 48 1 1 (xg_lit (E := hdC) (bytes := 24) (.slice none 0 0) [.tmp 86] [(Hd.mk none 0 0)] 1 Tryd.underlying38 (by kernel_rfl) rfl (by decide) (by decide) rfl rfl) ?_
        intro g87 V5 hge h0 hb
        have N7_0 : Hid (g85 ≠ g87) := Lib.hid (xp_lt0 Fv5_85.out hge)
        have Ge8 : Hid (V4.heap.size ≤ g87) := Lib.hid hge
        have B4 := Lib.hid hb
        have Fv9_87 : Hid (RowG hdC V5 g87 48 ([(Hd.mk none 0 0)])) := Lib.hid (h0)
        have Lt10 : Hid (g87 < V5.heap.size) := Lib.hid (xp_lt Fv9_87.out)
        clear hge h0 hb
        simp only [ptr, Act.put, List.setIfInBounds_toArray, List.set_cons_zero, List.set_cons_succ]
        refine wpList_call (by kernel_rfl) 26 Tryd.func26 (by kernel_rfl) (by kernel_rfl) _ _ #[.slice (some ⟨g85, 0, none⟩) 1 1, .slice (some ⟨g87, 0, none⟩) 1 1] rfl (by kernel_rfl) ?_
        refine (sameCols_yes (some ⟨g85, 0, none⟩) 1 1 [(Hd.mk none 0 0)] (some ⟨g87, 0, none⟩) 1 [(Hd.mk none 0 0)] [[]] V5 (Cols.of (RowG.sg (n := 1) (c := 1) (Fv5_85.out.keep B4.out) (show ([(Hd.mk none 0 0)]).length = 1 from rfl) (Nat.le_refl _) (by omega)) ⟨Sg.nil_ _, trivial⟩) (Cols.of (RowG.sg (n := 1) (c := 1) Fv9_87.out (show ([(Hd.mk none 0 0)]).length = 1 from rfl) (Nat.le_refl _) (by omega)) ⟨Sg.nil_ _, trivial⟩)).mono ?_
        rintro e V6 ⟨rfl, hb⟩
        have B5 := Lib.hid hb
        clear hb 
        refine ⟨_, rfl, ?_⟩
        simp only [Act.put, List.setIfInBounds_toArray, List.set_cons_zero, List.set_cons_succ]
        refine wpList_run (by kernel_rfl) (.bool true) V6 rfl ?_
        simp only [Act.put, List.setIfInBounds_toArray, List.set_cons_zero, List.set_cons_succ]
        refine wpList_run (by kernel_rfl) (.bool true) V6 rfl ?_
        simp only [Act.put, List.setIfInBounds_toArray, List.set_cons_zero, List.set_cons_succ]
        refine wpList_run (by kernel_rfl) (.int .i64 1) V6 rfl ?_
        simp only [Act.put, List.setIfInBounds_toArray, List.set_cons_zero, List.set_cons_succ]
        refine wpList_run (by kernel_rfl) (.int .i64 1) V6 rfl ?_
        simp only [Act.put, List.setIfInBounds_toArray, List.set_cons_zero, List.set_cons_succ]
        refine wpList_run (by kernel_rfl) (.bool true) V6 (xo_eqlT .i64 1 1 (by omega) rfl rfl rfl) ?_
        simp only [Act.put, List.setIfInBounds_toArray, List.set_cons_zero, List.set_cons_succ]
        refine wpList_run (by kernel_rfl) (.bool true) V6 rfl ?_
        simp only [Act.put, List.setIfInBounds_toArray, List.set_cons_zero, List.set_cons_succ]
        refine wpList_run (by kernel_rfl) (.bool true) V6 rfl ?_
        simp only [Act.put, List.setIfInBounds_toArray, List.set_cons_zero, List.set_cons_succ]
        refine wpList_nil ?_
        go_wp2_with fail
        go_ret
        have C0_2 := Lib.hid (bel_step B0.out B1.out)
        have C0_3 := Lib.hid (bel_step C0_2.out B2.out)
        have C0_4 := Lib.hid (bel_step C0_3.out B3.out)
        have C0_5 := Lib.hid (bel_step C0_4.out B4.out)
        have C0_6 := Lib.hid (bel_step C0_5.out B5.out)
        exact ⟨rfl, C0_6.out⟩
      | true =>
        have HJ := Lib.hid hj
        clear hj
        obtain ⟨TL, TM, hTL, hTM, hTle⟩ := tab_letters xq q HJ.out
        have HTL := Lib.hid hTL
        have HTM := Lib.hid hTM
        clear hTL hTM
        go_upto_region 16 with fail
        refine wp_region_lit ?_
        refine wpList_run (by kernel_rfl) (.slice Al q cl) wo rfl ?_
        simp only [Act.put, List.setIfInBounds_toArray, List.set_cons_zero, List.set_cons_succ]
        refine wpList_call (by kernel_rfl) 29 Tryd.func29 (by kernel_rfl) (by kernel_rfl) _ _ #[.slice Al q cl] rfl (by kernel_rfl) ?_
        refine (table_as Al q cl hq xq HSM.out HJ.out TL TM HTM.out wo HCL.out).mono ?_
        rintro e V2 ⟨gT1, rfl, hr, hb⟩
        have B1 := Lib.hid hb
        have HT1 := Lib.hid hr
        clear hb hr
        refine ⟨_, rfl, ?_⟩
        simp only [Act.put, List.setIfInBounds_toArray, List.set_cons_zero, List.set_cons_succ]
        refine wpList_run (by kernel_rfl) (.tuple #[.slice (some ⟨gT1, 0, none⟩) TM TM, .int .i64 0]) V2 rfl ?_
        simp only [Act.put, List.setIfInBounds_toArray, List.set_cons_zero, List.set_cons_succ]
        refine wpList_run (by kernel_rfl) (.slice (some ⟨gT1, 0, none⟩) TM TM) V2 rfl ?_
        simp only [Act.put, List.setIfInBounds_toArray, List.set_cons_zero, List.set_cons_succ]
        refine wpList_run (by kernel_rfl) (.int .i64 0) V2 rfl ?_
        simp only [Act.put, List.setIfInBounds_toArray, List.set_cons_zero, List.set_cons_succ]
        refine wpList_run (by kernel_rfl) (.slice (some ⟨gT1, 0, none⟩) TM TM) V2 rfl ?_
        simp only [Act.put, List.setIfInBounds_toArray, List.set_cons_zero, List.set_cons_succ]
        refine wpList_run (by kernel_rfl) (.int .i64 0) V2 rfl ?_
        simp only [Act.put, List.setIfInBounds_toArray, List.set_cons_zero, List.set_cons_succ]
        refine wpList_nil ?_
        go_upto_region 17 with fail
        refine wp_region_lit ?_
        refine wpList_run (by kernel_rfl) (.slice Al q cl) V2 rfl ?_
        simp only [Act.put, List.setIfInBounds_toArray, List.set_cons_zero, List.set_cons_succ]
        refine wpList_call (by kernel_rfl) 30 Tryd.func30 (by kernel_rfl) (by kernel_rfl) _ _ #[.slice Al q cl] rfl (by kernel_rfl) ?_
        refine (rtable_as Al q cl hq xq HSM.out HJ.out TL TM HTM.out V2 (HCL.out.keep B1.out)).mono ?_
        rintro e V3 ⟨gT2, rfl, hr, hb⟩
        have B2 := Lib.hid hb
        have HT2 := Lib.hid hr
        clear hb hr
        refine ⟨_, rfl, ?_⟩
        simp only [Act.put, List.setIfInBounds_toArray, List.set_cons_zero, List.set_cons_succ]
        refine wpList_run (by kernel_rfl) (.tuple #[.slice (some ⟨gT2, 0, none⟩) TM TM, .int .i64 0]) V3 rfl ?_
        simp only [Act.put, List.setIfInBounds_toArray, List.set_cons_zero, List.set_cons_succ]
        refine wpList_run (by kernel_rfl) (.slice (some ⟨gT2, 0, none⟩) TM TM) V3 rfl ?_
        simp only [Act.put, List.setIfInBounds_toArray, List.set_cons_zero, List.set_cons_succ]
        refine wpList_run (by kernel_rfl) (.int .i64 0) V3 rfl ?_
        simp only [Act.put, List.setIfInBounds_toArray, List.set_cons_zero, List.set_cons_succ]
        refine wpList_run (by kernel_rfl) (.slice (some ⟨gT2, 0, none⟩) TM TM) V3 rfl ?_
        simp only [Act.put, List.setIfInBounds_toArray, List.set_cons_zero, List.set_cons_succ]
        refine wpList_run (by kernel_rfl) (.int .i64 0) V3 rfl ?_
        simp only [Act.put, List.setIfInBounds_toArray, List.set_cons_zero, List.set_cons_succ]
        refine wpList_nil ?_
        go_upto_region 18 with fail
        refine wp_region_lit ?_
        refine wpList_run (by kernel_rfl) (.bool true) V3 rfl ?_
        simp only [Act.put, List.setIfInBounds_toArray, List.set_cons_zero, List.set_cons_succ]
        refine wpList_run (by kernel_rfl) (.bool true) V3 rfl ?_
        simp only [Act.put, List.setIfInBounds_toArray, List.set_cons_zero, List.set_cons_succ]
        refine wpList_run (by kernel_rfl) (.slice (some ⟨gT1, 0, none⟩) TM TM) V3 rfl ?_
        simp only [Act.put, List.setIfInBounds_toArray, List.set_cons_zero, List.set_cons_succ]
        refine wpList_mk (by kernel_rfl) ([(Hd.mk (some ⟨gT1, 0, none⟩) TM TM)].flatMap hdC).toArray 48 1 1 (xg_lit (E := hdC) (bytes := 24) (.slice none 0 0) [.tmp 84] [(Hd.mk (some ⟨gT1, 0, none⟩) TM TM)] 1 Tryd.underlying38 (by kernel_rfl) rfl (by decide) (by decide) rfl rfl) ?_
        intro g85 V4 hge h0 hb
        have Ge4 : Hid (V3.heap.size ≤ g85) := Lib.hid hge
        have B3 := Lib.hid hb
        have Fv5_85 : Hid (RowG hdC V4 g85 48 ([(Hd.mk (some ⟨gT1, 0, none⟩) TM TM)])) := Lib.hid (h0)
        have Lt6 : Hid (g85 < V4.heap.size) := Lib.hid (xp_lt Fv5_85.out)
        clear hge h0 hb
        simp only [ptr, Act.put, List.setIfInBounds_toArray, List.set_cons_zero, List.set_cons_succ]
        refine wpList_run (by kernel_rfl) (.slice (some ⟨gT2, 0, none⟩) TM TM) V4 rfl ?_
        simp only [Act.put, List.setIfInBounds_toArray, List.set_cons_zero, List.set_cons_succ]
        refine wpList_mk (by kernel_rfl) ([(Hd.mk (some ⟨gT2, 0, none⟩) TM TM)].flatMap hdC).toArray 48 1 1 (xg_lit (E := hdC) (bytes := 24) (.slice none 0 0) [.tmp 86] [(Hd.mk (some ⟨gT2, 0, none⟩) TM TM)] 1 Tryd.underlying38 (by kernel_rfl) rfl (by decide) (by decide) rfl rfl) ?_
        intro g87 V5 hge h0 hb
        have N7_0 : Hid (g85 ≠ g87) := Lib.hid (xp_lt0 Fv5_85.out hge)
        have Ge8 : Hid (V4.heap.size ≤ g87) := Lib.hid hge
        have B4 := Lib.hid hb
        have Fv9_87 : Hid (RowG hdC V5 g87 48 ([(Hd.mk (some ⟨gT2, 0, none⟩) TM TM)])) := Lib.hid (h0)
        have Lt10 : Hid (g87 < V5.heap.size) := Lib.hid (xp_lt Fv9_87.out)
        clear hge h0 hb
        simp only [ptr, Act.put, List.setIfInBounds_toArray, List.set_cons_zero, List.set_cons_succ]
        have C2_4 := Lib.hid (bel_step B2.out B3.out)
        have C2_5 := Lib.hid (bel_step C2_4.out B4.out)
        have C3_5 := Lib.hid (bel_step B3.out B4.out)
        refine wpList_call (by kernel_rfl) 26 Tryd.func26 (by kernel_rfl) (by kernel_rfl) _ _ #[.slice (some ⟨g85, 0, none⟩) 1 1, .slice (some ⟨g87, 0, none⟩) 1 1] rfl (by kernel_rfl) ?_
        refine (sameCols_yes (some ⟨g85, 0, none⟩) 1 1 [(Hd.mk (some ⟨gT1, 0, none⟩) TM TM)] (some ⟨g87, 0, none⟩) 1 [(Hd.mk (some ⟨gT2, 0, none⟩) TM TM)] [TL] V5 (Cols.of (RowG.sg (n := 1) (c := 1) (Fv5_85.out.keep B4.out) (show ([(Hd.mk (some ⟨gT1, 0, none⟩) TM TM)]).length = 1 from rfl) (Nat.le_refl _) (by omega)) ⟨RowG.sg (n := TM) (c := TM) (HT1.out.keep C2_5.out) HTL.out (Nat.le_refl _) (by omega), trivial⟩) (Cols.of (RowG.sg (n := 1) (c := 1) Fv9_87.out (show ([(Hd.mk (some ⟨gT2, 0, none⟩) TM TM)]).length = 1 from rfl) (Nat.le_refl _) (by omega)) ⟨RowG.sg (n := TM) (c := TM) (HT2.out.keep C3_5.out) HTL.out (Nat.le_refl _) (by omega), trivial⟩)).mono ?_
        rintro e V6 ⟨rfl, hb⟩
        have B5 := Lib.hid hb
        clear hb 
        refine ⟨_, rfl, ?_⟩
        simp only [Act.put, List.setIfInBounds_toArray, List.set_cons_zero, List.set_cons_succ]
        refine wpList_run (by kernel_rfl) (.bool true) V6 rfl ?_
        simp only [Act.put, List.setIfInBounds_toArray, List.set_cons_zero, List.set_cons_succ]
        refine wpList_run (by kernel_rfl) (.bool true) V6 rfl ?_
        simp only [Act.put, List.setIfInBounds_toArray, List.set_cons_zero, List.set_cons_succ]
        refine wpList_run (by kernel_rfl) (.int .i64 0) V6 rfl ?_
        simp only [Act.put, List.setIfInBounds_toArray, List.set_cons_zero, List.set_cons_succ]
        refine wpList_run (by kernel_rfl) (.int .i64 0) V6 rfl ?_
        simp only [Act.put, List.setIfInBounds_toArray, List.set_cons_zero, List.set_cons_succ]
        refine wpList_run (by kernel_rfl) (.bool true) V6 (xo_eqlT .i64 0 0 (by omega) rfl rfl rfl) ?_
        simp only [Act.put, List.setIfInBounds_toArray, List.set_cons_zero, List.set_cons_succ]
        refine wpList_run (by kernel_rfl) (.bool true) V6 rfl ?_
        simp only [Act.put, List.setIfInBounds_toArray, List.set_cons_zero, List.set_cons_succ]
        refine wpList_run (by kernel_rfl) (.bool true) V6 rfl ?_
        simp only [Act.put, List.setIfInBounds_toArray, List.set_cons_zero, List.set_cons_succ]
        refine wpList_nil ?_
        go_wp2_with fail
        go_ret
        have C0_2 := Lib.hid (bel_step B0.out B1.out)
        have C0_3 := Lib.hid (bel_step C0_2.out B2.out)
        have C0_4 := Lib.hid (bel_step C0_3.out B3.out)
        have C0_5 := Lib.hid (bel_step C0_4.out B4.out)
        have C0_6 := Lib.hid (bel_step C0_5.out B5.out)
        exact ⟨rfl, C0_6.out⟩
end Go.Proofs.YtopicjdmajlndaaDoor
