/- A law of stage 9: ReedsolomonMatchesReference. -/
import Derived.Test.YtkefijogpiofbaaH19
namespace Go.Proofs.Ytkefijogpiofbaa
set_option linter.unusedVariables false
set_option linter.unusedSimpArgs false
set_option linter.unusedSectionVars false
set_option maxRecDepth 8000
open Go.RowKit Go.Proofs.Ytkefijogpiofbaa.K
attribute [local irreducible] wpList wpQuiet
theorem exec_eqBs {P : Program} {ev : Operand → Value} {o : Oper} {w : World} {x y : Operand} {ty t : TypeId} (b : Bool) (hu : P.underlying ty = some .bool) (ho : o.op = .binOp .eql ty x y t) (hx : ev x = .bool b) (hy : ev y = .bool b) : (execOp ev o).run P w = .ok (.value (.bool true)) w := by
  have h := exec_eqBb (w := w) b b hu ho hx hy
  rw [beq_self_eq_true] at h
  exact h
theorem enc_both {n : Nat} (hn : n ≤ 65536) (xs : List Gold.F) (z : Int) : ∃ (N er : Nat) (us : List Gold.F), N ≤ 65536 ∧
    (∀ A c w, Sg feC 1 w A n c xs → Calls Try.prog 9 #[.slice A n c, .int .i64 z] w fun e w' => ∃ A' c', e = .returned (.tuple #[.slice A' N c', .int .i64 (er : Int)]) ∧ Sg feC 1 w' A' N c' us ∧ Below w.heap.size w w') ∧
    (∀ A c w, Sg feC 1 w A n c xs → Calls Try.prog 10 #[.slice A n c, .int .i64 z] w fun e w' => ∃ A' c', e = .returned (.tuple #[.slice A' N c', .int .i64 (er : Int)]) ∧ Sg feC 1 w' A' N c' us ∧ Below w.heap.size w w') := by
  cases hr : rB n z with
  | false =>
    refine ⟨0, 1, [], by omega, fun A c w h => (encode_no A n c xs z hr (by omega) w h).mono ?_, fun A c w h => (rencode_no A n c xs z hr (by omega) w h).mono ?_⟩
    all_goals
      rintro e w' ⟨rfl, hb⟩
      exact ⟨none, 0, rfl, Sg.nil_ _, hb⟩
  | true =>
    obtain ⟨K, L, hnK, rfl, h1, h4, h5⟩ := rB_yes hr
    refine ⟨2 ^ (K + L), 0, Gold.cwF xs (K + L), Gold.pow2_le h5, fun A c w h => (encodeN A n c xs (2 ^ L) K L (2 ^ (K + L)) (K + L) hnK rfl h1 h4 rfl h5 rfl w h).mono ?_, fun A c w h => rencodeN A n c xs (2 ^ L) K L (2 ^ (K + L)) (K + L) hnK rfl h1 h4 rfl h5 rfl w h⟩
    rintro e w' ⟨g, rfl, hs, hb⟩
    exact ⟨_, _, rfl, hs, hb⟩
theorem encX_both {n : Nat} (hn : n ≤ 65536) (xs : List Gold.E2) (z : Int) : ∃ (N er : Nat) (us : List Gold.E2),
    (∀ A c w, Sg exC 2 w A n c xs → Calls Try.prog 11 #[.slice A n c, .int .i64 z] w fun e w' => ∃ A' c', e = .returned (.tuple #[.slice A' N c', .int .i64 (er : Int)]) ∧ Sg exC 2 w' A' N c' us ∧ Below w.heap.size w w') ∧
    (∀ A c w, Sg exC 2 w A n c xs → Calls Try.prog 12 #[.slice A n c, .int .i64 z] w fun e w' => ∃ A' c', e = .returned (.tuple #[.slice A' N c', .int .i64 (er : Int)]) ∧ Sg exC 2 w' A' N c' us ∧ Below w.heap.size w w') := by
  cases hr : rB n z with
  | false =>
    refine ⟨0, 1, [], fun A c w h => (encodeExt_no A n c xs z hr (by omega) w h).mono ?_, fun A c w h => (rencodeExt_no A n c xs z hr (by omega) w h).mono ?_⟩
    all_goals
      rintro e w' ⟨rfl, hb⟩
      exact ⟨none, 0, rfl, Sg.nil_ _, hb⟩
  | true =>
    obtain ⟨K, L, hnK, rfl, h1, h4, h5⟩ := rB_yes hr
    refine ⟨2 ^ (K + L), 0, Gold.cwX xs (K + L), fun A c w h => (encodeExtN A n c xs (2 ^ L) K L (2 ^ (K + L)) (K + L) hnK rfl h1 h4 rfl h5 rfl w h).mono ?_, fun A c w h => rencodeExtN A n c xs (2 ^ L) K L (2 ^ (K + L)) (K + L) hnK rfl h1 h4 rfl h5 rfl hn w h⟩
    rintro e w' ⟨g, rfl, hs, hb⟩
    exact ⟨_, _, rfl, hs, hb⟩
theorem at_both {n : Nat} (hn : n ≤ 65536) (xs : List Gold.E2) (z i : Int) : ∃ (v : Gold.E2) (er : Nat),
    (∀ A c w, Sg exC 2 w A n c xs → Calls Try.prog 13 #[.slice A n c, .int .i64 z, .int .i64 i] w fun e w' => e = .returned (.tuple #[.agg #[.int .u64 (Gold.vF v.A), .int .u64 (Gold.vF v.B)], .int .i64 (er : Int)]) ∧ Below w.heap.size w w') ∧
    (∀ A c w, Sg exC 2 w A n c xs → Calls Try.prog 14 #[.slice A n c, .int .i64 z, .int .i64 i] w fun e w' => e = .returned (.tuple #[.agg #[.int .u64 (Gold.vF v.A), .int .u64 (Gold.vF v.B)], .int .i64 (er : Int)]) ∧ Below w.heap.size w w') := by
  cases hr : rB n z with
  | false => exact ⟨Gold.E2.zero, 1, fun A c w h => at_no1 A n c xs z i hr (by omega) w (slOf h), fun A c w h => rat_no1 A n c xs z i hr (by omega) w h⟩
  | true =>
    obtain ⟨K, L, hnK, rfl, h1, h4, h5⟩ := rB_yes hr
    by_cases hi : i < 0 ∨ ((2 ^ (K + L) : Nat) : Int) ≤ i
    · exact ⟨Gold.E2.zero, 1, fun A c w h => at_no2 A n c xs (2 ^ L) K L hnK rfl h1 h4 h5 i hi w (slOf h), fun A c w h => rat_no2 A n c xs (2 ^ L) K L (2 ^ (K + L)) (K + L) hnK rfl h1 h4 rfl h5 rfl i hi w h⟩
    · obtain ⟨k, rfl⟩ : ∃ k : Nat, i = (k : Int) := ⟨i.toNat, by omega⟩
      exact ⟨Gold.evE xs (Gold.E2.ofF (Gold.ptF (K + L) k)), 0, fun A c w h => at_yes A n c xs (2 ^ L) K L hnK rfl h1 h4 h5 k (by omega) w (slOf h), fun A c w h => rat_yes A n c xs (2 ^ L) K L (2 ^ (K + L)) (K + L) hnK rfl h1 h4 rfl h5 rfl k (by omega) w h⟩
theorem is_both {n : Nat} (hn : n ≤ 32) (xs : List Gold.F) (z : Int) : ∃ (b : Bool) (er : Nat),
    (∀ A c w, Sg feC 1 w A n c xs → Calls Try.prog 15 #[.slice A n c, .int .i64 z] w fun e w' => e = .returned (.tuple #[.bool b, .int .i64 (er : Int)]) ∧ Below w.heap.size w w') ∧
    (∀ A c w, Sg feC 1 w A n c xs → Calls Try.prog 16 #[.slice A n c, .int .i64 z] w fun e w' => e = .returned (.tuple #[.bool b, .int .i64 (er : Int)]) ∧ Below w.heap.size w w') := by
  cases hr : wB n z with
  | false => exact ⟨false, 1, fun A c w h => is_no A n c xs z hr (by omega) w h, fun A c w h => ris_no A n c xs z hr (by omega) w h⟩
  | true =>
    obtain ⟨K, L, hnK, rfl, h1, h4, h5⟩ := wB_yes hr
    have h6 : K + L ≤ 5 := pow_exp_le (b := 5) (by rw [← hnK]; exact hn)
    have hq : n / 2 ^ L = 2 ^ K := by rw [hnK, Nat.pow_add, Nat.mul_div_cancel _ (Nat.two_pow_pos L)]
    refine ⟨decide ((Gold.inF xs (K + L)).length ≤ n / 2 ^ L), 0, fun A c w h => is_yes A n c xs (2 ^ L) (K + L) L hnK rfl h1 h4 (by omega) h5 w h, fun A c w h => ?_⟩
    rw [hq]
    exact ris_yes A n c xs (2 ^ L) K L (K + L) (2 ^ K) hnK rfl rfl h1 h4 rfl (by omega) w h
set_option maxRecDepth 100000 in
set_option maxHeartbeats 8000000 in
theorem elements_any (A : Option Addr) (n c : Nat) (zs : List Nat) (most : Nat) (hm : most ≤ 1024) (hb : ∀ z ∈ zs, z < 18446744073709551616) (w : World) (hX : Sg wdC 1 w A n c zs) :
    Calls Try.prog 8 #[.slice A n c, .int .i64 (most : Int)] w fun e w' => ∃ A' c', e = .returned (.slice A' (min n most) c') ∧ Sg feC 1 w' A' (min n most) c' (Gold.mdF zs (min n most)) ∧ Below w.heap.size w w' := by
  have HX := Lib.hid hX
  have hxl := hX.len
  have hcp := hX.cap
  have htp := hX.top
  have HB := Lib.hid hb
  clear hX hb
  obtain ⟨N, hN⟩ : ∃ N, min n most = N := ⟨_, rfl⟩
  have hNn : N ≤ n ∧ N ≤ most := by omega
  have hN3 : N = n ∨ N = most := by omega
  rw [hN]
  clear hN
  go_enter Try.func8, Try.ntmps8
  go_upto_region 1 with fail
  refine wp_region_lit ?_
  refine wpList_mk (by kernel_rfl) #[] 29 0 0 (xo_empty (size := 1) Try.underlying22 (by kernel_rfl) rfl w) ?_
  intro g7 V1 hge h0 hb
  have hge2 := Nat.le_trans (Below.refl w.heap.size w).size hge
  have B0 := Lib.hid hb
  have Ow7 : Hid (V1.ownsRow w.heap.size 29 1 (.slice (some ⟨g7, 0, none⟩) 0 0) 0 (fl feC [])) := Lib.hid (own_new h0 hge2)
  clear hge hge2 h0 hb
  simp only [ptr, Act.put, List.setIfInBounds_toArray, List.set_cons_zero, List.set_cons_succ]
  refine wpList_run (by kernel_rfl) (.slice (some ⟨g7, 0, none⟩) 0 0) V1 rfl ?_
  simp only [Act.put, List.setIfInBounds_toArray, List.set_cons_zero, List.set_cons_succ]
  refine wpList_nil ?_
  go_upto_region 2 with fail
  refine wp_region_lit ?_
  refine wpList_run (by kernel_rfl) (.int .i64 0) V1 rfl ?_
  simp only [Act.put, List.setIfInBounds_toArray, List.set_cons_zero, List.set_cons_succ]
  refine wpList_nil ?_
  have O0 := Ow7.out
  have O1 := B0.out
  go_wp2_with fail
  go_loopw [5, 6] (fun v p wr => ∃ i : Nat, i ≤ N ∧ p = .int .i64 i ∧ wr.ownsRow w.heap.size 29 1 v i (fl feC (Gold.mdF zs i)) ∧ Below w.heap.size w wr) (fun _ p _ => N - (intOf p).toNat)
  case atStart => exact ⟨0, Nat.zero_le _, rfl, O0, O1⟩
  case round =>
    clear O1 O0
    obtain ⟨wo, rfl⟩ : ∃ wo : World, wo = wr := ⟨_, rfl⟩
    obtain ⟨i, hi, rfl, hOW, hb0⟩ := hrel
    have hbr := hb0
    clear B0
    have B0 := Lib.hid hbr
    clear hbr
    have OW := Lib.hid hOW
    clear hb0 hOW
    by_cases hi1 : i < N
    · have hci3 : ((i : Int) < (n : Int)) := by omega
      have hci4 : ((i : Int) < (most : Int)) := by omega
      go_upto_region 3 with fail
      refine wp_region_lit ?_
      refine wpList_run (by kernel_rfl) (.int .i64 (i : Int)) wo rfl ?_
      simp only [Act.put, List.setIfInBounds_toArray, List.set_cons_zero, List.set_cons_succ]
      refine wpList_run (by kernel_rfl) (.slice A n c) wo rfl ?_
      simp only [Act.put, List.setIfInBounds_toArray, List.set_cons_zero, List.set_cons_succ]
      refine wpList_run (by kernel_rfl) (.int .i64 (n : Int)) wo (xo_len A n c Try.underlying22 rfl rfl) ?_
      simp only [Act.put, List.setIfInBounds_toArray, List.set_cons_zero, List.set_cons_succ]
      refine wpList_run (by kernel_rfl) (.bool true) wo (xo_lssT .i64 (i : Int) (n : Int) (by omega) rfl rfl rfl) ?_
      simp only [Act.put, List.setIfInBounds_toArray, List.set_cons_zero, List.set_cons_succ]
      refine wpList_run (by kernel_rfl) (.bool true) wo rfl ?_
      simp only [Act.put, List.setIfInBounds_toArray, List.set_cons_zero, List.set_cons_succ]
      refine wpList_run (by kernel_rfl) (.int .i64 (i : Int)) wo rfl ?_
      simp only [Act.put, List.setIfInBounds_toArray, List.set_cons_zero, List.set_cons_succ]
      refine wpList_run (by kernel_rfl) (.int .i64 (most : Int)) wo rfl ?_
      simp only [Act.put, List.setIfInBounds_toArray, List.set_cons_zero, List.set_cons_succ]
      refine wpList_run (by kernel_rfl) (.bool true) wo (xo_lssT .i64 (i : Int) (most : Int) (by omega) rfl rfl rfl) ?_
      simp only [Act.put, List.setIfInBounds_toArray, List.set_cons_zero, List.set_cons_succ]
      refine wpList_run (by kernel_rfl) (.bool true) wo rfl ?_
      simp only [Act.put, List.setIfInBounds_toArray, List.set_cons_zero, List.set_cons_succ]
      refine wpList_nil ?_
      obtain ⟨z, hz⟩ : ∃ z, zs[i]? = some z := ⟨_, List.getElem?_eq_getElem (by omega)⟩
      have HZL := Lib.hid (HB.out z (List.mem_of_getElem? hz))
      have HZE := Lib.hid (show zs.getD i 0 = z by rw [List.getD_eq_getElem?_getD, hz]; rfl)
      have HZX := Lib.hid hz
      clear hz
      go_upto_region 5 with fail
      refine wp_region_lit ?_
      refine wpList_run (by kernel_rfl) (u5) wo rfl ?_
      simp only [Act.put, List.setIfInBounds_toArray, List.set_cons_zero, List.set_cons_succ]
      refine wpList_run (by kernel_rfl) (.slice A n c) wo rfl ?_
      simp only [Act.put, List.setIfInBounds_toArray, List.set_cons_zero, List.set_cons_succ]
      refine wpList_run (by kernel_rfl) (.int .i64 (i : Int)) wo rfl ?_
      simp only [Act.put, List.setIfInBounds_toArray, List.set_cons_zero, List.set_cons_succ]
      refine wpList_run (by kernel_rfl) (.pointer (some (gad A (i * 1)))) wo (xg_idx .i64 (HX.out.keep B0.out) HZX.out Try.underlying22 (by kernel_rfl) rfl rfl rfl) ?_
      simp only [Act.put, List.setIfInBounds_toArray, List.set_cons_zero, List.set_cons_succ]
      refine wpList_run (by kernel_rfl) (.int .u64 (z : Int)) wo (xg_load1 (E := wdC) (i := i) (j := 0) (HX.out.keep B0.out) HZX.out rfl rfl Try.underlying29 rfl rfl rfl) ?_
      simp only [Act.put, List.setIfInBounds_toArray, List.set_cons_zero, List.set_cons_succ]
      refine wpList_call (by kernel_rfl) 37 Try.func37 (by kernel_rfl) (by kernel_rfl) _ _ #[.int .u64 (z : Int)] rfl (by kernel_rfl) ?_
      refine (J.rreduceF (z : Int) wo ⟨by omega, by have := HZL.out; omega⟩).mono ?_
      rintro e W1 ⟨rfl, hw1⟩
      rw [hw1]
      clear hw1 W1
      refine ⟨_, rfl, ?_⟩
      simp only [Act.put, List.setIfInBounds_toArray, List.set_cons_zero, List.set_cons_succ]
      refine wpList_mk (by kernel_rfl) ([(Gold.toF (z : Int))].flatMap feC).toArray 29 1 1 (xg_lit (E := feC) (bytes := 8) (.int .u64 0) [.tmp 24] [(Gold.toF (z : Int))] 1 Try.underlying22 (by kernel_rfl) rfl (by decide) (by decide) rfl rfl) ?_
      intro g25 V2 hge h0 hb
      have Ge5 : Hid (wo.heap.size ≤ g25) := Lib.hid hge
      have B1 := Lib.hid hb
      have Fv6_25 : Hid (RowG feC V2 g25 29 ([(Gold.toF (z : Int))])) := Lib.hid (h0)
      have Lt7 : Hid (g25 < V2.heap.size) := Lib.hid (xp_lt Fv6_25.out)
      clear hge h0 hb
      simp only [ptr, Act.put, List.setIfInBounds_toArray, List.set_cons_zero, List.set_cons_succ]
      have C0_2 := Lib.hid (bel_step B0.out B1.out)
      refine wpList_app2 (size := 1) (by kernel_rfl) (.tmp 19) (.tmp 25) 22 rfl (.int .u64 0) 8 Try.underlying22 (by kernel_rfl) rfl (by decide) rfl (own_keep OW.out B1.out) (some ⟨g25, 0, none⟩) 1 1 (fl feC ([(Gold.toF (z : Int))])) rfl (RowG.sg (n := 1) (c := 1) Fv6_25.out (show ([(Gold.toF (z : Int))]).length = 1 from rfl) (Nat.le_refl _) (by omega)).src (by unfold maxLen; omega) (by omega) C0_2.out.size ?_
      intro v26 X2_8 ho hb1 hg hloc
      have hox : X2_8.ownsRow w.heap.size 29 1 v26 (i + 1) (fl feC ((Gold.mdF zs i) ++ ([(Gold.toF (z : Int))]))) := by rw [fl_append]; exact ho
      have hbr := C0_2.out.trans hb1
      clear B0
      have B0 := Lib.hid hbr
      clear hbr
      have Ow26_9 := Lib.hid hox
      clear ho hox hb1 hg hloc
      simp only [ptr, Act.put, List.setIfInBounds_toArray, List.set_cons_zero, List.set_cons_succ]
      refine wpList_run (by kernel_rfl) (v26) X2_8 rfl ?_
      simp only [Act.put, List.setIfInBounds_toArray, List.set_cons_zero, List.set_cons_succ]
      refine wpList_nil ?_
      have hko := Ow26_9.out
      rw [show Gold.mdF zs i ++ [Gold.toF (z : Int)] = Gold.mdF zs (i + 1) by rw [Gold.mdF_succ, HZE.out]] at hko
      go_upto_region 4 with fail
      refine wp_region_lit ?_
      refine wpList_run (by kernel_rfl) (.int .i64 (i : Int)) X2_8 rfl ?_
      simp only [Act.put, List.setIfInBounds_toArray, List.set_cons_zero, List.set_cons_succ]
      refine wpList_run (by kernel_rfl) (.int .i64 ((i + 1 : Nat) : Int)) X2_8 (xo_addI (i : Int) 1 ((i + 1 : Nat) : Int) (by omega) (by omega) (by omega) rfl rfl rfl) ?_
      simp only [Act.put, List.setIfInBounds_toArray, List.set_cons_zero, List.set_cons_succ]
      refine wpList_run (by kernel_rfl) (.int .i64 ((i + 1 : Nat) : Int)) X2_8 rfl ?_
      simp only [Act.put, List.setIfInBounds_toArray, List.set_cons_zero, List.set_cons_succ]
      refine wpList_nil ?_
      have hq10 := B0.out
      go_wp2_with fail
      go_roundw
      case rel => exact ⟨i + 1, by omega, by go_num, hko, hq10⟩
      case measure => simp [intOf]; omega
    · obtain rfl : N = i := by omega
      by_cases hnn : N < n
      · have hci3 : ((N : Int) < (n : Int)) := by omega
        have hci4 : ¬ ((N : Int) < (most : Int)) := by omega
        go_upto_region 3 with fail
        refine wp_region_lit ?_
        refine wpList_run (by kernel_rfl) (.int .i64 (N : Int)) wo rfl ?_
        simp only [Act.put, List.setIfInBounds_toArray, List.set_cons_zero, List.set_cons_succ]
        refine wpList_run (by kernel_rfl) (.slice A n c) wo rfl ?_
        simp only [Act.put, List.setIfInBounds_toArray, List.set_cons_zero, List.set_cons_succ]
        refine wpList_run (by kernel_rfl) (.int .i64 (n : Int)) wo (xo_len A n c Try.underlying22 rfl rfl) ?_
        simp only [Act.put, List.setIfInBounds_toArray, List.set_cons_zero, List.set_cons_succ]
        refine wpList_run (by kernel_rfl) (.bool true) wo (xo_lssT .i64 (N : Int) (n : Int) (by omega) rfl rfl rfl) ?_
        simp only [Act.put, List.setIfInBounds_toArray, List.set_cons_zero, List.set_cons_succ]
        refine wpList_run (by kernel_rfl) (.bool true) wo rfl ?_
        simp only [Act.put, List.setIfInBounds_toArray, List.set_cons_zero, List.set_cons_succ]
        refine wpList_run (by kernel_rfl) (.int .i64 (N : Int)) wo rfl ?_
        simp only [Act.put, List.setIfInBounds_toArray, List.set_cons_zero, List.set_cons_succ]
        refine wpList_run (by kernel_rfl) (.int .i64 (most : Int)) wo rfl ?_
        simp only [Act.put, List.setIfInBounds_toArray, List.set_cons_zero, List.set_cons_succ]
        refine wpList_run (by kernel_rfl) (.bool false) wo (xo_lssF .i64 (N : Int) (most : Int) (by omega) rfl rfl rfl) ?_
        simp only [Act.put, List.setIfInBounds_toArray, List.set_cons_zero, List.set_cons_succ]
        refine wpList_run (by kernel_rfl) (.bool false) wo rfl ?_
        simp only [Act.put, List.setIfInBounds_toArray, List.set_cons_zero, List.set_cons_succ]
        refine wpList_nil ?_
        obtain ⟨Ar, cr, hvr⟩ := own_form OW.out
        subst hvr
        have hfin := Sg.ownS OW.out
        go_upto_region 6 with fail
        refine wp_region_lit ?_
        refine wpList_run (by kernel_rfl) (.slice Ar N cr) wo rfl ?_
        simp only [Act.put, List.setIfInBounds_toArray, List.set_cons_zero, List.set_cons_succ]
        refine wpList_run (by kernel_rfl) (.slice Ar N cr) wo rfl ?_
        simp only [Act.put, List.setIfInBounds_toArray, List.set_cons_zero, List.set_cons_succ]
        refine wpList_nil ?_
        go_wp2_with fail
        go_ret
        exact ⟨Ar, cr, rfl, hfin, B0.out⟩
      · have hci3 : ¬ ((N : Int) < (n : Int)) := by omega
        go_upto_region 3 with fail
        refine wp_region_lit ?_
        refine wpList_run (by kernel_rfl) (.int .i64 (N : Int)) wo rfl ?_
        simp only [Act.put, List.setIfInBounds_toArray, List.set_cons_zero, List.set_cons_succ]
        refine wpList_run (by kernel_rfl) (.slice A n c) wo rfl ?_
        simp only [Act.put, List.setIfInBounds_toArray, List.set_cons_zero, List.set_cons_succ]
        refine wpList_run (by kernel_rfl) (.int .i64 (n : Int)) wo (xo_len A n c Try.underlying22 rfl rfl) ?_
        simp only [Act.put, List.setIfInBounds_toArray, List.set_cons_zero, List.set_cons_succ]
        refine wpList_run (by kernel_rfl) (.bool false) wo (xo_lssF .i64 (N : Int) (n : Int) (by omega) rfl rfl rfl) ?_
        simp only [Act.put, List.setIfInBounds_toArray, List.set_cons_zero, List.set_cons_succ]
        refine wpList_run (by kernel_rfl) (.bool false) wo rfl ?_
        simp only [Act.put, List.setIfInBounds_toArray, List.set_cons_zero, List.set_cons_succ]
        refine wpList_skip (by kernel_rfl) ?_
        try simp only [Act.put, List.setIfInBounds_toArray, List.set_cons_zero, List.set_cons_succ]
        refine wpList_skip (by kernel_rfl) ?_
        try simp only [Act.put, List.setIfInBounds_toArray, List.set_cons_zero, List.set_cons_succ]
        refine wpList_skip (by kernel_rfl) ?_
        try simp only [Act.put, List.setIfInBounds_toArray, List.set_cons_zero, List.set_cons_succ]
        refine wpList_run (by kernel_rfl) (.bool false) wo rfl ?_
        simp only [Act.put, List.setIfInBounds_toArray, List.set_cons_zero, List.set_cons_succ]
        refine wpList_nil ?_
        obtain ⟨Ar, cr, hvr⟩ := own_form OW.out
        subst hvr
        have hfin := Sg.ownS OW.out
        go_upto_region 6 with fail
        refine wp_region_lit ?_
        refine wpList_run (by kernel_rfl) (.slice Ar N cr) wo rfl ?_
        simp only [Act.put, List.setIfInBounds_toArray, List.set_cons_zero, List.set_cons_succ]
        refine wpList_run (by kernel_rfl) (.slice Ar N cr) wo rfl ?_
        simp only [Act.put, List.setIfInBounds_toArray, List.set_cons_zero, List.set_cons_succ]
        refine wpList_nil ?_
        go_wp2_with fail
        go_ret
        exact ⟨Ar, cr, rfl, hfin, B0.out⟩
set_option maxRecDepth 100000 in
set_option maxHeartbeats 16000000 in
theorem rMatches_law (A : Option Addr) (n1 c1 : Nat) (xs : List Nat) (z : Int) (E : Option Addr) (n2 c2 : Nat) (ys : List Nat) (ii : Int) (hbx : ∀ z ∈ xs, z < 18446744073709551616) (hby : ∀ z ∈ ys, z < 18446744073709551616) (w : World) (hX : Sg wdC 1 w A n1 c1 xs) (hY : Sg wdC 1 w E n2 c2 ys) :
    Calls Try.prog 3 #[.slice A n1 c1, .int .i64 z, .slice E n2 c2, .int .i64 ii] w fun e w' => e = .returned (.bool true) ∧ Below w.heap.size w w' := by
  have HX := Lib.hid hX
  have HY := Lib.hid hY
  have HBX := Lib.hid hbx
  have HBY := Lib.hid hby
  clear hX hY hbx hby
  go_enter Try.func3, Try.ntmps3
  go_upto_region 1 with fail
  refine wp_region_lit ?_
  refine wpList_call (by kernel_rfl) 7 Try.func7 (by kernel_rfl) (by kernel_rfl) _ _ #[] rfl (by kernel_rfl) ?_
  refine (sanity9_any w).mono ?_
  rintro e V1 ⟨rfl, hb⟩
  have B0 := Lib.hid hb
  clear hb 
  refine ⟨_, rfl, ?_⟩
  simp only [Act.put, List.setIfInBounds_toArray, List.set_cons_zero, List.set_cons_succ]
  refine wpList_run (by kernel_rfl) (.bool true) V1 rfl ?_
  simp only [Act.put, List.setIfInBounds_toArray, List.set_cons_zero, List.set_cons_succ]
  refine wpList_nil ?_
  go_upto_region 2 with fail
  refine wp_region_lit ?_
  refine wpList_run (by kernel_rfl) (.slice A n1 c1) V1 rfl ?_
  simp only [Act.put, List.setIfInBounds_toArray, List.set_cons_zero, List.set_cons_succ]
  refine wpList_call (by kernel_rfl) 8 Try.func8 (by kernel_rfl) (by kernel_rfl) _ _ #[.slice A n1 c1, .int .i64 16] rfl (by kernel_rfl) ?_
  refine (elements_any A n1 c1 xs 16 (by omega) HBX.out V1 (HX.out.keep B0.out)).mono ?_
  rintro e V2 ⟨Ap, cp, rfl, hs, hb⟩
  have B1 := Lib.hid hb
  have hnale : min n1 16 ≤ 16 := Nat.min_le_right _ _
  obtain ⟨na, hna⟩ : ∃ k, min n1 16 = k := ⟨_, rfl⟩
  rw [hna] at hs hnale ⊢
  obtain ⟨ps, hps⟩ : ∃ l, Gold.mdF xs na = l := ⟨_, rfl⟩
  rw [hps] at hs
  have hlps : ps.length = na := hs.len
  clear hps hna
  have Hps := Lib.hid hs
  clear hb hs
  refine ⟨_, rfl, ?_⟩
  simp only [Act.put, List.setIfInBounds_toArray, List.set_cons_zero, List.set_cons_succ]
  refine wpList_run (by kernel_rfl) (.slice Ap na cp) V2 rfl ?_
  simp only [Act.put, List.setIfInBounds_toArray, List.set_cons_zero, List.set_cons_succ]
  refine wpList_nil ?_
  go_upto_region 3 with fail
  refine wp_region_lit ?_
  refine wpList_run (by kernel_rfl) (.slice E n2 c2) V2 rfl ?_
  simp only [Act.put, List.setIfInBounds_toArray, List.set_cons_zero, List.set_cons_succ]
  have C0_2 := Lib.hid (bel_step B0.out B1.out)
  refine wpList_call (by kernel_rfl) 8 Try.func8 (by kernel_rfl) (by kernel_rfl) _ _ #[.slice E n2 c2, .int .i64 32] rfl (by kernel_rfl) ?_
  refine (elements_any E n2 c2 ys 32 (by omega) HBY.out V2 (HY.out.keep C0_2.out)).mono ?_
  rintro e V3 ⟨Aq, cq, rfl, hs, hb⟩
  have B2 := Lib.hid hb
  have hnble : min n2 32 ≤ 32 := Nat.min_le_right _ _
  obtain ⟨nb, hnb⟩ : ∃ k, min n2 32 = k := ⟨_, rfl⟩
  rw [hnb] at hs hnble ⊢
  obtain ⟨qs, hqs⟩ : ∃ l, Gold.mdF ys nb = l := ⟨_, rfl⟩
  rw [hqs] at hs
  have hlqs : qs.length = nb := hs.len
  clear hqs hnb
  have Hqs := Lib.hid hs
  clear hb hs
  refine ⟨_, rfl, ?_⟩
  simp only [Act.put, List.setIfInBounds_toArray, List.set_cons_zero, List.set_cons_succ]
  refine wpList_run (by kernel_rfl) (.slice Aq nb cq) V3 rfl ?_
  simp only [Act.put, List.setIfInBounds_toArray, List.set_cons_zero, List.set_cons_succ]
  refine wpList_nil ?_
  obtain ⟨N1, e1, us, hN1, hE1, hE2⟩ := enc_both (n := na) (by omega) ps z
  have HE1 := Lib.hid hE1
  have HE2 := Lib.hid hE2
  clear hE1 hE2
  go_upto_region 4 with fail
  refine wp_region_lit ?_
  refine wpList_run (by kernel_rfl) (.slice Ap na cp) V3 rfl ?_
  simp only [Act.put, List.setIfInBounds_toArray, List.set_cons_zero, List.set_cons_succ]
  refine wpList_run (by kernel_rfl) (.int .i64 z) V3 rfl ?_
  simp only [Act.put, List.setIfInBounds_toArray, List.set_cons_zero, List.set_cons_succ]
  refine wpList_call (by kernel_rfl) 9 Try.func9 (by kernel_rfl) (by kernel_rfl) _ _ #[.slice Ap na cp, .int .i64 z] rfl (by kernel_rfl) ?_
  refine (HE1.out Ap cp V3 (Hps.out.keep B2.out)).mono ?_
  rintro e V4 ⟨Au, cu, rfl, hs, hb⟩
  have B3 := Lib.hid hb
  have Hu := Lib.hid hs
  clear hb hs
  refine ⟨_, rfl, ?_⟩
  simp only [Act.put, List.setIfInBounds_toArray, List.set_cons_zero, List.set_cons_succ]
  refine wpList_run (by kernel_rfl) (.tuple #[.slice Au N1 cu, .int .i64 (e1 : Int)]) V4 rfl ?_
  simp only [Act.put, List.setIfInBounds_toArray, List.set_cons_zero, List.set_cons_succ]
  refine wpList_run (by kernel_rfl) (.slice Au N1 cu) V4 rfl ?_
  simp only [Act.put, List.setIfInBounds_toArray, List.set_cons_zero, List.set_cons_succ]
  refine wpList_run (by kernel_rfl) (.int .i64 (e1 : Int)) V4 rfl ?_
  simp only [Act.put, List.setIfInBounds_toArray, List.set_cons_zero, List.set_cons_succ]
  refine wpList_run (by kernel_rfl) (.slice Au N1 cu) V4 rfl ?_
  simp only [Act.put, List.setIfInBounds_toArray, List.set_cons_zero, List.set_cons_succ]
  refine wpList_run (by kernel_rfl) (.int .i64 (e1 : Int)) V4 rfl ?_
  simp only [Act.put, List.setIfInBounds_toArray, List.set_cons_zero, List.set_cons_succ]
  refine wpList_nil ?_
  go_upto_region 5 with fail
  refine wp_region_lit ?_
  refine wpList_run (by kernel_rfl) (.slice Ap na cp) V4 rfl ?_
  simp only [Act.put, List.setIfInBounds_toArray, List.set_cons_zero, List.set_cons_succ]
  refine wpList_run (by kernel_rfl) (.int .i64 z) V4 rfl ?_
  simp only [Act.put, List.setIfInBounds_toArray, List.set_cons_zero, List.set_cons_succ]
  have C2_4 := Lib.hid (bel_step B2.out B3.out)
  refine wpList_call (by kernel_rfl) 10 Try.func10 (by kernel_rfl) (by kernel_rfl) _ _ #[.slice Ap na cp, .int .i64 z] rfl (by kernel_rfl) ?_
  refine (HE2.out Ap cp V4 (Hps.out.keep C2_4.out)).mono ?_
  rintro e V5 ⟨Av, cv, rfl, hs, hb⟩
  have B4 := Lib.hid hb
  have Hv := Lib.hid hs
  clear hb hs
  refine ⟨_, rfl, ?_⟩
  simp only [Act.put, List.setIfInBounds_toArray, List.set_cons_zero, List.set_cons_succ]
  refine wpList_run (by kernel_rfl) (.tuple #[.slice Av N1 cv, .int .i64 (e1 : Int)]) V5 rfl ?_
  simp only [Act.put, List.setIfInBounds_toArray, List.set_cons_zero, List.set_cons_succ]
  refine wpList_run (by kernel_rfl) (.slice Av N1 cv) V5 rfl ?_
  simp only [Act.put, List.setIfInBounds_toArray, List.set_cons_zero, List.set_cons_succ]
  refine wpList_run (by kernel_rfl) (.int .i64 (e1 : Int)) V5 rfl ?_
  simp only [Act.put, List.setIfInBounds_toArray, List.set_cons_zero, List.set_cons_succ]
  refine wpList_run (by kernel_rfl) (.slice Av N1 cv) V5 rfl ?_
  simp only [Act.put, List.setIfInBounds_toArray, List.set_cons_zero, List.set_cons_succ]
  refine wpList_run (by kernel_rfl) (.int .i64 (e1 : Int)) V5 rfl ?_
  simp only [Act.put, List.setIfInBounds_toArray, List.set_cons_zero, List.set_cons_succ]
  refine wpList_nil ?_
  have C0_3 := Lib.hid (bel_step C0_2.out B2.out)
  have C0_4 := Lib.hid (bel_step C0_3.out B3.out)
  have C0_5 := Lib.hid (bel_step C0_4.out B4.out)
  have HBV0 := Lib.hid C0_5.out
  have C2_5 := Lib.hid (bel_step C2_4.out B4.out)
  have YHps := (Hps.out.keep C2_5.out)
  have C3_5 := Lib.hid (bel_step B3.out B4.out)
  have YHqs := (Hqs.out.keep C3_5.out)
  have YHu := (Hu.out.keep B4.out)
  have YHv := Hv.out
  clear Hps
  have Hps := Lib.hid YHps
  clear YHps
  clear Hqs
  have Hqs := Lib.hid YHqs
  clear YHqs
  clear Hu
  have Hu := Lib.hid YHu
  clear YHu
  clear Hv
  have Hv := Lib.hid YHv
  clear YHv
  obtain ⟨VB0, rfl⟩ : ∃ VB0 : World, VB0 = V5 := ⟨_, rfl⟩
  have hcps := Hps.out.cap
  have htps := Hps.out.top
  go_upto_region 6 with fail
  refine wp_region_lit ?_
  refine wpList_mk (by kernel_rfl) #[] 31 0 0 (xo_empty (size := 2) Try.underlying28 (by kernel_rfl) rfl VB0) ?_
  intro g47 V1 hge h0 hb
  have hge2 := Nat.le_trans (Below.refl VB0.heap.size VB0).size hge
  have B0 := Lib.hid hb
  have Ow47 : Hid (V1.ownsRow VB0.heap.size 31 2 (.slice (some ⟨g47, 0, none⟩) 0 0) 0 (fl exC [])) := Lib.hid (own_new h0 hge2)
  clear hge hge2 h0 hb
  simp only [ptr, Act.put, List.setIfInBounds_toArray, List.set_cons_zero, List.set_cons_succ]
  refine wpList_run (by kernel_rfl) (.slice (some ⟨g47, 0, none⟩) 0 0) V1 rfl ?_
  simp only [Act.put, List.setIfInBounds_toArray, List.set_cons_zero, List.set_cons_succ]
  refine wpList_nil ?_
  go_upto_region 7 with fail
  refine wp_region_lit ?_
  refine wpList_run (by kernel_rfl) (.int .i64 0) V1 rfl ?_
  simp only [Act.put, List.setIfInBounds_toArray, List.set_cons_zero, List.set_cons_succ]
  refine wpList_nil ?_
  have O1 := Ow47.out
  have O2 := B0.out
  go_wp2_with fail
  go_loopw [16, 17] (fun v p wr => ∃ i : Nat, ∃ (ls : List Gold.E2), i ≤ na ∧ p = .int .i64 i ∧ wr.ownsRow VB0.heap.size 31 2 v i (fl exC ls) ∧ Below VB0.heap.size VB0 wr) (fun _ p _ => na - (intOf p).toNat)
  case atStart => exact ⟨0, [], Nat.zero_le _, rfl, O1, O2⟩
  case round =>
    clear O2 O1
    obtain ⟨wo, rfl⟩ : ∃ wo : World, wo = wr := ⟨_, rfl⟩
    obtain ⟨i, ls, hi, rfl, hOW, hb0⟩ := hrel
    have hbr := hb0
    clear B0
    have B0 := Lib.hid hbr
    clear hbr
    have OW := Lib.hid hOW
    clear hb0 hOW
    by_cases hi1 : i < na
    · have hci4 : ((i : Int) < (na : Int)) := by omega
      go_upto_region 8 with fail
      refine wp_region_lit ?_
      refine wpList_run (by kernel_rfl) (.int .i64 (i : Int)) wo rfl ?_
      simp only [Act.put, List.setIfInBounds_toArray, List.set_cons_zero, List.set_cons_succ]
      refine wpList_run (by kernel_rfl) (.slice Ap na cp) wo rfl ?_
      simp only [Act.put, List.setIfInBounds_toArray, List.set_cons_zero, List.set_cons_succ]
      refine wpList_run (by kernel_rfl) (.int .i64 (na : Int)) wo (xo_len Ap na cp Try.underlying22 rfl rfl) ?_
      simp only [Act.put, List.setIfInBounds_toArray, List.set_cons_zero, List.set_cons_succ]
      refine wpList_run (by kernel_rfl) (.bool true) wo (xo_lssT .i64 (i : Int) (na : Int) (by omega) rfl rfl rfl) ?_
      simp only [Act.put, List.setIfInBounds_toArray, List.set_cons_zero, List.set_cons_succ]
      refine wpList_nil ?_
      obtain ⟨m, hm⟩ : ∃ m, na - 1 - i = m := ⟨_, rfl⟩
      obtain ⟨x, hx⟩ : ∃ x, ps[i]? = some x := ⟨_, List.getElem?_eq_getElem (by omega)⟩
      have HEx := Lib.hid hx
      clear hx
      obtain ⟨y, hy⟩ : ∃ y, ps[m]? = some y := ⟨_, List.getElem?_eq_getElem (by omega)⟩
      have HEy := Lib.hid hy
      clear hy
      go_upto_region 10 with fail
      try simp only [List.append_eq, List.cons_append, List.nil_append]
      refine wp_ordT (fun W => Below VB0.heap.size VB0 W) (.q 0 (.q 1 (.q 2 (.q 3 (.q 4 (.q 5 (.q 6 (.q 7 (.q 8 (.q 9 (.q 10 (.q 11 (.q 12 (.q 13 (.one 14 (.one 15 (.q 16 .nil))))))))))))))))) (by kernel_rfl) (by kernel_rfl) (fun _ _ dt _ _ h => by first | exact h.elim | (cases dt <;> exact h)) (by kernel_rfl) (by kernel_rfl) B0.out.drew ?_
      have hb : Below wo.heap.size wo wo.drew := (Below.refl _ _).drew
      generalize wo.drew = V2 at hb ⊢
      have B1 := Lib.hid hb
      clear hb
      refine wpOT_q (u16) rfl (by kernel_rfl) (fun v hW => rfl) ?_
      simp only [ptr, Act.put, List.setIfInBounds_toArray, List.set_cons_zero, List.set_cons_succ]
      refine wpOT_q (.slice Ap na cp) rfl (by kernel_rfl) (fun v hW => rfl) ?_
      simp only [ptr, Act.put, List.setIfInBounds_toArray, List.set_cons_zero, List.set_cons_succ]
      refine wpOT_q (.int .i64 (i : Int)) rfl (by kernel_rfl) (fun v hW => rfl) ?_
      simp only [ptr, Act.put, List.setIfInBounds_toArray, List.set_cons_zero, List.set_cons_succ]
      refine wpOT_q (.pointer (some (gad Ap (i * 1)))) rfl (by kernel_rfl) (fun v hW => (xg_idx .i64 (Hps.out.keep hW) HEx.out Try.underlying22 (by kernel_rfl) rfl rfl rfl)) ?_
      simp only [ptr, Act.put, List.setIfInBounds_toArray, List.set_cons_zero, List.set_cons_succ]
      refine wpOT_q (.int .u64 (Gold.vF x)) rfl (by kernel_rfl) (fun v hW => (xg_load1 (E := feC) (i := i) (j := 0) (Hps.out.keep hW) HEx.out rfl rfl Try.underlying29 rfl rfl rfl)) ?_
      simp only [ptr, Act.put, List.setIfInBounds_toArray, List.set_cons_zero, List.set_cons_succ]
      refine wpOT_q (.slice Ap na cp) rfl (by kernel_rfl) (fun v hW => rfl) ?_
      simp only [ptr, Act.put, List.setIfInBounds_toArray, List.set_cons_zero, List.set_cons_succ]
      refine wpOT_q (.slice Ap na cp) rfl (by kernel_rfl) (fun v hW => rfl) ?_
      simp only [ptr, Act.put, List.setIfInBounds_toArray, List.set_cons_zero, List.set_cons_succ]
      refine wpOT_q (.int .i64 (na : Int)) rfl (by kernel_rfl) (fun v hW => (xo_len Ap na cp Try.underlying22 rfl rfl)) ?_
      simp only [ptr, Act.put, List.setIfInBounds_toArray, List.set_cons_zero, List.set_cons_succ]
      refine wpOT_q (.int .i64 ((na - 1 : Nat) : Int)) rfl (by kernel_rfl) (fun v hW => (xo_subI (na : Int) 1 ((na - 1 : Nat) : Int) (by omega) (by omega) (by omega) rfl rfl rfl)) ?_
      simp only [ptr, Act.put, List.setIfInBounds_toArray, List.set_cons_zero, List.set_cons_succ]
      refine wpOT_q (.int .i64 (i : Int)) rfl (by kernel_rfl) (fun v hW => rfl) ?_
      simp only [ptr, Act.put, List.setIfInBounds_toArray, List.set_cons_zero, List.set_cons_succ]
      refine wpOT_q (.int .i64 (m : Int)) rfl (by kernel_rfl) (fun v hW => (xo_subI ((na - 1 : Nat) : Int) (i : Int) (m : Int) (by omega) (by omega) (by omega) rfl rfl rfl)) ?_
      simp only [ptr, Act.put, List.setIfInBounds_toArray, List.set_cons_zero, List.set_cons_succ]
      refine wpOT_q (.pointer (some (gad Ap (m * 1)))) rfl (by kernel_rfl) (fun v hW => (xg_idx .i64 (Hps.out.keep hW) HEy.out Try.underlying22 (by kernel_rfl) rfl rfl rfl)) ?_
      simp only [ptr, Act.put, List.setIfInBounds_toArray, List.set_cons_zero, List.set_cons_succ]
      refine wpOT_q (.int .u64 (Gold.vF y)) rfl (by kernel_rfl) (fun v hW => (xg_load1 (E := feC) (i := m) (j := 0) (Hps.out.keep hW) HEy.out rfl rfl Try.underlying29 rfl rfl rfl)) ?_
      simp only [ptr, Act.put, List.setIfInBounds_toArray, List.set_cons_zero, List.set_cons_succ]
      refine wpOT_q (.agg #[.int .u64 (Gold.vF x), .int .u64 (Gold.vF y)]) rfl (by kernel_rfl) (fun v hW => (by unfold execOp; go_simp)) ?_
      simp only [ptr, Act.put, List.setIfInBounds_toArray, List.set_cons_zero, List.set_cons_succ]
      refine wpOT_one rfl (by kernel_rfl) ?_
      refine hOp_mk ([(Gold.E2.mk x y)].flatMap exC).toArray 31 1 1 (xg_lit (E := exC) (bytes := 16) (.agg #[.int .u64 0, .int .u64 0]) [.tmp 67] [(Gold.E2.mk x y)] 1 Try.underlying28 (by kernel_rfl) rfl (by decide) (by decide) rfl rfl) ?_
      intro g68 V3 hge h0 hb
      have Ge5 : Hid (V2.heap.size ≤ g68) := Lib.hid hge
      have B2 := Lib.hid hb
      have Fv6_68 : Hid (RowG exC V3 g68 31 ([(Gold.E2.mk x y)])) := Lib.hid (h0)
      have Lt7 : Hid (g68 < V3.heap.size) := Lib.hid (xp_lt Fv6_68.out)
      clear hge h0 hb
      have C0_2 := Lib.hid (bel_step B0.out B1.out)
      have C0_3 := Lib.hid (bel_step C0_2.out B2.out)
      refine ⟨C0_3.out, ?_⟩
      simp only [ptr, Act.put, List.setIfInBounds_toArray, List.set_cons_zero, List.set_cons_succ]
      refine wpOT_one rfl (by kernel_rfl) ?_
      have C1_3 := Lib.hid (bel_step B1.out B2.out)
      refine hOp_app (size := 2) (.tmp 54) (.tmp 68) 28 rfl (.agg #[.int .u64 0, .int .u64 0]) 16 Try.underlying28 (by kernel_rfl) rfl (by decide) rfl (own_keep OW.out C1_3.out) (some ⟨g68, 0, none⟩) 1 1 (fl exC ([(Gold.E2.mk x y)])) rfl (RowG.sg (n := 1) (c := 1) Fv6_68.out (show ([(Gold.E2.mk x y)]).length = 1 from rfl) (Nat.le_refl _) (by omega)).src (by unfold maxLen; omega) (by omega) C0_3.out.size ?_
      intro v69 X3_8 ho hg hloc
      have hb1 := own_below (own_keep OW.out C1_3.out) hg C0_3.out.size
      have hox : X3_8.ownsRow VB0.heap.size 31 2 v69 (i + 1) (fl exC (ls ++ ([(Gold.E2.mk x y)]))) := by rw [fl_append]; exact ho
      have hbr := C0_3.out.trans hb1
      clear B0
      have B0 := Lib.hid hbr
      clear hbr
      have Ow69_9 := Lib.hid hox
      clear ho hox hb1 hg hloc
      refine ⟨B0.out, ?_⟩
      simp only [ptr, Act.put, List.setIfInBounds_toArray, List.set_cons_zero, List.set_cons_succ]
      refine wpOT_q (v69) rfl (by kernel_rfl) (fun v hW => rfl) ?_
      simp only [ptr, Act.put, List.setIfInBounds_toArray, List.set_cons_zero, List.set_cons_succ]
      refine wpOT_nil ?_
      have hko := Ow69_9.out
      go_upto_region 9 with fail
      refine wp_region_lit ?_
      refine wpList_run (by kernel_rfl) (.int .i64 (i : Int)) X3_8 rfl ?_
      simp only [Act.put, List.setIfInBounds_toArray, List.set_cons_zero, List.set_cons_succ]
      refine wpList_run (by kernel_rfl) (.int .i64 ((i + 1 : Nat) : Int)) X3_8 (xo_addI (i : Int) 1 ((i + 1 : Nat) : Int) (by omega) (by omega) (by omega) rfl rfl rfl) ?_
      simp only [Act.put, List.setIfInBounds_toArray, List.set_cons_zero, List.set_cons_succ]
      refine wpList_run (by kernel_rfl) (.int .i64 ((i + 1 : Nat) : Int)) X3_8 rfl ?_
      simp only [Act.put, List.setIfInBounds_toArray, List.set_cons_zero, List.set_cons_succ]
      refine wpList_nil ?_
      have hq10 := B0.out
      go_wp2_with fail
      go_roundw
      case rel => exact ⟨i + 1, _, by omega, by go_num, hko, hq10⟩
      case measure => simp [intOf]; omega
    · have hci4 : ¬ ((i : Int) < (na : Int)) := by omega
      go_upto_region 8 with fail
      refine wp_region_lit ?_
      refine wpList_run (by kernel_rfl) (.int .i64 (i : Int)) wo rfl ?_
      simp only [Act.put, List.setIfInBounds_toArray, List.set_cons_zero, List.set_cons_succ]
      refine wpList_run (by kernel_rfl) (.slice Ap na cp) wo rfl ?_
      simp only [Act.put, List.setIfInBounds_toArray, List.set_cons_zero, List.set_cons_succ]
      refine wpList_run (by kernel_rfl) (.int .i64 (na : Int)) wo (xo_len Ap na cp Try.underlying22 rfl rfl) ?_
      simp only [Act.put, List.setIfInBounds_toArray, List.set_cons_zero, List.set_cons_succ]
      refine wpList_run (by kernel_rfl) (.bool false) wo (xo_lssF .i64 (i : Int) (na : Int) (by omega) rfl rfl rfl) ?_
      simp only [Act.put, List.setIfInBounds_toArray, List.set_cons_zero, List.set_cons_succ]
      refine wpList_nil ?_
      obtain rfl : na = i := by omega
      obtain ⟨As, cs, hvs⟩ := own_form OW.out
      subst hvs
      have hso := Sg.ownS OW.out
      have HSs := Lib.hid hso
      clear hso
      obtain ⟨N2, e2, ux, hX1, hX2⟩ := encX_both (n := na) (by omega) ls z
      have HX1 := Lib.hid hX1
      have HX2 := Lib.hid hX2
      clear hX1 hX2
      go_upto_region 11 with fail
      refine wp_region_lit ?_
      refine wpList_run (by kernel_rfl) (.slice As na cs) wo rfl ?_
      simp only [Act.put, List.setIfInBounds_toArray, List.set_cons_zero, List.set_cons_succ]
      refine wpList_run (by kernel_rfl) (.int .i64 z) wo rfl ?_
      simp only [Act.put, List.setIfInBounds_toArray, List.set_cons_zero, List.set_cons_succ]
      refine wpList_call (by kernel_rfl) 11 Try.func11 (by kernel_rfl) (by kernel_rfl) _ _ #[.slice As na cs, .int .i64 z] rfl (by kernel_rfl) ?_
      refine (HX1.out As cs wo HSs.out).mono ?_
      rintro e V2 ⟨Am, cm, rfl, hs, hb⟩
      have B1 := Lib.hid hb
      have Hm := Lib.hid hs
      clear hb hs
      refine ⟨_, rfl, ?_⟩
      simp only [Act.put, List.setIfInBounds_toArray, List.set_cons_zero, List.set_cons_succ]
      refine wpList_run (by kernel_rfl) (.tuple #[.slice Am N2 cm, .int .i64 (e2 : Int)]) V2 rfl ?_
      simp only [Act.put, List.setIfInBounds_toArray, List.set_cons_zero, List.set_cons_succ]
      refine wpList_run (by kernel_rfl) (.slice Am N2 cm) V2 rfl ?_
      simp only [Act.put, List.setIfInBounds_toArray, List.set_cons_zero, List.set_cons_succ]
      refine wpList_run (by kernel_rfl) (.int .i64 (e2 : Int)) V2 rfl ?_
      simp only [Act.put, List.setIfInBounds_toArray, List.set_cons_zero, List.set_cons_succ]
      refine wpList_run (by kernel_rfl) (.slice Am N2 cm) V2 rfl ?_
      simp only [Act.put, List.setIfInBounds_toArray, List.set_cons_zero, List.set_cons_succ]
      refine wpList_run (by kernel_rfl) (.int .i64 (e2 : Int)) V2 rfl ?_
      simp only [Act.put, List.setIfInBounds_toArray, List.set_cons_zero, List.set_cons_succ]
      refine wpList_nil ?_
      go_upto_region 12 with fail
      refine wp_region_lit ?_
      refine wpList_run (by kernel_rfl) (.slice As na cs) V2 rfl ?_
      simp only [Act.put, List.setIfInBounds_toArray, List.set_cons_zero, List.set_cons_succ]
      refine wpList_run (by kernel_rfl) (.int .i64 z) V2 rfl ?_
      simp only [Act.put, List.setIfInBounds_toArray, List.set_cons_zero, List.set_cons_succ]
      refine wpList_call (by kernel_rfl) 12 Try.func12 (by kernel_rfl) (by kernel_rfl) _ _ #[.slice As na cs, .int .i64 z] rfl (by kernel_rfl) ?_
      refine (HX2.out As cs V2 (HSs.out.keep B1.out)).mono ?_
      rintro e V3 ⟨An, cn, rfl, hs, hb⟩
      have B2 := Lib.hid hb
      have Hn := Lib.hid hs
      clear hb hs
      refine ⟨_, rfl, ?_⟩
      simp only [Act.put, List.setIfInBounds_toArray, List.set_cons_zero, List.set_cons_succ]
      refine wpList_run (by kernel_rfl) (.tuple #[.slice An N2 cn, .int .i64 (e2 : Int)]) V3 rfl ?_
      simp only [Act.put, List.setIfInBounds_toArray, List.set_cons_zero, List.set_cons_succ]
      refine wpList_run (by kernel_rfl) (.slice An N2 cn) V3 rfl ?_
      simp only [Act.put, List.setIfInBounds_toArray, List.set_cons_zero, List.set_cons_succ]
      refine wpList_run (by kernel_rfl) (.int .i64 (e2 : Int)) V3 rfl ?_
      simp only [Act.put, List.setIfInBounds_toArray, List.set_cons_zero, List.set_cons_succ]
      refine wpList_run (by kernel_rfl) (.slice An N2 cn) V3 rfl ?_
      simp only [Act.put, List.setIfInBounds_toArray, List.set_cons_zero, List.set_cons_succ]
      refine wpList_run (by kernel_rfl) (.int .i64 (e2 : Int)) V3 rfl ?_
      simp only [Act.put, List.setIfInBounds_toArray, List.set_cons_zero, List.set_cons_succ]
      refine wpList_nil ?_
      obtain ⟨vx, e3, hA1, hA2⟩ := at_both (n := na) (by omega) ls z ii
      have HA1 := Lib.hid hA1
      have HA2 := Lib.hid hA2
      clear hA1 hA2
      go_upto_region 13 with fail
      refine wp_region_lit ?_
      refine wpList_run (by kernel_rfl) (.slice As na cs) V3 rfl ?_
      simp only [Act.put, List.setIfInBounds_toArray, List.set_cons_zero, List.set_cons_succ]
      refine wpList_run (by kernel_rfl) (.int .i64 z) V3 rfl ?_
      simp only [Act.put, List.setIfInBounds_toArray, List.set_cons_zero, List.set_cons_succ]
      refine wpList_run (by kernel_rfl) (.int .i64 ii) V3 rfl ?_
      simp only [Act.put, List.setIfInBounds_toArray, List.set_cons_zero, List.set_cons_succ]
      have C1_3 := Lib.hid (bel_step B1.out B2.out)
      refine wpList_call (by kernel_rfl) 13 Try.func13 (by kernel_rfl) (by kernel_rfl) _ _ #[.slice As na cs, .int .i64 z, .int .i64 ii] rfl (by kernel_rfl) ?_
      refine (HA1.out As cs V3 (HSs.out.keep C1_3.out)).mono ?_
      rintro e V4 ⟨rfl, hb⟩
      have B3 := Lib.hid hb
      clear hb 
      refine ⟨_, rfl, ?_⟩
      simp only [Act.put, List.setIfInBounds_toArray, List.set_cons_zero, List.set_cons_succ]
      refine wpList_run (by kernel_rfl) (.tuple #[.agg #[.int .u64 (Gold.vF vx.A), .int .u64 (Gold.vF vx.B)], .int .i64 (e3 : Int)]) V4 rfl ?_
      simp only [Act.put, List.setIfInBounds_toArray, List.set_cons_zero, List.set_cons_succ]
      refine wpList_run (by kernel_rfl) (.agg #[.int .u64 (Gold.vF vx.A), .int .u64 (Gold.vF vx.B)]) V4 rfl ?_
      simp only [Act.put, List.setIfInBounds_toArray, List.set_cons_zero, List.set_cons_succ]
      refine wpList_run (by kernel_rfl) (.int .i64 (e3 : Int)) V4 rfl ?_
      simp only [Act.put, List.setIfInBounds_toArray, List.set_cons_zero, List.set_cons_succ]
      refine wpList_new #[.int .u64 0, .int .u64 0] 31 (by kernel_rfl) (xo_alloc #[.int .u64 0, .int .u64 0] (by kernel_rfl) rfl) ?_
      intro b22 V5 hge h0 hb
      have Ge5 : Hid (V4.heap.size ≤ b22) := Lib.hid hge
      have B4 := Lib.hid hb
      have Fv6_22 : Hid (V5.heap[b22]? = some (.cells #[.int .u64 0, .int .u64 0] 31 (0, 0))) := Lib.hid (h0)
      have Lt7 : Hid (b22 < V5.heap.size) := Lib.hid (xp_lt Fv6_22.out)
      clear hge h0 hb
      simp only [ptr, Act.put, List.setIfInBounds_toArray, List.set_cons_zero, List.set_cons_succ]
      refine wpList_storeW b22 #[.int .u64 0, .int .u64 0] #[.int .u64 (Gold.vF vx.A), .int .u64 (Gold.vF vx.B)] 31 (by kernel_rfl) Fv6_22.out (xo_storeW b22 #[.int .u64 0, .int .u64 0] #[.int .u64 (Gold.vF vx.A), .int .u64 (Gold.vF vx.B)] Fv6_22.out (by kernel_rfl) rfl (by simp [Value.oneCell']) rfl rfl rfl) ?_
      intro X5_8 h1 hfar hbel hsz
      have hbr := hbel _ _ Ge5.out B4.out
      clear B4
      have B4 := Lib.hid hbr
      clear hbr
      clear Fv6_22
      have Fv6_22 : Hid (X5_8.heap[b22]? = some (.cells #[.int .u64 (Gold.vF vx.A), .int .u64 (Gold.vF vx.B)] 31 (0, 0))) := Lib.hid (h1)
      have HszX5_8 := Lib.hid hsz
      clear h1 hfar hbel hsz
      simp only [ptr, Act.put, List.setIfInBounds_toArray, List.set_cons_zero, List.set_cons_succ]
      refine wpList_run (by kernel_rfl) (.int .i64 (e3 : Int)) X5_8 rfl ?_
      simp only [Act.put, List.setIfInBounds_toArray, List.set_cons_zero, List.set_cons_succ]
      refine wpList_nil ?_
      go_upto_region 14 with fail
      refine wp_region_lit ?_
      refine wpList_run (by kernel_rfl) (.slice As na cs) X5_8 rfl ?_
      simp only [Act.put, List.setIfInBounds_toArray, List.set_cons_zero, List.set_cons_succ]
      refine wpList_run (by kernel_rfl) (.int .i64 z) X5_8 rfl ?_
      simp only [Act.put, List.setIfInBounds_toArray, List.set_cons_zero, List.set_cons_succ]
      refine wpList_run (by kernel_rfl) (.int .i64 ii) X5_8 rfl ?_
      simp only [Act.put, List.setIfInBounds_toArray, List.set_cons_zero, List.set_cons_succ]
      have C1_4 := Lib.hid (bel_step C1_3.out B3.out)
      have C1_5 := Lib.hid (bel_step C1_4.out B4.out)
      refine wpList_call (by kernel_rfl) 14 Try.func14 (by kernel_rfl) (by kernel_rfl) _ _ #[.slice As na cs, .int .i64 z, .int .i64 ii] rfl (by kernel_rfl) ?_
      refine (HA2.out As cs X5_8 (HSs.out.keep C1_5.out)).mono ?_
      rintro e V6 ⟨rfl, hb⟩
      have B5 := Lib.hid hb
      clear hb 
      refine ⟨_, rfl, ?_⟩
      simp only [Act.put, List.setIfInBounds_toArray, List.set_cons_zero, List.set_cons_succ]
      refine wpList_run (by kernel_rfl) (.tuple #[.agg #[.int .u64 (Gold.vF vx.A), .int .u64 (Gold.vF vx.B)], .int .i64 (e3 : Int)]) V6 rfl ?_
      simp only [Act.put, List.setIfInBounds_toArray, List.set_cons_zero, List.set_cons_succ]
      refine wpList_run (by kernel_rfl) (.agg #[.int .u64 (Gold.vF vx.A), .int .u64 (Gold.vF vx.B)]) V6 rfl ?_
      simp only [Act.put, List.setIfInBounds_toArray, List.set_cons_zero, List.set_cons_succ]
      refine wpList_run (by kernel_rfl) (.int .i64 (e3 : Int)) V6 rfl ?_
      simp only [Act.put, List.setIfInBounds_toArray, List.set_cons_zero, List.set_cons_succ]
      refine wpList_new #[.int .u64 0, .int .u64 0] 31 (by kernel_rfl) (xo_alloc #[.int .u64 0, .int .u64 0] (by kernel_rfl) rfl) ?_
      intro b24 V7 hge h0 hb
      have N9_0 : Hid (b22 ≠ b24) := Lib.hid (xp_lt0 (heap_keep Fv6_22.out B5.out) hge)
      have Ge10 : Hid (V6.heap.size ≤ b24) := Lib.hid hge
      have B6 := Lib.hid hb
      have Fv11_24 : Hid (V7.heap[b24]? = some (.cells #[.int .u64 0, .int .u64 0] 31 (0, 0))) := Lib.hid (h0)
      have Lt12 : Hid (b24 < V7.heap.size) := Lib.hid (xp_lt Fv11_24.out)
      clear hge h0 hb
      simp only [ptr, Act.put, List.setIfInBounds_toArray, List.set_cons_zero, List.set_cons_succ]
      refine wpList_storeW b24 #[.int .u64 0, .int .u64 0] #[.int .u64 (Gold.vF vx.A), .int .u64 (Gold.vF vx.B)] 31 (by kernel_rfl) Fv11_24.out (xo_storeW b24 #[.int .u64 0, .int .u64 0] #[.int .u64 (Gold.vF vx.A), .int .u64 (Gold.vF vx.B)] Fv11_24.out (by kernel_rfl) rfl (by simp [Value.oneCell']) rfl rfl rfl) ?_
      intro X7_13 h1 hfar hbel hsz
      have hbr := hbel _ _ Ge10.out B6.out
      clear B6
      have B6 := Lib.hid hbr
      clear hbr
      clear Fv11_24
      have Fv11_24 : Hid (X7_13.heap[b24]? = some (.cells #[.int .u64 (Gold.vF vx.A), .int .u64 (Gold.vF vx.B)] 31 (0, 0))) := Lib.hid (h1)
      have HszX7_13 := Lib.hid hsz
      clear h1 hfar hbel hsz
      simp only [ptr, Act.put, List.setIfInBounds_toArray, List.set_cons_zero, List.set_cons_succ]
      refine wpList_run (by kernel_rfl) (.int .i64 (e3 : Int)) X7_13 rfl ?_
      simp only [Act.put, List.setIfInBounds_toArray, List.set_cons_zero, List.set_cons_succ]
      refine wpList_nil ?_
      obtain ⟨bi, e4, hI1, hI2⟩ := is_both (n := nb) hnble qs z
      have HI1 := Lib.hid hI1
      have HI2 := Lib.hid hI2
      clear hI1 hI2
      go_upto_region 15 with fail
      refine wp_region_lit ?_
      refine wpList_run (by kernel_rfl) (.slice Aq nb cq) X7_13 rfl ?_
      simp only [Act.put, List.setIfInBounds_toArray, List.set_cons_zero, List.set_cons_succ]
      refine wpList_run (by kernel_rfl) (.int .i64 z) X7_13 rfl ?_
      simp only [Act.put, List.setIfInBounds_toArray, List.set_cons_zero, List.set_cons_succ]
      have C0_2 := Lib.hid (bel_step B0.out B1.out)
      have C0_3 := Lib.hid (bel_step C0_2.out B2.out)
      have C0_4 := Lib.hid (bel_step C0_3.out B3.out)
      have C0_5 := Lib.hid (bel_step C0_4.out B4.out)
      have C0_6 := Lib.hid (bel_step C0_5.out B5.out)
      have C0_7 := Lib.hid (bel_step C0_6.out B6.out)
      refine wpList_call (by kernel_rfl) 15 Try.func15 (by kernel_rfl) (by kernel_rfl) _ _ #[.slice Aq nb cq, .int .i64 z] rfl (by kernel_rfl) ?_
      refine (HI1.out Aq cq X7_13 (Hqs.out.keep C0_7.out)).mono ?_
      rintro e V8 ⟨rfl, hb⟩
      have B7 := Lib.hid hb
      clear hb 
      refine ⟨_, rfl, ?_⟩
      simp only [Act.put, List.setIfInBounds_toArray, List.set_cons_zero, List.set_cons_succ]
      refine wpList_run (by kernel_rfl) (.tuple #[.bool bi, .int .i64 (e4 : Int)]) V8 rfl ?_
      simp only [Act.put, List.setIfInBounds_toArray, List.set_cons_zero, List.set_cons_succ]
      refine wpList_run (by kernel_rfl) (.bool bi) V8 rfl ?_
      simp only [Act.put, List.setIfInBounds_toArray, List.set_cons_zero, List.set_cons_succ]
      refine wpList_run (by kernel_rfl) (.int .i64 (e4 : Int)) V8 rfl ?_
      simp only [Act.put, List.setIfInBounds_toArray, List.set_cons_zero, List.set_cons_succ]
      refine wpList_run (by kernel_rfl) (.bool bi) V8 rfl ?_
      simp only [Act.put, List.setIfInBounds_toArray, List.set_cons_zero, List.set_cons_succ]
      refine wpList_run (by kernel_rfl) (.int .i64 (e4 : Int)) V8 rfl ?_
      simp only [Act.put, List.setIfInBounds_toArray, List.set_cons_zero, List.set_cons_succ]
      refine wpList_nil ?_
      go_upto_region 16 with fail
      refine wp_region_lit ?_
      refine wpList_run (by kernel_rfl) (.slice Aq nb cq) V8 rfl ?_
      simp only [Act.put, List.setIfInBounds_toArray, List.set_cons_zero, List.set_cons_succ]
      refine wpList_run (by kernel_rfl) (.int .i64 z) V8 rfl ?_
      simp only [Act.put, List.setIfInBounds_toArray, List.set_cons_zero, List.set_cons_succ]
      have C0_8 := Lib.hid (bel_step C0_7.out B7.out)
      refine wpList_call (by kernel_rfl) 16 Try.func16 (by kernel_rfl) (by kernel_rfl) _ _ #[.slice Aq nb cq, .int .i64 z] rfl (by kernel_rfl) ?_
      refine (HI2.out Aq cq V8 (Hqs.out.keep C0_8.out)).mono ?_
      rintro e V9 ⟨rfl, hb⟩
      have B8 := Lib.hid hb
      clear hb 
      refine ⟨_, rfl, ?_⟩
      simp only [Act.put, List.setIfInBounds_toArray, List.set_cons_zero, List.set_cons_succ]
      refine wpList_run (by kernel_rfl) (.tuple #[.bool bi, .int .i64 (e4 : Int)]) V9 rfl ?_
      simp only [Act.put, List.setIfInBounds_toArray, List.set_cons_zero, List.set_cons_succ]
      refine wpList_run (by kernel_rfl) (.bool bi) V9 rfl ?_
      simp only [Act.put, List.setIfInBounds_toArray, List.set_cons_zero, List.set_cons_succ]
      refine wpList_run (by kernel_rfl) (.int .i64 (e4 : Int)) V9 rfl ?_
      simp only [Act.put, List.setIfInBounds_toArray, List.set_cons_zero, List.set_cons_succ]
      refine wpList_run (by kernel_rfl) (.bool bi) V9 rfl ?_
      simp only [Act.put, List.setIfInBounds_toArray, List.set_cons_zero, List.set_cons_succ]
      refine wpList_run (by kernel_rfl) (.int .i64 (e4 : Int)) V9 rfl ?_
      simp only [Act.put, List.setIfInBounds_toArray, List.set_cons_zero, List.set_cons_succ]
      refine wpList_nil ?_
      obtain ⟨ds, hds⟩ : ∃ d, dstF ps qs = d := ⟨_, rfl⟩
      go_upto_region 17 with fail
      refine wp_region_lit ?_
      refine wpList_run (by kernel_rfl) (.bool true) V9 rfl ?_
      simp only [Act.put, List.setIfInBounds_toArray, List.set_cons_zero, List.set_cons_succ]
      refine wpList_run (by kernel_rfl) (.bool true) V9 rfl ?_
      simp only [Act.put, List.setIfInBounds_toArray, List.set_cons_zero, List.set_cons_succ]
      refine wpList_run (by kernel_rfl) (.slice Au N1 cu) V9 rfl ?_
      simp only [Act.put, List.setIfInBounds_toArray, List.set_cons_zero, List.set_cons_succ]
      refine wpList_run (by kernel_rfl) (.slice Av N1 cv) V9 rfl ?_
      simp only [Act.put, List.setIfInBounds_toArray, List.set_cons_zero, List.set_cons_succ]
      have C0_9 := Lib.hid (bel_step C0_8.out B8.out)
      refine wpList_call (by kernel_rfl) 17 Try.func17 (by kernel_rfl) (by kernel_rfl) _ _ #[.slice Au N1 cu, .slice Av N1 cv] rfl (by kernel_rfl) ?_
      refine (rsame_any Au N1 cu us Av N1 cv us (by omega) (by omega) V9 (Hu.out.keep C0_9.out) (Hv.out.keep C0_9.out)).mono ?_
      rintro e V10 ⟨rfl, hb⟩
      have B9 := Lib.hid hb
      rw [show decide (us = us) = true from decide_eq_true rfl]
      clear hb 
      refine ⟨_, rfl, ?_⟩
      simp only [Act.put, List.setIfInBounds_toArray, List.set_cons_zero, List.set_cons_succ]
      refine wpList_run (by kernel_rfl) (.bool true) V10 rfl ?_
      simp only [Act.put, List.setIfInBounds_toArray, List.set_cons_zero, List.set_cons_succ]
      refine wpList_run (by kernel_rfl) (.bool true) V10 rfl ?_
      simp only [Act.put, List.setIfInBounds_toArray, List.set_cons_zero, List.set_cons_succ]
      refine wpList_run (by kernel_rfl) (.int .i64 (e1 : Int)) V10 rfl ?_
      simp only [Act.put, List.setIfInBounds_toArray, List.set_cons_zero, List.set_cons_succ]
      refine wpList_run (by kernel_rfl) (.int .i64 (e1 : Int)) V10 rfl ?_
      simp only [Act.put, List.setIfInBounds_toArray, List.set_cons_zero, List.set_cons_succ]
      refine wpList_run (by kernel_rfl) (.bool true) V10 (xo_eqlT .i64 (e1 : Int) (e1 : Int) (by omega) rfl rfl rfl) ?_
      simp only [Act.put, List.setIfInBounds_toArray, List.set_cons_zero, List.set_cons_succ]
      refine wpList_run (by kernel_rfl) (.bool true) V10 rfl ?_
      simp only [Act.put, List.setIfInBounds_toArray, List.set_cons_zero, List.set_cons_succ]
      refine wpList_run (by kernel_rfl) (.bool true) V10 rfl ?_
      simp only [Act.put, List.setIfInBounds_toArray, List.set_cons_zero, List.set_cons_succ]
      refine wpList_run (by kernel_rfl) (.slice Am N2 cm) V10 rfl ?_
      simp only [Act.put, List.setIfInBounds_toArray, List.set_cons_zero, List.set_cons_succ]
      refine wpList_run (by kernel_rfl) (.slice An N2 cn) V10 rfl ?_
      simp only [Act.put, List.setIfInBounds_toArray, List.set_cons_zero, List.set_cons_succ]
      have C2_4 := Lib.hid (bel_step B2.out B3.out)
      have C2_5 := Lib.hid (bel_step C2_4.out B4.out)
      have C2_6 := Lib.hid (bel_step C2_5.out B5.out)
      have C2_7 := Lib.hid (bel_step C2_6.out B6.out)
      have C2_8 := Lib.hid (bel_step C2_7.out B7.out)
      have C2_9 := Lib.hid (bel_step C2_8.out B8.out)
      have C2_10 := Lib.hid (bel_step C2_9.out B9.out)
      have C3_5 := Lib.hid (bel_step B3.out B4.out)
      have C3_6 := Lib.hid (bel_step C3_5.out B5.out)
      have C3_7 := Lib.hid (bel_step C3_6.out B6.out)
      have C3_8 := Lib.hid (bel_step C3_7.out B7.out)
      have C3_9 := Lib.hid (bel_step C3_8.out B8.out)
      have C3_10 := Lib.hid (bel_step C3_9.out B9.out)
      refine wpList_call (by kernel_rfl) 18 Try.func18 (by kernel_rfl) (by kernel_rfl) _ _ #[.slice Am N2 cm, .slice An N2 cn] rfl (by kernel_rfl) ?_
      refine (J.same_yes Am N2 cm An N2 cn ux V10 (slOf (Hm.out.keep C2_10.out)) (slOf (Hn.out.keep C3_10.out))).mono ?_
      rintro e V11 ⟨rfl, hb⟩
      have B10 := Lib.hid hb
      clear hb 
      refine ⟨_, rfl, ?_⟩
      simp only [Act.put, List.setIfInBounds_toArray, List.set_cons_zero, List.set_cons_succ]
      refine wpList_run (by kernel_rfl) (.bool true) V11 rfl ?_
      simp only [Act.put, List.setIfInBounds_toArray, List.set_cons_zero, List.set_cons_succ]
      refine wpList_run (by kernel_rfl) (.bool true) V11 rfl ?_
      simp only [Act.put, List.setIfInBounds_toArray, List.set_cons_zero, List.set_cons_succ]
      refine wpList_run (by kernel_rfl) (.int .i64 (e2 : Int)) V11 rfl ?_
      simp only [Act.put, List.setIfInBounds_toArray, List.set_cons_zero, List.set_cons_succ]
      refine wpList_run (by kernel_rfl) (.int .i64 (e2 : Int)) V11 rfl ?_
      simp only [Act.put, List.setIfInBounds_toArray, List.set_cons_zero, List.set_cons_succ]
      refine wpList_run (by kernel_rfl) (.bool true) V11 (xo_eqlT .i64 (e2 : Int) (e2 : Int) (by omega) rfl rfl rfl) ?_
      simp only [Act.put, List.setIfInBounds_toArray, List.set_cons_zero, List.set_cons_succ]
      refine wpList_run (by kernel_rfl) (.bool true) V11 rfl ?_
      simp only [Act.put, List.setIfInBounds_toArray, List.set_cons_zero, List.set_cons_succ]
      refine wpList_run (by kernel_rfl) (.bool true) V11 rfl ?_
      simp only [Act.put, List.setIfInBounds_toArray, List.set_cons_zero, List.set_cons_succ]
      have C5_7 := Lib.hid (bel_step B5.out B6.out)
      have C5_8 := Lib.hid (bel_step C5_7.out B7.out)
      have C5_9 := Lib.hid (bel_step C5_8.out B8.out)
      have C5_10 := Lib.hid (bel_step C5_9.out B9.out)
      have C5_11 := Lib.hid (bel_step C5_10.out B10.out)
      refine wpList_run (by kernel_rfl) (.agg #[.int .u64 (Gold.vF vx.A), .int .u64 (Gold.vF vx.B)]) V11 (xo_loadW b22 _ (heap_keep Fv6_22.out C5_11.out) Try.underlying31 rfl (by kernel_rfl) rfl rfl) ?_
      simp only [Act.put, List.setIfInBounds_toArray, List.set_cons_zero, List.set_cons_succ]
      have C7_9 := Lib.hid (bel_step B7.out B8.out)
      have C7_10 := Lib.hid (bel_step C7_9.out B9.out)
      have C7_11 := Lib.hid (bel_step C7_10.out B10.out)
      refine wpList_run (by kernel_rfl) (.agg #[.int .u64 (Gold.vF vx.A), .int .u64 (Gold.vF vx.B)]) V11 (xo_loadW b24 _ (heap_keep Fv11_24.out C7_11.out) Try.underlying31 rfl (by kernel_rfl) rfl rfl) ?_
      simp only [Act.put, List.setIfInBounds_toArray, List.set_cons_zero, List.set_cons_succ]
      refine wpList_run (by kernel_rfl) (.bool true) V11 (exec_eqXt _ _ rfl rfl rfl) ?_
      simp only [Act.put, List.setIfInBounds_toArray, List.set_cons_zero, List.set_cons_succ]
      refine wpList_run (by kernel_rfl) (.bool true) V11 rfl ?_
      simp only [Act.put, List.setIfInBounds_toArray, List.set_cons_zero, List.set_cons_succ]
      refine wpList_run (by kernel_rfl) (.bool true) V11 rfl ?_
      simp only [Act.put, List.setIfInBounds_toArray, List.set_cons_zero, List.set_cons_succ]
      refine wpList_run (by kernel_rfl) (.int .i64 (e3 : Int)) V11 rfl ?_
      simp only [Act.put, List.setIfInBounds_toArray, List.set_cons_zero, List.set_cons_succ]
      refine wpList_run (by kernel_rfl) (.int .i64 (e3 : Int)) V11 rfl ?_
      simp only [Act.put, List.setIfInBounds_toArray, List.set_cons_zero, List.set_cons_succ]
      refine wpList_run (by kernel_rfl) (.bool true) V11 (xo_eqlT .i64 (e3 : Int) (e3 : Int) (by omega) rfl rfl rfl) ?_
      simp only [Act.put, List.setIfInBounds_toArray, List.set_cons_zero, List.set_cons_succ]
      refine wpList_run (by kernel_rfl) (.bool true) V11 rfl ?_
      simp only [Act.put, List.setIfInBounds_toArray, List.set_cons_zero, List.set_cons_succ]
      refine wpList_run (by kernel_rfl) (.bool true) V11 rfl ?_
      simp only [Act.put, List.setIfInBounds_toArray, List.set_cons_zero, List.set_cons_succ]
      refine wpList_run (by kernel_rfl) (.bool bi) V11 rfl ?_
      simp only [Act.put, List.setIfInBounds_toArray, List.set_cons_zero, List.set_cons_succ]
      refine wpList_run (by kernel_rfl) (.bool bi) V11 rfl ?_
      simp only [Act.put, List.setIfInBounds_toArray, List.set_cons_zero, List.set_cons_succ]
      refine wpList_run (by kernel_rfl) (.bool true) V11 (exec_eqBs bi Try.underlying4 rfl rfl rfl) ?_
      simp only [Act.put, List.setIfInBounds_toArray, List.set_cons_zero, List.set_cons_succ]
      refine wpList_run (by kernel_rfl) (.bool true) V11 rfl ?_
      simp only [Act.put, List.setIfInBounds_toArray, List.set_cons_zero, List.set_cons_succ]
      refine wpList_run (by kernel_rfl) (.bool true) V11 rfl ?_
      simp only [Act.put, List.setIfInBounds_toArray, List.set_cons_zero, List.set_cons_succ]
      refine wpList_run (by kernel_rfl) (.int .i64 (e4 : Int)) V11 rfl ?_
      simp only [Act.put, List.setIfInBounds_toArray, List.set_cons_zero, List.set_cons_succ]
      refine wpList_run (by kernel_rfl) (.int .i64 (e4 : Int)) V11 rfl ?_
      simp only [Act.put, List.setIfInBounds_toArray, List.set_cons_zero, List.set_cons_succ]
      refine wpList_run (by kernel_rfl) (.bool true) V11 (xo_eqlT .i64 (e4 : Int) (e4 : Int) (by omega) rfl rfl rfl) ?_
      simp only [Act.put, List.setIfInBounds_toArray, List.set_cons_zero, List.set_cons_succ]
      refine wpList_run (by kernel_rfl) (.bool true) V11 rfl ?_
      simp only [Act.put, List.setIfInBounds_toArray, List.set_cons_zero, List.set_cons_succ]
      refine wpList_run (by kernel_rfl) (.bool true) V11 rfl ?_
      simp only [Act.put, List.setIfInBounds_toArray, List.set_cons_zero, List.set_cons_succ]
      refine wpList_run (by kernel_rfl) (.slice Ap na cp) V11 rfl ?_
      simp only [Act.put, List.setIfInBounds_toArray, List.set_cons_zero, List.set_cons_succ]
      refine wpList_run (by kernel_rfl) (.slice Aq nb cq) V11 rfl ?_
      simp only [Act.put, List.setIfInBounds_toArray, List.set_cons_zero, List.set_cons_succ]
      have C0_10 := Lib.hid (bel_step C0_9.out B9.out)
      have C0_11 := Lib.hid (bel_step C0_10.out B10.out)
      refine wpList_call (by kernel_rfl) 19 Try.func19 (by kernel_rfl) (by kernel_rfl) _ _ #[.slice Ap na cp, .slice Aq nb cq] rfl (by kernel_rfl) ?_
      refine (distance_any Ap na cp ps Aq nb cq qs (by omega) (by omega) V11 (Hps.out.keep C0_11.out) (Hqs.out.keep C0_11.out)).mono ?_
      rintro e V12 ⟨rfl, hb⟩
      have B11 := Lib.hid hb
      rw [hds]
      clear hb 
      refine ⟨_, rfl, ?_⟩
      simp only [Act.put, List.setIfInBounds_toArray, List.set_cons_zero, List.set_cons_succ]
      refine wpList_run (by kernel_rfl) (.slice Ap na cp) V12 rfl ?_
      simp only [Act.put, List.setIfInBounds_toArray, List.set_cons_zero, List.set_cons_succ]
      refine wpList_run (by kernel_rfl) (.slice Aq nb cq) V12 rfl ?_
      simp only [Act.put, List.setIfInBounds_toArray, List.set_cons_zero, List.set_cons_succ]
      have C0_12 := Lib.hid (bel_step C0_11.out B11.out)
      refine wpList_call (by kernel_rfl) 20 Try.func20 (by kernel_rfl) (by kernel_rfl) _ _ #[.slice Ap na cp, .slice Aq nb cq] rfl (by kernel_rfl) ?_
      refine (rdistance_any Ap na cp ps Aq nb cq qs (by omega) (by omega) V12 (Hps.out.keep C0_12.out) (Hqs.out.keep C0_12.out)).mono ?_
      rintro e V13 ⟨rfl, hb⟩
      have B12 := Lib.hid hb
      rw [hds]
      clear hb 
      refine ⟨_, rfl, ?_⟩
      simp only [Act.put, List.setIfInBounds_toArray, List.set_cons_zero, List.set_cons_succ]
      refine wpList_run (by kernel_rfl) (.bool true) V13 (xo_eqlT .i64 (ds : Int) (ds : Int) (by omega) rfl rfl rfl) ?_
      simp only [Act.put, List.setIfInBounds_toArray, List.set_cons_zero, List.set_cons_succ]
      refine wpList_run (by kernel_rfl) (.bool true) V13 rfl ?_
      simp only [Act.put, List.setIfInBounds_toArray, List.set_cons_zero, List.set_cons_succ]
      refine wpList_run (by kernel_rfl) (.bool true) V13 rfl ?_
      simp only [Act.put, List.setIfInBounds_toArray, List.set_cons_zero, List.set_cons_succ]
      refine wpList_nil ?_
      go_wp2_with fail
      go_ret
      have C0_13 := Lib.hid (bel_step C0_12.out B12.out)
      exact ⟨rfl, HBV0.out.trans (C0_13.out.mono HBV0.out.size)⟩
end Go.Proofs.Ytkefijogpiofbaa
