/- A law of stage 9: ReedsolomonDecodesNearest. -/
import Derived.Test.YtnekndakipggbaaM14
namespace Go.Proofs.Ytnekndakipggbaa
set_option linter.unusedVariables false
set_option linter.unusedSimpArgs false
set_option linter.unusedSectionVars false
set_option maxRecDepth 8000
open Go.RowKit Go.Proofs.Ytnekndakipggbaa.K
attribute [local irreducible] wpList wpQuiet
theorem dst_cw {n M : Nat} {ys p : List Gold.F} (hn : n = 2 ^ M) (hy : ys.length = n) : dstF (Gold.cwF p M) ys = cntF (Gold.cwF p M) ys n := by
  have hl : (Gold.cwF p M).length = n := by unfold Gold.cwF; rw [Gold.tbF_length, hn]
  unfold dstF
  rw [hl, hy, Nat.max_self, Nat.min_self, Nat.sub_self, Nat.zero_add]
set_option maxRecDepth 100000 in
set_option maxHeartbeats 8000000 in
theorem shift_any (z L : Nat) (hz : z = 2 ^ L) (hL1 : 1 ≤ L) (hL3 : L ≤ 3) (w : World) : Calls Try.prog 28 #[.int .i64 (z : Int)] w fun e w' => e = .returned (.int .i64 (L : Int)) ∧ Below w.heap.size w w' := by
  have HZ := Lib.hid hz
  have hz8 : z ≤ 8 := by rw [hz]; exact (show 2 ^ L ≤ 2 ^ 3 from Nat.pow_le_pow_right (by omega) hL3)
  clear hz
  go_enter Try.func28, Try.ntmps28
  go_upto_region 1 with fail
  refine wp_region_lit ?_
  refine wpList_run (by kernel_rfl) (.int .i64 1) w rfl ?_
  simp only [Act.put, List.setIfInBounds_toArray, List.set_cons_zero, List.set_cons_succ]
  refine wpList_nil ?_
  have B0 := Lib.hid (Below.refl w.heap.size w)
  go_wp2_with fail
  go_loopw [3] (fun p wr => ∃ j : Nat, 1 ≤ j ∧ j ≤ L ∧ p = .int .i64 (j : Int) ∧ Below w.heap.size w wr) (fun p _ => L - (intOf p).toNat)
  case atStart => exact ⟨1, Nat.le_refl _, hL1, rfl, Below.refl _ _⟩
  case round =>
    obtain ⟨wo, rfl⟩ : ∃ wo : World, wo = wr := ⟨_, rfl⟩
    obtain ⟨j, hj1, hjL, rfl, hb0⟩ := hrel
    have hbr := hb0
    clear B0
    have B0 := Lib.hid hbr
    clear hbr
    clear hb0
    obtain ⟨pj, hpj⟩ : ∃ pj, 2 ^ j = pj := ⟨_, rfl⟩
    have hpjn : pj ≤ z := by rw [← hpj, HZ.out]; exact Nat.pow_le_pow_right (by omega) hjL
    by_cases hlt : pj < z
    · have hci1 : ((pj : Int) < (z : Int)) := by omega
      have hjM : j < L := by rcases Nat.lt_or_ge j L with h | h; exact h; exact absurd hlt (by have h2 : 2 ^ L ≤ 2 ^ j := Nat.pow_le_pow_right (by omega) h; rw [hpj, ← HZ.out] at h2; omega)
      go_upto_region 2 with fail
      refine wp_region_lit ?_
      refine wpList_run (by kernel_rfl) (.int .i64 (j : Int)) wo rfl ?_
      simp only [Act.put, List.setIfInBounds_toArray, List.set_cons_zero, List.set_cons_succ]
      refine wpList_run (by kernel_rfl) (.int .i64 (pj : Int)) wo (xo_shlI .i64 1 j pj (by rw [Nat.one_mul]; exact hpj) (by omega) rfl rfl rfl) ?_
      simp only [Act.put, List.setIfInBounds_toArray, List.set_cons_zero, List.set_cons_succ]
      refine wpList_run (by kernel_rfl) (.int .i64 (z : Int)) wo rfl ?_
      simp only [Act.put, List.setIfInBounds_toArray, List.set_cons_zero, List.set_cons_succ]
      refine wpList_run (by kernel_rfl) (.bool true) wo (xo_lssT .i64 (pj : Int) (z : Int) (by omega) rfl rfl rfl) ?_
      simp only [Act.put, List.setIfInBounds_toArray, List.set_cons_zero, List.set_cons_succ]
      refine wpList_nil ?_
      go_upto_region 3 with fail
      refine wp_region_lit ?_
      refine wpList_run (by kernel_rfl) (.int .i64 (j : Int)) wo rfl ?_
      simp only [Act.put, List.setIfInBounds_toArray, List.set_cons_zero, List.set_cons_succ]
      refine wpList_run (by kernel_rfl) (.int .i64 ((j + 1 : Nat) : Int)) wo (xo_addI (j : Int) 1 ((j + 1 : Nat) : Int) (by omega) (by omega) (by omega) rfl rfl rfl) ?_
      simp only [Act.put, List.setIfInBounds_toArray, List.set_cons_zero, List.set_cons_succ]
      refine wpList_run (by kernel_rfl) (.int .i64 ((j + 1 : Nat) : Int)) wo rfl ?_
      simp only [Act.put, List.setIfInBounds_toArray, List.set_cons_zero, List.set_cons_succ]
      refine wpList_nil ?_
      have hqb := B0.out
      go_wp2_with fail
      go_roundw
      case rel => exact ⟨j + 1, by omega, by omega, by go_num, hqb⟩
      case measure => simp [intOf]; omega
    · have hci1 : ¬ ((pj : Int) < (z : Int)) := by omega
      have hjM : L = j := by rcases Nat.lt_or_ge j L with h | h; exact absurd (show pj < z by rw [← hpj, HZ.out]; exact Nat.pow_lt_pow_right (by omega) h) hlt; omega
      subst hjM
      go_upto_region 2 with fail
      refine wp_region_lit ?_
      refine wpList_run (by kernel_rfl) (.int .i64 (L : Int)) wo rfl ?_
      simp only [Act.put, List.setIfInBounds_toArray, List.set_cons_zero, List.set_cons_succ]
      refine wpList_run (by kernel_rfl) (.int .i64 (pj : Int)) wo (xo_shlI .i64 1 L pj (by rw [Nat.one_mul]; exact hpj) (by omega) rfl rfl rfl) ?_
      simp only [Act.put, List.setIfInBounds_toArray, List.set_cons_zero, List.set_cons_succ]
      refine wpList_run (by kernel_rfl) (.int .i64 (z : Int)) wo rfl ?_
      simp only [Act.put, List.setIfInBounds_toArray, List.set_cons_zero, List.set_cons_succ]
      refine wpList_run (by kernel_rfl) (.bool false) wo (xo_lssF .i64 (pj : Int) (z : Int) (by omega) rfl rfl rfl) ?_
      simp only [Act.put, List.setIfInBounds_toArray, List.set_cons_zero, List.set_cons_succ]
      refine wpList_nil ?_
      go_upto_region 4 with fail
      refine wp_region_lit ?_
      refine wpList_run (by kernel_rfl) (.int .i64 (L : Int)) wo rfl ?_
      simp only [Act.put, List.setIfInBounds_toArray, List.set_cons_zero, List.set_cons_succ]
      refine wpList_run (by kernel_rfl) (.int .i64 (L : Int)) wo rfl ?_
      simp only [Act.put, List.setIfInBounds_toArray, List.set_cons_zero, List.set_cons_succ]
      refine wpList_nil ?_
      go_wp2_with fail
      go_ret
      exact ⟨rfl, B0.out⟩
set_option maxRecDepth 100000 in
set_option maxHeartbeats 16000000 in
theorem rNearest_any (A : Option Addr) (n1 c1 : Nat) (xs : List Nat) (D : Option Addr) (n3 c3 : Nat) (zs : List Nat) (E : Option Addr) (n2 c2 : Nat) (es : List (Nat × Nat)) (q : Nat) (hq : q < 256) (hbx : ∀ z ∈ xs, z < 18446744073709551616) (hby : ∀ z ∈ zs, z < 18446744073709551616) (hbe : ∀ e ∈ es, e.1 < 256 ∧ e.2 < 18446744073709551616) (w : World) (hX : Sg wdC 1 w A n1 c1 xs) (hY : Sg wdC 1 w D n3 c3 zs) (hE : Sg erC 2 w E n2 c2 es) :
    Calls Try.prog 8 #[.slice A n1 c1, .slice D n3 c3, .slice E n2 c2, .int .u8 (q : Int)] w fun e w' => e = .returned (.bool true) ∧ Below w.heap.size w w' := by
  have HX := Lib.hid hX
  have HY := Lib.hid hY
  have HE := Lib.hid hE
  have hc0 := hX.cap
  have ht0 := hX.top
  have HBX := Lib.hid hbx
  have HBY := Lib.hid hby
  have HBE := Lib.hid hbe
  clear hX hY hE hbx hby hbe
  go_enter Try.func8, Try.ntmps8
  go_upto_region 1 with fail
  refine wp_region_lit ?_
  refine wpList_call (by kernel_rfl) 11 Try.func11 (by kernel_rfl) (by kernel_rfl) _ _ #[] rfl (by kernel_rfl) ?_
  refine (sanity9_any w).mono ?_
  rintro e V1 ⟨rfl, hb⟩
  have B0 := Lib.hid hb
  clear hb 
  refine ⟨_, rfl, ?_⟩
  simp only [Act.put, List.setIfInBounds_toArray, List.set_cons_zero, List.set_cons_succ]
  refine wpList_run (by kernel_rfl) (.bool true) V1 rfl ?_
  simp only [Act.put, List.setIfInBounds_toArray, List.set_cons_zero, List.set_cons_succ]
  refine wpList_nil ?_
  obtain ⟨nn, hnn⟩ : ∃ nn, q / 16 % 4 = nn := ⟨_, rfl⟩
  have hnn5 : nn < 4 := by omega
  obtain ⟨N, hN⟩ : ∃ N, 2 ^ nn = N := ⟨_, rfl⟩
  have hN16 : N ≤ 16 := by rw [← hN]; exact (show 2 ^ nn ≤ 2 ^ 4 from Nat.pow_le_pow_right (by omega) (by omega))
  have HN := Lib.hid hN
  clear hN
  obtain ⟨L, hL⟩ : ∃ L, q % 3 + 1 = L := ⟨_, rfl⟩
  have hL1 : 1 ≤ L ∧ L ≤ 3 := by omega
  obtain ⟨z, hz⟩ : ∃ z, 2 ^ L = z := ⟨_, rfl⟩
  have hz8 : z ≤ 8 := by rw [← hz]; exact (show 2 ^ L ≤ 2 ^ 3 from Nat.pow_le_pow_right (by omega) (by omega))
  have hz2 : 2 ≤ z := by rw [← hz]; exact (show 2 ^ 1 ≤ 2 ^ L from Nat.pow_le_pow_right (by omega) (by omega))
  have HZ := Lib.hid hz
  have HLq := Lib.hid hL
  clear hz hL
  obtain ⟨M, hM⟩ : ∃ M, nn + L = M := ⟨_, rfl⟩
  have hM7 : M ≤ 7 := by omega
  obtain ⟨NN, hNN⟩ : ∃ NN, 2 ^ M = NN := ⟨_, rfl⟩
  have hNN7 : NN ≤ 128 := by rw [← hNN]; exact (show 2 ^ M ≤ 2 ^ 7 from Nat.pow_le_pow_right (by omega) hM7)
  have hzN : z * N = NN := by rw [← HZ.out, ← HN.out, ← hNN, ← hM, Nat.pow_add, Nat.mul_comm]
  have hNNN : N ≤ NN := by rw [← hzN]; exact Nat.le_mul_of_pos_left _ (by omega)
  have HNN := Lib.hid hNN
  have HMM := Lib.hid hM
  clear hNN hM
  go_upto_region 2 with fail
  refine wp_region_lit ?_
  refine wpList_run (by kernel_rfl) (.int .u8 (q : Int)) V1 rfl ?_
  simp only [Act.put, List.setIfInBounds_toArray, List.set_cons_zero, List.set_cons_succ]
  refine wpList_run (by kernel_rfl) (.int .u8 ((q / 16 : Nat) : Int)) V1 (xo_shrN .u8 .u64 q 4 (q / 16) (by decide) rfl rfl rfl rfl) ?_
  simp only [Act.put, List.setIfInBounds_toArray, List.set_cons_zero, List.set_cons_succ]
  refine wpList_run (by kernel_rfl) (.int .i64 ((q / 16 : Nat) : Int)) V1 (xo_cvt .u8 .i64 ((q / 16 : Nat) : Int) ((q / 16 : Nat) : Int) (by rw [IntKind.wrap_i64]; omega) Try.underlying3 Try.underlying5 rfl rfl) ?_
  simp only [Act.put, List.setIfInBounds_toArray, List.set_cons_zero, List.set_cons_succ]
  refine wpList_run (by kernel_rfl) (.int .i64 (nn : Int)) V1 (xo_remN .i64 (q / 16) 4 nn (by omega) hnn rfl rfl rfl) ?_
  simp only [Act.put, List.setIfInBounds_toArray, List.set_cons_zero, List.set_cons_succ]
  refine wpList_run (by kernel_rfl) (.int .i64 (nn : Int)) V1 rfl ?_
  simp only [Act.put, List.setIfInBounds_toArray, List.set_cons_zero, List.set_cons_succ]
  refine wpList_nil ?_
  go_upto_region 3 with fail
  refine wp_region_lit ?_
  refine wpList_run (by kernel_rfl) (.int .u8 (q : Int)) V1 rfl ?_
  simp only [Act.put, List.setIfInBounds_toArray, List.set_cons_zero, List.set_cons_succ]
  refine wpList_call (by kernel_rfl) 25 Try.func25 (by kernel_rfl) (by kernel_rfl) _ _ #[.int .u8 (q : Int)] rfl (by kernel_rfl) ?_
  refine (blowup_any q hq V1).mono ?_
  rintro e V2 ⟨rfl, hb⟩
  have B1 := Lib.hid hb
  rw [HLq.out, HZ.out]
  clear hb 
  refine ⟨_, rfl, ?_⟩
  simp only [Act.put, List.setIfInBounds_toArray, List.set_cons_zero, List.set_cons_succ]
  refine wpList_run (by kernel_rfl) (.int .i64 (z : Int)) V2 rfl ?_
  simp only [Act.put, List.setIfInBounds_toArray, List.set_cons_zero, List.set_cons_succ]
  refine wpList_nil ?_
  go_upto_region 4 with fail
  refine wp_region_lit ?_
  refine wpList_run (by kernel_rfl) (.slice D n3 c3) V2 rfl ?_
  simp only [Act.put, List.setIfInBounds_toArray, List.set_cons_zero, List.set_cons_succ]
  refine wpList_run (by kernel_rfl) (.int .i64 (nn : Int)) V2 rfl ?_
  simp only [Act.put, List.setIfInBounds_toArray, List.set_cons_zero, List.set_cons_succ]
  have C0_2 := Lib.hid (bel_step B0.out B1.out)
  refine wpList_call (by kernel_rfl) 26 Try.func26 (by kernel_rfl) (by kernel_rfl) _ _ #[.slice D n3 c3, .int .i64 (nn : Int)] rfl (by kernel_rfl) ?_
  refine (rmade_any D n3 c3 zs nn (by omega) HBY.out V2 (HY.out.keep C0_2.out)).mono ?_
  rintro e V3 ⟨Ap, cp, rfl, ho, hb⟩
  have B2 := Lib.hid hb
  have hs := Sg.ownS ho
  clear ho
  rw [HN.out] at hs ⊢
  obtain ⟨ps, hps⟩ : ∃ l, Gold.mdF zs N = l := ⟨_, rfl⟩
  rw [hps] at hs
  have hlps : ps.length = N := by rw [← hps]; exact Gold.mdF_length _ _
  clear hps
  have Hps := Lib.hid hs
  clear hb hs
  refine ⟨_, rfl, ?_⟩
  simp only [Act.put, List.setIfInBounds_toArray, List.set_cons_zero, List.set_cons_succ]
  refine wpList_run (by kernel_rfl) (.int .i64 (z : Int)) V3 rfl ?_
  simp only [Act.put, List.setIfInBounds_toArray, List.set_cons_zero, List.set_cons_succ]
  refine wpList_call (by kernel_rfl) 13 Try.func13 (by kernel_rfl) (by kernel_rfl) _ _ #[.slice Ap N cp, .int .i64 (z : Int)] rfl (by kernel_rfl) ?_
  refine (encodeN Ap N cp ps z nn L NN M HN.out.symm HZ.out.symm (by omega) (by omega) HMM.out (by omega) HNN.out.symm V3 Hps.out).mono ?_
  rintro e V4 ⟨gu, rfl, hs, hb⟩
  have B3 := Lib.hid hb
  have Hu := Lib.hid hs
  clear hb hs
  refine ⟨_, rfl, ?_⟩
  simp only [Act.put, List.setIfInBounds_toArray, List.set_cons_zero, List.set_cons_succ]
  refine wpList_run (by kernel_rfl) (.tuple #[.slice (some ⟨gu, 0, none⟩) NN NN, .int .i64 0]) V4 rfl ?_
  simp only [Act.put, List.setIfInBounds_toArray, List.set_cons_zero, List.set_cons_succ]
  refine wpList_run (by kernel_rfl) (.slice (some ⟨gu, 0, none⟩) NN NN) V4 rfl ?_
  simp only [Act.put, List.setIfInBounds_toArray, List.set_cons_zero, List.set_cons_succ]
  refine wpList_run (by kernel_rfl) (.int .i64 0) V4 rfl ?_
  simp only [Act.put, List.setIfInBounds_toArray, List.set_cons_zero, List.set_cons_succ]
  refine wpList_run (by kernel_rfl) (.slice (some ⟨gu, 0, none⟩) NN NN) V4 rfl ?_
  simp only [Act.put, List.setIfInBounds_toArray, List.set_cons_zero, List.set_cons_succ]
  refine wpList_run (by kernel_rfl) (.int .i64 0) V4 rfl ?_
  simp only [Act.put, List.setIfInBounds_toArray, List.set_cons_zero, List.set_cons_succ]
  refine wpList_nil ?_
  go_upto_region 5 with fail
  refine wp_region_lit ?_
  refine wpList_run (by kernel_rfl) (.slice (some ⟨gu, 0, none⟩) NN NN) V4 rfl ?_
  simp only [Act.put, List.setIfInBounds_toArray, List.set_cons_zero, List.set_cons_succ]
  refine wpList_run (by kernel_rfl) (.int .i64 (NN : Int)) V4 (xo_len (some ⟨gu, 0, none⟩) NN NN Try.underlying22 rfl rfl) ?_
  simp only [Act.put, List.setIfInBounds_toArray, List.set_cons_zero, List.set_cons_succ]
  refine wpList_run (by kernel_rfl) (.int .i64 (z : Int)) V4 rfl ?_
  simp only [Act.put, List.setIfInBounds_toArray, List.set_cons_zero, List.set_cons_succ]
  refine wpList_run (by kernel_rfl) (.int .i64 (nn : Int)) V4 rfl ?_
  simp only [Act.put, List.setIfInBounds_toArray, List.set_cons_zero, List.set_cons_succ]
  refine wpList_run (by kernel_rfl) (.int .i64 (NN : Int)) V4 (xo_shlI .i64 z nn NN (by rw [HN.out]; exact hzN) (by omega) rfl rfl rfl) ?_
  simp only [Act.put, List.setIfInBounds_toArray, List.set_cons_zero, List.set_cons_succ]
  refine wpList_run (by kernel_rfl) (.bool false) V4 (xo_neqF .i64 (NN : Int) (NN : Int) (by omega) rfl rfl rfl) ?_
  simp only [Act.put, List.setIfInBounds_toArray, List.set_cons_zero, List.set_cons_succ]
  refine wpList_nil ?_
  go_upto_region 7 with fail
  refine wp_region_lit ?_
  refine wpList_run (by kernel_rfl) (.slice (some ⟨gu, 0, none⟩) NN NN) V4 rfl ?_
  simp only [Act.put, List.setIfInBounds_toArray, List.set_cons_zero, List.set_cons_succ]
  refine wpList_run (by kernel_rfl) (.slice E n2 c2) V4 rfl ?_
  simp only [Act.put, List.setIfInBounds_toArray, List.set_cons_zero, List.set_cons_succ]
  refine wpList_run (by kernel_rfl) (.slice (some ⟨gu, 0, none⟩) NN NN) V4 rfl ?_
  simp only [Act.put, List.setIfInBounds_toArray, List.set_cons_zero, List.set_cons_succ]
  refine wpList_run (by kernel_rfl) (.int .i64 (NN : Int)) V4 (xo_len (some ⟨gu, 0, none⟩) NN NN Try.underlying22 rfl rfl) ?_
  simp only [Act.put, List.setIfInBounds_toArray, List.set_cons_zero, List.set_cons_succ]
  have C0_3 := Lib.hid (bel_step C0_2.out B2.out)
  have C0_4 := Lib.hid (bel_step C0_3.out B3.out)
  refine wpList_call (by kernel_rfl) 27 Try.func27 (by kernel_rfl) (by kernel_rfl) _ _ #[.slice (some ⟨gu, 0, none⟩) NN NN, .slice E n2 c2, .int .i64 (NN : Int)] rfl (by kernel_rfl) ?_
  refine (corrupt_any (some ⟨gu, 0, none⟩) NN NN (Gold.cwF ps M) E n2 c2 es NN (by omega) (by omega) HBE.out V4 Hu.out (HE.out.keep C0_4.out)).mono ?_
  rintro e V5 ⟨Aw, cw, ysw, cnt, rfl, hylw, hcn, hcm, ho, hb⟩
  have B4 := Lib.hid hb
  have hs := Sg.ownS ho
  clear ho hcn hcm
  have Hw := Lib.hid hs
  clear hb hs
  refine ⟨_, rfl, ?_⟩
  simp only [Act.put, List.setIfInBounds_toArray, List.set_cons_zero, List.set_cons_succ]
  refine wpList_run (by kernel_rfl) (.tuple #[.slice Aw NN cw, .int .i64 (cnt : Int)]) V5 rfl ?_
  simp only [Act.put, List.setIfInBounds_toArray, List.set_cons_zero, List.set_cons_succ]
  refine wpList_run (by kernel_rfl) (.slice Aw NN cw) V5 rfl ?_
  simp only [Act.put, List.setIfInBounds_toArray, List.set_cons_zero, List.set_cons_succ]
  refine wpList_run (by kernel_rfl) (.int .i64 (cnt : Int)) V5 rfl ?_
  simp only [Act.put, List.setIfInBounds_toArray, List.set_cons_zero, List.set_cons_succ]
  refine wpList_run (by kernel_rfl) (.slice Aw NN cw) V5 rfl ?_
  simp only [Act.put, List.setIfInBounds_toArray, List.set_cons_zero, List.set_cons_succ]
  refine wpList_run (by kernel_rfl) (.int .i64 (cnt : Int)) V5 rfl ?_
  simp only [Act.put, List.setIfInBounds_toArray, List.set_cons_zero, List.set_cons_succ]
  refine wpList_nil ?_
  by_cases hn10 : n1 > 0
  · have hci0 : ((n1 : Int) > 0) := by omega
    go_upto_region 8 with fail
    refine wp_region_lit ?_
    refine wpList_run (by kernel_rfl) (.slice A n1 c1) V5 rfl ?_
    simp only [Act.put, List.setIfInBounds_toArray, List.set_cons_zero, List.set_cons_succ]
    refine wpList_run (by kernel_rfl) (.int .i64 (n1 : Int)) V5 (xo_len A n1 c1 Try.underlying22 rfl rfl) ?_
    simp only [Act.put, List.setIfInBounds_toArray, List.set_cons_zero, List.set_cons_succ]
    refine wpList_run (by kernel_rfl) (.bool true) V5 (xo_gtrT .i64 (n1 : Int) 0 (by omega) rfl rfl rfl) ?_
    simp only [Act.put, List.setIfInBounds_toArray, List.set_cons_zero, List.set_cons_succ]
    refine wpList_nil ?_
    go_upto_region 9 with fail
    refine wp_region_lit ?_
    refine wpList_run (by kernel_rfl) (.slice A n1 c1) V5 rfl ?_
    simp only [Act.put, List.setIfInBounds_toArray, List.set_cons_zero, List.set_cons_succ]
    refine wpList_run (by kernel_rfl) (.int .i64 (nn : Int)) V5 rfl ?_
    simp only [Act.put, List.setIfInBounds_toArray, List.set_cons_zero, List.set_cons_succ]
    refine wpList_run (by kernel_rfl) (.int .i64 (z : Int)) V5 rfl ?_
    simp only [Act.put, List.setIfInBounds_toArray, List.set_cons_zero, List.set_cons_succ]
    refine wpList_call (by kernel_rfl) 28 Try.func28 (by kernel_rfl) (by kernel_rfl) _ _ #[.int .i64 (z : Int)] rfl (by kernel_rfl) ?_
    refine (shift_any z L HZ.out.symm (by omega) (by omega) V5).mono ?_
    rintro e V6 ⟨rfl, hb⟩
    have B5 := Lib.hid hb
    clear hb 
    refine ⟨_, rfl, ?_⟩
    simp only [Act.put, List.setIfInBounds_toArray, List.set_cons_zero, List.set_cons_succ]
    refine wpList_run (by kernel_rfl) (.int .i64 (M : Int)) V6 (xo_addI (nn : Int) (L : Int) (M : Int) (by have := HMM.out; omega) (by omega) (by omega) rfl rfl rfl) ?_
    simp only [Act.put, List.setIfInBounds_toArray, List.set_cons_zero, List.set_cons_succ]
    have C0_5 := Lib.hid (bel_step C0_4.out B4.out)
    have C0_6 := Lib.hid (bel_step C0_5.out B5.out)
    refine wpList_call (by kernel_rfl) 26 Try.func26 (by kernel_rfl) (by kernel_rfl) _ _ #[.slice A n1 c1, .int .i64 (M : Int)] rfl (by kernel_rfl) ?_
    refine (rmade_any A n1 c1 xs M (by omega) HBX.out V6 (HX.out.keep C0_6.out)).mono ?_
    rintro e V7 ⟨Az, cz, rfl, ho, hb⟩
    have B6 := Lib.hid hb
    have hs := Sg.ownS ho
    clear ho
    rw [HNN.out] at hs ⊢
    obtain ⟨wsl, hwsl⟩ : ∃ l, Gold.mdF xs NN = l := ⟨_, rfl⟩
    rw [hwsl] at hs
    have hlws : wsl.length = NN := by rw [← hwsl]; exact Gold.mdF_length _ _
    clear hwsl
    have Hws := Lib.hid hs
    clear hb hs
    refine ⟨_, rfl, ?_⟩
    simp only [Act.put, List.setIfInBounds_toArray, List.set_cons_zero, List.set_cons_succ]
    refine wpList_run (by kernel_rfl) (.slice Az NN cz) V7 rfl ?_
    simp only [Act.put, List.setIfInBounds_toArray, List.set_cons_zero, List.set_cons_succ]
    refine wpList_nil ?_
    obtain ⟨t, ht⟩ : ∃ t, (NN - N) / 2 = t := ⟨_, rfl⟩
    have htl : t ≤ 128 := by omega
    have HT := Lib.hid ht
    go_upto_region 10 with fail
    refine wp_region_lit ?_
    refine wpList_run (by kernel_rfl) (.int .i64 (nn : Int)) V7 rfl ?_
    simp only [Act.put, List.setIfInBounds_toArray, List.set_cons_zero, List.set_cons_succ]
    refine wpList_run (by kernel_rfl) (.int .i64 (N : Int)) V7 (xo_shlI .i64 1 nn N (by rw [Nat.one_mul]; exact HN.out) (by omega) rfl rfl rfl) ?_
    simp only [Act.put, List.setIfInBounds_toArray, List.set_cons_zero, List.set_cons_succ]
    refine wpList_run (by kernel_rfl) (.int .i64 (z : Int)) V7 rfl ?_
    simp only [Act.put, List.setIfInBounds_toArray, List.set_cons_zero, List.set_cons_succ]
    refine wpList_call (by kernel_rfl) 39 Try.func39 (by kernel_rfl) (by kernel_rfl) _ _ #[.int .i64 (N : Int), .int .i64 (z : Int)] rfl (by kernel_rfl) ?_
    refine (minDistance_any N z (by omega) (by rw [hzN]; omega) V7).mono ?_
    rintro e V8 ⟨rfl, hb⟩
    have B7 := Lib.hid hb
    rw [hzN]
    clear hb 
    refine ⟨_, rfl, ?_⟩
    simp only [Act.put, List.setIfInBounds_toArray, List.set_cons_zero, List.set_cons_succ]
    refine wpList_run (by kernel_rfl) (.int .i64 ((NN - N : Nat) : Int)) V8 (xo_subI ((NN - N + 1 : Nat) : Int) 1 ((NN - N : Nat) : Int) (by omega) (by omega) (by omega) rfl rfl rfl) ?_
    simp only [Act.put, List.setIfInBounds_toArray, List.set_cons_zero, List.set_cons_succ]
    refine wpList_run (by kernel_rfl) (.int .i64 (t : Int)) V8 (xo_quoN .i64 (NN - N) 2 t (by omega) ht (by rw [IntKind.wrap_i64]; omega) rfl rfl rfl) ?_
    simp only [Act.put, List.setIfInBounds_toArray, List.set_cons_zero, List.set_cons_succ]
    refine wpList_run (by kernel_rfl) (.int .i64 (t : Int)) V8 rfl ?_
    simp only [Act.put, List.setIfInBounds_toArray, List.set_cons_zero, List.set_cons_succ]
    refine wpList_nil ?_
    go_upto_region 11 with fail
    refine wp_region_lit ?_
    refine wpList_run (by kernel_rfl) (.slice Az NN cz) V8 rfl ?_
    simp only [Act.put, List.setIfInBounds_toArray, List.set_cons_zero, List.set_cons_succ]
    refine wpList_run (by kernel_rfl) (.int .i64 (z : Int)) V8 rfl ?_
    simp only [Act.put, List.setIfInBounds_toArray, List.set_cons_zero, List.set_cons_succ]
    refine wpList_call (by kernel_rfl) 29 Try.func29 (by kernel_rfl) (by kernel_rfl) _ _ #[.slice Az NN cz, .int .i64 (z : Int)] rfl (by kernel_rfl) ?_
    refine (decodeN Az NN cz wsl z nn L N M HNN.out.symm HMM.out HZ.out.symm (by omega) (by omega) (by omega) HN.out V8 (Hws.out.keep B7.out)).mono ?_
    rintro e V9 ⟨vd, dd, er, rfl, hcase, hb⟩
    have B8 := Lib.hid hb
    clear hb 
    refine ⟨_, rfl, ?_⟩
    simp only [Act.put, List.setIfInBounds_toArray, List.set_cons_zero, List.set_cons_succ]
    refine wpList_run (by kernel_rfl) (.tuple #[vd, .int .i64 (dd : Int), .int .i64 (er : Int)]) V9 rfl ?_
    simp only [Act.put, List.setIfInBounds_toArray, List.set_cons_zero, List.set_cons_succ]
    refine wpList_run (by kernel_rfl) (vd) V9 rfl ?_
    simp only [Act.put, List.setIfInBounds_toArray, List.set_cons_zero, List.set_cons_succ]
    refine wpList_run (by kernel_rfl) (.int .i64 (dd : Int)) V9 rfl ?_
    simp only [Act.put, List.setIfInBounds_toArray, List.set_cons_zero, List.set_cons_succ]
    refine wpList_run (by kernel_rfl) (.int .i64 (er : Int)) V9 rfl ?_
    simp only [Act.put, List.setIfInBounds_toArray, List.set_cons_zero, List.set_cons_succ]
    refine wpList_run (by kernel_rfl) (vd) V9 rfl ?_
    simp only [Act.put, List.setIfInBounds_toArray, List.set_cons_zero, List.set_cons_succ]
    refine wpList_run (by kernel_rfl) (.int .i64 (dd : Int)) V9 rfl ?_
    simp only [Act.put, List.setIfInBounds_toArray, List.set_cons_zero, List.set_cons_succ]
    refine wpList_run (by kernel_rfl) (.int .i64 (er : Int)) V9 rfl ?_
    simp only [Act.put, List.setIfInBounds_toArray, List.set_cons_zero, List.set_cons_succ]
    refine wpList_nil ?_
    rcases hcase with ⟨rfl, f, hft, hfl, hfd, hdd, gv, rfl, hs⟩ | ⟨rfl, rfl, rfl, hno⟩
    · obtain ⟨row, hrow⟩ : ∃ row, Gold.tbF N (Gold.cfF f) = row := ⟨_, rfl⟩
      rw [hrow] at hs
      have HD := Lib.hid hs
      clear hs
      have HRW := Lib.hid hrow
      clear hrow
      go_upto_region 12 with fail
      refine wp_region_lit ?_
      refine wpList_run (by kernel_rfl) (.int .i64 0) V9 rfl ?_
      simp only [Act.put, List.setIfInBounds_toArray, List.set_cons_zero, List.set_cons_succ]
      refine wpList_run (by kernel_rfl) (.bool false) V9 (xo_neqF .i64 0 0 (by omega) rfl rfl rfl) ?_
      simp only [Act.put, List.setIfInBounds_toArray, List.set_cons_zero, List.set_cons_succ]
      refine wpList_nil ?_
      go_upto_region 14 with fail
      refine wp_region_lit ?_
      refine wpList_run (by kernel_rfl) (.slice (some ⟨gv, 0, none⟩) N N) V9 rfl ?_
      simp only [Act.put, List.setIfInBounds_toArray, List.set_cons_zero, List.set_cons_succ]
      refine wpList_run (by kernel_rfl) (.int .i64 (z : Int)) V9 rfl ?_
      simp only [Act.put, List.setIfInBounds_toArray, List.set_cons_zero, List.set_cons_succ]
      refine wpList_call (by kernel_rfl) 13 Try.func13 (by kernel_rfl) (by kernel_rfl) _ _ #[.slice (some ⟨gv, 0, none⟩) N N, .int .i64 (z : Int)] rfl (by kernel_rfl) ?_
      refine (encodeN (some ⟨gv, 0, none⟩) N N row z nn L NN M HN.out.symm HZ.out.symm (by omega) (by omega) HMM.out (by omega) HNN.out.symm V9 HD.out).mono ?_
      rintro e V10 ⟨gw, rfl, hs, hb⟩
      have B9 := Lib.hid hb
      have Hv := Lib.hid hs
      clear hb hs
      refine ⟨_, rfl, ?_⟩
      simp only [Act.put, List.setIfInBounds_toArray, List.set_cons_zero, List.set_cons_succ]
      refine wpList_run (by kernel_rfl) (.tuple #[.slice (some ⟨gw, 0, none⟩) NN NN, .int .i64 0]) V10 rfl ?_
      simp only [Act.put, List.setIfInBounds_toArray, List.set_cons_zero, List.set_cons_succ]
      refine wpList_run (by kernel_rfl) (.slice (some ⟨gw, 0, none⟩) NN NN) V10 rfl ?_
      simp only [Act.put, List.setIfInBounds_toArray, List.set_cons_zero, List.set_cons_succ]
      refine wpList_run (by kernel_rfl) (.int .i64 0) V10 rfl ?_
      simp only [Act.put, List.setIfInBounds_toArray, List.set_cons_zero, List.set_cons_succ]
      refine wpList_run (by kernel_rfl) (.slice (some ⟨gw, 0, none⟩) NN NN) V10 rfl ?_
      simp only [Act.put, List.setIfInBounds_toArray, List.set_cons_zero, List.set_cons_succ]
      refine wpList_run (by kernel_rfl) (.int .i64 0) V10 rfl ?_
      simp only [Act.put, List.setIfInBounds_toArray, List.set_cons_zero, List.set_cons_succ]
      refine wpList_nil ?_
      have hds : dstF (Gold.cwF row M) wsl = dd := by rw [dst_cw HNN.out.symm hlws, hdd, ← HRW.out, ← differ_cw HNN.out.symm]; exact congrArg List.length (Gold.differ_congr (evL_pad hfl))
      have hddt : dd ≤ t := by rw [hdd, ← HT.out]; exact hfd
      have hci1 : ((dd : Int) ≤ (t : Int)) := by omega
      go_upto_region 15 with fail
      refine wp_region_lit ?_
      refine wpList_run (by kernel_rfl) (.bool true) V10 rfl ?_
      simp only [Act.put, List.setIfInBounds_toArray, List.set_cons_zero, List.set_cons_succ]
      refine wpList_run (by kernel_rfl) (.bool true) V10 rfl ?_
      simp only [Act.put, List.setIfInBounds_toArray, List.set_cons_zero, List.set_cons_succ]
      refine wpList_run (by kernel_rfl) (.int .i64 0) V10 rfl ?_
      simp only [Act.put, List.setIfInBounds_toArray, List.set_cons_zero, List.set_cons_succ]
      refine wpList_run (by kernel_rfl) (.bool true) V10 (xo_eqlT .i64 0 0 (by omega) rfl rfl rfl) ?_
      simp only [Act.put, List.setIfInBounds_toArray, List.set_cons_zero, List.set_cons_succ]
      refine wpList_run (by kernel_rfl) (.bool true) V10 rfl ?_
      simp only [Act.put, List.setIfInBounds_toArray, List.set_cons_zero, List.set_cons_succ]
      refine wpList_run (by kernel_rfl) (.bool true) V10 rfl ?_
      simp only [Act.put, List.setIfInBounds_toArray, List.set_cons_zero, List.set_cons_succ]
      refine wpList_run (by kernel_rfl) (.slice (some ⟨gv, 0, none⟩) N N) V10 rfl ?_
      simp only [Act.put, List.setIfInBounds_toArray, List.set_cons_zero, List.set_cons_succ]
      refine wpList_run (by kernel_rfl) (.int .i64 (N : Int)) V10 (xo_len (some ⟨gv, 0, none⟩) N N Try.underlying22 rfl rfl) ?_
      simp only [Act.put, List.setIfInBounds_toArray, List.set_cons_zero, List.set_cons_succ]
      refine wpList_run (by kernel_rfl) (.int .i64 (nn : Int)) V10 rfl ?_
      simp only [Act.put, List.setIfInBounds_toArray, List.set_cons_zero, List.set_cons_succ]
      refine wpList_run (by kernel_rfl) (.int .i64 (N : Int)) V10 (xo_shlI .i64 1 nn N (by rw [Nat.one_mul]; exact HN.out) (by omega) rfl rfl rfl) ?_
      simp only [Act.put, List.setIfInBounds_toArray, List.set_cons_zero, List.set_cons_succ]
      refine wpList_run (by kernel_rfl) (.bool true) V10 (xo_eqlT .i64 (N : Int) (N : Int) (by omega) rfl rfl rfl) ?_
      simp only [Act.put, List.setIfInBounds_toArray, List.set_cons_zero, List.set_cons_succ]
      refine wpList_run (by kernel_rfl) (.bool true) V10 rfl ?_
      simp only [Act.put, List.setIfInBounds_toArray, List.set_cons_zero, List.set_cons_succ]
      refine wpList_run (by kernel_rfl) (.bool true) V10 rfl ?_
      simp only [Act.put, List.setIfInBounds_toArray, List.set_cons_zero, List.set_cons_succ]
      refine wpList_run (by kernel_rfl) (.slice (some ⟨gw, 0, none⟩) NN NN) V10 rfl ?_
      simp only [Act.put, List.setIfInBounds_toArray, List.set_cons_zero, List.set_cons_succ]
      refine wpList_run (by kernel_rfl) (.slice Az NN cz) V10 rfl ?_
      simp only [Act.put, List.setIfInBounds_toArray, List.set_cons_zero, List.set_cons_succ]
      have C7_9 := Lib.hid (bel_step B7.out B8.out)
      have C7_10 := Lib.hid (bel_step C7_9.out B9.out)
      refine wpList_call (by kernel_rfl) 23 Try.func23 (by kernel_rfl) (by kernel_rfl) _ _ #[.slice (some ⟨gw, 0, none⟩) NN NN, .slice Az NN cz] rfl (by kernel_rfl) ?_
      refine (distance_any (some ⟨gw, 0, none⟩) NN NN (Gold.cwF row M) Az NN cz wsl (by omega) (by omega) V10 Hv.out (Hws.out.keep C7_10.out)).mono ?_
      rintro e V11 ⟨rfl, hb⟩
      have B10 := Lib.hid hb
      rw [hds]
      clear hb 
      refine ⟨_, rfl, ?_⟩
      simp only [Act.put, List.setIfInBounds_toArray, List.set_cons_zero, List.set_cons_succ]
      refine wpList_run (by kernel_rfl) (.int .i64 (dd : Int)) V11 rfl ?_
      simp only [Act.put, List.setIfInBounds_toArray, List.set_cons_zero, List.set_cons_succ]
      refine wpList_run (by kernel_rfl) (.bool true) V11 (xo_eqlT .i64 (dd : Int) (dd : Int) (by omega) rfl rfl rfl) ?_
      simp only [Act.put, List.setIfInBounds_toArray, List.set_cons_zero, List.set_cons_succ]
      refine wpList_run (by kernel_rfl) (.bool true) V11 rfl ?_
      simp only [Act.put, List.setIfInBounds_toArray, List.set_cons_zero, List.set_cons_succ]
      refine wpList_run (by kernel_rfl) (.bool true) V11 rfl ?_
      simp only [Act.put, List.setIfInBounds_toArray, List.set_cons_zero, List.set_cons_succ]
      refine wpList_run (by kernel_rfl) (.int .i64 (dd : Int)) V11 rfl ?_
      simp only [Act.put, List.setIfInBounds_toArray, List.set_cons_zero, List.set_cons_succ]
      refine wpList_run (by kernel_rfl) (.int .i64 (t : Int)) V11 rfl ?_
      simp only [Act.put, List.setIfInBounds_toArray, List.set_cons_zero, List.set_cons_succ]
      refine wpList_run (by kernel_rfl) (.bool true) V11 (xo_leqT .i64 (dd : Int) (t : Int) (by omega) rfl rfl rfl) ?_
      simp only [Act.put, List.setIfInBounds_toArray, List.set_cons_zero, List.set_cons_succ]
      refine wpList_run (by kernel_rfl) (.bool true) V11 rfl ?_
      simp only [Act.put, List.setIfInBounds_toArray, List.set_cons_zero, List.set_cons_succ]
      refine wpList_run (by kernel_rfl) (.bool true) V11 rfl ?_
      simp only [Act.put, List.setIfInBounds_toArray, List.set_cons_zero, List.set_cons_succ]
      refine wpList_nil ?_
      go_wp2_with fail
      go_ret
      have C0_7 := Lib.hid (bel_step C0_6.out B6.out)
      have C0_8 := Lib.hid (bel_step C0_7.out B7.out)
      have C0_9 := Lib.hid (bel_step C0_8.out B8.out)
      have C0_10 := Lib.hid (bel_step C0_9.out B9.out)
      have C0_11 := Lib.hid (bel_step C0_10.out B10.out)
      exact ⟨rfl, C0_11.out⟩
    · go_upto_region 12 with fail
      refine wp_region_lit ?_
      refine wpList_run (by kernel_rfl) (.int .i64 4) V9 rfl ?_
      simp only [Act.put, List.setIfInBounds_toArray, List.set_cons_zero, List.set_cons_succ]
      refine wpList_run (by kernel_rfl) (.bool true) V9 (xo_neqT .i64 4 0 (by omega) rfl rfl rfl) ?_
      simp only [Act.put, List.setIfInBounds_toArray, List.set_cons_zero, List.set_cons_succ]
      refine wpList_nil ?_
      obtain ⟨ds, hds⟩ : ∃ ds, dstF (Gold.cwF ps M) wsl = ds := ⟨_, rfl⟩
      have hgt : t < ds := by rw [← hds, dst_cw HNN.out.symm hlws, ← differ_cw HNN.out.symm, ← HT.out]; exact hno ps (Nat.le_of_eq hlps)
      have hdsl : ds ≤ 128 := by rw [← hds, dst_cw HNN.out.symm hlws]; exact Nat.le_trans (cntF_le _ _ _) hNN7
      have hci1 : ((ds : Int) > (t : Int)) := by omega
      go_upto_region 13 with fail
      refine wp_region_lit ?_
      refine wpList_run (by kernel_rfl) (.bool true) V9 rfl ?_
      simp only [Act.put, List.setIfInBounds_toArray, List.set_cons_zero, List.set_cons_succ]
      refine wpList_run (by kernel_rfl) (.bool true) V9 rfl ?_
      simp only [Act.put, List.setIfInBounds_toArray, List.set_cons_zero, List.set_cons_succ]
      refine wpList_run (by kernel_rfl) (.int .i64 4) V9 rfl ?_
      simp only [Act.put, List.setIfInBounds_toArray, List.set_cons_zero, List.set_cons_succ]
      refine wpList_run (by kernel_rfl) (.bool true) V9 (xo_eqlT .i64 4 4 (by omega) rfl rfl rfl) ?_
      simp only [Act.put, List.setIfInBounds_toArray, List.set_cons_zero, List.set_cons_succ]
      refine wpList_run (by kernel_rfl) (.bool true) V9 rfl ?_
      simp only [Act.put, List.setIfInBounds_toArray, List.set_cons_zero, List.set_cons_succ]
      refine wpList_run (by kernel_rfl) (.bool true) V9 rfl ?_
      simp only [Act.put, List.setIfInBounds_toArray, List.set_cons_zero, List.set_cons_succ]
      refine wpList_run (by kernel_rfl) (.slice none 0 0) V9 rfl ?_
      simp only [Act.put, List.setIfInBounds_toArray, List.set_cons_zero, List.set_cons_succ]
      refine wpList_run (by kernel_rfl) (.int .i64 0) V9 (xo_len none 0 0 Try.underlying22 rfl rfl) ?_
      simp only [Act.put, List.setIfInBounds_toArray, List.set_cons_zero, List.set_cons_succ]
      refine wpList_run (by kernel_rfl) (.bool true) V9 (xo_eqlT .i64 0 0 (by omega) rfl rfl rfl) ?_
      simp only [Act.put, List.setIfInBounds_toArray, List.set_cons_zero, List.set_cons_succ]
      refine wpList_run (by kernel_rfl) (.bool true) V9 rfl ?_
      simp only [Act.put, List.setIfInBounds_toArray, List.set_cons_zero, List.set_cons_succ]
      refine wpList_run (by kernel_rfl) (.bool true) V9 rfl ?_
      simp only [Act.put, List.setIfInBounds_toArray, List.set_cons_zero, List.set_cons_succ]
      refine wpList_run (by kernel_rfl) (.int .i64 0) V9 rfl ?_
      simp only [Act.put, List.setIfInBounds_toArray, List.set_cons_zero, List.set_cons_succ]
      refine wpList_run (by kernel_rfl) (.bool true) V9 (xo_eqlT .i64 0 0 (by omega) rfl rfl rfl) ?_
      simp only [Act.put, List.setIfInBounds_toArray, List.set_cons_zero, List.set_cons_succ]
      refine wpList_run (by kernel_rfl) (.bool true) V9 rfl ?_
      simp only [Act.put, List.setIfInBounds_toArray, List.set_cons_zero, List.set_cons_succ]
      refine wpList_run (by kernel_rfl) (.bool true) V9 rfl ?_
      simp only [Act.put, List.setIfInBounds_toArray, List.set_cons_zero, List.set_cons_succ]
      refine wpList_run (by kernel_rfl) (.slice (some ⟨gu, 0, none⟩) NN NN) V9 rfl ?_
      simp only [Act.put, List.setIfInBounds_toArray, List.set_cons_zero, List.set_cons_succ]
      refine wpList_run (by kernel_rfl) (.slice Az NN cz) V9 rfl ?_
      simp only [Act.put, List.setIfInBounds_toArray, List.set_cons_zero, List.set_cons_succ]
      have C4_6 := Lib.hid (bel_step B4.out B5.out)
      have C4_7 := Lib.hid (bel_step C4_6.out B6.out)
      have C4_8 := Lib.hid (bel_step C4_7.out B7.out)
      have C4_9 := Lib.hid (bel_step C4_8.out B8.out)
      have C7_9 := Lib.hid (bel_step B7.out B8.out)
      refine wpList_call (by kernel_rfl) 23 Try.func23 (by kernel_rfl) (by kernel_rfl) _ _ #[.slice (some ⟨gu, 0, none⟩) NN NN, .slice Az NN cz] rfl (by kernel_rfl) ?_
      refine (distance_any (some ⟨gu, 0, none⟩) NN NN (Gold.cwF ps M) Az NN cz wsl (by omega) (by omega) V9 (Hu.out.keep C4_9.out) (Hws.out.keep C7_9.out)).mono ?_
      rintro e V10 ⟨rfl, hb⟩
      have B9 := Lib.hid hb
      rw [hds]
      clear hb 
      refine ⟨_, rfl, ?_⟩
      simp only [Act.put, List.setIfInBounds_toArray, List.set_cons_zero, List.set_cons_succ]
      refine wpList_run (by kernel_rfl) (.int .i64 (t : Int)) V10 rfl ?_
      simp only [Act.put, List.setIfInBounds_toArray, List.set_cons_zero, List.set_cons_succ]
      refine wpList_run (by kernel_rfl) (.bool true) V10 (xo_gtrT .i64 (ds : Int) (t : Int) (by omega) rfl rfl rfl) ?_
      simp only [Act.put, List.setIfInBounds_toArray, List.set_cons_zero, List.set_cons_succ]
      refine wpList_run (by kernel_rfl) (.bool true) V10 rfl ?_
      simp only [Act.put, List.setIfInBounds_toArray, List.set_cons_zero, List.set_cons_succ]
      refine wpList_run (by kernel_rfl) (.bool true) V10 rfl ?_
      simp only [Act.put, List.setIfInBounds_toArray, List.set_cons_zero, List.set_cons_succ]
      refine wpList_nil ?_
      go_wp2_with fail
      go_ret
      have C0_7 := Lib.hid (bel_step C0_6.out B6.out)
      have C0_8 := Lib.hid (bel_step C0_7.out B7.out)
      have C0_9 := Lib.hid (bel_step C0_8.out B8.out)
      have C0_10 := Lib.hid (bel_step C0_9.out B9.out)
      exact ⟨rfl, C0_10.out⟩
  · have hci0 : ¬ ((n1 : Int) > 0) := by omega
    go_upto_region 8 with fail
    refine wp_region_lit ?_
    refine wpList_run (by kernel_rfl) (.slice A n1 c1) V5 rfl ?_
    simp only [Act.put, List.setIfInBounds_toArray, List.set_cons_zero, List.set_cons_succ]
    refine wpList_run (by kernel_rfl) (.int .i64 (n1 : Int)) V5 (xo_len A n1 c1 Try.underlying22 rfl rfl) ?_
    simp only [Act.put, List.setIfInBounds_toArray, List.set_cons_zero, List.set_cons_succ]
    refine wpList_run (by kernel_rfl) (.bool false) V5 (xo_gtrF .i64 (n1 : Int) 0 (by omega) rfl rfl rfl) ?_
    simp only [Act.put, List.setIfInBounds_toArray, List.set_cons_zero, List.set_cons_succ]
    refine wpList_nil ?_
    obtain ⟨t, ht⟩ : ∃ t, (NN - N) / 2 = t := ⟨_, rfl⟩
    have htl : t ≤ 128 := by omega
    have HT := Lib.hid ht
    go_upto_region 10 with fail
    refine wp_region_lit ?_
    refine wpList_run (by kernel_rfl) (.int .i64 (nn : Int)) V5 rfl ?_
    simp only [Act.put, List.setIfInBounds_toArray, List.set_cons_zero, List.set_cons_succ]
    refine wpList_run (by kernel_rfl) (.int .i64 (N : Int)) V5 (xo_shlI .i64 1 nn N (by rw [Nat.one_mul]; exact HN.out) (by omega) rfl rfl rfl) ?_
    simp only [Act.put, List.setIfInBounds_toArray, List.set_cons_zero, List.set_cons_succ]
    refine wpList_run (by kernel_rfl) (.int .i64 (z : Int)) V5 rfl ?_
    simp only [Act.put, List.setIfInBounds_toArray, List.set_cons_zero, List.set_cons_succ]
    refine wpList_call (by kernel_rfl) 39 Try.func39 (by kernel_rfl) (by kernel_rfl) _ _ #[.int .i64 (N : Int), .int .i64 (z : Int)] rfl (by kernel_rfl) ?_
    refine (minDistance_any N z (by omega) (by rw [hzN]; omega) V5).mono ?_
    rintro e V6 ⟨rfl, hb⟩
    have B5 := Lib.hid hb
    rw [hzN]
    clear hb 
    refine ⟨_, rfl, ?_⟩
    simp only [Act.put, List.setIfInBounds_toArray, List.set_cons_zero, List.set_cons_succ]
    refine wpList_run (by kernel_rfl) (.int .i64 ((NN - N : Nat) : Int)) V6 (xo_subI ((NN - N + 1 : Nat) : Int) 1 ((NN - N : Nat) : Int) (by omega) (by omega) (by omega) rfl rfl rfl) ?_
    simp only [Act.put, List.setIfInBounds_toArray, List.set_cons_zero, List.set_cons_succ]
    refine wpList_run (by kernel_rfl) (.int .i64 (t : Int)) V6 (xo_quoN .i64 (NN - N) 2 t (by omega) ht (by rw [IntKind.wrap_i64]; omega) rfl rfl rfl) ?_
    simp only [Act.put, List.setIfInBounds_toArray, List.set_cons_zero, List.set_cons_succ]
    refine wpList_run (by kernel_rfl) (.int .i64 (t : Int)) V6 rfl ?_
    simp only [Act.put, List.setIfInBounds_toArray, List.set_cons_zero, List.set_cons_succ]
    refine wpList_nil ?_
    go_upto_region 11 with fail
    refine wp_region_lit ?_
    refine wpList_run (by kernel_rfl) (.slice Aw NN cw) V6 rfl ?_
    simp only [Act.put, List.setIfInBounds_toArray, List.set_cons_zero, List.set_cons_succ]
    refine wpList_run (by kernel_rfl) (.int .i64 (z : Int)) V6 rfl ?_
    simp only [Act.put, List.setIfInBounds_toArray, List.set_cons_zero, List.set_cons_succ]
    refine wpList_call (by kernel_rfl) 29 Try.func29 (by kernel_rfl) (by kernel_rfl) _ _ #[.slice Aw NN cw, .int .i64 (z : Int)] rfl (by kernel_rfl) ?_
    refine (decodeN Aw NN cw ysw z nn L N M HNN.out.symm HMM.out HZ.out.symm (by omega) (by omega) (by omega) HN.out V6 (Hw.out.keep B5.out)).mono ?_
    rintro e V7 ⟨vd, dd, er, rfl, hcase, hb⟩
    have B6 := Lib.hid hb
    clear hb 
    refine ⟨_, rfl, ?_⟩
    simp only [Act.put, List.setIfInBounds_toArray, List.set_cons_zero, List.set_cons_succ]
    refine wpList_run (by kernel_rfl) (.tuple #[vd, .int .i64 (dd : Int), .int .i64 (er : Int)]) V7 rfl ?_
    simp only [Act.put, List.setIfInBounds_toArray, List.set_cons_zero, List.set_cons_succ]
    refine wpList_run (by kernel_rfl) (vd) V7 rfl ?_
    simp only [Act.put, List.setIfInBounds_toArray, List.set_cons_zero, List.set_cons_succ]
    refine wpList_run (by kernel_rfl) (.int .i64 (dd : Int)) V7 rfl ?_
    simp only [Act.put, List.setIfInBounds_toArray, List.set_cons_zero, List.set_cons_succ]
    refine wpList_run (by kernel_rfl) (.int .i64 (er : Int)) V7 rfl ?_
    simp only [Act.put, List.setIfInBounds_toArray, List.set_cons_zero, List.set_cons_succ]
    refine wpList_run (by kernel_rfl) (vd) V7 rfl ?_
    simp only [Act.put, List.setIfInBounds_toArray, List.set_cons_zero, List.set_cons_succ]
    refine wpList_run (by kernel_rfl) (.int .i64 (dd : Int)) V7 rfl ?_
    simp only [Act.put, List.setIfInBounds_toArray, List.set_cons_zero, List.set_cons_succ]
    refine wpList_run (by kernel_rfl) (.int .i64 (er : Int)) V7 rfl ?_
    simp only [Act.put, List.setIfInBounds_toArray, List.set_cons_zero, List.set_cons_succ]
    refine wpList_nil ?_
    rcases hcase with ⟨rfl, f, hft, hfl, hfd, hdd, gv, rfl, hs⟩ | ⟨rfl, rfl, rfl, hno⟩
    · obtain ⟨row, hrow⟩ : ∃ row, Gold.tbF N (Gold.cfF f) = row := ⟨_, rfl⟩
      rw [hrow] at hs
      have HD := Lib.hid hs
      clear hs
      have HRW := Lib.hid hrow
      clear hrow
      go_upto_region 12 with fail
      refine wp_region_lit ?_
      refine wpList_run (by kernel_rfl) (.int .i64 0) V7 rfl ?_
      simp only [Act.put, List.setIfInBounds_toArray, List.set_cons_zero, List.set_cons_succ]
      refine wpList_run (by kernel_rfl) (.bool false) V7 (xo_neqF .i64 0 0 (by omega) rfl rfl rfl) ?_
      simp only [Act.put, List.setIfInBounds_toArray, List.set_cons_zero, List.set_cons_succ]
      refine wpList_nil ?_
      go_upto_region 14 with fail
      refine wp_region_lit ?_
      refine wpList_run (by kernel_rfl) (.slice (some ⟨gv, 0, none⟩) N N) V7 rfl ?_
      simp only [Act.put, List.setIfInBounds_toArray, List.set_cons_zero, List.set_cons_succ]
      refine wpList_run (by kernel_rfl) (.int .i64 (z : Int)) V7 rfl ?_
      simp only [Act.put, List.setIfInBounds_toArray, List.set_cons_zero, List.set_cons_succ]
      refine wpList_call (by kernel_rfl) 13 Try.func13 (by kernel_rfl) (by kernel_rfl) _ _ #[.slice (some ⟨gv, 0, none⟩) N N, .int .i64 (z : Int)] rfl (by kernel_rfl) ?_
      refine (encodeN (some ⟨gv, 0, none⟩) N N row z nn L NN M HN.out.symm HZ.out.symm (by omega) (by omega) HMM.out (by omega) HNN.out.symm V7 HD.out).mono ?_
      rintro e V8 ⟨gw, rfl, hs, hb⟩
      have B7 := Lib.hid hb
      have Hv := Lib.hid hs
      clear hb hs
      refine ⟨_, rfl, ?_⟩
      simp only [Act.put, List.setIfInBounds_toArray, List.set_cons_zero, List.set_cons_succ]
      refine wpList_run (by kernel_rfl) (.tuple #[.slice (some ⟨gw, 0, none⟩) NN NN, .int .i64 0]) V8 rfl ?_
      simp only [Act.put, List.setIfInBounds_toArray, List.set_cons_zero, List.set_cons_succ]
      refine wpList_run (by kernel_rfl) (.slice (some ⟨gw, 0, none⟩) NN NN) V8 rfl ?_
      simp only [Act.put, List.setIfInBounds_toArray, List.set_cons_zero, List.set_cons_succ]
      refine wpList_run (by kernel_rfl) (.int .i64 0) V8 rfl ?_
      simp only [Act.put, List.setIfInBounds_toArray, List.set_cons_zero, List.set_cons_succ]
      refine wpList_run (by kernel_rfl) (.slice (some ⟨gw, 0, none⟩) NN NN) V8 rfl ?_
      simp only [Act.put, List.setIfInBounds_toArray, List.set_cons_zero, List.set_cons_succ]
      refine wpList_run (by kernel_rfl) (.int .i64 0) V8 rfl ?_
      simp only [Act.put, List.setIfInBounds_toArray, List.set_cons_zero, List.set_cons_succ]
      refine wpList_nil ?_
      have hds : dstF (Gold.cwF row M) ysw = dd := by rw [dst_cw HNN.out.symm hylw, hdd, ← HRW.out, ← differ_cw HNN.out.symm]; exact congrArg List.length (Gold.differ_congr (evL_pad hfl))
      have hddt : dd ≤ t := by rw [hdd, ← HT.out]; exact hfd
      have hci1 : ((dd : Int) ≤ (t : Int)) := by omega
      go_upto_region 15 with fail
      refine wp_region_lit ?_
      refine wpList_run (by kernel_rfl) (.bool true) V8 rfl ?_
      simp only [Act.put, List.setIfInBounds_toArray, List.set_cons_zero, List.set_cons_succ]
      refine wpList_run (by kernel_rfl) (.bool true) V8 rfl ?_
      simp only [Act.put, List.setIfInBounds_toArray, List.set_cons_zero, List.set_cons_succ]
      refine wpList_run (by kernel_rfl) (.int .i64 0) V8 rfl ?_
      simp only [Act.put, List.setIfInBounds_toArray, List.set_cons_zero, List.set_cons_succ]
      refine wpList_run (by kernel_rfl) (.bool true) V8 (xo_eqlT .i64 0 0 (by omega) rfl rfl rfl) ?_
      simp only [Act.put, List.setIfInBounds_toArray, List.set_cons_zero, List.set_cons_succ]
      refine wpList_run (by kernel_rfl) (.bool true) V8 rfl ?_
      simp only [Act.put, List.setIfInBounds_toArray, List.set_cons_zero, List.set_cons_succ]
      refine wpList_run (by kernel_rfl) (.bool true) V8 rfl ?_
      simp only [Act.put, List.setIfInBounds_toArray, List.set_cons_zero, List.set_cons_succ]
      refine wpList_run (by kernel_rfl) (.slice (some ⟨gv, 0, none⟩) N N) V8 rfl ?_
      simp only [Act.put, List.setIfInBounds_toArray, List.set_cons_zero, List.set_cons_succ]
      refine wpList_run (by kernel_rfl) (.int .i64 (N : Int)) V8 (xo_len (some ⟨gv, 0, none⟩) N N Try.underlying22 rfl rfl) ?_
      simp only [Act.put, List.setIfInBounds_toArray, List.set_cons_zero, List.set_cons_succ]
      refine wpList_run (by kernel_rfl) (.int .i64 (nn : Int)) V8 rfl ?_
      simp only [Act.put, List.setIfInBounds_toArray, List.set_cons_zero, List.set_cons_succ]
      refine wpList_run (by kernel_rfl) (.int .i64 (N : Int)) V8 (xo_shlI .i64 1 nn N (by rw [Nat.one_mul]; exact HN.out) (by omega) rfl rfl rfl) ?_
      simp only [Act.put, List.setIfInBounds_toArray, List.set_cons_zero, List.set_cons_succ]
      refine wpList_run (by kernel_rfl) (.bool true) V8 (xo_eqlT .i64 (N : Int) (N : Int) (by omega) rfl rfl rfl) ?_
      simp only [Act.put, List.setIfInBounds_toArray, List.set_cons_zero, List.set_cons_succ]
      refine wpList_run (by kernel_rfl) (.bool true) V8 rfl ?_
      simp only [Act.put, List.setIfInBounds_toArray, List.set_cons_zero, List.set_cons_succ]
      refine wpList_run (by kernel_rfl) (.bool true) V8 rfl ?_
      simp only [Act.put, List.setIfInBounds_toArray, List.set_cons_zero, List.set_cons_succ]
      refine wpList_run (by kernel_rfl) (.slice (some ⟨gw, 0, none⟩) NN NN) V8 rfl ?_
      simp only [Act.put, List.setIfInBounds_toArray, List.set_cons_zero, List.set_cons_succ]
      refine wpList_run (by kernel_rfl) (.slice Aw NN cw) V8 rfl ?_
      simp only [Act.put, List.setIfInBounds_toArray, List.set_cons_zero, List.set_cons_succ]
      have C5_7 := Lib.hid (bel_step B5.out B6.out)
      have C5_8 := Lib.hid (bel_step C5_7.out B7.out)
      refine wpList_call (by kernel_rfl) 23 Try.func23 (by kernel_rfl) (by kernel_rfl) _ _ #[.slice (some ⟨gw, 0, none⟩) NN NN, .slice Aw NN cw] rfl (by kernel_rfl) ?_
      refine (distance_any (some ⟨gw, 0, none⟩) NN NN (Gold.cwF row M) Aw NN cw ysw (by omega) (by omega) V8 Hv.out (Hw.out.keep C5_8.out)).mono ?_
      rintro e V9 ⟨rfl, hb⟩
      have B8 := Lib.hid hb
      rw [hds]
      clear hb 
      refine ⟨_, rfl, ?_⟩
      simp only [Act.put, List.setIfInBounds_toArray, List.set_cons_zero, List.set_cons_succ]
      refine wpList_run (by kernel_rfl) (.int .i64 (dd : Int)) V9 rfl ?_
      simp only [Act.put, List.setIfInBounds_toArray, List.set_cons_zero, List.set_cons_succ]
      refine wpList_run (by kernel_rfl) (.bool true) V9 (xo_eqlT .i64 (dd : Int) (dd : Int) (by omega) rfl rfl rfl) ?_
      simp only [Act.put, List.setIfInBounds_toArray, List.set_cons_zero, List.set_cons_succ]
      refine wpList_run (by kernel_rfl) (.bool true) V9 rfl ?_
      simp only [Act.put, List.setIfInBounds_toArray, List.set_cons_zero, List.set_cons_succ]
      refine wpList_run (by kernel_rfl) (.bool true) V9 rfl ?_
      simp only [Act.put, List.setIfInBounds_toArray, List.set_cons_zero, List.set_cons_succ]
      refine wpList_run (by kernel_rfl) (.int .i64 (dd : Int)) V9 rfl ?_
      simp only [Act.put, List.setIfInBounds_toArray, List.set_cons_zero, List.set_cons_succ]
      refine wpList_run (by kernel_rfl) (.int .i64 (t : Int)) V9 rfl ?_
      simp only [Act.put, List.setIfInBounds_toArray, List.set_cons_zero, List.set_cons_succ]
      refine wpList_run (by kernel_rfl) (.bool true) V9 (xo_leqT .i64 (dd : Int) (t : Int) (by omega) rfl rfl rfl) ?_
      simp only [Act.put, List.setIfInBounds_toArray, List.set_cons_zero, List.set_cons_succ]
      refine wpList_run (by kernel_rfl) (.bool true) V9 rfl ?_
      simp only [Act.put, List.setIfInBounds_toArray, List.set_cons_zero, List.set_cons_succ]
      refine wpList_run (by kernel_rfl) (.bool true) V9 rfl ?_
      simp only [Act.put, List.setIfInBounds_toArray, List.set_cons_zero, List.set_cons_succ]
      refine wpList_nil ?_
      go_wp2_with fail
      go_ret
      have C0_5 := Lib.hid (bel_step C0_4.out B4.out)
      have C0_6 := Lib.hid (bel_step C0_5.out B5.out)
      have C0_7 := Lib.hid (bel_step C0_6.out B6.out)
      have C0_8 := Lib.hid (bel_step C0_7.out B7.out)
      have C0_9 := Lib.hid (bel_step C0_8.out B8.out)
      exact ⟨rfl, C0_9.out⟩
    · go_upto_region 12 with fail
      refine wp_region_lit ?_
      refine wpList_run (by kernel_rfl) (.int .i64 4) V7 rfl ?_
      simp only [Act.put, List.setIfInBounds_toArray, List.set_cons_zero, List.set_cons_succ]
      refine wpList_run (by kernel_rfl) (.bool true) V7 (xo_neqT .i64 4 0 (by omega) rfl rfl rfl) ?_
      simp only [Act.put, List.setIfInBounds_toArray, List.set_cons_zero, List.set_cons_succ]
      refine wpList_nil ?_
      obtain ⟨ds, hds⟩ : ∃ ds, dstF (Gold.cwF ps M) ysw = ds := ⟨_, rfl⟩
      have hgt : t < ds := by rw [← hds, dst_cw HNN.out.symm hylw, ← differ_cw HNN.out.symm, ← HT.out]; exact hno ps (Nat.le_of_eq hlps)
      have hdsl : ds ≤ 128 := by rw [← hds, dst_cw HNN.out.symm hylw]; exact Nat.le_trans (cntF_le _ _ _) hNN7
      have hci1 : ((ds : Int) > (t : Int)) := by omega
      go_upto_region 13 with fail
      refine wp_region_lit ?_
      refine wpList_run (by kernel_rfl) (.bool true) V7 rfl ?_
      simp only [Act.put, List.setIfInBounds_toArray, List.set_cons_zero, List.set_cons_succ]
      refine wpList_run (by kernel_rfl) (.bool true) V7 rfl ?_
      simp only [Act.put, List.setIfInBounds_toArray, List.set_cons_zero, List.set_cons_succ]
      refine wpList_run (by kernel_rfl) (.int .i64 4) V7 rfl ?_
      simp only [Act.put, List.setIfInBounds_toArray, List.set_cons_zero, List.set_cons_succ]
      refine wpList_run (by kernel_rfl) (.bool true) V7 (xo_eqlT .i64 4 4 (by omega) rfl rfl rfl) ?_
      simp only [Act.put, List.setIfInBounds_toArray, List.set_cons_zero, List.set_cons_succ]
      refine wpList_run (by kernel_rfl) (.bool true) V7 rfl ?_
      simp only [Act.put, List.setIfInBounds_toArray, List.set_cons_zero, List.set_cons_succ]
      refine wpList_run (by kernel_rfl) (.bool true) V7 rfl ?_
      simp only [Act.put, List.setIfInBounds_toArray, List.set_cons_zero, List.set_cons_succ]
      refine wpList_run (by kernel_rfl) (.slice none 0 0) V7 rfl ?_
      simp only [Act.put, List.setIfInBounds_toArray, List.set_cons_zero, List.set_cons_succ]
      refine wpList_run (by kernel_rfl) (.int .i64 0) V7 (xo_len none 0 0 Try.underlying22 rfl rfl) ?_
      simp only [Act.put, List.setIfInBounds_toArray, List.set_cons_zero, List.set_cons_succ]
      refine wpList_run (by kernel_rfl) (.bool true) V7 (xo_eqlT .i64 0 0 (by omega) rfl rfl rfl) ?_
      simp only [Act.put, List.setIfInBounds_toArray, List.set_cons_zero, List.set_cons_succ]
      refine wpList_run (by kernel_rfl) (.bool true) V7 rfl ?_
      simp only [Act.put, List.setIfInBounds_toArray, List.set_cons_zero, List.set_cons_succ]
      refine wpList_run (by kernel_rfl) (.bool true) V7 rfl ?_
      simp only [Act.put, List.setIfInBounds_toArray, List.set_cons_zero, List.set_cons_succ]
      refine wpList_run (by kernel_rfl) (.int .i64 0) V7 rfl ?_
      simp only [Act.put, List.setIfInBounds_toArray, List.set_cons_zero, List.set_cons_succ]
      refine wpList_run (by kernel_rfl) (.bool true) V7 (xo_eqlT .i64 0 0 (by omega) rfl rfl rfl) ?_
      simp only [Act.put, List.setIfInBounds_toArray, List.set_cons_zero, List.set_cons_succ]
      refine wpList_run (by kernel_rfl) (.bool true) V7 rfl ?_
      simp only [Act.put, List.setIfInBounds_toArray, List.set_cons_zero, List.set_cons_succ]
      refine wpList_run (by kernel_rfl) (.bool true) V7 rfl ?_
      simp only [Act.put, List.setIfInBounds_toArray, List.set_cons_zero, List.set_cons_succ]
      refine wpList_run (by kernel_rfl) (.slice (some ⟨gu, 0, none⟩) NN NN) V7 rfl ?_
      simp only [Act.put, List.setIfInBounds_toArray, List.set_cons_zero, List.set_cons_succ]
      refine wpList_run (by kernel_rfl) (.slice Aw NN cw) V7 rfl ?_
      simp only [Act.put, List.setIfInBounds_toArray, List.set_cons_zero, List.set_cons_succ]
      have C4_6 := Lib.hid (bel_step B4.out B5.out)
      have C4_7 := Lib.hid (bel_step C4_6.out B6.out)
      have C5_7 := Lib.hid (bel_step B5.out B6.out)
      refine wpList_call (by kernel_rfl) 23 Try.func23 (by kernel_rfl) (by kernel_rfl) _ _ #[.slice (some ⟨gu, 0, none⟩) NN NN, .slice Aw NN cw] rfl (by kernel_rfl) ?_
      refine (distance_any (some ⟨gu, 0, none⟩) NN NN (Gold.cwF ps M) Aw NN cw ysw (by omega) (by omega) V7 (Hu.out.keep C4_7.out) (Hw.out.keep C5_7.out)).mono ?_
      rintro e V8 ⟨rfl, hb⟩
      have B7 := Lib.hid hb
      rw [hds]
      clear hb 
      refine ⟨_, rfl, ?_⟩
      simp only [Act.put, List.setIfInBounds_toArray, List.set_cons_zero, List.set_cons_succ]
      refine wpList_run (by kernel_rfl) (.int .i64 (t : Int)) V8 rfl ?_
      simp only [Act.put, List.setIfInBounds_toArray, List.set_cons_zero, List.set_cons_succ]
      refine wpList_run (by kernel_rfl) (.bool true) V8 (xo_gtrT .i64 (ds : Int) (t : Int) (by omega) rfl rfl rfl) ?_
      simp only [Act.put, List.setIfInBounds_toArray, List.set_cons_zero, List.set_cons_succ]
      refine wpList_run (by kernel_rfl) (.bool true) V8 rfl ?_
      simp only [Act.put, List.setIfInBounds_toArray, List.set_cons_zero, List.set_cons_succ]
      refine wpList_run (by kernel_rfl) (.bool true) V8 rfl ?_
      simp only [Act.put, List.setIfInBounds_toArray, List.set_cons_zero, List.set_cons_succ]
      refine wpList_nil ?_
      go_wp2_with fail
      go_ret
      have C0_5 := Lib.hid (bel_step C0_4.out B4.out)
      have C0_6 := Lib.hid (bel_step C0_5.out B5.out)
      have C0_7 := Lib.hid (bel_step C0_6.out B6.out)
      have C0_8 := Lib.hid (bel_step C0_7.out B7.out)
      exact ⟨rfl, C0_8.out⟩
end Go.Proofs.Ytnekndakipggbaa
