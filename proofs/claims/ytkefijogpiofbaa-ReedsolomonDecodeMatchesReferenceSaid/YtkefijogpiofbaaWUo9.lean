/- A law of stage 9: ReedsolomonDecodeMatchesReference. -/
import Derived.Test.YtkefijogpiofbaaH20
namespace Go.Proofs.Ytkefijogpiofbaa
set_option linter.unusedVariables false
set_option linter.unusedSimpArgs false
set_option linter.unusedSectionVars false
set_option maxRecDepth 8000
open Go.RowKit Go.Proofs.Ytkefijogpiofbaa.K
attribute [local irreducible] wpList wpQuiet
theorem dec_both {n : Nat} (ys : List Gold.F) (z K L : Nat) (hN : n = 2 ^ (K + L)) (hz : z = 2 ^ L) (hL1 : 1 ≤ L) (hL4 : L ≤ 4) (hM : K + L ≤ 3) : ∃ (N : Nat) (us : List Gold.F) (dd er : Nat), (N ≤ 65536 ∧ dd ≤ 65536) ∧
    (∀ A c w, Sg feC 1 w A n c ys → Calls Try.prog 25 #[.slice A n c, .int .i64 (z : Int)] w fun e w' => ∃ A' c', e = .returned (.tuple #[.slice A' N c', .int .i64 (dd : Int), .int .i64 (er : Int)]) ∧ Sg feC 1 w' A' N c' us ∧ Below w.heap.size w w') ∧
    (∀ A c w, Sg feC 1 w A n c ys → Calls Try.prog 26 #[.slice A n c, .int .i64 (z : Int)] w fun e w' => ∃ A' c', e = .returned (.tuple #[.slice A' N c', .int .i64 (dd : Int), .int .i64 (er : Int)]) ∧ Sg feC 1 w' A' N c' us ∧ Below w.heap.size w w') := by
  have hkn : 2 ^ K ≤ n := by rw [hN]; exact Nat.pow_le_pow_right (by omega) (by omega)
  have h65 : n ≤ 65536 := by rw [hN]; exact Gold.pow2_le (by omega)
  by_cases h : ∃ f : List Gold.F, f.length ≤ 2 ^ K ∧ (Gold.differF n (K + L) (Gold.cfF ys) f).length ≤ (n - 2 ^ K) / 2
  · obtain ⟨f, hf, hd⟩ := h
    refine ⟨2 ^ K, Gold.tbF (2 ^ K) (Gold.cfF f), (Gold.differF n (K + L) (Gold.cfF ys) f).length, 0, ⟨by omega, Nat.le_trans (differ_le _ _ _ _) h65⟩, fun A c w hX => (decode_yes A n c ys z K L hN hz hL1 hL4 (by omega) w hX).mono ?_, fun A c w hX => (rdecode_any A n c ys z K L hN hz hL1 hM w hX).mono ?_⟩
    · rintro e w' ⟨v, dd, er, rfl, h, hb⟩
      rcases h with ⟨rfl, f2, _, hl, hd2, rfl, g, rfl, hs⟩ | ⟨_, _, _, hno⟩
      · have hu := Gold.near_unique hN (by omega) hkn hl hf hd2 hd
        rw [show Gold.cfF f2 = Gold.cfF f from funext hu] at hs
        exact ⟨_, _, by rw [Gold.differ_congr (f := f2) (g := f) (Gold.evL_congr hu)] <;> rfl, hs, hb⟩
      · have := hno f hf; omega
    · rintro e w' ⟨v, dd, er, rfl, h, hb⟩
      rcases h with ⟨rfl, f2, hl, hd2, rfl, A2, c2, rfl, hs⟩ | ⟨_, _, _, hno⟩
      · have hu := Gold.near_unique hN (by omega) hkn (Nat.le_of_eq hl) hf hd2 hd
        have e2 : f2 = Gold.tbF (2 ^ K) (Gold.cfF f) := by rw [← show Gold.cfF f2 = Gold.cfF f from funext hu]; exact (Gold.tbF_cfF hl).symm
        rw [e2] at hs
        exact ⟨_, _, by rw [Gold.differ_congr (f := f2) (g := f) (Gold.evL_congr hu)] <;> rfl, hs, hb⟩
      · have := hno f hf; omega
  · refine ⟨0, [], 0, 4, ⟨by omega, by omega⟩, fun A c w hX => (decode_yes A n c ys z K L hN hz hL1 hL4 (by omega) w hX).mono ?_, fun A c w hX => (rdecode_any A n c ys z K L hN hz hL1 hM w hX).mono ?_⟩
    · rintro e w' ⟨v, dd, er, rfl, h2, hb⟩
      rcases h2 with ⟨_, f2, _, hl, hd2, _⟩ | ⟨rfl, rfl, rfl, _⟩
      · exact absurd ⟨f2, hl, hd2⟩ h
      · exact ⟨none, 0, rfl, Sg.nil_ _, hb⟩
    · rintro e w' ⟨v, dd, er, rfl, h2, hb⟩
      rcases h2 with ⟨_, f2, hl, hd2, _⟩ | ⟨rfl, rfl, rfl, _⟩
      · exact absurd ⟨f2, Nat.le_of_eq hl, hd2⟩ h
      · exact ⟨none, 0, rfl, Sg.nil_ _, hb⟩
set_option maxRecDepth 100000 in
set_option maxHeartbeats 16000000 in
theorem rDecodeMatches_law (A : Option Addr) (n1 c1 : Nat) (xs : List Nat) (E : Option Addr) (n2 c2 : Nat) (es : List (Nat × Nat)) (q : Nat) (D : Option Addr) (n3 c3 : Nat) (zs : List Nat) (hq : q < 256) (hbx : ∀ z ∈ xs, z < 18446744073709551616) (hbe : ∀ e ∈ es, e.1 < 256 ∧ e.2 < 18446744073709551616) (hby : ∀ z ∈ zs, z < 18446744073709551616) (w : World) (hX : Sg wdC 1 w A n1 c1 xs) (hE : Sg erC 2 w E n2 c2 es) (hY : Sg wdC 1 w D n3 c3 zs) :
    Calls Try.prog 4 #[.slice A n1 c1, .slice E n2 c2, .int .u8 (q : Int), .slice D n3 c3] w fun e w' => e = .returned (.bool true) ∧ Below w.heap.size w w' := by
  have HX := Lib.hid hX
  have HE := Lib.hid hE
  have HY := Lib.hid hY
  have HBX := Lib.hid hbx
  have HBE := Lib.hid hbe
  have HBY := Lib.hid hby
  clear hX hE hY hbx hbe hby
  go_enter Try.func4, Try.ntmps4
  go_upto_region 1 with fail
  refine wp_region_lit ?_
  refine wpList_call (by kernel_rfl) 7 Try.func7 (by kernel_rfl) (by kernel_rfl) _ _ #[] rfl (by kernel_rfl) ?_
  refine (sanity9_any w).mono ?_
  rintro e V1 ⟨rfl, hb⟩
  have B0 := Lib.hid hb
  clear hb 
  refine ⟨_, rfl, ?_⟩
  simp only [Act.put, List.setIfInBounds_toArray, List.set_cons_zero, List.set_cons_succ]
  refine wpList_run (by kernel_rfl) (.bool true) V1 rfl ?_
  simp only [Act.put, List.setIfInBounds_toArray, List.set_cons_zero, List.set_cons_succ]
  refine wpList_nil ?_
  obtain ⟨nn, hnn⟩ : ∃ nn, q / 16 % 3 = nn := ⟨_, rfl⟩
  have hnn3 : nn < 3 := by omega
  obtain ⟨N, hN⟩ : ∃ N, 2 ^ nn = N := ⟨_, rfl⟩
  have hN4 : N ≤ 4 := by rw [← hN]; exact (show 2 ^ nn ≤ 2 ^ 2 from Nat.pow_le_pow_right (by omega) (by omega))
  have HN := Lib.hid hN
  clear hN
  obtain ⟨L1, hL1⟩ : ∃ L, q % 3 + 1 = L := ⟨_, rfl⟩
  have hL13 : 1 ≤ L1 ∧ L1 ≤ 3 := by omega
  obtain ⟨z1, hz1⟩ : ∃ z, 2 ^ L1 = z := ⟨_, rfl⟩
  have hz18 : z1 ≤ 8 := by rw [← hz1]; exact (show 2 ^ L1 ≤ 2 ^ 3 from Nat.pow_le_pow_right (by omega) (by omega))
  obtain ⟨sv, hsv⟩ : ∃ s, 8 / 2 ^ nn = s := ⟨_, rfl⟩
  have hsp : sv = 2 ^ (3 - nn) := by
    rw [← hsv]
    have : nn = 0 ∨ nn = 1 ∨ nn = 2 := by omega
    rcases this with h | h | h <;> rw [h] <;> rfl
  have hs8 : sv ≤ 8 := by rw [← hsv]; exact Nat.div_le_self _ _
  obtain ⟨L, hL⟩ : ∃ L, min L1 (3 - nn) = L := ⟨_, rfl⟩
  have hLb : 1 ≤ L ∧ L ≤ 3 ∧ nn + L ≤ 3 := by omega
  obtain ⟨z, hz⟩ : ∃ z, 2 ^ L = z := ⟨_, rfl⟩
  have hzm : min z1 sv = z := by
    rw [← hz, hsp, ← hz1]
    rcases Nat.le_total L1 (3 - nn) with h | h
    · have hp : 2 ^ L1 ≤ 2 ^ (3 - nn) := Nat.pow_le_pow_right (by omega) h
      rw [show L = L1 by omega]; omega
    · have hp : 2 ^ (3 - nn) ≤ 2 ^ L1 := Nat.pow_le_pow_right (by omega) h
      rw [show L = 3 - nn by omega]; omega
  have hz8 : z ≤ 8 := by omega
  have hz2 : 2 ≤ z := by rw [← hz]; exact (show 2 ^ 1 ≤ 2 ^ L from Nat.pow_le_pow_right (by omega) (by omega))
  have HZ := Lib.hid hz
  have HLq := Lib.hid hL1
  have HZ1 := Lib.hid hz1
  have HSV := Lib.hid hsv
  clear hz hL1 hz1 hsp hL hsv
  obtain ⟨M, hM⟩ : ∃ M, nn + L = M := ⟨_, rfl⟩
  have hM3 : M ≤ 3 := by omega
  obtain ⟨NN, hNN⟩ : ∃ NN, 2 ^ M = NN := ⟨_, rfl⟩
  have hNN8 : NN ≤ 8 := by rw [← hNN]; exact (show 2 ^ M ≤ 2 ^ 3 from Nat.pow_le_pow_right (by omega) hM3)
  have HNN := Lib.hid hNN
  have HMM := Lib.hid hM
  clear hNN hM
  go_upto_region 2 with fail
  refine wp_region_lit ?_
  refine wpList_run (by kernel_rfl) (.int .u8 (q : Int)) V1 rfl ?_
  simp only [Act.put, List.setIfInBounds_toArray, List.set_cons_zero, List.set_cons_succ]
  refine wpList_run (by kernel_rfl) (.int .u8 ((q / 16 : Nat) : Int)) V1 (xo_shrN .u8 .u64 q 4 (q / 16) (by decide) rfl rfl rfl rfl) ?_
  simp only [Act.put, List.setIfInBounds_toArray, List.set_cons_zero, List.set_cons_succ]
  refine wpList_run (by kernel_rfl) (.int .i64 ((q / 16 : Nat) : Int)) V1 (xo_cvt .u8 .i64 ((q / 16 : Nat) : Int) ((q / 16 : Nat) : Int) (by rw [IntKind.wrap_i64]; omega) Try.underlying3 Try.underlying5 rfl rfl) ?_
  simp only [Act.put, List.setIfInBounds_toArray, List.set_cons_zero, List.set_cons_succ]
  refine wpList_run (by kernel_rfl) (.int .i64 (nn : Int)) V1 (xo_remN .i64 (q / 16) 3 nn (by omega) hnn rfl rfl rfl) ?_
  simp only [Act.put, List.setIfInBounds_toArray, List.set_cons_zero, List.set_cons_succ]
  refine wpList_run (by kernel_rfl) (.int .i64 (nn : Int)) V1 rfl ?_
  simp only [Act.put, List.setIfInBounds_toArray, List.set_cons_zero, List.set_cons_succ]
  refine wpList_nil ?_
  go_upto_region 3 with fail
  refine wp_floatP [0, 1, 2, 3, 4, 5] (l' := [_, _, _, _, _, _]) (by kernel_rfl) (lexOK_of (by kernel_rfl) (by kernel_rfl)) (ordOK_of (by kernel_rfl) (by kernel_rfl)) rfl rfl ?_
  simp only [List.getElem_toArray, List.getElem_cons_succ, List.getElem_cons_zero]
  intro V2 hb hSW
  have B1 := Lib.hid hb
  have HF2 := Lib.hid hSW
  clear hb hSW
  refine wpF_seg 1 (by kernel_rfl) ?_
  simp only [List.take_succ_cons, List.take_zero, List.drop_succ_cons, List.drop_zero]
  refine wpQuiet_val (by kernel_rfl) (.int .u8 (q : Int)) (fun v hv => rfl) ?_
  simp only [Act.put, List.setIfInBounds_toArray, List.set_cons_zero, List.set_cons_succ]
  refine wpQuiet_nil ?_
  refine wpF_call 21 Try.func21 (by kernel_rfl) (by kernel_rfl) _ _ #[.int .u8 (q : Int)] rfl (by kernel_rfl) (by kernel_rfl) HF2.out (fun V3 hb => ?_)
  have B2 := Lib.hid hb
  have HF3 := Lib.hid (HF2.out.ext hb)
  clear hb
  refine (blowup_any q hq V3).mono ?_
  rintro e V4 ⟨rfl, hb⟩
  have B3 := Lib.hid hb
  have HF4 := Lib.hid (HF3.out.ext hb)
  rw [HLq.out, HZ1.out]
  refine ⟨_, rfl, hb, ?_⟩
  clear hb 
  simp only [Act.put, List.setIfInBounds_toArray, List.set_cons_zero, List.set_cons_succ]
  refine wpF_seg 4 (by kernel_rfl) ?_
  simp only [List.take_succ_cons, List.take_zero, List.drop_succ_cons, List.drop_zero]
  refine wpQuiet_val (by kernel_rfl) (.int .i64 (nn : Int)) (fun v hv => rfl) ?_
  simp only [Act.put, List.setIfInBounds_toArray, List.set_cons_zero, List.set_cons_succ]
  refine wpQuiet_val (by kernel_rfl) (.int .i64 (sv : Int)) (fun v hv => (xo_shrN .i64 .i64 8 nn sv (by show nn < 64; omega) HSV.out rfl rfl rfl)) ?_
  simp only [Act.put, List.setIfInBounds_toArray, List.set_cons_zero, List.set_cons_succ]
  refine wpQuiet_val (by kernel_rfl) (.int .i64 (z : Int)) (fun v hv => (xo_min .i64 (z1 : Int) (sv : Int) (z : Int) (by split <;> omega) rfl rfl rfl)) ?_
  simp only [Act.put, List.setIfInBounds_toArray, List.set_cons_zero, List.set_cons_succ]
  refine wpQuiet_val (by kernel_rfl) (.int .i64 (z : Int)) (fun v hv => rfl) ?_
  simp only [Act.put, List.setIfInBounds_toArray, List.set_cons_zero, List.set_cons_succ]
  refine wpQuiet_nil ?_
  refine wpF_nil (fun V5 hb => ?_)
  have B4 := Lib.hid hb
  clear hb
  clear HF2
  clear HF3
  clear HF4
  go_upto_region 4 with fail
  refine wp_region_lit ?_
  refine wpList_run (by kernel_rfl) (.slice A n1 c1) V5 rfl ?_
  simp only [Act.put, List.setIfInBounds_toArray, List.set_cons_zero, List.set_cons_succ]
  refine wpList_run (by kernel_rfl) (.int .i64 (nn : Int)) V5 rfl ?_
  simp only [Act.put, List.setIfInBounds_toArray, List.set_cons_zero, List.set_cons_succ]
  have C0_2 := Lib.hid (bel_step B0.out B1.out)
  have C0_3 := Lib.hid (bel_step C0_2.out B2.out)
  have C0_4 := Lib.hid (bel_step C0_3.out B3.out)
  have C0_5 := Lib.hid (bel_step C0_4.out B4.out)
  refine wpList_call (by kernel_rfl) 22 Try.func22 (by kernel_rfl) (by kernel_rfl) _ _ #[.slice A n1 c1, .int .i64 (nn : Int)] rfl (by kernel_rfl) ?_
  refine (rmade_any A n1 c1 xs nn (by omega) HBX.out V5 (HX.out.keep C0_5.out)).mono ?_
  rintro e V6 ⟨Ap, cp, rfl, ho, hb⟩
  have B5 := Lib.hid hb
  have hs := Sg.ownS ho
  clear ho
  rw [HN.out] at hs ⊢
  obtain ⟨ps, hps⟩ : ∃ l, Gold.mdF xs N = l := ⟨_, rfl⟩
  rw [hps] at hs
  have hlps : ps.length = N := hs.len
  clear hps
  have Hps := Lib.hid hs
  clear hb hs
  refine ⟨_, rfl, ?_⟩
  simp only [Act.put, List.setIfInBounds_toArray, List.set_cons_zero, List.set_cons_succ]
  refine wpList_run (by kernel_rfl) (.int .i64 (z : Int)) V6 rfl ?_
  simp only [Act.put, List.setIfInBounds_toArray, List.set_cons_zero, List.set_cons_succ]
  refine wpList_call (by kernel_rfl) 10 Try.func10 (by kernel_rfl) (by kernel_rfl) _ _ #[.slice Ap N cp, .int .i64 (z : Int)] rfl (by kernel_rfl) ?_
  refine (rencodeN Ap N cp ps z nn L NN M HN.out.symm HZ.out.symm (by omega) (by omega) HMM.out (by omega) HNN.out.symm V6 Hps.out).mono ?_
  rintro e V7 ⟨Au, cu, rfl, hs, hb⟩
  have B6 := Lib.hid hb
  have Hu := Lib.hid hs
  clear hb hs
  refine ⟨_, rfl, ?_⟩
  simp only [Act.put, List.setIfInBounds_toArray, List.set_cons_zero, List.set_cons_succ]
  refine wpList_run (by kernel_rfl) (.tuple #[.slice Au NN cu, .int .i64 0]) V7 rfl ?_
  simp only [Act.put, List.setIfInBounds_toArray, List.set_cons_zero, List.set_cons_succ]
  refine wpList_run (by kernel_rfl) (.slice Au NN cu) V7 rfl ?_
  simp only [Act.put, List.setIfInBounds_toArray, List.set_cons_zero, List.set_cons_succ]
  refine wpList_run (by kernel_rfl) (.int .i64 0) V7 rfl ?_
  simp only [Act.put, List.setIfInBounds_toArray, List.set_cons_zero, List.set_cons_succ]
  refine wpList_run (by kernel_rfl) (.slice Au NN cu) V7 rfl ?_
  simp only [Act.put, List.setIfInBounds_toArray, List.set_cons_zero, List.set_cons_succ]
  refine wpList_run (by kernel_rfl) (.int .i64 0) V7 rfl ?_
  simp only [Act.put, List.setIfInBounds_toArray, List.set_cons_zero, List.set_cons_succ]
  refine wpList_nil ?_
  go_upto_region 5 with fail
  refine wp_region_lit ?_
  refine wpList_run (by kernel_rfl) (.int .i64 0) V7 rfl ?_
  simp only [Act.put, List.setIfInBounds_toArray, List.set_cons_zero, List.set_cons_succ]
  refine wpList_run (by kernel_rfl) (.bool false) V7 (xo_neqF .i64 0 0 (by omega) rfl rfl rfl) ?_
  simp only [Act.put, List.setIfInBounds_toArray, List.set_cons_zero, List.set_cons_succ]
  refine wpList_nil ?_
  go_upto_region 7 with fail
  refine wp_region_lit ?_
  refine wpList_run (by kernel_rfl) (.slice Au NN cu) V7 rfl ?_
  simp only [Act.put, List.setIfInBounds_toArray, List.set_cons_zero, List.set_cons_succ]
  refine wpList_run (by kernel_rfl) (.slice E n2 c2) V7 rfl ?_
  simp only [Act.put, List.setIfInBounds_toArray, List.set_cons_zero, List.set_cons_succ]
  have C0_6 := Lib.hid (bel_step C0_5.out B5.out)
  have C0_7 := Lib.hid (bel_step C0_6.out B6.out)
  refine wpList_call (by kernel_rfl) 23 Try.func23 (by kernel_rfl) (by kernel_rfl) _ _ #[.slice Au NN cu, .slice E n2 c2, .int .i64 16] rfl (by kernel_rfl) ?_
  refine (corrupt_any Au NN cu (Gold.cwF ps M) E n2 c2 es 16 (by omega) (by omega) HBE.out V7 Hu.out (HE.out.keep C0_7.out)).mono ?_
  rintro e V8 ⟨Aw, cw, ysw, cnt, rfl, hylw, hcn, hcm, ho, hb⟩
  have B7 := Lib.hid hb
  have hs := Sg.ownS ho
  clear ho
  have Hw := Lib.hid hs
  clear hb hs
  refine ⟨_, rfl, ?_⟩
  simp only [Act.put, List.setIfInBounds_toArray, List.set_cons_zero, List.set_cons_succ]
  refine wpList_run (by kernel_rfl) (.tuple #[.slice Aw NN cw, .int .i64 (cnt : Int)]) V8 rfl ?_
  simp only [Act.put, List.setIfInBounds_toArray, List.set_cons_zero, List.set_cons_succ]
  refine wpList_run (by kernel_rfl) (.slice Aw NN cw) V8 rfl ?_
  simp only [Act.put, List.setIfInBounds_toArray, List.set_cons_zero, List.set_cons_succ]
  refine wpList_run (by kernel_rfl) (.int .i64 (cnt : Int)) V8 rfl ?_
  simp only [Act.put, List.setIfInBounds_toArray, List.set_cons_zero, List.set_cons_succ]
  refine wpList_run (by kernel_rfl) (.slice Aw NN cw) V8 rfl ?_
  simp only [Act.put, List.setIfInBounds_toArray, List.set_cons_zero, List.set_cons_succ]
  refine wpList_run (by kernel_rfl) (.int .i64 (cnt : Int)) V8 rfl ?_
  simp only [Act.put, List.setIfInBounds_toArray, List.set_cons_zero, List.set_cons_succ]
  refine wpList_nil ?_
  by_cases hq2 : q % 2 = 1
  · have hci0 : (((q % 2 : Nat) : Int) = 1) := by omega
    go_upto_region 8 with fail
    refine wp_region_lit ?_
    refine wpList_run (by kernel_rfl) (.int .u8 (q : Int)) V8 rfl ?_
    simp only [Act.put, List.setIfInBounds_toArray, List.set_cons_zero, List.set_cons_succ]
    refine wpList_run (by kernel_rfl) (.int .u8 ((q % 2 : Nat) : Int)) V8 (xo_and .u8 q 1 (q % 2) (by show _ < 2 ^ 8; omega) (by show _ < 2 ^ 8; omega) (Nat.and_two_pow_sub_one_eq_mod q 1) (by rw [IntKind.wrap_u8]; omega) rfl rfl rfl) ?_
    simp only [Act.put, List.setIfInBounds_toArray, List.set_cons_zero, List.set_cons_succ]
    refine wpList_run (by kernel_rfl) (.bool true) V8 (xo_eqlT .u8 ((q % 2 : Nat) : Int) 1 (by omega) rfl rfl rfl) ?_
    simp only [Act.put, List.setIfInBounds_toArray, List.set_cons_zero, List.set_cons_succ]
    refine wpList_nil ?_
    have hMM : nn + L = M := HMM.out
    go_upto_region 9 with fail
    refine wp_region_lit ?_
    refine wpList_run (by kernel_rfl) (.slice D n3 c3) V8 rfl ?_
    simp only [Act.put, List.setIfInBounds_toArray, List.set_cons_zero, List.set_cons_succ]
    refine wpList_run (by kernel_rfl) (.int .i64 (nn : Int)) V8 rfl ?_
    simp only [Act.put, List.setIfInBounds_toArray, List.set_cons_zero, List.set_cons_succ]
    refine wpList_run (by kernel_rfl) (.int .i64 (z : Int)) V8 rfl ?_
    simp only [Act.put, List.setIfInBounds_toArray, List.set_cons_zero, List.set_cons_succ]
    refine wpList_call (by kernel_rfl) 24 Try.func24 (by kernel_rfl) (by kernel_rfl) _ _ #[.int .i64 (z : Int)] rfl (by kernel_rfl) ?_
    refine (shift_any z L HZ.out.symm (by omega) (by omega) V8).mono ?_
    rintro e V9 ⟨rfl, hb⟩
    have B8 := Lib.hid hb
    clear hb 
    refine ⟨_, rfl, ?_⟩
    simp only [Act.put, List.setIfInBounds_toArray, List.set_cons_zero, List.set_cons_succ]
    refine wpList_run (by kernel_rfl) (.int .i64 (M : Int)) V9 (xo_addI (nn : Int) (L : Int) (M : Int) (by omega) (by omega) (by omega) rfl rfl rfl) ?_
    simp only [Act.put, List.setIfInBounds_toArray, List.set_cons_zero, List.set_cons_succ]
    have C0_8 := Lib.hid (bel_step C0_7.out B7.out)
    have C0_9 := Lib.hid (bel_step C0_8.out B8.out)
    refine wpList_call (by kernel_rfl) 22 Try.func22 (by kernel_rfl) (by kernel_rfl) _ _ #[.slice D n3 c3, .int .i64 (M : Int)] rfl (by kernel_rfl) ?_
    refine (rmade_any D n3 c3 zs M (by omega) HBY.out V9 (HY.out.keep C0_9.out)).mono ?_
    rintro e V10 ⟨Ar, cr, rfl, ho, hb⟩
    have B9 := Lib.hid hb
    have hs := Sg.ownS ho
    clear ho
    rw [HNN.out] at hs ⊢
    obtain ⟨rs, hrs⟩ : ∃ l, Gold.mdF zs NN = l := ⟨_, rfl⟩
    rw [hrs] at hs
    have hlrs : rs.length = NN := hs.len
    clear hrs
    have Hrs := Lib.hid hs
    clear hb hs
    refine ⟨_, rfl, ?_⟩
    simp only [Act.put, List.setIfInBounds_toArray, List.set_cons_zero, List.set_cons_succ]
    refine wpList_run (by kernel_rfl) (.slice Ar NN cr) V10 rfl ?_
    simp only [Act.put, List.setIfInBounds_toArray, List.set_cons_zero, List.set_cons_succ]
    refine wpList_nil ?_
    obtain ⟨K2, us, dd, er, hK2, hD1, hD2⟩ := dec_both (n := NN) rs z nn L (by rw [HMM.out]; exact HNN.out.symm) HZ.out.symm (by omega) (by omega) (by rw [HMM.out]; exact hM3)
    have HD1 := Lib.hid hD1
    have HD2 := Lib.hid hD2
    clear hD1 hD2
    go_upto_region 10 with fail
    refine wp_region_lit ?_
    refine wpList_run (by kernel_rfl) (.slice Ar NN cr) V10 rfl ?_
    simp only [Act.put, List.setIfInBounds_toArray, List.set_cons_zero, List.set_cons_succ]
    refine wpList_run (by kernel_rfl) (.int .i64 (z : Int)) V10 rfl ?_
    simp only [Act.put, List.setIfInBounds_toArray, List.set_cons_zero, List.set_cons_succ]
    refine wpList_call (by kernel_rfl) 25 Try.func25 (by kernel_rfl) (by kernel_rfl) _ _ #[.slice Ar NN cr, .int .i64 (z : Int)] rfl (by kernel_rfl) ?_
    refine (HD1.out Ar cr V10 Hrs.out).mono ?_
    rintro e V11 ⟨Am, cm, rfl, hs, hb⟩
    have B10 := Lib.hid hb
    have Hm := Lib.hid hs
    clear hb hs
    refine ⟨_, rfl, ?_⟩
    simp only [Act.put, List.setIfInBounds_toArray, List.set_cons_zero, List.set_cons_succ]
    refine wpList_run (by kernel_rfl) (.tuple #[.slice Am K2 cm, .int .i64 (dd : Int), .int .i64 (er : Int)]) V11 rfl ?_
    simp only [Act.put, List.setIfInBounds_toArray, List.set_cons_zero, List.set_cons_succ]
    refine wpList_run (by kernel_rfl) (.slice Am K2 cm) V11 rfl ?_
    simp only [Act.put, List.setIfInBounds_toArray, List.set_cons_zero, List.set_cons_succ]
    refine wpList_run (by kernel_rfl) (.int .i64 (dd : Int)) V11 rfl ?_
    simp only [Act.put, List.setIfInBounds_toArray, List.set_cons_zero, List.set_cons_succ]
    refine wpList_run (by kernel_rfl) (.int .i64 (er : Int)) V11 rfl ?_
    simp only [Act.put, List.setIfInBounds_toArray, List.set_cons_zero, List.set_cons_succ]
    refine wpList_run (by kernel_rfl) (.slice Am K2 cm) V11 rfl ?_
    simp only [Act.put, List.setIfInBounds_toArray, List.set_cons_zero, List.set_cons_succ]
    refine wpList_run (by kernel_rfl) (.int .i64 (dd : Int)) V11 rfl ?_
    simp only [Act.put, List.setIfInBounds_toArray, List.set_cons_zero, List.set_cons_succ]
    refine wpList_run (by kernel_rfl) (.int .i64 (er : Int)) V11 rfl ?_
    simp only [Act.put, List.setIfInBounds_toArray, List.set_cons_zero, List.set_cons_succ]
    refine wpList_nil ?_
    go_upto_region 11 with fail
    refine wp_region_lit ?_
    refine wpList_run (by kernel_rfl) (.slice Ar NN cr) V11 rfl ?_
    simp only [Act.put, List.setIfInBounds_toArray, List.set_cons_zero, List.set_cons_succ]
    refine wpList_run (by kernel_rfl) (.int .i64 (z : Int)) V11 rfl ?_
    simp only [Act.put, List.setIfInBounds_toArray, List.set_cons_zero, List.set_cons_succ]
    refine wpList_call (by kernel_rfl) 26 Try.func26 (by kernel_rfl) (by kernel_rfl) _ _ #[.slice Ar NN cr, .int .i64 (z : Int)] rfl (by kernel_rfl) ?_
    refine (HD2.out Ar cr V11 (Hrs.out.keep B10.out)).mono ?_
    rintro e V12 ⟨An, cn, rfl, hs, hb⟩
    have B11 := Lib.hid hb
    have Hn := Lib.hid hs
    clear hb hs
    refine ⟨_, rfl, ?_⟩
    simp only [Act.put, List.setIfInBounds_toArray, List.set_cons_zero, List.set_cons_succ]
    refine wpList_run (by kernel_rfl) (.tuple #[.slice An K2 cn, .int .i64 (dd : Int), .int .i64 (er : Int)]) V12 rfl ?_
    simp only [Act.put, List.setIfInBounds_toArray, List.set_cons_zero, List.set_cons_succ]
    refine wpList_run (by kernel_rfl) (.slice An K2 cn) V12 rfl ?_
    simp only [Act.put, List.setIfInBounds_toArray, List.set_cons_zero, List.set_cons_succ]
    refine wpList_run (by kernel_rfl) (.int .i64 (dd : Int)) V12 rfl ?_
    simp only [Act.put, List.setIfInBounds_toArray, List.set_cons_zero, List.set_cons_succ]
    refine wpList_run (by kernel_rfl) (.int .i64 (er : Int)) V12 rfl ?_
    simp only [Act.put, List.setIfInBounds_toArray, List.set_cons_zero, List.set_cons_succ]
    refine wpList_run (by kernel_rfl) (.slice An K2 cn) V12 rfl ?_
    simp only [Act.put, List.setIfInBounds_toArray, List.set_cons_zero, List.set_cons_succ]
    refine wpList_run (by kernel_rfl) (.int .i64 (dd : Int)) V12 rfl ?_
    simp only [Act.put, List.setIfInBounds_toArray, List.set_cons_zero, List.set_cons_succ]
    refine wpList_run (by kernel_rfl) (.int .i64 (er : Int)) V12 rfl ?_
    simp only [Act.put, List.setIfInBounds_toArray, List.set_cons_zero, List.set_cons_succ]
    refine wpList_nil ?_
    go_upto_region 12 with fail
    refine wp_region_lit ?_
    refine wpList_run (by kernel_rfl) (.bool true) V12 rfl ?_
    simp only [Act.put, List.setIfInBounds_toArray, List.set_cons_zero, List.set_cons_succ]
    refine wpList_run (by kernel_rfl) (.bool true) V12 rfl ?_
    simp only [Act.put, List.setIfInBounds_toArray, List.set_cons_zero, List.set_cons_succ]
    refine wpList_run (by kernel_rfl) (.slice Am K2 cm) V12 rfl ?_
    simp only [Act.put, List.setIfInBounds_toArray, List.set_cons_zero, List.set_cons_succ]
    refine wpList_run (by kernel_rfl) (.slice An K2 cn) V12 rfl ?_
    simp only [Act.put, List.setIfInBounds_toArray, List.set_cons_zero, List.set_cons_succ]
    refine wpList_call (by kernel_rfl) 17 Try.func17 (by kernel_rfl) (by kernel_rfl) _ _ #[.slice Am K2 cm, .slice An K2 cn] rfl (by kernel_rfl) ?_
    refine (rsame_any Am K2 cm us An K2 cn us (by omega) (by omega) V12 (Hm.out.keep B11.out) Hn.out).mono ?_
    rintro e V13 ⟨rfl, hb⟩
    have B12 := Lib.hid hb
    rw [show decide (us = us) = true from decide_eq_true rfl]
    clear hb 
    refine ⟨_, rfl, ?_⟩
    simp only [Act.put, List.setIfInBounds_toArray, List.set_cons_zero, List.set_cons_succ]
    refine wpList_run (by kernel_rfl) (.bool true) V13 rfl ?_
    simp only [Act.put, List.setIfInBounds_toArray, List.set_cons_zero, List.set_cons_succ]
    refine wpList_run (by kernel_rfl) (.bool true) V13 rfl ?_
    simp only [Act.put, List.setIfInBounds_toArray, List.set_cons_zero, List.set_cons_succ]
    refine wpList_run (by kernel_rfl) (.int .i64 (dd : Int)) V13 rfl ?_
    simp only [Act.put, List.setIfInBounds_toArray, List.set_cons_zero, List.set_cons_succ]
    refine wpList_run (by kernel_rfl) (.int .i64 (dd : Int)) V13 rfl ?_
    simp only [Act.put, List.setIfInBounds_toArray, List.set_cons_zero, List.set_cons_succ]
    refine wpList_run (by kernel_rfl) (.bool true) V13 (xo_eqlT .i64 (dd : Int) (dd : Int) (by omega) rfl rfl rfl) ?_
    simp only [Act.put, List.setIfInBounds_toArray, List.set_cons_zero, List.set_cons_succ]
    refine wpList_run (by kernel_rfl) (.bool true) V13 rfl ?_
    simp only [Act.put, List.setIfInBounds_toArray, List.set_cons_zero, List.set_cons_succ]
    refine wpList_run (by kernel_rfl) (.bool true) V13 rfl ?_
    simp only [Act.put, List.setIfInBounds_toArray, List.set_cons_zero, List.set_cons_succ]
    refine wpList_run (by kernel_rfl) (.int .i64 (er : Int)) V13 rfl ?_
    simp only [Act.put, List.setIfInBounds_toArray, List.set_cons_zero, List.set_cons_succ]
    refine wpList_run (by kernel_rfl) (.int .i64 (er : Int)) V13 rfl ?_
    simp only [Act.put, List.setIfInBounds_toArray, List.set_cons_zero, List.set_cons_succ]
    refine wpList_run (by kernel_rfl) (.bool true) V13 (xo_eqlT .i64 (er : Int) (er : Int) (by omega) rfl rfl rfl) ?_
    simp only [Act.put, List.setIfInBounds_toArray, List.set_cons_zero, List.set_cons_succ]
    refine wpList_run (by kernel_rfl) (.bool true) V13 rfl ?_
    simp only [Act.put, List.setIfInBounds_toArray, List.set_cons_zero, List.set_cons_succ]
    refine wpList_run (by kernel_rfl) (.bool true) V13 rfl ?_
    simp only [Act.put, List.setIfInBounds_toArray, List.set_cons_zero, List.set_cons_succ]
    refine wpList_nil ?_
    go_wp2_with fail
    go_ret
    have C0_10 := Lib.hid (bel_step C0_9.out B9.out)
    have C0_11 := Lib.hid (bel_step C0_10.out B10.out)
    have C0_12 := Lib.hid (bel_step C0_11.out B11.out)
    have C0_13 := Lib.hid (bel_step C0_12.out B12.out)
    exact ⟨rfl, C0_13.out⟩
  · have hci0 : ¬ (((q % 2 : Nat) : Int) = 1) := by omega
    go_upto_region 8 with fail
    refine wp_region_lit ?_
    refine wpList_run (by kernel_rfl) (.int .u8 (q : Int)) V8 rfl ?_
    simp only [Act.put, List.setIfInBounds_toArray, List.set_cons_zero, List.set_cons_succ]
    refine wpList_run (by kernel_rfl) (.int .u8 ((q % 2 : Nat) : Int)) V8 (xo_and .u8 q 1 (q % 2) (by show _ < 2 ^ 8; omega) (by show _ < 2 ^ 8; omega) (Nat.and_two_pow_sub_one_eq_mod q 1) (by rw [IntKind.wrap_u8]; omega) rfl rfl rfl) ?_
    simp only [Act.put, List.setIfInBounds_toArray, List.set_cons_zero, List.set_cons_succ]
    refine wpList_run (by kernel_rfl) (.bool false) V8 (xo_eqlF .u8 ((q % 2 : Nat) : Int) 1 (by omega) rfl rfl rfl) ?_
    simp only [Act.put, List.setIfInBounds_toArray, List.set_cons_zero, List.set_cons_succ]
    refine wpList_nil ?_
    obtain ⟨K2, us, dd, er, hK2, hD1, hD2⟩ := dec_both (n := NN) ysw z nn L (by rw [HMM.out]; exact HNN.out.symm) HZ.out.symm (by omega) (by omega) (by rw [HMM.out]; exact hM3)
    have HD1 := Lib.hid hD1
    have HD2 := Lib.hid hD2
    clear hD1 hD2
    go_upto_region 10 with fail
    refine wp_region_lit ?_
    refine wpList_run (by kernel_rfl) (.slice Aw NN cw) V8 rfl ?_
    simp only [Act.put, List.setIfInBounds_toArray, List.set_cons_zero, List.set_cons_succ]
    refine wpList_run (by kernel_rfl) (.int .i64 (z : Int)) V8 rfl ?_
    simp only [Act.put, List.setIfInBounds_toArray, List.set_cons_zero, List.set_cons_succ]
    refine wpList_call (by kernel_rfl) 25 Try.func25 (by kernel_rfl) (by kernel_rfl) _ _ #[.slice Aw NN cw, .int .i64 (z : Int)] rfl (by kernel_rfl) ?_
    refine (HD1.out Aw cw V8 Hw.out).mono ?_
    rintro e V9 ⟨Am, cm, rfl, hs, hb⟩
    have B8 := Lib.hid hb
    have Hm := Lib.hid hs
    clear hb hs
    refine ⟨_, rfl, ?_⟩
    simp only [Act.put, List.setIfInBounds_toArray, List.set_cons_zero, List.set_cons_succ]
    refine wpList_run (by kernel_rfl) (.tuple #[.slice Am K2 cm, .int .i64 (dd : Int), .int .i64 (er : Int)]) V9 rfl ?_
    simp only [Act.put, List.setIfInBounds_toArray, List.set_cons_zero, List.set_cons_succ]
    refine wpList_run (by kernel_rfl) (.slice Am K2 cm) V9 rfl ?_
    simp only [Act.put, List.setIfInBounds_toArray, List.set_cons_zero, List.set_cons_succ]
    refine wpList_run (by kernel_rfl) (.int .i64 (dd : Int)) V9 rfl ?_
    simp only [Act.put, List.setIfInBounds_toArray, List.set_cons_zero, List.set_cons_succ]
    refine wpList_run (by kernel_rfl) (.int .i64 (er : Int)) V9 rfl ?_
    simp only [Act.put, List.setIfInBounds_toArray, List.set_cons_zero, List.set_cons_succ]
    refine wpList_run (by kernel_rfl) (.slice Am K2 cm) V9 rfl ?_
    simp only [Act.put, List.setIfInBounds_toArray, List.set_cons_zero, List.set_cons_succ]
    refine wpList_run (by kernel_rfl) (.int .i64 (dd : Int)) V9 rfl ?_
    simp only [Act.put, List.setIfInBounds_toArray, List.set_cons_zero, List.set_cons_succ]
    refine wpList_run (by kernel_rfl) (.int .i64 (er : Int)) V9 rfl ?_
    simp only [Act.put, List.setIfInBounds_toArray, List.set_cons_zero, List.set_cons_succ]
    refine wpList_nil ?_
    go_upto_region 11 with fail
    refine wp_region_lit ?_
    refine wpList_run (by kernel_rfl) (.slice Aw NN cw) V9 rfl ?_
    simp only [Act.put, List.setIfInBounds_toArray, List.set_cons_zero, List.set_cons_succ]
    refine wpList_run (by kernel_rfl) (.int .i64 (z : Int)) V9 rfl ?_
    simp only [Act.put, List.setIfInBounds_toArray, List.set_cons_zero, List.set_cons_succ]
    refine wpList_call (by kernel_rfl) 26 Try.func26 (by kernel_rfl) (by kernel_rfl) _ _ #[.slice Aw NN cw, .int .i64 (z : Int)] rfl (by kernel_rfl) ?_
    refine (HD2.out Aw cw V9 (Hw.out.keep B8.out)).mono ?_
    rintro e V10 ⟨An, cn, rfl, hs, hb⟩
    have B9 := Lib.hid hb
    have Hn := Lib.hid hs
    clear hb hs
    refine ⟨_, rfl, ?_⟩
    simp only [Act.put, List.setIfInBounds_toArray, List.set_cons_zero, List.set_cons_succ]
    refine wpList_run (by kernel_rfl) (.tuple #[.slice An K2 cn, .int .i64 (dd : Int), .int .i64 (er : Int)]) V10 rfl ?_
    simp only [Act.put, List.setIfInBounds_toArray, List.set_cons_zero, List.set_cons_succ]
    refine wpList_run (by kernel_rfl) (.slice An K2 cn) V10 rfl ?_
    simp only [Act.put, List.setIfInBounds_toArray, List.set_cons_zero, List.set_cons_succ]
    refine wpList_run (by kernel_rfl) (.int .i64 (dd : Int)) V10 rfl ?_
    simp only [Act.put, List.setIfInBounds_toArray, List.set_cons_zero, List.set_cons_succ]
    refine wpList_run (by kernel_rfl) (.int .i64 (er : Int)) V10 rfl ?_
    simp only [Act.put, List.setIfInBounds_toArray, List.set_cons_zero, List.set_cons_succ]
    refine wpList_run (by kernel_rfl) (.slice An K2 cn) V10 rfl ?_
    simp only [Act.put, List.setIfInBounds_toArray, List.set_cons_zero, List.set_cons_succ]
    refine wpList_run (by kernel_rfl) (.int .i64 (dd : Int)) V10 rfl ?_
    simp only [Act.put, List.setIfInBounds_toArray, List.set_cons_zero, List.set_cons_succ]
    refine wpList_run (by kernel_rfl) (.int .i64 (er : Int)) V10 rfl ?_
    simp only [Act.put, List.setIfInBounds_toArray, List.set_cons_zero, List.set_cons_succ]
    refine wpList_nil ?_
    go_upto_region 12 with fail
    refine wp_region_lit ?_
    refine wpList_run (by kernel_rfl) (.bool true) V10 rfl ?_
    simp only [Act.put, List.setIfInBounds_toArray, List.set_cons_zero, List.set_cons_succ]
    refine wpList_run (by kernel_rfl) (.bool true) V10 rfl ?_
    simp only [Act.put, List.setIfInBounds_toArray, List.set_cons_zero, List.set_cons_succ]
    refine wpList_run (by kernel_rfl) (.slice Am K2 cm) V10 rfl ?_
    simp only [Act.put, List.setIfInBounds_toArray, List.set_cons_zero, List.set_cons_succ]
    refine wpList_run (by kernel_rfl) (.slice An K2 cn) V10 rfl ?_
    simp only [Act.put, List.setIfInBounds_toArray, List.set_cons_zero, List.set_cons_succ]
    refine wpList_call (by kernel_rfl) 17 Try.func17 (by kernel_rfl) (by kernel_rfl) _ _ #[.slice Am K2 cm, .slice An K2 cn] rfl (by kernel_rfl) ?_
    refine (rsame_any Am K2 cm us An K2 cn us (by omega) (by omega) V10 (Hm.out.keep B9.out) Hn.out).mono ?_
    rintro e V11 ⟨rfl, hb⟩
    have B10 := Lib.hid hb
    rw [show decide (us = us) = true from decide_eq_true rfl]
    clear hb 
    refine ⟨_, rfl, ?_⟩
    simp only [Act.put, List.setIfInBounds_toArray, List.set_cons_zero, List.set_cons_succ]
    refine wpList_run (by kernel_rfl) (.bool true) V11 rfl ?_
    simp only [Act.put, List.setIfInBounds_toArray, List.set_cons_zero, List.set_cons_succ]
    refine wpList_run (by kernel_rfl) (.bool true) V11 rfl ?_
    simp only [Act.put, List.setIfInBounds_toArray, List.set_cons_zero, List.set_cons_succ]
    refine wpList_run (by kernel_rfl) (.int .i64 (dd : Int)) V11 rfl ?_
    simp only [Act.put, List.setIfInBounds_toArray, List.set_cons_zero, List.set_cons_succ]
    refine wpList_run (by kernel_rfl) (.int .i64 (dd : Int)) V11 rfl ?_
    simp only [Act.put, List.setIfInBounds_toArray, List.set_cons_zero, List.set_cons_succ]
    refine wpList_run (by kernel_rfl) (.bool true) V11 (xo_eqlT .i64 (dd : Int) (dd : Int) (by omega) rfl rfl rfl) ?_
    simp only [Act.put, List.setIfInBounds_toArray, List.set_cons_zero, List.set_cons_succ]
    refine wpList_run (by kernel_rfl) (.bool true) V11 rfl ?_
    simp only [Act.put, List.setIfInBounds_toArray, List.set_cons_zero, List.set_cons_succ]
    refine wpList_run (by kernel_rfl) (.bool true) V11 rfl ?_
    simp only [Act.put, List.setIfInBounds_toArray, List.set_cons_zero, List.set_cons_succ]
    refine wpList_run (by kernel_rfl) (.int .i64 (er : Int)) V11 rfl ?_
    simp only [Act.put, List.setIfInBounds_toArray, List.set_cons_zero, List.set_cons_succ]
    refine wpList_run (by kernel_rfl) (.int .i64 (er : Int)) V11 rfl ?_
    simp only [Act.put, List.setIfInBounds_toArray, List.set_cons_zero, List.set_cons_succ]
    refine wpList_run (by kernel_rfl) (.bool true) V11 (xo_eqlT .i64 (er : Int) (er : Int) (by omega) rfl rfl rfl) ?_
    simp only [Act.put, List.setIfInBounds_toArray, List.set_cons_zero, List.set_cons_succ]
    refine wpList_run (by kernel_rfl) (.bool true) V11 rfl ?_
    simp only [Act.put, List.setIfInBounds_toArray, List.set_cons_zero, List.set_cons_succ]
    refine wpList_run (by kernel_rfl) (.bool true) V11 rfl ?_
    simp only [Act.put, List.setIfInBounds_toArray, List.set_cons_zero, List.set_cons_succ]
    refine wpList_nil ?_
    go_wp2_with fail
    go_ret
    have C0_8 := Lib.hid (bel_step C0_7.out B7.out)
    have C0_9 := Lib.hid (bel_step C0_8.out B8.out)
    have C0_10 := Lib.hid (bel_step C0_9.out B9.out)
    have C0_11 := Lib.hid (bel_step C0_10.out B10.out)
    exact ⟨rfl, C0_11.out⟩
end Go.Proofs.Ytkefijogpiofbaa
