/- A law of stage 9: ReedsolomonSymbols. -/
import Derived.Test.YtkefijogpiofbaaH15
namespace Go.Proofs.Ytkefijogpiofbaa
set_option linter.unusedVariables false
set_option linter.unusedSimpArgs false
set_option linter.unusedSectionVars false
set_option maxRecDepth 8000
open Go.RowKit Go.Proofs.Ytkefijogpiofbaa.K
attribute [local irreducible] wpList wpQuiet
theorem cwX_A {xs : List Gold.E2} {M j : Nat} {x : Gold.E2} (h : (Gold.cwX xs M)[j]? = some x) : (Gold.cwF (xs.map Gold.E2.A) M)[j]? = some x.A := by
  have hj : j < 2 ^ M := by rw [← Gold.cwX_length xs M]; exact (List.getElem?_eq_some_iff.1 h).1
  rw [Gold.cwX_get hj, Gold.evE_parts] at h
  injection h with h
  unfold Gold.cwF
  rw [Gold.tbF_get _ hj, ← h]
set_option maxRecDepth 100000 in
set_option maxHeartbeats 16000000 in
theorem rSymbols_any (A : Option Addr) (n1 c1 : Nat) (ps : List (Int × Int)) (q ii : Nat) (hq : q < 256) (hii : ii < 256) (hbx : J.Nums ps) (w : World) (hX : Sg exP 2 w A n1 c1 ps) :
    Calls Try.prog 6 #[.slice A n1 c1, .int .u8 (q : Int), .int .u8 (ii : Int)] w fun e w' => e = .returned (.bool true) ∧ Below w.heap.size w w' := by
  have HX := Lib.hid hX
  have HBX := Lib.hid hbx
  clear hX hbx
  go_enter Try.func6, Try.ntmps6
  go_upto_region 1 with fail
  refine wp_region_lit ?_
  refine wpList_call (by kernel_rfl) 7 Try.func7 (by kernel_rfl) (by kernel_rfl) _ _ #[] rfl (by kernel_rfl) ?_
  refine (sanity9_any w).mono ?_
  rintro e V1 ⟨rfl, hb⟩
  have B0 := Lib.hid hb
  clear hb 
  refine ⟨_, rfl, ?_⟩
  simp only [Act.put, List.setIfInBounds_toArray, List.set_cons_zero, List.set_cons_succ]
  refine wpList_run (by kernel_rfl) (.bool true) V1 rfl ?_
  simp only [Act.put, List.setIfInBounds_toArray, List.set_cons_zero, List.set_cons_succ]
  refine wpList_nil ?_
  obtain ⟨nn, hnn⟩ : ∃ nn, q / 16 % 4 = nn := ⟨_, rfl⟩
  have hnn5 : nn < 4 := by omega
  obtain ⟨N, hN⟩ : ∃ N, 2 ^ nn = N := ⟨_, rfl⟩
  have hN16 : N ≤ 16 := by rw [← hN]; exact (show 2 ^ nn ≤ 2 ^ 4 from Nat.pow_le_pow_right (by omega) (by omega))
  have HN := Lib.hid hN
  clear hN
  obtain ⟨L, hL⟩ : ∃ L, q % 3 + 1 = L := ⟨_, rfl⟩
  have hL1 : 1 ≤ L ∧ L ≤ 3 := by omega
  obtain ⟨z, hz⟩ : ∃ z, 2 ^ L = z := ⟨_, rfl⟩
  have hz8 : z ≤ 8 := by rw [← hz]; exact (show 2 ^ L ≤ 2 ^ 3 from Nat.pow_le_pow_right (by omega) (by omega))
  have hz2 : 2 ≤ z := by rw [← hz]; exact (show 2 ^ 1 ≤ 2 ^ L from Nat.pow_le_pow_right (by omega) (by omega))
  have HZ := Lib.hid hz
  have HLq := Lib.hid hL
  clear hz hL
  obtain ⟨M, hM⟩ : ∃ M, nn + L = M := ⟨_, rfl⟩
  have hM7 : M ≤ 7 := by omega
  obtain ⟨NN, hNN⟩ : ∃ NN, 2 ^ M = NN := ⟨_, rfl⟩
  have hNN7 : NN ≤ 128 := by rw [← hNN]; exact (show 2 ^ M ≤ 2 ^ 7 from Nat.pow_le_pow_right (by omega) hM7)
  have hzN : z * N = NN := by rw [← HZ.out, ← HN.out, ← hNN, ← hM, Nat.pow_add, Nat.mul_comm]
  have hNNN : N ≤ NN := by rw [← hzN]; exact Nat.le_mul_of_pos_left _ (by omega)
  have HNN := Lib.hid hNN
  have HMM := Lib.hid hM
  clear hNN hM
  go_upto_region 2 with fail
  refine wp_region_lit ?_
  refine wpList_run (by kernel_rfl) (.int .u8 (q : Int)) V1 rfl ?_
  simp only [Act.put, List.setIfInBounds_toArray, List.set_cons_zero, List.set_cons_succ]
  refine wpList_run (by kernel_rfl) (.int .u8 ((q / 16 : Nat) : Int)) V1 (xo_shrN .u8 .u64 q 4 (q / 16) (by decide) rfl rfl rfl rfl) ?_
  simp only [Act.put, List.setIfInBounds_toArray, List.set_cons_zero, List.set_cons_succ]
  refine wpList_run (by kernel_rfl) (.int .i64 ((q / 16 : Nat) : Int)) V1 (xo_cvt .u8 .i64 ((q / 16 : Nat) : Int) ((q / 16 : Nat) : Int) (by rw [IntKind.wrap_i64]; omega) Try.underlying3 Try.underlying5 rfl rfl) ?_
  simp only [Act.put, List.setIfInBounds_toArray, List.set_cons_zero, List.set_cons_succ]
  refine wpList_run (by kernel_rfl) (.int .i64 (nn : Int)) V1 (xo_remN .i64 (q / 16) 4 nn (by omega) hnn rfl rfl rfl) ?_
  simp only [Act.put, List.setIfInBounds_toArray, List.set_cons_zero, List.set_cons_succ]
  refine wpList_run (by kernel_rfl) (.int .i64 (nn : Int)) V1 rfl ?_
  simp only [Act.put, List.setIfInBounds_toArray, List.set_cons_zero, List.set_cons_succ]
  refine wpList_nil ?_
  go_upto_region 3 with fail
  refine wp_region_lit ?_
  refine wpList_run (by kernel_rfl) (.int .u8 (q : Int)) V1 rfl ?_
  simp only [Act.put, List.setIfInBounds_toArray, List.set_cons_zero, List.set_cons_succ]
  refine wpList_call (by kernel_rfl) 21 Try.func21 (by kernel_rfl) (by kernel_rfl) _ _ #[.int .u8 (q : Int)] rfl (by kernel_rfl) ?_
  refine (blowup_any q hq V1).mono ?_
  rintro e V2 ⟨rfl, hb⟩
  have B1 := Lib.hid hb
  rw [HLq.out, HZ.out]
  clear hb 
  refine ⟨_, rfl, ?_⟩
  simp only [Act.put, List.setIfInBounds_toArray, List.set_cons_zero, List.set_cons_succ]
  refine wpList_run (by kernel_rfl) (.int .i64 (z : Int)) V2 rfl ?_
  simp only [Act.put, List.setIfInBounds_toArray, List.set_cons_zero, List.set_cons_succ]
  refine wpList_nil ?_
  go_upto_region 4 with fail
  refine wp_region_lit ?_
  refine wpList_run (by kernel_rfl) (.slice A n1 c1) V2 rfl ?_
  simp only [Act.put, List.setIfInBounds_toArray, List.set_cons_zero, List.set_cons_succ]
  refine wpList_run (by kernel_rfl) (.int .i64 (nn : Int)) V2 rfl ?_
  simp only [Act.put, List.setIfInBounds_toArray, List.set_cons_zero, List.set_cons_succ]
  refine wpList_run (by kernel_rfl) (.int .i64 (N : Int)) V2 (xo_shlI .i64 1 nn N (by rw [Nat.one_mul]; exact HN.out) (by omega) rfl rfl rfl) ?_
  simp only [Act.put, List.setIfInBounds_toArray, List.set_cons_zero, List.set_cons_succ]
  have C0_2 := Lib.hid (bel_step B0.out B1.out)
  refine wpList_call (by kernel_rfl) 34 Try.func34 (by kernel_rfl) (by kernel_rfl) _ _ #[.slice A n1 c1, .int .i64 (N : Int)] rfl (by kernel_rfl) ?_
  refine (J.rPExactly_any A n1 c1 ps N V2 (srOf (HX.out.keep C0_2.out)) HBX.out (by omega)).mono ?_
  rintro e V3 ⟨Ax, cx, rfl, hsl, hb⟩
  have B2 := Lib.hid hb
  have hs := sgE hsl
  clear hsl
  have hlx := J.exactE_length ps N
  obtain ⟨xs, hxs⟩ : ∃ l, J.exactE ps N = l := ⟨_, rfl⟩
  rw [hxs] at hs hlx
  clear hxs
  have Hx := Lib.hid hs
  clear hb hs
  refine ⟨_, rfl, ?_⟩
  simp only [Act.put, List.setIfInBounds_toArray, List.set_cons_zero, List.set_cons_succ]
  refine wpList_run (by kernel_rfl) (.slice Ax N cx) V3 rfl ?_
  simp only [Act.put, List.setIfInBounds_toArray, List.set_cons_zero, List.set_cons_succ]
  refine wpList_nil ?_
  go_upto_region 5 with fail
  refine wp_region_lit ?_
  refine wpList_run (by kernel_rfl) (.slice Ax N cx) V3 rfl ?_
  simp only [Act.put, List.setIfInBounds_toArray, List.set_cons_zero, List.set_cons_succ]
  refine wpList_run (by kernel_rfl) (.int .i64 (z : Int)) V3 rfl ?_
  simp only [Act.put, List.setIfInBounds_toArray, List.set_cons_zero, List.set_cons_succ]
  refine wpList_call (by kernel_rfl) 11 Try.func11 (by kernel_rfl) (by kernel_rfl) _ _ #[.slice Ax N cx, .int .i64 (z : Int)] rfl (by kernel_rfl) ?_
  refine (encodeExtN Ax N cx xs z nn L NN M HN.out.symm HZ.out.symm (by omega) (by omega) HMM.out (by omega) HNN.out.symm V3 Hx.out).mono ?_
  rintro e V4 ⟨gc, rfl, hs, hb⟩
  have B3 := Lib.hid hb
  have Hc := Lib.hid hs
  clear hb hs
  refine ⟨_, rfl, ?_⟩
  simp only [Act.put, List.setIfInBounds_toArray, List.set_cons_zero, List.set_cons_succ]
  refine wpList_run (by kernel_rfl) (.tuple #[.slice (some ⟨gc, 0, none⟩) NN NN, .int .i64 0]) V4 rfl ?_
  simp only [Act.put, List.setIfInBounds_toArray, List.set_cons_zero, List.set_cons_succ]
  refine wpList_run (by kernel_rfl) (.slice (some ⟨gc, 0, none⟩) NN NN) V4 rfl ?_
  simp only [Act.put, List.setIfInBounds_toArray, List.set_cons_zero, List.set_cons_succ]
  refine wpList_run (by kernel_rfl) (.int .i64 0) V4 rfl ?_
  simp only [Act.put, List.setIfInBounds_toArray, List.set_cons_zero, List.set_cons_succ]
  refine wpList_run (by kernel_rfl) (.slice (some ⟨gc, 0, none⟩) NN NN) V4 rfl ?_
  simp only [Act.put, List.setIfInBounds_toArray, List.set_cons_zero, List.set_cons_succ]
  refine wpList_run (by kernel_rfl) (.int .i64 0) V4 rfl ?_
  simp only [Act.put, List.setIfInBounds_toArray, List.set_cons_zero, List.set_cons_succ]
  refine wpList_nil ?_
  have hNN1 : 1 ≤ NN := by rw [← HNN.out]; exact Nat.two_pow_pos M
  obtain ⟨jj, hjj⟩ : ∃ jj, ii % NN = jj := ⟨_, rfl⟩
  have hjN : jj < NN := by rw [← hjj]; exact Nat.mod_lt _ (by omega)
  go_upto_region 6 with fail
  refine wp_region_lit ?_
  refine wpList_run (by kernel_rfl) (.int .u8 (ii : Int)) V4 rfl ?_
  simp only [Act.put, List.setIfInBounds_toArray, List.set_cons_zero, List.set_cons_succ]
  refine wpList_run (by kernel_rfl) (.int .i64 (ii : Int)) V4 (xo_cvt .u8 .i64 (ii : Int) (ii : Int) (by rw [IntKind.wrap_i64]; omega) Try.underlying3 Try.underlying5 rfl rfl) ?_
  simp only [Act.put, List.setIfInBounds_toArray, List.set_cons_zero, List.set_cons_succ]
  refine wpList_run (by kernel_rfl) (.int .i64 (z : Int)) V4 rfl ?_
  simp only [Act.put, List.setIfInBounds_toArray, List.set_cons_zero, List.set_cons_succ]
  refine wpList_run (by kernel_rfl) (.int .i64 (nn : Int)) V4 rfl ?_
  simp only [Act.put, List.setIfInBounds_toArray, List.set_cons_zero, List.set_cons_succ]
  refine wpList_run (by kernel_rfl) (.int .i64 (NN : Int)) V4 (xo_shlI .i64 z nn NN (by rw [HN.out]; exact hzN) (by omega) rfl rfl rfl) ?_
  simp only [Act.put, List.setIfInBounds_toArray, List.set_cons_zero, List.set_cons_succ]
  refine wpList_run (by kernel_rfl) (.int .i64 (jj : Int)) V4 (xo_remN .i64 ii NN jj (by omega) hjj rfl rfl rfl) ?_
  simp only [Act.put, List.setIfInBounds_toArray, List.set_cons_zero, List.set_cons_succ]
  refine wpList_run (by kernel_rfl) (.int .i64 (jj : Int)) V4 rfl ?_
  simp only [Act.put, List.setIfInBounds_toArray, List.set_cons_zero, List.set_cons_succ]
  refine wpList_nil ?_
  obtain ⟨xv, hxv⟩ : ∃ x, Gold.evE xs (Gold.E2.ofF (Gold.ptF M jj)) = x := ⟨_, rfl⟩
  have HXV := Lib.hid hxv
  clear hxv
  go_upto_region 7 with fail
  refine wp_region_lit ?_
  refine wpList_run (by kernel_rfl) (.slice Ax N cx) V4 rfl ?_
  simp only [Act.put, List.setIfInBounds_toArray, List.set_cons_zero, List.set_cons_succ]
  refine wpList_run (by kernel_rfl) (.int .i64 (z : Int)) V4 rfl ?_
  simp only [Act.put, List.setIfInBounds_toArray, List.set_cons_zero, List.set_cons_succ]
  refine wpList_run (by kernel_rfl) (.int .i64 (jj : Int)) V4 rfl ?_
  simp only [Act.put, List.setIfInBounds_toArray, List.set_cons_zero, List.set_cons_succ]
  refine wpList_call (by kernel_rfl) 13 Try.func13 (by kernel_rfl) (by kernel_rfl) _ _ #[.slice Ax N cx, .int .i64 (z : Int), .int .i64 (jj : Int)] rfl (by kernel_rfl) ?_
  refine (at_yes Ax N cx xs z nn L HN.out.symm HZ.out.symm (by omega) (by omega) (by omega) jj (by rw [HMM.out, HNN.out]; exact hjN) V4 (slOf (Hx.out.keep B3.out))).mono ?_
  rintro e V5 ⟨rfl, hb⟩
  have B4 := Lib.hid hb
  rw [HMM.out, HXV.out]
  clear hb 
  refine ⟨_, rfl, ?_⟩
  simp only [Act.put, List.setIfInBounds_toArray, List.set_cons_zero, List.set_cons_succ]
  refine wpList_run (by kernel_rfl) (.tuple #[.agg #[.int .u64 (Gold.vF xv.A), .int .u64 (Gold.vF xv.B)], .int .i64 0]) V5 rfl ?_
  simp only [Act.put, List.setIfInBounds_toArray, List.set_cons_zero, List.set_cons_succ]
  refine wpList_run (by kernel_rfl) (.agg #[.int .u64 (Gold.vF xv.A), .int .u64 (Gold.vF xv.B)]) V5 rfl ?_
  simp only [Act.put, List.setIfInBounds_toArray, List.set_cons_zero, List.set_cons_succ]
  refine wpList_run (by kernel_rfl) (.int .i64 0) V5 rfl ?_
  simp only [Act.put, List.setIfInBounds_toArray, List.set_cons_zero, List.set_cons_succ]
  refine wpList_new #[.int .u64 0, .int .u64 0] 31 (by kernel_rfl) (xo_alloc #[.int .u64 0, .int .u64 0] (by kernel_rfl) rfl) ?_
  intro b14 V6 hge h0 hb
  have Ge0 : Hid (V5.heap.size ≤ b14) := Lib.hid hge
  have B5 := Lib.hid hb
  have Fv1_14 : Hid (V6.heap[b14]? = some (.cells #[.int .u64 0, .int .u64 0] 31 (0, 0))) := Lib.hid (h0)
  have Lt2 : Hid (b14 < V6.heap.size) := Lib.hid (xp_lt Fv1_14.out)
  clear hge h0 hb
  simp only [ptr, Act.put, List.setIfInBounds_toArray, List.set_cons_zero, List.set_cons_succ]
  refine wpList_storeW b14 #[.int .u64 0, .int .u64 0] #[.int .u64 (Gold.vF xv.A), .int .u64 (Gold.vF xv.B)] 31 (by kernel_rfl) Fv1_14.out (xo_storeW b14 #[.int .u64 0, .int .u64 0] #[.int .u64 (Gold.vF xv.A), .int .u64 (Gold.vF xv.B)] Fv1_14.out (by kernel_rfl) rfl (by simp [Value.oneCell']) rfl rfl rfl) ?_
  intro X6_3 h1 hfar hbel hsz
  have hbr := hbel _ _ Ge0.out B5.out
  clear B5
  have B5 := Lib.hid hbr
  clear hbr
  clear Fv1_14
  have Fv1_14 : Hid (X6_3.heap[b14]? = some (.cells #[.int .u64 (Gold.vF xv.A), .int .u64 (Gold.vF xv.B)] 31 (0, 0))) := Lib.hid (h1)
  have HszX6_3 := Lib.hid hsz
  clear h1 hfar hbel hsz
  simp only [ptr, Act.put, List.setIfInBounds_toArray, List.set_cons_zero, List.set_cons_succ]
  refine wpList_run (by kernel_rfl) (.int .i64 0) X6_3 rfl ?_
  simp only [Act.put, List.setIfInBounds_toArray, List.set_cons_zero, List.set_cons_succ]
  refine wpList_nil ?_
  have C0_3 := Lib.hid (bel_step C0_2.out B2.out)
  have C0_4 := Lib.hid (bel_step C0_3.out B3.out)
  have C0_5 := Lib.hid (bel_step C0_4.out B4.out)
  have C0_6 := Lib.hid (bel_step C0_5.out B5.out)
  have HBV4 := Lib.hid C0_6.out
  have C3_5 := Lib.hid (bel_step B3.out B4.out)
  have C3_6 := Lib.hid (bel_step C3_5.out B5.out)
  have YHx := (Hx.out.keep C3_6.out)
  have C4_6 := Lib.hid (bel_step B4.out B5.out)
  have YHc := (Hc.out.keep C4_6.out)
  have YFv1_14 := Fv1_14.out
  clear Hx
  have Hx := Lib.hid YHx
  clear YHx
  clear Hc
  have Hc := Lib.hid YHc
  clear YHc
  clear Fv1_14
  have Fv1_14 := Lib.hid YFv1_14
  clear YFv1_14
  obtain ⟨VB4, rfl⟩ : ∃ VB4 : World, VB4 = X6_3 := ⟨_, rfl⟩
  have hcpx := Hx.out.cap
  have htpx := Hx.out.top
  go_upto_region 8 with fail
  refine wp_region_lit ?_
  refine wpList_mk (by kernel_rfl) #[] 29 0 0 (xo_empty (size := 1) Try.underlying22 (by kernel_rfl) rfl VB4) ?_
  intro g50 V1 hge h0 hb
  have hge2 := Nat.le_trans (Below.refl VB4.heap.size VB4).size hge
  have B0 := Lib.hid hb
  have Ow50 : Hid (V1.ownsRow VB4.heap.size 29 1 (.slice (some ⟨g50, 0, none⟩) 0 0) 0 (fl feC [])) := Lib.hid (own_new h0 hge2)
  clear hge hge2 h0 hb
  simp only [ptr, Act.put, List.setIfInBounds_toArray, List.set_cons_zero, List.set_cons_succ]
  refine wpList_run (by kernel_rfl) (.slice (some ⟨g50, 0, none⟩) 0 0) V1 rfl ?_
  simp only [Act.put, List.setIfInBounds_toArray, List.set_cons_zero, List.set_cons_succ]
  refine wpList_nil ?_
  go_upto_region 9 with fail
  refine wp_region_lit ?_
  refine wpList_run (by kernel_rfl) (.int .i64 0) V1 rfl ?_
  simp only [Act.put, List.setIfInBounds_toArray, List.set_cons_zero, List.set_cons_succ]
  refine wpList_nil ?_
  have O5 := Ow50.out
  have O6 := B0.out
  go_wp2_with fail
  go_loopw [16, 17] (fun v p wr => ∃ i : Nat, i ≤ N ∧ p = .int .i64 i ∧ wr.ownsRow VB4.heap.size 29 1 v i (fl feC ((xs.map Gold.E2.A).take i)) ∧ Below VB4.heap.size VB4 wr) (fun _ p _ => N - (intOf p).toNat)
  case atStart => exact ⟨0, Nat.zero_le _, rfl, O5, O6⟩
  case round =>
    clear O6 O5
    obtain ⟨wo, rfl⟩ : ∃ wo : World, wo = wr := ⟨_, rfl⟩
    obtain ⟨i, hi, rfl, hOW, hb0⟩ := hrel
    have hbr := hb0
    clear B0
    have B0 := Lib.hid hbr
    clear hbr
    have OW := Lib.hid hOW
    clear hb0 hOW
    by_cases hi1 : i < N
    · have hci8 : ((i : Int) < (N : Int)) := by omega
      go_upto_region 10 with fail
      refine wp_region_lit ?_
      refine wpList_run (by kernel_rfl) (.int .i64 (i : Int)) wo rfl ?_
      simp only [Act.put, List.setIfInBounds_toArray, List.set_cons_zero, List.set_cons_succ]
      refine wpList_run (by kernel_rfl) (.slice Ax N cx) wo rfl ?_
      simp only [Act.put, List.setIfInBounds_toArray, List.set_cons_zero, List.set_cons_succ]
      refine wpList_run (by kernel_rfl) (.int .i64 (N : Int)) wo (xo_len Ax N cx Try.underlying28 rfl rfl) ?_
      simp only [Act.put, List.setIfInBounds_toArray, List.set_cons_zero, List.set_cons_succ]
      refine wpList_run (by kernel_rfl) (.bool true) wo (xo_lssT .i64 (i : Int) (N : Int) (by omega) rfl rfl rfl) ?_
      simp only [Act.put, List.setIfInBounds_toArray, List.set_cons_zero, List.set_cons_succ]
      refine wpList_nil ?_
      obtain ⟨x, hx⟩ : ∃ x, xs[i]? = some x := ⟨_, List.getElem?_eq_getElem (by omega)⟩
      have HEx := Lib.hid hx
      clear hx
      go_upto_region 12 with fail
      refine wp_region_lit ?_
      refine wpList_run (by kernel_rfl) (u16) wo rfl ?_
      simp only [Act.put, List.setIfInBounds_toArray, List.set_cons_zero, List.set_cons_succ]
      refine wpList_run (by kernel_rfl) (.slice Ax N cx) wo rfl ?_
      simp only [Act.put, List.setIfInBounds_toArray, List.set_cons_zero, List.set_cons_succ]
      refine wpList_run (by kernel_rfl) (.int .i64 (i : Int)) wo rfl ?_
      simp only [Act.put, List.setIfInBounds_toArray, List.set_cons_zero, List.set_cons_succ]
      refine wpList_run (by kernel_rfl) (.pointer (some (gad Ax (i * 2)))) wo (xg_idx .i64 (Hx.out.keep B0.out) HEx.out Try.underlying28 (by kernel_rfl) rfl rfl rfl) ?_
      simp only [Act.put, List.setIfInBounds_toArray, List.set_cons_zero, List.set_cons_succ]
      refine wpList_run (by kernel_rfl) (.pointer (some (gad Ax ((i * 2) + 0)))) wo (xg_fld 0 (Hx.out.keep B0.out) HEx.out (by kernel_rfl) rfl rfl) ?_
      simp only [Act.put, List.setIfInBounds_toArray, List.set_cons_zero, List.set_cons_succ]
      refine wpList_run (by kernel_rfl) (.int .u64 (Gold.vF x.A)) wo (xg_load1 (E := exC) (i := i) (j := 0) (Hx.out.keep B0.out) HEx.out rfl rfl Try.underlying29 rfl rfl rfl) ?_
      simp only [Act.put, List.setIfInBounds_toArray, List.set_cons_zero, List.set_cons_succ]
      refine wpList_mk (by kernel_rfl) ([x.A].flatMap feC).toArray 29 1 1 (xg_lit (E := feC) (bytes := 8) (.int .u64 0) [.tmp 62] [x.A] 1 Try.underlying22 (by kernel_rfl) rfl (by decide) (by decide) rfl rfl) ?_
      intro g63 V2 hge h0 hb
      have Ge9 : Hid (wo.heap.size ≤ g63) := Lib.hid hge
      have B1 := Lib.hid hb
      have Fv10_63 : Hid (RowG feC V2 g63 29 ([x.A])) := Lib.hid (h0)
      have Lt11 : Hid (g63 < V2.heap.size) := Lib.hid (xp_lt Fv10_63.out)
      clear hge h0 hb
      simp only [ptr, Act.put, List.setIfInBounds_toArray, List.set_cons_zero, List.set_cons_succ]
      have C0_2 := Lib.hid (bel_step B0.out B1.out)
      refine wpList_app2 (size := 1) (by kernel_rfl) (.tmp 57) (.tmp 63) 22 rfl (.int .u64 0) 8 Try.underlying22 (by kernel_rfl) rfl (by decide) rfl (own_keep OW.out B1.out) (some ⟨g63, 0, none⟩) 1 1 (fl feC ([x.A])) rfl (RowG.sg (n := 1) (c := 1) Fv10_63.out (show ([x.A]).length = 1 from rfl) (Nat.le_refl _) (by omega)).src (by unfold maxLen; omega) (by omega) C0_2.out.size ?_
      intro v64 X2_12 ho hb1 hg hloc
      have hox : X2_12.ownsRow VB4.heap.size 29 1 v64 (i + 1) (fl feC (((xs.map Gold.E2.A).take i) ++ ([x.A]))) := by rw [fl_append]; exact ho
      have hbr := C0_2.out.trans hb1
      clear B0
      have B0 := Lib.hid hbr
      clear hbr
      have Ow64_13 := Lib.hid hox
      clear ho hox hb1 hg hloc
      simp only [ptr, Act.put, List.setIfInBounds_toArray, List.set_cons_zero, List.set_cons_succ]
      refine wpList_run (by kernel_rfl) (v64) X2_12 rfl ?_
      simp only [Act.put, List.setIfInBounds_toArray, List.set_cons_zero, List.set_cons_succ]
      refine wpList_nil ?_
      have hko := Ow64_13.out
      have hme : (xs.map Gold.E2.A).take i ++ [x.A] = (xs.map Gold.E2.A).take (i + 1) := by rw [List.take_add_one, List.getElem?_map, HEx.out]; rfl
      rw [hme] at hko
      go_upto_region 11 with fail
      refine wp_region_lit ?_
      refine wpList_run (by kernel_rfl) (.int .i64 (i : Int)) X2_12 rfl ?_
      simp only [Act.put, List.setIfInBounds_toArray, List.set_cons_zero, List.set_cons_succ]
      refine wpList_run (by kernel_rfl) (.int .i64 ((i + 1 : Nat) : Int)) X2_12 (xo_addI (i : Int) 1 ((i + 1 : Nat) : Int) (by omega) (by omega) (by omega) rfl rfl rfl) ?_
      simp only [Act.put, List.setIfInBounds_toArray, List.set_cons_zero, List.set_cons_succ]
      refine wpList_run (by kernel_rfl) (.int .i64 ((i + 1 : Nat) : Int)) X2_12 rfl ?_
      simp only [Act.put, List.setIfInBounds_toArray, List.set_cons_zero, List.set_cons_succ]
      refine wpList_nil ?_
      have hq14 := B0.out
      go_wp2_with fail
      go_roundw
      case rel => exact ⟨i + 1, by omega, by go_num, hko, hq14⟩
      case measure => simp [intOf]; omega
    · have hci8 : ¬ ((i : Int) < (N : Int)) := by omega
      go_upto_region 10 with fail
      refine wp_region_lit ?_
      refine wpList_run (by kernel_rfl) (.int .i64 (i : Int)) wo rfl ?_
      simp only [Act.put, List.setIfInBounds_toArray, List.set_cons_zero, List.set_cons_succ]
      refine wpList_run (by kernel_rfl) (.slice Ax N cx) wo rfl ?_
      simp only [Act.put, List.setIfInBounds_toArray, List.set_cons_zero, List.set_cons_succ]
      refine wpList_run (by kernel_rfl) (.int .i64 (N : Int)) wo (xo_len Ax N cx Try.underlying28 rfl rfl) ?_
      simp only [Act.put, List.setIfInBounds_toArray, List.set_cons_zero, List.set_cons_succ]
      refine wpList_run (by kernel_rfl) (.bool false) wo (xo_lssF .i64 (i : Int) (N : Int) (by omega) rfl rfl rfl) ?_
      simp only [Act.put, List.setIfInBounds_toArray, List.set_cons_zero, List.set_cons_succ]
      refine wpList_nil ?_
      obtain rfl : N = i := by omega
      obtain ⟨As, cs, hvs⟩ := own_form OW.out
      subst hvs
      have hso := Sg.ownS OW.out
      rw [List.take_of_length_le (by rw [List.length_map]; omega)] at hso
      have HSs := Lib.hid hso
      clear hso
      go_upto_region 13 with fail
      refine wp_region_lit ?_
      refine wpList_run (by kernel_rfl) (.slice As N cs) wo rfl ?_
      simp only [Act.put, List.setIfInBounds_toArray, List.set_cons_zero, List.set_cons_succ]
      refine wpList_run (by kernel_rfl) (.int .i64 (z : Int)) wo rfl ?_
      simp only [Act.put, List.setIfInBounds_toArray, List.set_cons_zero, List.set_cons_succ]
      refine wpList_call (by kernel_rfl) 9 Try.func9 (by kernel_rfl) (by kernel_rfl) _ _ #[.slice As N cs, .int .i64 (z : Int)] rfl (by kernel_rfl) ?_
      refine (encodeN As N cs (xs.map Gold.E2.A) z nn L NN M HN.out.symm HZ.out.symm (by omega) (by omega) HMM.out (by omega) HNN.out.symm wo HSs.out).mono ?_
      rintro e V2 ⟨gu, rfl, hs, hb⟩
      have B1 := Lib.hid hb
      have Hu := Lib.hid hs
      clear hb hs
      refine ⟨_, rfl, ?_⟩
      simp only [Act.put, List.setIfInBounds_toArray, List.set_cons_zero, List.set_cons_succ]
      refine wpList_run (by kernel_rfl) (.tuple #[.slice (some ⟨gu, 0, none⟩) NN NN, .int .i64 0]) V2 rfl ?_
      simp only [Act.put, List.setIfInBounds_toArray, List.set_cons_zero, List.set_cons_succ]
      refine wpList_run (by kernel_rfl) (.slice (some ⟨gu, 0, none⟩) NN NN) V2 rfl ?_
      simp only [Act.put, List.setIfInBounds_toArray, List.set_cons_zero, List.set_cons_succ]
      refine wpList_run (by kernel_rfl) (.int .i64 0) V2 rfl ?_
      simp only [Act.put, List.setIfInBounds_toArray, List.set_cons_zero, List.set_cons_succ]
      refine wpList_run (by kernel_rfl) (.slice (some ⟨gu, 0, none⟩) NN NN) V2 rfl ?_
      simp only [Act.put, List.setIfInBounds_toArray, List.set_cons_zero, List.set_cons_succ]
      refine wpList_run (by kernel_rfl) (.int .i64 0) V2 rfl ?_
      simp only [Act.put, List.setIfInBounds_toArray, List.set_cons_zero, List.set_cons_succ]
      refine wpList_nil ?_
      have HEc : Hid ((Gold.cwX xs M)[jj]? = some xv) := Lib.hid (by rw [← HXV.out]; exact Gold.cwX_get (by rw [HNN.out]; exact hjN))
      have HEu : Hid ((Gold.cwF (xs.map Gold.E2.A) M)[jj]? = some xv.A) := Lib.hid (cwX_A HEc.out)
      go_upto_region 14 with fail
      refine wp_later_lex (by kernel_rfl) (lexOK_of (by kernel_rfl) (by kernel_rfl)) ?_
      refine wpQuiet_val (by kernel_rfl) (.bool true) (fun v hv => rfl) ?_
      simp only [Act.put, List.setIfInBounds_toArray, List.set_cons_zero, List.set_cons_succ]
      refine wpQuiet_val (by kernel_rfl) (.bool true) (fun v hv => rfl) ?_
      simp only [Act.put, List.setIfInBounds_toArray, List.set_cons_zero, List.set_cons_succ]
      refine wpQuiet_val (by kernel_rfl) (.int .i64 0) (fun v hv => rfl) ?_
      simp only [Act.put, List.setIfInBounds_toArray, List.set_cons_zero, List.set_cons_succ]
      refine wpQuiet_val (by kernel_rfl) (.bool true) (fun v hv => (xo_eqlT .i64 0 0 (by omega) rfl rfl rfl)) ?_
      simp only [Act.put, List.setIfInBounds_toArray, List.set_cons_zero, List.set_cons_succ]
      refine wpQuiet_val (by kernel_rfl) (.bool true) (fun v hv => rfl) ?_
      simp only [Act.put, List.setIfInBounds_toArray, List.set_cons_zero, List.set_cons_succ]
      refine wpQuiet_val (by kernel_rfl) (.bool true) (fun v hv => rfl) ?_
      simp only [Act.put, List.setIfInBounds_toArray, List.set_cons_zero, List.set_cons_succ]
      refine wpQuiet_val (by kernel_rfl) (.int .i64 0) (fun v hv => rfl) ?_
      simp only [Act.put, List.setIfInBounds_toArray, List.set_cons_zero, List.set_cons_succ]
      refine wpQuiet_val (by kernel_rfl) (.bool true) (fun v hv => (xo_eqlT .i64 0 0 (by omega) rfl rfl rfl)) ?_
      simp only [Act.put, List.setIfInBounds_toArray, List.set_cons_zero, List.set_cons_succ]
      refine wpQuiet_val (by kernel_rfl) (.bool true) (fun v hv => rfl) ?_
      simp only [Act.put, List.setIfInBounds_toArray, List.set_cons_zero, List.set_cons_succ]
      refine wpQuiet_val (by kernel_rfl) (.bool true) (fun v hv => rfl) ?_
      simp only [Act.put, List.setIfInBounds_toArray, List.set_cons_zero, List.set_cons_succ]
      refine wpQuiet_val (by kernel_rfl) (.int .i64 0) (fun v hv => rfl) ?_
      simp only [Act.put, List.setIfInBounds_toArray, List.set_cons_zero, List.set_cons_succ]
      refine wpQuiet_val (by kernel_rfl) (.bool true) (fun v hv => (xo_eqlT .i64 0 0 (by omega) rfl rfl rfl)) ?_
      simp only [Act.put, List.setIfInBounds_toArray, List.set_cons_zero, List.set_cons_succ]
      refine wpQuiet_val (by kernel_rfl) (.bool true) (fun v hv => rfl) ?_
      simp only [Act.put, List.setIfInBounds_toArray, List.set_cons_zero, List.set_cons_succ]
      refine wpQuiet_val (by kernel_rfl) (.bool true) (fun v hv => rfl) ?_
      simp only [Act.put, List.setIfInBounds_toArray, List.set_cons_zero, List.set_cons_succ]
      refine wpQuiet_val (by kernel_rfl) (.slice (some ⟨gc, 0, none⟩) NN NN) (fun v hv => rfl) ?_
      simp only [Act.put, List.setIfInBounds_toArray, List.set_cons_zero, List.set_cons_succ]
      refine wpQuiet_val (by kernel_rfl) (.int .i64 (NN : Int)) (fun v hv => (xo_len (some ⟨gc, 0, none⟩) NN NN Try.underlying28 rfl rfl)) ?_
      simp only [Act.put, List.setIfInBounds_toArray, List.set_cons_zero, List.set_cons_succ]
      refine wpQuiet_val (by kernel_rfl) (.int .i64 (z : Int)) (fun v hv => rfl) ?_
      simp only [Act.put, List.setIfInBounds_toArray, List.set_cons_zero, List.set_cons_succ]
      refine wpQuiet_val (by kernel_rfl) (.int .i64 (nn : Int)) (fun v hv => rfl) ?_
      simp only [Act.put, List.setIfInBounds_toArray, List.set_cons_zero, List.set_cons_succ]
      refine wpQuiet_val (by kernel_rfl) (.int .i64 (NN : Int)) (fun v hv => (xo_shlI .i64 z nn NN (by rw [HN.out]; exact hzN) (by omega) rfl rfl rfl)) ?_
      simp only [Act.put, List.setIfInBounds_toArray, List.set_cons_zero, List.set_cons_succ]
      refine wpQuiet_val (by kernel_rfl) (.bool true) (fun v hv => (xo_eqlT .i64 (NN : Int) (NN : Int) (by omega) rfl rfl rfl)) ?_
      simp only [Act.put, List.setIfInBounds_toArray, List.set_cons_zero, List.set_cons_succ]
      refine wpQuiet_val (by kernel_rfl) (.bool true) (fun v hv => rfl) ?_
      simp only [Act.put, List.setIfInBounds_toArray, List.set_cons_zero, List.set_cons_succ]
      refine wpQuiet_val (by kernel_rfl) (.bool true) (fun v hv => rfl) ?_
      simp only [Act.put, List.setIfInBounds_toArray, List.set_cons_zero, List.set_cons_succ]
      refine wpQuiet_val (by kernel_rfl) (.slice (some ⟨gu, 0, none⟩) NN NN) (fun v hv => rfl) ?_
      simp only [Act.put, List.setIfInBounds_toArray, List.set_cons_zero, List.set_cons_succ]
      refine wpQuiet_val (by kernel_rfl) (.int .i64 (NN : Int)) (fun v hv => (xo_len (some ⟨gu, 0, none⟩) NN NN Try.underlying22 rfl rfl)) ?_
      simp only [Act.put, List.setIfInBounds_toArray, List.set_cons_zero, List.set_cons_succ]
      refine wpQuiet_val (by kernel_rfl) (.int .i64 (z : Int)) (fun v hv => rfl) ?_
      simp only [Act.put, List.setIfInBounds_toArray, List.set_cons_zero, List.set_cons_succ]
      refine wpQuiet_val (by kernel_rfl) (.int .i64 (nn : Int)) (fun v hv => rfl) ?_
      simp only [Act.put, List.setIfInBounds_toArray, List.set_cons_zero, List.set_cons_succ]
      refine wpQuiet_val (by kernel_rfl) (.int .i64 (NN : Int)) (fun v hv => (xo_shlI .i64 z nn NN (by rw [HN.out]; exact hzN) (by omega) rfl rfl rfl)) ?_
      simp only [Act.put, List.setIfInBounds_toArray, List.set_cons_zero, List.set_cons_succ]
      refine wpQuiet_val (by kernel_rfl) (.bool true) (fun v hv => (xo_eqlT .i64 (NN : Int) (NN : Int) (by omega) rfl rfl rfl)) ?_
      simp only [Act.put, List.setIfInBounds_toArray, List.set_cons_zero, List.set_cons_succ]
      refine wpQuiet_val (by kernel_rfl) (.bool true) (fun v hv => rfl) ?_
      simp only [Act.put, List.setIfInBounds_toArray, List.set_cons_zero, List.set_cons_succ]
      refine wpQuiet_val (by kernel_rfl) (.bool true) (fun v hv => rfl) ?_
      simp only [Act.put, List.setIfInBounds_toArray, List.set_cons_zero, List.set_cons_succ]
      have C0_2 := Lib.hid (bel_step B0.out B1.out)
      refine wpQuiet_val (by kernel_rfl) (.agg #[.int .u64 (Gold.vF xv.A), .int .u64 (Gold.vF xv.B)]) (fun v hv => (xo_loadW b14 _ (heap_keep (heap_keep Fv1_14.out C0_2.out) (later_bel hv)) Try.underlying31 rfl (by kernel_rfl) rfl rfl)) ?_
      simp only [Act.put, List.setIfInBounds_toArray, List.set_cons_zero, List.set_cons_succ]
      refine wpQuiet_val (by kernel_rfl) (.slice (some ⟨gc, 0, none⟩) NN NN) (fun v hv => rfl) ?_
      simp only [Act.put, List.setIfInBounds_toArray, List.set_cons_zero, List.set_cons_succ]
      refine wpQuiet_val (by kernel_rfl) (.int .i64 (jj : Int)) (fun v hv => rfl) ?_
      simp only [Act.put, List.setIfInBounds_toArray, List.set_cons_zero, List.set_cons_succ]
      refine wpQuiet_val (by kernel_rfl) (.pointer (some (gad (some ⟨gc, 0, none⟩) (jj * 2)))) (fun v hv => (xg_idx .i64 ((Hc.out.keep C0_2.out).keep (later_bel hv)) HEc.out Try.underlying28 (by kernel_rfl) rfl rfl rfl)) ?_
      simp only [Act.put, List.setIfInBounds_toArray, List.set_cons_zero, List.set_cons_succ]
      refine wpQuiet_val (by kernel_rfl) (.agg #[.int .u64 (Gold.vF xv.A), .int .u64 (Gold.vF xv.B)]) (fun v hv => (xg_loadE (E := exC) ((Hc.out.keep C0_2.out).keep (later_bel hv)) HEc.out Try.underlying31 rfl (by kernel_rfl) rfl rfl)) ?_
      simp only [Act.put, List.setIfInBounds_toArray, List.set_cons_zero, List.set_cons_succ]
      refine wpQuiet_val (by kernel_rfl) (.bool true) (fun v hv => (exec_eqXt _ _ rfl rfl rfl)) ?_
      simp only [Act.put, List.setIfInBounds_toArray, List.set_cons_zero, List.set_cons_succ]
      refine wpQuiet_val (by kernel_rfl) (.bool true) (fun v hv => rfl) ?_
      simp only [Act.put, List.setIfInBounds_toArray, List.set_cons_zero, List.set_cons_succ]
      refine wpQuiet_val (by kernel_rfl) (.bool true) (fun v hv => rfl) ?_
      simp only [Act.put, List.setIfInBounds_toArray, List.set_cons_zero, List.set_cons_succ]
      refine wpQuiet_val (by kernel_rfl) (.slice (some ⟨gu, 0, none⟩) NN NN) (fun v hv => rfl) ?_
      simp only [Act.put, List.setIfInBounds_toArray, List.set_cons_zero, List.set_cons_succ]
      refine wpQuiet_val (by kernel_rfl) (.int .i64 (jj : Int)) (fun v hv => rfl) ?_
      simp only [Act.put, List.setIfInBounds_toArray, List.set_cons_zero, List.set_cons_succ]
      refine wpQuiet_val (by kernel_rfl) (.pointer (some (gad (some ⟨gu, 0, none⟩) (jj * 1)))) (fun v hv => (xg_idx .i64 (Hu.out.keep (later_bel hv)) HEu.out Try.underlying22 (by kernel_rfl) rfl rfl rfl)) ?_
      simp only [Act.put, List.setIfInBounds_toArray, List.set_cons_zero, List.set_cons_succ]
      refine wpQuiet_val (by kernel_rfl) (.int .u64 (Gold.vF xv.A)) (fun v hv => (xg_load1 (E := feC) (i := jj) (j := 0) (Hu.out.keep (later_bel hv)) HEu.out rfl rfl Try.underlying29 rfl rfl rfl)) ?_
      simp only [Act.put, List.setIfInBounds_toArray, List.set_cons_zero, List.set_cons_succ]
      refine wpQuiet_val (by kernel_rfl) (.slice (some ⟨gc, 0, none⟩) NN NN) (fun v hv => rfl) ?_
      simp only [Act.put, List.setIfInBounds_toArray, List.set_cons_zero, List.set_cons_succ]
      refine wpQuiet_val (by kernel_rfl) (.int .i64 (jj : Int)) (fun v hv => rfl) ?_
      simp only [Act.put, List.setIfInBounds_toArray, List.set_cons_zero, List.set_cons_succ]
      refine wpQuiet_val (by kernel_rfl) (.pointer (some (gad (some ⟨gc, 0, none⟩) (jj * 2)))) (fun v hv => (xg_idx .i64 ((Hc.out.keep C0_2.out).keep (later_bel hv)) HEc.out Try.underlying28 (by kernel_rfl) rfl rfl rfl)) ?_
      simp only [Act.put, List.setIfInBounds_toArray, List.set_cons_zero, List.set_cons_succ]
      refine wpQuiet_val (by kernel_rfl) (.pointer (some (gad (some ⟨gc, 0, none⟩) ((jj * 2) + 0)))) (fun v hv => (xg_fld 0 ((Hc.out.keep C0_2.out).keep (later_bel hv)) HEc.out (by kernel_rfl) rfl rfl)) ?_
      simp only [Act.put, List.setIfInBounds_toArray, List.set_cons_zero, List.set_cons_succ]
      refine wpQuiet_val (by kernel_rfl) (.int .u64 (Gold.vF xv.A)) (fun v hv => (xg_load1 (E := exC) (i := jj) (j := 0) ((Hc.out.keep C0_2.out).keep (later_bel hv)) HEc.out rfl rfl Try.underlying29 rfl rfl rfl)) ?_
      simp only [Act.put, List.setIfInBounds_toArray, List.set_cons_zero, List.set_cons_succ]
      refine wpQuiet_val (by kernel_rfl) (.bool true) (fun v hv => (xo_eqlT .u64 (Gold.vF xv.A) (Gold.vF xv.A) (by omega) rfl rfl rfl)) ?_
      simp only [Act.put, List.setIfInBounds_toArray, List.set_cons_zero, List.set_cons_succ]
      refine wpQuiet_val (by kernel_rfl) (.bool true) (fun v hv => rfl) ?_
      simp only [Act.put, List.setIfInBounds_toArray, List.set_cons_zero, List.set_cons_succ]
      refine wpQuiet_val (by kernel_rfl) (.bool true) (fun v hv => rfl) ?_
      simp only [Act.put, List.setIfInBounds_toArray, List.set_cons_zero, List.set_cons_succ]
      refine wpQuiet_nil ?_
      intro X2_9
      have hb := X2_9.below
      generalize X2_9.at = V3 at *
      have B2 := Lib.hid hb
      clear hb
      go_wp2_with fail
      go_ret
      have C0_3 := Lib.hid (bel_step C0_2.out B2.out)
      exact ⟨rfl, HBV4.out.trans (C0_3.out.mono HBV4.out.size)⟩
end Go.Proofs.Ytkefijogpiofbaa
