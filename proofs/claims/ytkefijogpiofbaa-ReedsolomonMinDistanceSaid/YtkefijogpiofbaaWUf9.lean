/- A law of stage 9: ReedsolomonMinDistance. -/
import Derived.Test.YtkefijogpiofbaaH16
namespace Go.Proofs.Ytkefijogpiofbaa
set_option linter.unusedVariables false
set_option linter.unusedSimpArgs false
set_option linter.unusedSectionVars false
set_option maxRecDepth 8000
open Go.RowKit Go.Proofs.Ytkefijogpiofbaa.K
attribute [local irreducible] wpList wpQuiet
set_option maxRecDepth 100000 in
set_option maxHeartbeats 16000000 in
theorem rMinDistance_law (A : Option Addr) (n1 c1 : Nat) (xs : List Nat) (E : Option Addr) (n2 c2 : Nat) (ys : List Nat) (rt q : Nat) (hrt : rt < 256) (hq : q < 256) (hbx : ∀ z ∈ xs, z < 18446744073709551616) (hby : ∀ z ∈ ys, z < 18446744073709551616) (w : World) (hX : Sg wdC 1 w A n1 c1 xs) (hY : Sg wdC 1 w E n2 c2 ys) :
    Calls Try.prog 5 #[.slice A n1 c1, .slice E n2 c2, .int .u8 (rt : Int), .int .u8 (q : Int)] w fun e w' => e = .returned (.bool true) ∧ Below w.heap.size w w' := by
  have HX := Lib.hid hX
  have HY := Lib.hid hY
  have HBX := Lib.hid hbx
  have HBY := Lib.hid hby
  clear hX hY hbx hby
  go_enter Try.func5, Try.ntmps5
  go_upto_region 1 with fail
  refine wp_region_lit ?_
  refine wpList_call (by kernel_rfl) 7 Try.func7 (by kernel_rfl) (by kernel_rfl) _ _ #[] rfl (by kernel_rfl) ?_
  refine (sanity9_any w).mono ?_
  rintro e V1 ⟨rfl, hb⟩
  have B0 := Lib.hid hb
  clear hb 
  refine ⟨_, rfl, ?_⟩
  simp only [Act.put, List.setIfInBounds_toArray, List.set_cons_zero, List.set_cons_succ]
  refine wpList_run (by kernel_rfl) (.bool true) V1 rfl ?_
  simp only [Act.put, List.setIfInBounds_toArray, List.set_cons_zero, List.set_cons_succ]
  refine wpList_nil ?_
  obtain ⟨nn, hnn⟩ : ∃ nn, q / 16 % 5 = nn := ⟨_, rfl⟩
  have hnn5 : nn < 5 := by omega
  obtain ⟨N, hN⟩ : ∃ N, 2 ^ nn = N := ⟨_, rfl⟩
  have hN16 : N ≤ 16 := by rw [← hN]; exact (show 2 ^ nn ≤ 2 ^ 4 from Nat.pow_le_pow_right (by omega) (by omega))
  have HN := Lib.hid hN
  clear hN
  obtain ⟨L, hL⟩ : ∃ L, q % 3 + 1 = L := ⟨_, rfl⟩
  have hL1 : 1 ≤ L ∧ L ≤ 3 := by omega
  obtain ⟨z, hz⟩ : ∃ z, 2 ^ L = z := ⟨_, rfl⟩
  have hz8 : z ≤ 8 := by rw [← hz]; exact (show 2 ^ L ≤ 2 ^ 3 from Nat.pow_le_pow_right (by omega) (by omega))
  have hz2 : 2 ≤ z := by rw [← hz]; exact (show 2 ^ 1 ≤ 2 ^ L from Nat.pow_le_pow_right (by omega) (by omega))
  have HZ := Lib.hid hz
  have HLq := Lib.hid hL
  clear hz hL
  obtain ⟨M, hM⟩ : ∃ M, nn + L = M := ⟨_, rfl⟩
  have hM7 : M ≤ 7 := by omega
  obtain ⟨NN, hNN⟩ : ∃ NN, 2 ^ M = NN := ⟨_, rfl⟩
  have hNN7 : NN ≤ 128 := by rw [← hNN]; exact (show 2 ^ M ≤ 2 ^ 7 from Nat.pow_le_pow_right (by omega) hM7)
  have hzN : z * N = NN := by rw [← HZ.out, ← HN.out, ← hNN, ← hM, Nat.pow_add, Nat.mul_comm]
  have hNNN : N ≤ NN := by rw [← hzN]; exact Nat.le_mul_of_pos_left _ (by omega)
  have HNN := Lib.hid hNN
  have HMM := Lib.hid hM
  clear hNN hM
  have hN1 : 1 ≤ N := by rw [← HN.out]; exact Nat.two_pow_pos nn
  go_upto_region 2 with fail
  refine wp_region_lit ?_
  refine wpList_run (by kernel_rfl) (.int .u8 (q : Int)) V1 rfl ?_
  simp only [Act.put, List.setIfInBounds_toArray, List.set_cons_zero, List.set_cons_succ]
  refine wpList_run (by kernel_rfl) (.int .u8 ((q / 16 : Nat) : Int)) V1 (xo_shrN .u8 .u64 q 4 (q / 16) (by decide) rfl rfl rfl rfl) ?_
  simp only [Act.put, List.setIfInBounds_toArray, List.set_cons_zero, List.set_cons_succ]
  refine wpList_run (by kernel_rfl) (.int .i64 ((q / 16 : Nat) : Int)) V1 (xo_cvt .u8 .i64 ((q / 16 : Nat) : Int) ((q / 16 : Nat) : Int) (by rw [IntKind.wrap_i64]; omega) Try.underlying3 Try.underlying5 rfl rfl) ?_
  simp only [Act.put, List.setIfInBounds_toArray, List.set_cons_zero, List.set_cons_succ]
  refine wpList_run (by kernel_rfl) (.int .i64 (nn : Int)) V1 (xo_remN .i64 (q / 16) 5 nn (by omega) hnn rfl rfl rfl) ?_
  simp only [Act.put, List.setIfInBounds_toArray, List.set_cons_zero, List.set_cons_succ]
  refine wpList_run (by kernel_rfl) (.int .i64 (nn : Int)) V1 rfl ?_
  simp only [Act.put, List.setIfInBounds_toArray, List.set_cons_zero, List.set_cons_succ]
  refine wpList_nil ?_
  go_upto_region 3 with fail
  refine wp_region_lit ?_
  refine wpList_run (by kernel_rfl) (.int .u8 (q : Int)) V1 rfl ?_
  simp only [Act.put, List.setIfInBounds_toArray, List.set_cons_zero, List.set_cons_succ]
  refine wpList_call (by kernel_rfl) 21 Try.func21 (by kernel_rfl) (by kernel_rfl) _ _ #[.int .u8 (q : Int)] rfl (by kernel_rfl) ?_
  refine (blowup_any q hq V1).mono ?_
  rintro e V2 ⟨rfl, hb⟩
  have B1 := Lib.hid hb
  rw [HLq.out, HZ.out]
  clear hb 
  refine ⟨_, rfl, ?_⟩
  simp only [Act.put, List.setIfInBounds_toArray, List.set_cons_zero, List.set_cons_succ]
  refine wpList_run (by kernel_rfl) (.int .i64 (z : Int)) V2 rfl ?_
  simp only [Act.put, List.setIfInBounds_toArray, List.set_cons_zero, List.set_cons_succ]
  refine wpList_nil ?_
  go_upto_region 4 with fail
  refine wp_region_lit ?_
  refine wpList_run (by kernel_rfl) (.slice A n1 c1) V2 rfl ?_
  simp only [Act.put, List.setIfInBounds_toArray, List.set_cons_zero, List.set_cons_succ]
  refine wpList_run (by kernel_rfl) (.int .i64 (nn : Int)) V2 rfl ?_
  simp only [Act.put, List.setIfInBounds_toArray, List.set_cons_zero, List.set_cons_succ]
  have C0_2 := Lib.hid (bel_step B0.out B1.out)
  refine wpList_call (by kernel_rfl) 22 Try.func22 (by kernel_rfl) (by kernel_rfl) _ _ #[.slice A n1 c1, .int .i64 (nn : Int)] rfl (by kernel_rfl) ?_
  refine (rmade_any A n1 c1 xs nn (by omega) HBX.out V2 (HX.out.keep C0_2.out)).mono ?_
  rintro e V3 ⟨Ap, cp, rfl, ho, hb⟩
  have B2 := Lib.hid hb
  have hs := Sg.ownS ho
  clear ho
  rw [HN.out] at hs ⊢
  obtain ⟨ps, hps⟩ : ∃ l, Gold.mdF xs N = l := ⟨_, rfl⟩
  rw [hps] at hs
  have hlps : ps.length = N := by rw [← hps]; exact Gold.mdF_length _ _
  clear hps
  have Hps := Lib.hid hs
  clear hb hs
  refine ⟨_, rfl, ?_⟩
  simp only [Act.put, List.setIfInBounds_toArray, List.set_cons_zero, List.set_cons_succ]
  refine wpList_run (by kernel_rfl) (.slice Ap N cp) V3 rfl ?_
  simp only [Act.put, List.setIfInBounds_toArray, List.set_cons_zero, List.set_cons_succ]
  refine wpList_nil ?_
  go_upto_region 5 with fail
  refine wp_region_lit ?_
  refine wpList_run (by kernel_rfl) (.slice E n2 c2) V3 rfl ?_
  simp only [Act.put, List.setIfInBounds_toArray, List.set_cons_zero, List.set_cons_succ]
  refine wpList_run (by kernel_rfl) (.int .i64 (nn : Int)) V3 rfl ?_
  simp only [Act.put, List.setIfInBounds_toArray, List.set_cons_zero, List.set_cons_succ]
  have C0_3 := Lib.hid (bel_step C0_2.out B2.out)
  refine wpList_call (by kernel_rfl) 22 Try.func22 (by kernel_rfl) (by kernel_rfl) _ _ #[.slice E n2 c2, .int .i64 (nn : Int)] rfl (by kernel_rfl) ?_
  refine (rmade_any E n2 c2 ys nn (by omega) HBY.out V3 (HY.out.keep C0_3.out)).mono ?_
  rintro e V4 ⟨Aq, cq, rfl, ho, hb⟩
  have B3 := Lib.hid hb
  have hs := Sg.ownS ho
  clear ho
  rw [HN.out] at hs ⊢
  obtain ⟨qs, hqs⟩ : ∃ l, Gold.mdF ys N = l := ⟨_, rfl⟩
  rw [hqs] at hs
  have hlqs : qs.length = N := by rw [← hqs]; exact Gold.mdF_length _ _
  clear hqs
  have Hqs := Lib.hid hs
  clear hb hs
  refine ⟨_, rfl, ?_⟩
  simp only [Act.put, List.setIfInBounds_toArray, List.set_cons_zero, List.set_cons_succ]
  refine wpList_run (by kernel_rfl) (.slice Aq N cq) V4 rfl ?_
  simp only [Act.put, List.setIfInBounds_toArray, List.set_cons_zero, List.set_cons_succ]
  refine wpList_nil ?_
  go_upto_region 6 with fail
  refine wp_region_lit ?_
  refine wpList_call (by kernel_rfl) 27 Try.func27 (by kernel_rfl) (by kernel_rfl) _ _ #[.int .i64 1] rfl (by kernel_rfl) ?_
  refine (J.rFromInt_any 1 V4 (by omega) (by omega)).mono ?_
  rintro e V5 ⟨rfl, hb⟩
  have B4 := Lib.hid hb
  clear hb 
  refine ⟨_, rfl, ?_⟩
  simp only [Act.put, List.setIfInBounds_toArray, List.set_cons_zero, List.set_cons_succ]
  refine wpList_mk (by kernel_rfl) ([(Gold.E2.mk ((Gold.E2.ofF (Gold.toF 1)).A) ((Gold.E2.ofF (Gold.toF 1)).B))].flatMap exC).toArray 31 1 1 (xg_lit (E := exC) (bytes := 16) (.agg #[.int .u64 0, .int .u64 0]) [.tmp 34] [(Gold.E2.mk ((Gold.E2.ofF (Gold.toF 1)).A) ((Gold.E2.ofF (Gold.toF 1)).B))] 1 Try.underlying28 (by kernel_rfl) rfl (by decide) (by decide) rfl rfl) ?_
  intro g35 V6 hge h0 hb
  have Ge0 : Hid (V5.heap.size ≤ g35) := Lib.hid hge
  have B5 := Lib.hid hb
  have Fv1_35 : Hid (RowG exC V6 g35 31 ([(Gold.E2.mk ((Gold.E2.ofF (Gold.toF 1)).A) ((Gold.E2.ofF (Gold.toF 1)).B))])) := Lib.hid (h0)
  have Lt2 : Hid (g35 < V6.heap.size) := Lib.hid (xp_lt Fv1_35.out)
  clear hge h0 hb
  simp only [ptr, Act.put, List.setIfInBounds_toArray, List.set_cons_zero, List.set_cons_succ]
  refine wpList_run (by kernel_rfl) (.slice (some ⟨g35, 0, none⟩) 1 1) V6 rfl ?_
  simp only [Act.put, List.setIfInBounds_toArray, List.set_cons_zero, List.set_cons_succ]
  refine wpList_nil ?_
  go_upto_region 7 with fail
  refine wp_region_lit ?_
  refine wpList_run (by kernel_rfl) (.int .i64 0) V6 rfl ?_
  simp only [Act.put, List.setIfInBounds_toArray, List.set_cons_zero, List.set_cons_succ]
  refine wpList_nil ?_
  have HD0 := Lib.hid (RowG.sg (n := 1) (c := 1) Fv1_35.out (show ([(Gold.E2.mk ((Gold.E2.ofF (Gold.toF 1)).A) ((Gold.E2.ofF (Gold.toF 1)).B))]).length = 1 from rfl) (Nat.le_refl _) (by omega))
  have C0_4 := Lib.hid (bel_step C0_3.out B3.out)
  have C0_5 := Lib.hid (bel_step C0_4.out B4.out)
  have C0_6 := Lib.hid (bel_step C0_5.out B5.out)
  have HBV3 := Lib.hid C0_6.out
  have C3_5 := Lib.hid (bel_step B3.out B4.out)
  have C3_6 := Lib.hid (bel_step C3_5.out B5.out)
  have YHps := (Hps.out.keep C3_6.out)
  have C4_6 := Lib.hid (bel_step B4.out B5.out)
  have YHqs := (Hqs.out.keep C4_6.out)
  have YHD0 := HD0.out
  clear Hps
  have Hps := Lib.hid YHps
  clear YHps
  clear Hqs
  have Hqs := Lib.hid YHqs
  clear YHqs
  clear HD0
  have HD0 := Lib.hid YHD0
  clear YHD0
  obtain ⟨VB3, rfl⟩ : ∃ VB3 : World, VB3 = V6 := ⟨_, rfl⟩
  have hcps := Hps.out.cap
  have htps := Hps.out.top
  have hcqs := Hqs.out.cap
  have htqs := Hqs.out.top
  obtain ⟨rr, hrr⟩ : ∃ r, rt % N = r := ⟨_, rfl⟩
  have hrN : rr < N := by rw [← hrr]; exact Nat.mod_lt _ (by omega)
  have O4 := HD0.out
  have O5 := (Below.refl VB3.heap.size VB3)
  have B0 := Lib.hid (Below.refl VB3.heap.size VB3)
  go_wp2_with fail
  go_loopw [14, 15] (fun dv p wr => ∃ i : Nat, ∃ (Ad : Option Addr) (md cd : Nat) (ds : List Gold.E2), i ≤ rr ∧ p = .int .i64 i ∧ dv = .slice Ad md cd ∧ md ≤ i + 1 ∧ Sg exC 2 wr Ad md cd ds ∧ Below VB3.heap.size VB3 wr) (fun _ p _ => rr - (intOf p).toNat)
  case atStart => exact ⟨0, some ⟨g35, 0, none⟩, 1, 1, [(Gold.E2.mk ((Gold.E2.ofF (Gold.toF 1)).A) ((Gold.E2.ofF (Gold.toF 1)).B))], Nat.zero_le _, rfl, rfl, Nat.le_refl _, O4, O5⟩
  case round =>
    clear O5 O4
    obtain ⟨wo, rfl⟩ : ∃ wo : World, wo = wr := ⟨_, rfl⟩
    obtain ⟨i, Ad, md, cd, ds, hi, rfl, hhdv, hhml, hHD, hb0⟩ := hrel
    have hbr := hb0
    clear B0
    have B0 := Lib.hid hbr
    clear hbr
    have hdv := Lib.hid hhdv
    have hml := Lib.hid hhml
    have HD := Lib.hid hHD
    clear hb0 hhdv hhml hHD
    have hdve := hdv.out
    subst hdve
    have hmle := hml.out
    have hcd := HD.out.cap
    have htd := HD.out.top
    by_cases hir : i < rr
    · have hci7 : ((i : Int) < (rr : Int)) := by omega
      go_upto_region 8 with fail
      refine wp_region_lit ?_
      refine wpList_run (by kernel_rfl) (.int .i64 (i : Int)) wo rfl ?_
      simp only [Act.put, List.setIfInBounds_toArray, List.set_cons_zero, List.set_cons_succ]
      refine wpList_run (by kernel_rfl) (.int .u8 (rt : Int)) wo rfl ?_
      simp only [Act.put, List.setIfInBounds_toArray, List.set_cons_zero, List.set_cons_succ]
      refine wpList_run (by kernel_rfl) (.int .i64 (rt : Int)) wo (xo_cvt .u8 .i64 (rt : Int) (rt : Int) (by rw [IntKind.wrap_i64]; omega) Try.underlying3 Try.underlying5 rfl rfl) ?_
      simp only [Act.put, List.setIfInBounds_toArray, List.set_cons_zero, List.set_cons_succ]
      refine wpList_run (by kernel_rfl) (.slice Ap N cp) wo rfl ?_
      simp only [Act.put, List.setIfInBounds_toArray, List.set_cons_zero, List.set_cons_succ]
      refine wpList_run (by kernel_rfl) (.int .i64 (N : Int)) wo (xo_len Ap N cp Try.underlying22 rfl rfl) ?_
      simp only [Act.put, List.setIfInBounds_toArray, List.set_cons_zero, List.set_cons_succ]
      refine wpList_run (by kernel_rfl) (.int .i64 (rr : Int)) wo (xo_remN .i64 rt N rr (by omega) hrr rfl rfl rfl) ?_
      simp only [Act.put, List.setIfInBounds_toArray, List.set_cons_zero, List.set_cons_succ]
      refine wpList_run (by kernel_rfl) (.bool true) wo (xo_lssT .i64 (i : Int) (rr : Int) (by omega) rfl rfl rfl) ?_
      simp only [Act.put, List.setIfInBounds_toArray, List.set_cons_zero, List.set_cons_succ]
      refine wpList_nil ?_
      go_upto_region 10 with fail
      refine wp_region_lit ?_
      refine wpList_run (by kernel_rfl) (.slice Ad md cd) wo rfl ?_
      simp only [Act.put, List.setIfInBounds_toArray, List.set_cons_zero, List.set_cons_succ]
      refine wpList_run (by kernel_rfl) (.int .i64 (z : Int)) wo rfl ?_
      simp only [Act.put, List.setIfInBounds_toArray, List.set_cons_zero, List.set_cons_succ]
      refine wpList_run (by kernel_rfl) (.slice Ap N cp) wo rfl ?_
      simp only [Act.put, List.setIfInBounds_toArray, List.set_cons_zero, List.set_cons_succ]
      refine wpList_run (by kernel_rfl) (.int .i64 (N : Int)) wo (xo_len Ap N cp Try.underlying22 rfl rfl) ?_
      simp only [Act.put, List.setIfInBounds_toArray, List.set_cons_zero, List.set_cons_succ]
      refine wpList_run (by kernel_rfl) (.int .i64 (NN : Int)) wo (xo_mulI (z : Int) (N : Int) (NN : Int) (by rw [← hzN]; simp) (by omega) (by omega) rfl rfl rfl) ?_
      simp only [Act.put, List.setIfInBounds_toArray, List.set_cons_zero, List.set_cons_succ]
      refine wpList_run (by kernel_rfl) (.int .i64 (i : Int)) wo rfl ?_
      simp only [Act.put, List.setIfInBounds_toArray, List.set_cons_zero, List.set_cons_succ]
      refine wpList_call (by kernel_rfl) 31 Try.func31 (by kernel_rfl) (by kernel_rfl) _ _ #[.int .i64 (NN : Int), .int .i64 (i : Int)] rfl (by kernel_rfl) ?_
      refine (rpoint_any NN M i HNN.out.symm (by omega) (by omega) wo).mono ?_
      rintro e V2 ⟨rfl, hb⟩
      have B1 := Lib.hid hb
      clear hb 
      refine ⟨_, rfl, ?_⟩
      simp only [Act.put, List.setIfInBounds_toArray, List.set_cons_zero, List.set_cons_succ]
      refine wpList_call (by kernel_rfl) 30 Try.func30 (by kernel_rfl) (by kernel_rfl) _ _ #[.int .u64 (Gold.vF (Gold.ptF M i))] rfl (by kernel_rfl) ?_
      refine (J.rnegF (Gold.ptF M i) V2).mono ?_
      rintro e W1 ⟨rfl, hw1⟩
      rw [hw1]
      clear hw1 W1
      refine ⟨_, rfl, ?_⟩
      simp only [Act.put, List.setIfInBounds_toArray, List.set_cons_zero, List.set_cons_succ]
      refine wpList_call (by kernel_rfl) 29 Try.func29 (by kernel_rfl) (by kernel_rfl) _ _ #[.int .u64 (Gold.vF (-(Gold.ptF M i)))] rfl (by kernel_rfl) ?_
      refine (J.rFromBase_any (-(Gold.ptF M i)) V2).mono ?_
      rintro e V3 ⟨rfl, hb⟩
      have B2 := Lib.hid hb
      clear hb 
      refine ⟨_, rfl, ?_⟩
      simp only [Act.put, List.setIfInBounds_toArray, List.set_cons_zero, List.set_cons_succ]
      refine wpList_call (by kernel_rfl) 27 Try.func27 (by kernel_rfl) (by kernel_rfl) _ _ #[.int .i64 1] rfl (by kernel_rfl) ?_
      refine (J.rFromInt_any 1 V3 (by omega) (by omega)).mono ?_
      rintro e V4 ⟨rfl, hb⟩
      have B3 := Lib.hid hb
      clear hb 
      refine ⟨_, rfl, ?_⟩
      simp only [Act.put, List.setIfInBounds_toArray, List.set_cons_zero, List.set_cons_succ]
      refine wpList_mk (by kernel_rfl) ([(Gold.E2.mk ((Gold.E2.ofF (-(Gold.ptF M i))).A) ((Gold.E2.ofF (-(Gold.ptF M i))).B)), (Gold.E2.mk ((Gold.E2.ofF (Gold.toF 1)).A) ((Gold.E2.ofF (Gold.toF 1)).B))].flatMap exC).toArray 31 2 2 (xg_lit (E := exC) (bytes := 16) (.agg #[.int .u64 0, .int .u64 0]) [.tmp 53, .tmp 54] [(Gold.E2.mk ((Gold.E2.ofF (-(Gold.ptF M i))).A) ((Gold.E2.ofF (-(Gold.ptF M i))).B)), (Gold.E2.mk ((Gold.E2.ofF (Gold.toF 1)).A) ((Gold.E2.ofF (Gold.toF 1)).B))] 2 Try.underlying28 (by kernel_rfl) rfl (by decide) (by decide) rfl rfl) ?_
      intro g55 V5 hge h0 hb
      have Ge8 : Hid (V4.heap.size ≤ g55) := Lib.hid hge
      have B4 := Lib.hid hb
      have Fv9_55 : Hid (RowG exC V5 g55 31 ([(Gold.E2.mk ((Gold.E2.ofF (-(Gold.ptF M i))).A) ((Gold.E2.ofF (-(Gold.ptF M i))).B)), (Gold.E2.mk ((Gold.E2.ofF (Gold.toF 1)).A) ((Gold.E2.ofF (Gold.toF 1)).B))])) := Lib.hid (h0)
      have Lt10 : Hid (g55 < V5.heap.size) := Lib.hid (xp_lt Fv9_55.out)
      clear hge h0 hb
      simp only [ptr, Act.put, List.setIfInBounds_toArray, List.set_cons_zero, List.set_cons_succ]
      have C1_3 := Lib.hid (bel_step B1.out B2.out)
      have C1_4 := Lib.hid (bel_step C1_3.out B3.out)
      have C1_5 := Lib.hid (bel_step C1_4.out B4.out)
      refine wpList_call (by kernel_rfl) 28 Try.func28 (by kernel_rfl) (by kernel_rfl) _ _ #[.slice Ad md cd, .slice (some ⟨g55, 0, none⟩) 2 2] rfl (by kernel_rfl) ?_
      refine (J.rPMul_any Ad md cd ds (some ⟨g55, 0, none⟩) 2 2 [(Gold.E2.mk ((Gold.E2.ofF (-(Gold.ptF M i))).A) ((Gold.E2.ofF (-(Gold.ptF M i))).B)), (Gold.E2.mk ((Gold.E2.ofF (Gold.toF 1)).A) ((Gold.E2.ofF (Gold.toF 1)).B))] V5 (slOf (HD.out.keep C1_5.out)) (slOf (RowG.sg (n := 2) (c := 2) Fv9_55.out (show ([(Gold.E2.mk ((Gold.E2.ofF (-(Gold.ptF M i))).A) ((Gold.E2.ofF (-(Gold.ptF M i))).B)), (Gold.E2.mk ((Gold.E2.ofF (Gold.toF 1)).A) ((Gold.E2.ofF (Gold.toF 1)).B))]).length = 2 from rfl) (Nat.le_refl _) (by omega))) (by omega) (by omega)).mono ?_
      rintro e V6 ⟨A2, m2, c2, rfl, hm2, hsl, hb⟩
      have B5 := Lib.hid hb
      have hs := sgE hsl
      clear hsl
      have hlm := Gold.mulE_length' (xs := ds) (ys := [(Gold.E2.mk ((Gold.E2.ofF (-(Gold.ptF M i))).A) ((Gold.E2.ofF (-(Gold.ptF M i))).B)), (Gold.E2.mk ((Gold.E2.ofF (Gold.toF 1)).A) ((Gold.E2.ofF (Gold.toF 1)).B))])
      rw [hs.len, HD.out.len] at hlm
      have hml2 : m2 ≤ i + 1 + 1 := by simp only [List.length_cons, List.length_nil] at hlm; omega
      clear hlm
      have HD2 := Lib.hid hs
      clear hb hs
      refine ⟨_, rfl, ?_⟩
      simp only [Act.put, List.setIfInBounds_toArray, List.set_cons_zero, List.set_cons_succ]
      refine wpList_run (by kernel_rfl) (.slice A2 m2 c2) V6 rfl ?_
      simp only [Act.put, List.setIfInBounds_toArray, List.set_cons_zero, List.set_cons_succ]
      refine wpList_nil ?_
      go_upto_region 9 with fail
      refine wp_region_lit ?_
      refine wpList_run (by kernel_rfl) (.int .i64 (i : Int)) V6 rfl ?_
      simp only [Act.put, List.setIfInBounds_toArray, List.set_cons_zero, List.set_cons_succ]
      refine wpList_run (by kernel_rfl) (.int .i64 ((i + 1 : Nat) : Int)) V6 (xo_addI (i : Int) 1 ((i + 1 : Nat) : Int) (by omega) (by omega) (by omega) rfl rfl rfl) ?_
      simp only [Act.put, List.setIfInBounds_toArray, List.set_cons_zero, List.set_cons_succ]
      refine wpList_run (by kernel_rfl) (.int .i64 ((i + 1 : Nat) : Int)) V6 rfl ?_
      simp only [Act.put, List.setIfInBounds_toArray, List.set_cons_zero, List.set_cons_succ]
      refine wpList_nil ?_
      have hsd := HD2.out
      have C0_2 := Lib.hid (bel_step B0.out B1.out)
      have C0_3 := Lib.hid (bel_step C0_2.out B2.out)
      have C0_4 := Lib.hid (bel_step C0_3.out B3.out)
      have C0_5 := Lib.hid (bel_step C0_4.out B4.out)
      have C0_6 := Lib.hid (bel_step C0_5.out B5.out)
      have hq11 := C0_6.out
      go_wp2_with fail
      go_roundw
      case rel => exact ⟨i + 1, A2, m2, c2, _, by omega, by go_num, rfl, hml2, hsd, hq11⟩
      case measure => simp [intOf]; omega
    · have hci7 : ¬ ((i : Int) < (rr : Int)) := by omega
      go_upto_region 8 with fail
      refine wp_region_lit ?_
      refine wpList_run (by kernel_rfl) (.int .i64 (i : Int)) wo rfl ?_
      simp only [Act.put, List.setIfInBounds_toArray, List.set_cons_zero, List.set_cons_succ]
      refine wpList_run (by kernel_rfl) (.int .u8 (rt : Int)) wo rfl ?_
      simp only [Act.put, List.setIfInBounds_toArray, List.set_cons_zero, List.set_cons_succ]
      refine wpList_run (by kernel_rfl) (.int .i64 (rt : Int)) wo (xo_cvt .u8 .i64 (rt : Int) (rt : Int) (by rw [IntKind.wrap_i64]; omega) Try.underlying3 Try.underlying5 rfl rfl) ?_
      simp only [Act.put, List.setIfInBounds_toArray, List.set_cons_zero, List.set_cons_succ]
      refine wpList_run (by kernel_rfl) (.slice Ap N cp) wo rfl ?_
      simp only [Act.put, List.setIfInBounds_toArray, List.set_cons_zero, List.set_cons_succ]
      refine wpList_run (by kernel_rfl) (.int .i64 (N : Int)) wo (xo_len Ap N cp Try.underlying22 rfl rfl) ?_
      simp only [Act.put, List.setIfInBounds_toArray, List.set_cons_zero, List.set_cons_succ]
      refine wpList_run (by kernel_rfl) (.int .i64 (rr : Int)) wo (xo_remN .i64 rt N rr (by omega) hrr rfl rfl rfl) ?_
      simp only [Act.put, List.setIfInBounds_toArray, List.set_cons_zero, List.set_cons_succ]
      refine wpList_run (by kernel_rfl) (.bool false) wo (xo_lssF .i64 (i : Int) (rr : Int) (by omega) rfl rfl rfl) ?_
      simp only [Act.put, List.setIfInBounds_toArray, List.set_cons_zero, List.set_cons_succ]
      refine wpList_nil ?_
      obtain ⟨rb, hrb⟩ : ∃ b, rt &&& 128 = b := ⟨_, rfl⟩
      have hrb2 : rb ≤ 128 := by rw [← hrb]; exact Nat.and_le_right
      by_cases hb0 : rb = 0
      · have hci8 : ¬ ((rb : Int) ≠ 0) := by omega
        go_upto_region 11 with fail
        refine wp_region_lit ?_
        refine wpList_run (by kernel_rfl) (.int .u8 (rt : Int)) wo rfl ?_
        simp only [Act.put, List.setIfInBounds_toArray, List.set_cons_zero, List.set_cons_succ]
        refine wpList_run (by kernel_rfl) (.int .u8 (rb : Int)) wo (xo_and .u8 rt 128 rb (by show _ < 2 ^ 8; omega) (by show _ < 2 ^ 8; omega) hrb (by rw [IntKind.wrap_u8]; omega) rfl rfl rfl) ?_
        simp only [Act.put, List.setIfInBounds_toArray, List.set_cons_zero, List.set_cons_succ]
        refine wpList_run (by kernel_rfl) (.bool false) wo (xo_neqF .u8 (rb : Int) 0 (by omega) rfl rfl rfl) ?_
        simp only [Act.put, List.setIfInBounds_toArray, List.set_cons_zero, List.set_cons_succ]
        refine wpList_nil ?_
        go_upto_region 17 with fail
        refine wp_region_lit ?_
        refine wpList_run (by kernel_rfl) (.slice Ap N cp) wo rfl ?_
        simp only [Act.put, List.setIfInBounds_toArray, List.set_cons_zero, List.set_cons_succ]
        refine wpList_run (by kernel_rfl) (.int .i64 (z : Int)) wo rfl ?_
        simp only [Act.put, List.setIfInBounds_toArray, List.set_cons_zero, List.set_cons_succ]
        refine wpList_call (by kernel_rfl) 9 Try.func9 (by kernel_rfl) (by kernel_rfl) _ _ #[.slice Ap N cp, .int .i64 (z : Int)] rfl (by kernel_rfl) ?_
        refine (encodeN Ap N cp ps z nn L NN M HN.out.symm HZ.out.symm (by omega) (by omega) HMM.out (by omega) HNN.out.symm wo (Hps.out.keep B0.out)).mono ?_
        rintro e V2 ⟨gu, rfl, hs, hb⟩
        have B1 := Lib.hid hb
        have Hu := Lib.hid hs
        clear hb hs
        refine ⟨_, rfl, ?_⟩
        simp only [Act.put, List.setIfInBounds_toArray, List.set_cons_zero, List.set_cons_succ]
        refine wpList_run (by kernel_rfl) (.tuple #[.slice (some ⟨gu, 0, none⟩) NN NN, .int .i64 0]) V2 rfl ?_
        simp only [Act.put, List.setIfInBounds_toArray, List.set_cons_zero, List.set_cons_succ]
        refine wpList_run (by kernel_rfl) (.slice (some ⟨gu, 0, none⟩) NN NN) V2 rfl ?_
        simp only [Act.put, List.setIfInBounds_toArray, List.set_cons_zero, List.set_cons_succ]
        refine wpList_run (by kernel_rfl) (.int .i64 0) V2 rfl ?_
        simp only [Act.put, List.setIfInBounds_toArray, List.set_cons_zero, List.set_cons_succ]
        refine wpList_run (by kernel_rfl) (.slice (some ⟨gu, 0, none⟩) NN NN) V2 rfl ?_
        simp only [Act.put, List.setIfInBounds_toArray, List.set_cons_zero, List.set_cons_succ]
        refine wpList_run (by kernel_rfl) (.int .i64 0) V2 rfl ?_
        simp only [Act.put, List.setIfInBounds_toArray, List.set_cons_zero, List.set_cons_succ]
        refine wpList_nil ?_
        go_upto_region 18 with fail
        refine wp_region_lit ?_
        refine wpList_run (by kernel_rfl) (.slice Aq N cq) V2 rfl ?_
        simp only [Act.put, List.setIfInBounds_toArray, List.set_cons_zero, List.set_cons_succ]
        refine wpList_run (by kernel_rfl) (.int .i64 (z : Int)) V2 rfl ?_
        simp only [Act.put, List.setIfInBounds_toArray, List.set_cons_zero, List.set_cons_succ]
        have C0_2 := Lib.hid (bel_step B0.out B1.out)
        refine wpList_call (by kernel_rfl) 9 Try.func9 (by kernel_rfl) (by kernel_rfl) _ _ #[.slice Aq N cq, .int .i64 (z : Int)] rfl (by kernel_rfl) ?_
        refine (encodeN Aq N cq qs z nn L NN M HN.out.symm HZ.out.symm (by omega) (by omega) HMM.out (by omega) HNN.out.symm V2 (Hqs.out.keep C0_2.out)).mono ?_
        rintro e V3 ⟨gv, rfl, hs, hb⟩
        have B2 := Lib.hid hb
        have Hv := Lib.hid hs
        clear hb hs
        refine ⟨_, rfl, ?_⟩
        simp only [Act.put, List.setIfInBounds_toArray, List.set_cons_zero, List.set_cons_succ]
        refine wpList_run (by kernel_rfl) (.tuple #[.slice (some ⟨gv, 0, none⟩) NN NN, .int .i64 0]) V3 rfl ?_
        simp only [Act.put, List.setIfInBounds_toArray, List.set_cons_zero, List.set_cons_succ]
        refine wpList_run (by kernel_rfl) (.slice (some ⟨gv, 0, none⟩) NN NN) V3 rfl ?_
        simp only [Act.put, List.setIfInBounds_toArray, List.set_cons_zero, List.set_cons_succ]
        refine wpList_run (by kernel_rfl) (.int .i64 0) V3 rfl ?_
        simp only [Act.put, List.setIfInBounds_toArray, List.set_cons_zero, List.set_cons_succ]
        refine wpList_run (by kernel_rfl) (.slice (some ⟨gv, 0, none⟩) NN NN) V3 rfl ?_
        simp only [Act.put, List.setIfInBounds_toArray, List.set_cons_zero, List.set_cons_succ]
        refine wpList_run (by kernel_rfl) (.int .i64 0) V3 rfl ?_
        simp only [Act.put, List.setIfInBounds_toArray, List.set_cons_zero, List.set_cons_succ]
        refine wpList_nil ?_
        go_upto_region 19 with fail
        refine wp_region_lit ?_
        refine wpList_run (by kernel_rfl) (.int .i64 0) V3 rfl ?_
        simp only [Act.put, List.setIfInBounds_toArray, List.set_cons_zero, List.set_cons_succ]
        refine wpList_run (by kernel_rfl) (.bool false) V3 (xo_neqF .i64 0 0 (by omega) rfl rfl rfl) ?_
        simp only [Act.put, List.setIfInBounds_toArray, List.set_cons_zero, List.set_cons_succ]
        refine wpList_run (by kernel_rfl) (.bool false) V3 rfl ?_
        simp only [Act.put, List.setIfInBounds_toArray, List.set_cons_zero, List.set_cons_succ]
        refine wpList_run (by kernel_rfl) (.int .i64 0) V3 rfl ?_
        simp only [Act.put, List.setIfInBounds_toArray, List.set_cons_zero, List.set_cons_succ]
        refine wpList_run (by kernel_rfl) (.bool false) V3 (xo_neqF .i64 0 0 (by omega) rfl rfl rfl) ?_
        simp only [Act.put, List.setIfInBounds_toArray, List.set_cons_zero, List.set_cons_succ]
        refine wpList_run (by kernel_rfl) (.bool false) V3 rfl ?_
        simp only [Act.put, List.setIfInBounds_toArray, List.set_cons_zero, List.set_cons_succ]
        refine wpList_nil ?_
        by_cases hpq : ps = qs
        · go_upto_region 21 with fail
          refine wp_region_lit ?_
          refine wpList_run (by kernel_rfl) (.bool true) V3 rfl ?_
          simp only [Act.put, List.setIfInBounds_toArray, List.set_cons_zero, List.set_cons_succ]
          refine wpList_run (by kernel_rfl) (.bool true) V3 rfl ?_
          simp only [Act.put, List.setIfInBounds_toArray, List.set_cons_zero, List.set_cons_succ]
          refine wpList_run (by kernel_rfl) (.slice Ap N cp) V3 rfl ?_
          simp only [Act.put, List.setIfInBounds_toArray, List.set_cons_zero, List.set_cons_succ]
          refine wpList_run (by kernel_rfl) (.slice Aq N cq) V3 rfl ?_
          simp only [Act.put, List.setIfInBounds_toArray, List.set_cons_zero, List.set_cons_succ]
          have C0_3 := Lib.hid (bel_step C0_2.out B2.out)
          refine wpList_call (by kernel_rfl) 17 Try.func17 (by kernel_rfl) (by kernel_rfl) _ _ #[.slice Ap N cp, .slice Aq N cq] rfl (by kernel_rfl) ?_
          refine (rsame_any Ap N cp ps Aq N cq qs (by omega) (by omega) V3 (Hps.out.keep C0_3.out) (Hqs.out.keep C0_3.out)).mono ?_
          rintro e V4 ⟨rfl, hb⟩
          have B3 := Lib.hid hb
          rw [show decide (ps = qs) = true from decide_eq_true hpq]
          clear hb 
          refine ⟨_, rfl, ?_⟩
          simp only [Act.put, List.setIfInBounds_toArray, List.set_cons_zero, List.set_cons_succ]
          refine wpList_run (by kernel_rfl) (.bool true) V4 rfl ?_
          simp only [Act.put, List.setIfInBounds_toArray, List.set_cons_zero, List.set_cons_succ]
          refine wpList_skip (by kernel_rfl) ?_
          try simp only [Act.put, List.setIfInBounds_toArray, List.set_cons_zero, List.set_cons_succ]
          refine wpList_skip (by kernel_rfl) ?_
          try simp only [Act.put, List.setIfInBounds_toArray, List.set_cons_zero, List.set_cons_succ]
          refine wpList_skip (by kernel_rfl) ?_
          try simp only [Act.put, List.setIfInBounds_toArray, List.set_cons_zero, List.set_cons_succ]
          refine wpList_skip (by kernel_rfl) ?_
          try simp only [Act.put, List.setIfInBounds_toArray, List.set_cons_zero, List.set_cons_succ]
          refine wpList_skip (by kernel_rfl) ?_
          try simp only [Act.put, List.setIfInBounds_toArray, List.set_cons_zero, List.set_cons_succ]
          refine wpList_skip (by kernel_rfl) ?_
          try simp only [Act.put, List.setIfInBounds_toArray, List.set_cons_zero, List.set_cons_succ]
          refine wpList_skip (by kernel_rfl) ?_
          try simp only [Act.put, List.setIfInBounds_toArray, List.set_cons_zero, List.set_cons_succ]
          refine wpList_skip (by kernel_rfl) ?_
          try simp only [Act.put, List.setIfInBounds_toArray, List.set_cons_zero, List.set_cons_succ]
          refine wpList_run (by kernel_rfl) (.bool true) V4 rfl ?_
          simp only [Act.put, List.setIfInBounds_toArray, List.set_cons_zero, List.set_cons_succ]
          refine wpList_run (by kernel_rfl) (.bool true) V4 rfl ?_
          simp only [Act.put, List.setIfInBounds_toArray, List.set_cons_zero, List.set_cons_succ]
          refine wpList_run (by kernel_rfl) (.bool true) V4 rfl ?_
          simp only [Act.put, List.setIfInBounds_toArray, List.set_cons_zero, List.set_cons_succ]
          refine wpList_run (by kernel_rfl) (.slice Ap N cp) V4 rfl ?_
          simp only [Act.put, List.setIfInBounds_toArray, List.set_cons_zero, List.set_cons_succ]
          refine wpList_run (by kernel_rfl) (.slice Aq N cq) V4 rfl ?_
          simp only [Act.put, List.setIfInBounds_toArray, List.set_cons_zero, List.set_cons_succ]
          have C0_4 := Lib.hid (bel_step C0_3.out B3.out)
          refine wpList_call (by kernel_rfl) 17 Try.func17 (by kernel_rfl) (by kernel_rfl) _ _ #[.slice Ap N cp, .slice Aq N cq] rfl (by kernel_rfl) ?_
          refine (rsame_any Ap N cp ps Aq N cq qs (by omega) (by omega) V4 (Hps.out.keep C0_4.out) (Hqs.out.keep C0_4.out)).mono ?_
          rintro e V5 ⟨rfl, hb⟩
          have B4 := Lib.hid hb
          rw [show decide (ps = qs) = true from decide_eq_true hpq]
          clear hb 
          refine ⟨_, rfl, ?_⟩
          simp only [Act.put, List.setIfInBounds_toArray, List.set_cons_zero, List.set_cons_succ]
          refine wpList_run (by kernel_rfl) (.bool false) V5 rfl ?_
          simp only [Act.put, List.setIfInBounds_toArray, List.set_cons_zero, List.set_cons_succ]
          refine wpList_run (by kernel_rfl) (.bool false) V5 rfl ?_
          simp only [Act.put, List.setIfInBounds_toArray, List.set_cons_zero, List.set_cons_succ]
          refine wpList_run (by kernel_rfl) (.slice (some ⟨gu, 0, none⟩) NN NN) V5 rfl ?_
          simp only [Act.put, List.setIfInBounds_toArray, List.set_cons_zero, List.set_cons_succ]
          refine wpList_run (by kernel_rfl) (.slice (some ⟨gv, 0, none⟩) NN NN) V5 rfl ?_
          simp only [Act.put, List.setIfInBounds_toArray, List.set_cons_zero, List.set_cons_succ]
          have C2_4 := Lib.hid (bel_step B2.out B3.out)
          have C2_5 := Lib.hid (bel_step C2_4.out B4.out)
          have C3_5 := Lib.hid (bel_step B3.out B4.out)
          refine wpList_call (by kernel_rfl) 17 Try.func17 (by kernel_rfl) (by kernel_rfl) _ _ #[.slice (some ⟨gu, 0, none⟩) NN NN, .slice (some ⟨gv, 0, none⟩) NN NN] rfl (by kernel_rfl) ?_
          refine (rsame_any (some ⟨gu, 0, none⟩) NN NN (Gold.cwF ps M) (some ⟨gv, 0, none⟩) NN NN (Gold.cwF qs M) (by omega) (by omega) V5 (Hu.out.keep C2_5.out) (Hv.out.keep C3_5.out)).mono ?_
          rintro e V6 ⟨rfl, hb⟩
          have B5 := Lib.hid hb
          rw [show decide ((Gold.cwF ps M) = (Gold.cwF qs M)) = true from decide_eq_true (by rw [hpq])]
          clear hb 
          refine ⟨_, rfl, ?_⟩
          simp only [Act.put, List.setIfInBounds_toArray, List.set_cons_zero, List.set_cons_succ]
          refine wpList_run (by kernel_rfl) (.bool true) V6 rfl ?_
          simp only [Act.put, List.setIfInBounds_toArray, List.set_cons_zero, List.set_cons_succ]
          refine wpList_run (by kernel_rfl) (.bool true) V6 rfl ?_
          simp only [Act.put, List.setIfInBounds_toArray, List.set_cons_zero, List.set_cons_succ]
          refine wpList_run (by kernel_rfl) (.bool true) V6 rfl ?_
          simp only [Act.put, List.setIfInBounds_toArray, List.set_cons_zero, List.set_cons_succ]
          refine wpList_nil ?_
          go_wp2_with fail
          go_ret
          have C0_5 := Lib.hid (bel_step C0_4.out B4.out)
          have C0_6 := Lib.hid (bel_step C0_5.out B5.out)
          exact ⟨rfl, HBV3.out.trans (C0_6.out.mono HBV3.out.size)⟩
        · have hfar := cw_far HNN.out.symm (by omega) hNNN hlps hlqs hpq
          obtain ⟨ds_, hds⟩ : ∃ d, dstF (Gold.cwF ps M) (Gold.cwF qs M) = d := ⟨_, rfl⟩
          rw [hds] at hfar
          have hci9 : ((ds_ : Int) ≥ ((NN - N + 1 : Nat) : Int)) := by omega
          go_upto_region 21 with fail
          refine wp_region_lit ?_
          refine wpList_run (by kernel_rfl) (.bool true) V3 rfl ?_
          simp only [Act.put, List.setIfInBounds_toArray, List.set_cons_zero, List.set_cons_succ]
          refine wpList_run (by kernel_rfl) (.bool true) V3 rfl ?_
          simp only [Act.put, List.setIfInBounds_toArray, List.set_cons_zero, List.set_cons_succ]
          refine wpList_run (by kernel_rfl) (.slice Ap N cp) V3 rfl ?_
          simp only [Act.put, List.setIfInBounds_toArray, List.set_cons_zero, List.set_cons_succ]
          refine wpList_run (by kernel_rfl) (.slice Aq N cq) V3 rfl ?_
          simp only [Act.put, List.setIfInBounds_toArray, List.set_cons_zero, List.set_cons_succ]
          have C0_3 := Lib.hid (bel_step C0_2.out B2.out)
          refine wpList_call (by kernel_rfl) 17 Try.func17 (by kernel_rfl) (by kernel_rfl) _ _ #[.slice Ap N cp, .slice Aq N cq] rfl (by kernel_rfl) ?_
          refine (rsame_any Ap N cp ps Aq N cq qs (by omega) (by omega) V3 (Hps.out.keep C0_3.out) (Hqs.out.keep C0_3.out)).mono ?_
          rintro e V4 ⟨rfl, hb⟩
          have B3 := Lib.hid hb
          rw [show decide (ps = qs) = false from decide_eq_false hpq]
          clear hb 
          refine ⟨_, rfl, ?_⟩
          simp only [Act.put, List.setIfInBounds_toArray, List.set_cons_zero, List.set_cons_succ]
          refine wpList_run (by kernel_rfl) (.bool false) V4 rfl ?_
          simp only [Act.put, List.setIfInBounds_toArray, List.set_cons_zero, List.set_cons_succ]
          refine wpList_run (by kernel_rfl) (.slice (some ⟨gu, 0, none⟩) NN NN) V4 rfl ?_
          simp only [Act.put, List.setIfInBounds_toArray, List.set_cons_zero, List.set_cons_succ]
          refine wpList_run (by kernel_rfl) (.slice (some ⟨gv, 0, none⟩) NN NN) V4 rfl ?_
          simp only [Act.put, List.setIfInBounds_toArray, List.set_cons_zero, List.set_cons_succ]
          have C2_4 := Lib.hid (bel_step B2.out B3.out)
          refine wpList_call (by kernel_rfl) 19 Try.func19 (by kernel_rfl) (by kernel_rfl) _ _ #[.slice (some ⟨gu, 0, none⟩) NN NN, .slice (some ⟨gv, 0, none⟩) NN NN] rfl (by kernel_rfl) ?_
          refine (distance_any (some ⟨gu, 0, none⟩) NN NN (Gold.cwF ps M) (some ⟨gv, 0, none⟩) NN NN (Gold.cwF qs M) (by omega) (by omega) V4 (Hu.out.keep C2_4.out) (Hv.out.keep B3.out)).mono ?_
          rintro e V5 ⟨rfl, hb⟩
          have B4 := Lib.hid hb
          rw [hds]
          clear hb 
          refine ⟨_, rfl, ?_⟩
          simp only [Act.put, List.setIfInBounds_toArray, List.set_cons_zero, List.set_cons_succ]
          refine wpList_run (by kernel_rfl) (.slice Ap N cp) V5 rfl ?_
          simp only [Act.put, List.setIfInBounds_toArray, List.set_cons_zero, List.set_cons_succ]
          refine wpList_run (by kernel_rfl) (.int .i64 (N : Int)) V5 (xo_len Ap N cp Try.underlying22 rfl rfl) ?_
          simp only [Act.put, List.setIfInBounds_toArray, List.set_cons_zero, List.set_cons_succ]
          refine wpList_run (by kernel_rfl) (.int .i64 (z : Int)) V5 rfl ?_
          simp only [Act.put, List.setIfInBounds_toArray, List.set_cons_zero, List.set_cons_succ]
          refine wpList_call (by kernel_rfl) 33 Try.func33 (by kernel_rfl) (by kernel_rfl) _ _ #[.int .i64 (N : Int), .int .i64 (z : Int)] rfl (by kernel_rfl) ?_
          refine (minDistance_any N z (by omega) (by rw [hzN]; omega) V5).mono ?_
          rintro e V6 ⟨rfl, hb⟩
          have B5 := Lib.hid hb
          rw [hzN]
          clear hb 
          refine ⟨_, rfl, ?_⟩
          simp only [Act.put, List.setIfInBounds_toArray, List.set_cons_zero, List.set_cons_succ]
          refine wpList_run (by kernel_rfl) (.bool true) V6 (xo_geqT .i64 (ds_ : Int) ((NN - N + 1 : Nat) : Int) (by omega) rfl rfl rfl) ?_
          simp only [Act.put, List.setIfInBounds_toArray, List.set_cons_zero, List.set_cons_succ]
          refine wpList_run (by kernel_rfl) (.bool true) V6 rfl ?_
          simp only [Act.put, List.setIfInBounds_toArray, List.set_cons_zero, List.set_cons_succ]
          refine wpList_run (by kernel_rfl) (.bool true) V6 rfl ?_
          simp only [Act.put, List.setIfInBounds_toArray, List.set_cons_zero, List.set_cons_succ]
          refine wpList_run (by kernel_rfl) (.bool true) V6 rfl ?_
          simp only [Act.put, List.setIfInBounds_toArray, List.set_cons_zero, List.set_cons_succ]
          refine wpList_run (by kernel_rfl) (.slice Ap N cp) V6 rfl ?_
          simp only [Act.put, List.setIfInBounds_toArray, List.set_cons_zero, List.set_cons_succ]
          refine wpList_run (by kernel_rfl) (.slice Aq N cq) V6 rfl ?_
          simp only [Act.put, List.setIfInBounds_toArray, List.set_cons_zero, List.set_cons_succ]
          have C0_4 := Lib.hid (bel_step C0_3.out B3.out)
          have C0_5 := Lib.hid (bel_step C0_4.out B4.out)
          have C0_6 := Lib.hid (bel_step C0_5.out B5.out)
          refine wpList_call (by kernel_rfl) 17 Try.func17 (by kernel_rfl) (by kernel_rfl) _ _ #[.slice Ap N cp, .slice Aq N cq] rfl (by kernel_rfl) ?_
          refine (rsame_any Ap N cp ps Aq N cq qs (by omega) (by omega) V6 (Hps.out.keep C0_6.out) (Hqs.out.keep C0_6.out)).mono ?_
          rintro e V7 ⟨rfl, hb⟩
          have B6 := Lib.hid hb
          rw [show decide (ps = qs) = false from decide_eq_false hpq]
          clear hb 
          refine ⟨_, rfl, ?_⟩
          simp only [Act.put, List.setIfInBounds_toArray, List.set_cons_zero, List.set_cons_succ]
          refine wpList_run (by kernel_rfl) (.bool true) V7 rfl ?_
          simp only [Act.put, List.setIfInBounds_toArray, List.set_cons_zero, List.set_cons_succ]
          refine wpList_run (by kernel_rfl) (.bool true) V7 rfl ?_
          simp only [Act.put, List.setIfInBounds_toArray, List.set_cons_zero, List.set_cons_succ]
          refine wpList_skip (by kernel_rfl) ?_
          try simp only [Act.put, List.setIfInBounds_toArray, List.set_cons_zero, List.set_cons_succ]
          refine wpList_skip (by kernel_rfl) ?_
          try simp only [Act.put, List.setIfInBounds_toArray, List.set_cons_zero, List.set_cons_succ]
          refine wpList_skip (by kernel_rfl) ?_
          try simp only [Act.put, List.setIfInBounds_toArray, List.set_cons_zero, List.set_cons_succ]
          refine wpList_run (by kernel_rfl) (.bool true) V7 rfl ?_
          simp only [Act.put, List.setIfInBounds_toArray, List.set_cons_zero, List.set_cons_succ]
          refine wpList_run (by kernel_rfl) (.bool true) V7 rfl ?_
          simp only [Act.put, List.setIfInBounds_toArray, List.set_cons_zero, List.set_cons_succ]
          refine wpList_run (by kernel_rfl) (.bool true) V7 rfl ?_
          simp only [Act.put, List.setIfInBounds_toArray, List.set_cons_zero, List.set_cons_succ]
          refine wpList_nil ?_
          go_wp2_with fail
          go_ret
          have C0_7 := Lib.hid (bel_step C0_6.out B6.out)
          exact ⟨rfl, HBV3.out.trans (C0_7.out.mono HBV3.out.size)⟩
      · have hci8 : ((rb : Int) ≠ 0) := by omega
        go_upto_region 11 with fail
        refine wp_region_lit ?_
        refine wpList_run (by kernel_rfl) (.int .u8 (rt : Int)) wo rfl ?_
        simp only [Act.put, List.setIfInBounds_toArray, List.set_cons_zero, List.set_cons_succ]
        refine wpList_run (by kernel_rfl) (.int .u8 (rb : Int)) wo (xo_and .u8 rt 128 rb (by show _ < 2 ^ 8; omega) (by show _ < 2 ^ 8; omega) hrb (by rw [IntKind.wrap_u8]; omega) rfl rfl rfl) ?_
        simp only [Act.put, List.setIfInBounds_toArray, List.set_cons_zero, List.set_cons_succ]
        refine wpList_run (by kernel_rfl) (.bool true) wo (xo_neqT .u8 (rb : Int) 0 (by omega) rfl rfl rfl) ?_
        simp only [Act.put, List.setIfInBounds_toArray, List.set_cons_zero, List.set_cons_succ]
        refine wpList_nil ?_
        have HBV9 := Lib.hid B0.out
        have YHps := (Hps.out.keep B0.out)
        have YHD := HD.out
        clear Hps
        have Hps := Lib.hid YHps
        clear YHps
        clear HD
        have HD := Lib.hid YHD
        clear YHD
        obtain ⟨VB9, rfl⟩ : ∃ VB9 : World, VB9 = wo := ⟨_, rfl⟩
        go_upto_region 12 with fail
        refine wp_region_lit ?_
        refine wpList_mk (by kernel_rfl) #[] 29 0 0 (xo_empty (size := 1) Try.underlying22 (by kernel_rfl) rfl VB9) ?_
        intro g60 V1 hge h0 hb
        have hge2 := Nat.le_trans (Below.refl VB9.heap.size VB9).size hge
        have B0 := Lib.hid hb
        have Ow60 : Hid (V1.ownsRow VB9.heap.size 29 1 (.slice (some ⟨g60, 0, none⟩) 0 0) 0 (fl feC [])) := Lib.hid (own_new h0 hge2)
        clear hge hge2 h0 hb
        simp only [ptr, Act.put, List.setIfInBounds_toArray, List.set_cons_zero, List.set_cons_succ]
        refine wpList_run (by kernel_rfl) (.slice Ap N cp) V1 rfl ?_
        simp only [Act.put, List.setIfInBounds_toArray, List.set_cons_zero, List.set_cons_succ]
        refine wpList_app2 (size := 1) (by kernel_rfl) (.tmp 60) (.tmp 61) 22 rfl (.int .u64 0) 8 Try.underlying22 (by kernel_rfl) rfl (by decide) rfl Ow60.out Ap N cp (fl feC ps) rfl (Hps.out.keep B0.out).src (by unfold maxLen; omega) (by omega) B0.out.size ?_
        intro v62 X1_10 ho hb1 hg hloc
        have hox : X1_10.ownsRow VB9.heap.size 29 1 v62 N (fl feC ps) := by first | exact ho | simpa using ho
        have hbr := B0.out.trans hb1
        clear B0
        have B0 := Lib.hid hbr
        clear hbr
        have Ow62_11 := Lib.hid hox
        clear ho hox hb1 hg hloc
        simp only [ptr, Act.put, List.setIfInBounds_toArray, List.set_cons_zero, List.set_cons_succ]
        refine wpList_run (by kernel_rfl) (v62) X1_10 rfl ?_
        simp only [Act.put, List.setIfInBounds_toArray, List.set_cons_zero, List.set_cons_succ]
        refine wpList_nil ?_
        obtain ⟨og12, oc12, rfl, hog⟩ := own_at (i := 0) Ow62_11.out (by omega)
        have Hg12 := Lib.hid hog
        clear hog
        go_upto_region 13 with fail
        refine wp_region_lit ?_
        refine wpList_run (by kernel_rfl) (.int .i64 0) X1_10 rfl ?_
        simp only [Act.put, List.setIfInBounds_toArray, List.set_cons_zero, List.set_cons_succ]
        refine wpList_nil ?_
        have hmN : md ≤ N := by omega
        have O13 := Ow62_11.out
        have O14 := B0.out
        go_wp2_with fail
        go_loopw [16] (fun p wr => ∃ j : Nat, ∃ (ls : List Gold.F), j ≤ md ∧ p = .int .i64 j ∧ ls.length = N ∧ wr.ownsRow VB9.heap.size 29 1 (.slice (some ⟨og12, 0, none⟩) N oc12) N (fl feC ls) ∧ Below VB9.heap.size VB9 wr) (fun p _ => md - (intOf p).toNat)
        case atStart => exact ⟨0, ps, Nat.zero_le _, rfl, hlps, O13, O14⟩
        case round =>
          clear O14 O13
          obtain ⟨wz, rfl⟩ : ∃ wz : World, wz = wr := ⟨_, rfl⟩
          obtain ⟨j, ls, hi, rfl, hhll, hOW, hb0⟩ := hrel
          have hbr := hb0
          clear B0
          have B0 := Lib.hid hbr
          clear hbr
          have hll := Lib.hid hhll
          have OW := Lib.hid hOW
          clear hb0 hhll hOW
          have hllo := hll.out
          have HLs := Lib.hid (Sg.ownS OW.out)
          by_cases hjm : j < md
          · have hci16 : ((j : Int) < (md : Int)) := by omega
            go_upto_region 14 with fail
            refine wp_region_lit ?_
            refine wpList_run (by kernel_rfl) (.int .i64 (j : Int)) wz rfl ?_
            simp only [Act.put, List.setIfInBounds_toArray, List.set_cons_zero, List.set_cons_succ]
            refine wpList_run (by kernel_rfl) (.slice Ad md cd) wz rfl ?_
            simp only [Act.put, List.setIfInBounds_toArray, List.set_cons_zero, List.set_cons_succ]
            refine wpList_run (by kernel_rfl) (.int .i64 (md : Int)) wz (xo_len Ad md cd Try.underlying28 rfl rfl) ?_
            simp only [Act.put, List.setIfInBounds_toArray, List.set_cons_zero, List.set_cons_succ]
            refine wpList_run (by kernel_rfl) (.bool true) wz (xo_lssT .i64 (j : Int) (md : Int) (by omega) rfl rfl rfl) ?_
            simp only [Act.put, List.setIfInBounds_toArray, List.set_cons_zero, List.set_cons_succ]
            refine wpList_nil ?_
            obtain ⟨y, hy⟩ : ∃ y, ls[j]? = some y := ⟨_, List.getElem?_eq_getElem (by omega)⟩
            have HEy := Lib.hid hy
            clear hy
            obtain ⟨x, hx⟩ : ∃ x, ds[j]? = some x := ⟨_, List.getElem?_eq_getElem (by rw [HD.out.len]; exact hjm)⟩
            have HEx := Lib.hid hx
            clear hx
            go_upto_region 16 with fail
            try simp only [List.append_eq, List.cons_append, List.nil_append]
            refine wp_ordM 13 (.q 0 (.q 1 (.q 2 (.q 3 (.q 4 (.q 5 (.q 6 (.q 7 (.q 8 (.q 9 (.q 10 (.one 11 (.q 12 .nil))))))))))))) (by kernel_rfl) (by kernel_rfl) (by kernel_rfl) (by kernel_rfl) (by kernel_rfl) (by kernel_rfl) (by kernel_rfl) (fun V2 hb => ?_)
            have B1 := Lib.hid hb
            clear hb
            refine wpOT_q (.slice (some ⟨og12, 0, none⟩) N oc12) rfl (by kernel_rfl) (fun v hW => rfl) ?_
            simp only [ptr, Act.put, List.setIfInBounds_toArray, List.set_cons_zero, List.set_cons_succ]
            refine wpOT_q (.int .i64 (j : Int)) rfl (by kernel_rfl) (fun v hW => rfl) ?_
            simp only [ptr, Act.put, List.setIfInBounds_toArray, List.set_cons_zero, List.set_cons_succ]
            refine wpOT_q (.slice (some ⟨og12, 0, none⟩) N oc12) rfl (by kernel_rfl) (fun v hW => rfl) ?_
            simp only [ptr, Act.put, List.setIfInBounds_toArray, List.set_cons_zero, List.set_cons_succ]
            refine wpOT_q (.int .i64 (j : Int)) rfl (by kernel_rfl) (fun v hW => rfl) ?_
            simp only [ptr, Act.put, List.setIfInBounds_toArray, List.set_cons_zero, List.set_cons_succ]
            refine wpOT_q (.pointer (some (gad (some ⟨og12, 0, none⟩) (j * 1)))) rfl (by kernel_rfl) (fun v hW => (xo_index .i64 ⟨og12, 0, none⟩ N oc12 j 1 (by omega) Try.underlying22 (by kernel_rfl) rfl rfl rfl)) ?_
            simp only [ptr, Act.put, List.setIfInBounds_toArray, List.set_cons_zero, List.set_cons_succ]
            refine wpOT_q (.int .u64 (Gold.vF y)) rfl (by kernel_rfl) (fun v hW => (xg_load1 (E := feC) (i := j) (j := 0) ((HLs.out.keep B1.out).keep hW) HEy.out rfl rfl Try.underlying29 rfl rfl rfl)) ?_
            simp only [ptr, Act.put, List.setIfInBounds_toArray, List.set_cons_zero, List.set_cons_succ]
            refine wpOT_q (.slice Ad md cd) rfl (by kernel_rfl) (fun v hW => rfl) ?_
            simp only [ptr, Act.put, List.setIfInBounds_toArray, List.set_cons_zero, List.set_cons_succ]
            refine wpOT_q (.int .i64 (j : Int)) rfl (by kernel_rfl) (fun v hW => rfl) ?_
            simp only [ptr, Act.put, List.setIfInBounds_toArray, List.set_cons_zero, List.set_cons_succ]
            have C0_2 := Lib.hid (bel_step B0.out B1.out)
            refine wpOT_q (.pointer (some (gad Ad (j * 2)))) rfl (by kernel_rfl) (fun v hW => (xg_idx .i64 ((HD.out.keep C0_2.out).keep hW) HEx.out Try.underlying28 (by kernel_rfl) rfl rfl rfl)) ?_
            simp only [ptr, Act.put, List.setIfInBounds_toArray, List.set_cons_zero, List.set_cons_succ]
            refine wpOT_q (.pointer (some (gad Ad ((j * 2) + 0)))) rfl (by kernel_rfl) (fun v hW => (xg_fld 0 ((HD.out.keep C0_2.out).keep hW) HEx.out (by kernel_rfl) rfl rfl)) ?_
            simp only [ptr, Act.put, List.setIfInBounds_toArray, List.set_cons_zero, List.set_cons_succ]
            refine wpOT_q (.int .u64 (Gold.vF x.A)) rfl (by kernel_rfl) (fun v hW => (xg_load1 (E := exC) (i := j) (j := 0) ((HD.out.keep C0_2.out).keep hW) HEx.out rfl rfl Try.underlying29 rfl rfl rfl)) ?_
            simp only [ptr, Act.put, List.setIfInBounds_toArray, List.set_cons_zero, List.set_cons_succ]
            refine wpOT_one rfl (by kernel_rfl) ?_
            refine hOp_call 32 Try.func32 (by kernel_rfl) (by kernel_rfl) _ _ #[.int .u64 (Gold.vF y), .int .u64 (Gold.vF x.A)] rfl (by kernel_rfl) ?_
            refine (J.raddF y x.A V2).mono ?_
            rintro e W1 ⟨rfl, hw1⟩
            rw [hw1]
            clear hw1 W1
            refine ⟨_, rfl, (Below.refl V2.heap.size V2), ?_⟩
            simp only [ptr, Act.put, List.setIfInBounds_toArray, List.set_cons_zero, List.set_cons_succ]
            refine wpOT_q (.pointer (some (gad (some ⟨og12, 0, none⟩) (j * 1)))) rfl (by kernel_rfl) (fun v hW => (xo_index .i64 ⟨og12, 0, none⟩ N oc12 j 1 (by omega) Try.underlying22 (by kernel_rfl) rfl rfl rfl)) ?_
            simp only [ptr, Act.put, List.setIfInBounds_toArray, List.set_cons_zero, List.set_cons_succ]
            refine wpOT_nil ?_
            refine mOp_ownStore (base := VB9.heap.size) (n := N) (cs := fl feC ls) (i := j) (.int .u64 (Gold.vF (y + x.A))) rfl rfl (own_keep OW.out B1.out) (by omega) (by kernel_rfl) rfl rfl rfl rfl ?_ (Nat.le_trans C0_2.out.size (Nat.le_refl _))
            intro W2 ho hb2 hg2
            simp only [List.getElem_toArray, List.getElem_cons_succ, List.getElem_cons_zero, ptr, Act.put, List.setIfInBounds_toArray, List.set_cons_zero, List.set_cons_succ]
            have ox2 : W2.ownsRow VB9.heap.size 29 1 (.slice (some ⟨og12, 0, none⟩) N oc12) N (fl feC (ls.set j (y + x.A))) := by rw [fl_set1 feC (fun x => .int .u64 (Gold.vF x))]; exact ho
            have bb2 := C0_2.out.trans hb2
            go_upto_region 15 with fail
            refine wp_region_lit ?_
            refine wpList_run (by kernel_rfl) (.int .i64 (j : Int)) W2 rfl ?_
            simp only [Act.put, List.setIfInBounds_toArray, List.set_cons_zero, List.set_cons_succ]
            refine wpList_run (by kernel_rfl) (.int .i64 ((j + 1 : Nat) : Int)) W2 (xo_addI (j : Int) 1 ((j + 1 : Nat) : Int) (by omega) (by omega) (by omega) rfl rfl rfl) ?_
            simp only [Act.put, List.setIfInBounds_toArray, List.set_cons_zero, List.set_cons_succ]
            refine wpList_run (by kernel_rfl) (.int .i64 ((j + 1 : Nat) : Int)) W2 rfl ?_
            simp only [Act.put, List.setIfInBounds_toArray, List.set_cons_zero, List.set_cons_succ]
            refine wpList_nil ?_
            go_wp2_with fail
            go_roundw
            case rel => exact ⟨j + 1, _, by omega, by go_num, (by rw [List.length_set]; exact hllo), ox2, bb2⟩
            case measure => simp [intOf]; omega
          · have hci16 : ¬ ((j : Int) < (md : Int)) := by omega
            go_upto_region 14 with fail
            refine wp_region_lit ?_
            refine wpList_run (by kernel_rfl) (.int .i64 (j : Int)) wz rfl ?_
            simp only [Act.put, List.setIfInBounds_toArray, List.set_cons_zero, List.set_cons_succ]
            refine wpList_run (by kernel_rfl) (.slice Ad md cd) wz rfl ?_
            simp only [Act.put, List.setIfInBounds_toArray, List.set_cons_zero, List.set_cons_succ]
            refine wpList_run (by kernel_rfl) (.int .i64 (md : Int)) wz (xo_len Ad md cd Try.underlying28 rfl rfl) ?_
            simp only [Act.put, List.setIfInBounds_toArray, List.set_cons_zero, List.set_cons_succ]
            refine wpList_run (by kernel_rfl) (.bool false) wz (xo_lssF .i64 (j : Int) (md : Int) (by omega) rfl rfl rfl) ?_
            simp only [Act.put, List.setIfInBounds_toArray, List.set_cons_zero, List.set_cons_succ]
            refine wpList_nil ?_
            go_upto_region 17 with fail
            refine wp_region_lit ?_
            refine wpList_run (by kernel_rfl) (.slice Ap N cp) wz rfl ?_
            simp only [Act.put, List.setIfInBounds_toArray, List.set_cons_zero, List.set_cons_succ]
            refine wpList_run (by kernel_rfl) (.int .i64 (z : Int)) wz rfl ?_
            simp only [Act.put, List.setIfInBounds_toArray, List.set_cons_zero, List.set_cons_succ]
            refine wpList_call (by kernel_rfl) 9 Try.func9 (by kernel_rfl) (by kernel_rfl) _ _ #[.slice Ap N cp, .int .i64 (z : Int)] rfl (by kernel_rfl) ?_
            refine (encodeN Ap N cp ps z nn L NN M HN.out.symm HZ.out.symm (by omega) (by omega) HMM.out (by omega) HNN.out.symm wz (Hps.out.keep B0.out)).mono ?_
            rintro e V2 ⟨gu, rfl, hs, hb⟩
            have B1 := Lib.hid hb
            have Hu := Lib.hid hs
            clear hb hs
            refine ⟨_, rfl, ?_⟩
            simp only [Act.put, List.setIfInBounds_toArray, List.set_cons_zero, List.set_cons_succ]
            refine wpList_run (by kernel_rfl) (.tuple #[.slice (some ⟨gu, 0, none⟩) NN NN, .int .i64 0]) V2 rfl ?_
            simp only [Act.put, List.setIfInBounds_toArray, List.set_cons_zero, List.set_cons_succ]
            refine wpList_run (by kernel_rfl) (.slice (some ⟨gu, 0, none⟩) NN NN) V2 rfl ?_
            simp only [Act.put, List.setIfInBounds_toArray, List.set_cons_zero, List.set_cons_succ]
            refine wpList_run (by kernel_rfl) (.int .i64 0) V2 rfl ?_
            simp only [Act.put, List.setIfInBounds_toArray, List.set_cons_zero, List.set_cons_succ]
            refine wpList_run (by kernel_rfl) (.slice (some ⟨gu, 0, none⟩) NN NN) V2 rfl ?_
            simp only [Act.put, List.setIfInBounds_toArray, List.set_cons_zero, List.set_cons_succ]
            refine wpList_run (by kernel_rfl) (.int .i64 0) V2 rfl ?_
            simp only [Act.put, List.setIfInBounds_toArray, List.set_cons_zero, List.set_cons_succ]
            refine wpList_nil ?_
            go_upto_region 18 with fail
            refine wp_region_lit ?_
            refine wpList_run (by kernel_rfl) (.slice (some ⟨og12, 0, none⟩) N oc12) V2 rfl ?_
            simp only [Act.put, List.setIfInBounds_toArray, List.set_cons_zero, List.set_cons_succ]
            refine wpList_run (by kernel_rfl) (.int .i64 (z : Int)) V2 rfl ?_
            simp only [Act.put, List.setIfInBounds_toArray, List.set_cons_zero, List.set_cons_succ]
            refine wpList_call (by kernel_rfl) 9 Try.func9 (by kernel_rfl) (by kernel_rfl) _ _ #[.slice (some ⟨og12, 0, none⟩) N oc12, .int .i64 (z : Int)] rfl (by kernel_rfl) ?_
            refine (encodeN (some ⟨og12, 0, none⟩) N oc12 ls z nn L NN M HN.out.symm HZ.out.symm (by omega) (by omega) HMM.out (by omega) HNN.out.symm V2 (HLs.out.keep B1.out)).mono ?_
            rintro e V3 ⟨gv, rfl, hs, hb⟩
            have B2 := Lib.hid hb
            have Hv := Lib.hid hs
            clear hb hs
            refine ⟨_, rfl, ?_⟩
            simp only [Act.put, List.setIfInBounds_toArray, List.set_cons_zero, List.set_cons_succ]
            refine wpList_run (by kernel_rfl) (.tuple #[.slice (some ⟨gv, 0, none⟩) NN NN, .int .i64 0]) V3 rfl ?_
            simp only [Act.put, List.setIfInBounds_toArray, List.set_cons_zero, List.set_cons_succ]
            refine wpList_run (by kernel_rfl) (.slice (some ⟨gv, 0, none⟩) NN NN) V3 rfl ?_
            simp only [Act.put, List.setIfInBounds_toArray, List.set_cons_zero, List.set_cons_succ]
            refine wpList_run (by kernel_rfl) (.int .i64 0) V3 rfl ?_
            simp only [Act.put, List.setIfInBounds_toArray, List.set_cons_zero, List.set_cons_succ]
            refine wpList_run (by kernel_rfl) (.slice (some ⟨gv, 0, none⟩) NN NN) V3 rfl ?_
            simp only [Act.put, List.setIfInBounds_toArray, List.set_cons_zero, List.set_cons_succ]
            refine wpList_run (by kernel_rfl) (.int .i64 0) V3 rfl ?_
            simp only [Act.put, List.setIfInBounds_toArray, List.set_cons_zero, List.set_cons_succ]
            refine wpList_nil ?_
            go_upto_region 19 with fail
            refine wp_region_lit ?_
            refine wpList_run (by kernel_rfl) (.int .i64 0) V3 rfl ?_
            simp only [Act.put, List.setIfInBounds_toArray, List.set_cons_zero, List.set_cons_succ]
            refine wpList_run (by kernel_rfl) (.bool false) V3 (xo_neqF .i64 0 0 (by omega) rfl rfl rfl) ?_
            simp only [Act.put, List.setIfInBounds_toArray, List.set_cons_zero, List.set_cons_succ]
            refine wpList_run (by kernel_rfl) (.bool false) V3 rfl ?_
            simp only [Act.put, List.setIfInBounds_toArray, List.set_cons_zero, List.set_cons_succ]
            refine wpList_run (by kernel_rfl) (.int .i64 0) V3 rfl ?_
            simp only [Act.put, List.setIfInBounds_toArray, List.set_cons_zero, List.set_cons_succ]
            refine wpList_run (by kernel_rfl) (.bool false) V3 (xo_neqF .i64 0 0 (by omega) rfl rfl rfl) ?_
            simp only [Act.put, List.setIfInBounds_toArray, List.set_cons_zero, List.set_cons_succ]
            refine wpList_run (by kernel_rfl) (.bool false) V3 rfl ?_
            simp only [Act.put, List.setIfInBounds_toArray, List.set_cons_zero, List.set_cons_succ]
            refine wpList_nil ?_
            by_cases hpq : ps = ls
            · go_upto_region 21 with fail
              refine wp_region_lit ?_
              refine wpList_run (by kernel_rfl) (.bool true) V3 rfl ?_
              simp only [Act.put, List.setIfInBounds_toArray, List.set_cons_zero, List.set_cons_succ]
              refine wpList_run (by kernel_rfl) (.bool true) V3 rfl ?_
              simp only [Act.put, List.setIfInBounds_toArray, List.set_cons_zero, List.set_cons_succ]
              refine wpList_run (by kernel_rfl) (.slice Ap N cp) V3 rfl ?_
              simp only [Act.put, List.setIfInBounds_toArray, List.set_cons_zero, List.set_cons_succ]
              refine wpList_run (by kernel_rfl) (.slice (some ⟨og12, 0, none⟩) N oc12) V3 rfl ?_
              simp only [Act.put, List.setIfInBounds_toArray, List.set_cons_zero, List.set_cons_succ]
              have C0_2 := Lib.hid (bel_step B0.out B1.out)
              have C0_3 := Lib.hid (bel_step C0_2.out B2.out)
              have C1_3 := Lib.hid (bel_step B1.out B2.out)
              refine wpList_call (by kernel_rfl) 17 Try.func17 (by kernel_rfl) (by kernel_rfl) _ _ #[.slice Ap N cp, .slice (some ⟨og12, 0, none⟩) N oc12] rfl (by kernel_rfl) ?_
              refine (rsame_any Ap N cp ps (some ⟨og12, 0, none⟩) N oc12 ls (by omega) (by omega) V3 (Hps.out.keep C0_3.out) (HLs.out.keep C1_3.out)).mono ?_
              rintro e V4 ⟨rfl, hb⟩
              have B3 := Lib.hid hb
              rw [show decide (ps = ls) = true from decide_eq_true hpq]
              clear hb 
              refine ⟨_, rfl, ?_⟩
              simp only [Act.put, List.setIfInBounds_toArray, List.set_cons_zero, List.set_cons_succ]
              refine wpList_run (by kernel_rfl) (.bool true) V4 rfl ?_
              simp only [Act.put, List.setIfInBounds_toArray, List.set_cons_zero, List.set_cons_succ]
              refine wpList_skip (by kernel_rfl) ?_
              try simp only [Act.put, List.setIfInBounds_toArray, List.set_cons_zero, List.set_cons_succ]
              refine wpList_skip (by kernel_rfl) ?_
              try simp only [Act.put, List.setIfInBounds_toArray, List.set_cons_zero, List.set_cons_succ]
              refine wpList_skip (by kernel_rfl) ?_
              try simp only [Act.put, List.setIfInBounds_toArray, List.set_cons_zero, List.set_cons_succ]
              refine wpList_skip (by kernel_rfl) ?_
              try simp only [Act.put, List.setIfInBounds_toArray, List.set_cons_zero, List.set_cons_succ]
              refine wpList_skip (by kernel_rfl) ?_
              try simp only [Act.put, List.setIfInBounds_toArray, List.set_cons_zero, List.set_cons_succ]
              refine wpList_skip (by kernel_rfl) ?_
              try simp only [Act.put, List.setIfInBounds_toArray, List.set_cons_zero, List.set_cons_succ]
              refine wpList_skip (by kernel_rfl) ?_
              try simp only [Act.put, List.setIfInBounds_toArray, List.set_cons_zero, List.set_cons_succ]
              refine wpList_skip (by kernel_rfl) ?_
              try simp only [Act.put, List.setIfInBounds_toArray, List.set_cons_zero, List.set_cons_succ]
              refine wpList_run (by kernel_rfl) (.bool true) V4 rfl ?_
              simp only [Act.put, List.setIfInBounds_toArray, List.set_cons_zero, List.set_cons_succ]
              refine wpList_run (by kernel_rfl) (.bool true) V4 rfl ?_
              simp only [Act.put, List.setIfInBounds_toArray, List.set_cons_zero, List.set_cons_succ]
              refine wpList_run (by kernel_rfl) (.bool true) V4 rfl ?_
              simp only [Act.put, List.setIfInBounds_toArray, List.set_cons_zero, List.set_cons_succ]
              refine wpList_run (by kernel_rfl) (.slice Ap N cp) V4 rfl ?_
              simp only [Act.put, List.setIfInBounds_toArray, List.set_cons_zero, List.set_cons_succ]
              refine wpList_run (by kernel_rfl) (.slice (some ⟨og12, 0, none⟩) N oc12) V4 rfl ?_
              simp only [Act.put, List.setIfInBounds_toArray, List.set_cons_zero, List.set_cons_succ]
              have C0_4 := Lib.hid (bel_step C0_3.out B3.out)
              have C1_4 := Lib.hid (bel_step C1_3.out B3.out)
              refine wpList_call (by kernel_rfl) 17 Try.func17 (by kernel_rfl) (by kernel_rfl) _ _ #[.slice Ap N cp, .slice (some ⟨og12, 0, none⟩) N oc12] rfl (by kernel_rfl) ?_
              refine (rsame_any Ap N cp ps (some ⟨og12, 0, none⟩) N oc12 ls (by omega) (by omega) V4 (Hps.out.keep C0_4.out) (HLs.out.keep C1_4.out)).mono ?_
              rintro e V5 ⟨rfl, hb⟩
              have B4 := Lib.hid hb
              rw [show decide (ps = ls) = true from decide_eq_true hpq]
              clear hb 
              refine ⟨_, rfl, ?_⟩
              simp only [Act.put, List.setIfInBounds_toArray, List.set_cons_zero, List.set_cons_succ]
              refine wpList_run (by kernel_rfl) (.bool false) V5 rfl ?_
              simp only [Act.put, List.setIfInBounds_toArray, List.set_cons_zero, List.set_cons_succ]
              refine wpList_run (by kernel_rfl) (.bool false) V5 rfl ?_
              simp only [Act.put, List.setIfInBounds_toArray, List.set_cons_zero, List.set_cons_succ]
              refine wpList_run (by kernel_rfl) (.slice (some ⟨gu, 0, none⟩) NN NN) V5 rfl ?_
              simp only [Act.put, List.setIfInBounds_toArray, List.set_cons_zero, List.set_cons_succ]
              refine wpList_run (by kernel_rfl) (.slice (some ⟨gv, 0, none⟩) NN NN) V5 rfl ?_
              simp only [Act.put, List.setIfInBounds_toArray, List.set_cons_zero, List.set_cons_succ]
              have C2_4 := Lib.hid (bel_step B2.out B3.out)
              have C2_5 := Lib.hid (bel_step C2_4.out B4.out)
              have C3_5 := Lib.hid (bel_step B3.out B4.out)
              refine wpList_call (by kernel_rfl) 17 Try.func17 (by kernel_rfl) (by kernel_rfl) _ _ #[.slice (some ⟨gu, 0, none⟩) NN NN, .slice (some ⟨gv, 0, none⟩) NN NN] rfl (by kernel_rfl) ?_
              refine (rsame_any (some ⟨gu, 0, none⟩) NN NN (Gold.cwF ps M) (some ⟨gv, 0, none⟩) NN NN (Gold.cwF ls M) (by omega) (by omega) V5 (Hu.out.keep C2_5.out) (Hv.out.keep C3_5.out)).mono ?_
              rintro e V6 ⟨rfl, hb⟩
              have B5 := Lib.hid hb
              rw [show decide ((Gold.cwF ps M) = (Gold.cwF ls M)) = true from decide_eq_true (by rw [hpq])]
              clear hb 
              refine ⟨_, rfl, ?_⟩
              simp only [Act.put, List.setIfInBounds_toArray, List.set_cons_zero, List.set_cons_succ]
              refine wpList_run (by kernel_rfl) (.bool true) V6 rfl ?_
              simp only [Act.put, List.setIfInBounds_toArray, List.set_cons_zero, List.set_cons_succ]
              refine wpList_run (by kernel_rfl) (.bool true) V6 rfl ?_
              simp only [Act.put, List.setIfInBounds_toArray, List.set_cons_zero, List.set_cons_succ]
              refine wpList_run (by kernel_rfl) (.bool true) V6 rfl ?_
              simp only [Act.put, List.setIfInBounds_toArray, List.set_cons_zero, List.set_cons_succ]
              refine wpList_nil ?_
              go_wp2_with fail
              go_ret
              have C0_5 := Lib.hid (bel_step C0_4.out B4.out)
              have C0_6 := Lib.hid (bel_step C0_5.out B5.out)
              exact ⟨rfl, HBV3.out.trans ((HBV9.out.trans (C0_6.out.mono HBV9.out.size)).mono HBV3.out.size)⟩
            · have hfar := cw_far HNN.out.symm (by omega) hNNN hlps hllo hpq
              obtain ⟨ds_, hds⟩ : ∃ d, dstF (Gold.cwF ps M) (Gold.cwF ls M) = d := ⟨_, rfl⟩
              rw [hds] at hfar
              have hci17 : ((ds_ : Int) ≥ ((NN - N + 1 : Nat) : Int)) := by omega
              go_upto_region 21 with fail
              refine wp_region_lit ?_
              refine wpList_run (by kernel_rfl) (.bool true) V3 rfl ?_
              simp only [Act.put, List.setIfInBounds_toArray, List.set_cons_zero, List.set_cons_succ]
              refine wpList_run (by kernel_rfl) (.bool true) V3 rfl ?_
              simp only [Act.put, List.setIfInBounds_toArray, List.set_cons_zero, List.set_cons_succ]
              refine wpList_run (by kernel_rfl) (.slice Ap N cp) V3 rfl ?_
              simp only [Act.put, List.setIfInBounds_toArray, List.set_cons_zero, List.set_cons_succ]
              refine wpList_run (by kernel_rfl) (.slice (some ⟨og12, 0, none⟩) N oc12) V3 rfl ?_
              simp only [Act.put, List.setIfInBounds_toArray, List.set_cons_zero, List.set_cons_succ]
              have C0_2 := Lib.hid (bel_step B0.out B1.out)
              have C0_3 := Lib.hid (bel_step C0_2.out B2.out)
              have C1_3 := Lib.hid (bel_step B1.out B2.out)
              refine wpList_call (by kernel_rfl) 17 Try.func17 (by kernel_rfl) (by kernel_rfl) _ _ #[.slice Ap N cp, .slice (some ⟨og12, 0, none⟩) N oc12] rfl (by kernel_rfl) ?_
              refine (rsame_any Ap N cp ps (some ⟨og12, 0, none⟩) N oc12 ls (by omega) (by omega) V3 (Hps.out.keep C0_3.out) (HLs.out.keep C1_3.out)).mono ?_
              rintro e V4 ⟨rfl, hb⟩
              have B3 := Lib.hid hb
              rw [show decide (ps = ls) = false from decide_eq_false hpq]
              clear hb 
              refine ⟨_, rfl, ?_⟩
              simp only [Act.put, List.setIfInBounds_toArray, List.set_cons_zero, List.set_cons_succ]
              refine wpList_run (by kernel_rfl) (.bool false) V4 rfl ?_
              simp only [Act.put, List.setIfInBounds_toArray, List.set_cons_zero, List.set_cons_succ]
              refine wpList_run (by kernel_rfl) (.slice (some ⟨gu, 0, none⟩) NN NN) V4 rfl ?_
              simp only [Act.put, List.setIfInBounds_toArray, List.set_cons_zero, List.set_cons_succ]
              refine wpList_run (by kernel_rfl) (.slice (some ⟨gv, 0, none⟩) NN NN) V4 rfl ?_
              simp only [Act.put, List.setIfInBounds_toArray, List.set_cons_zero, List.set_cons_succ]
              have C2_4 := Lib.hid (bel_step B2.out B3.out)
              refine wpList_call (by kernel_rfl) 19 Try.func19 (by kernel_rfl) (by kernel_rfl) _ _ #[.slice (some ⟨gu, 0, none⟩) NN NN, .slice (some ⟨gv, 0, none⟩) NN NN] rfl (by kernel_rfl) ?_
              refine (distance_any (some ⟨gu, 0, none⟩) NN NN (Gold.cwF ps M) (some ⟨gv, 0, none⟩) NN NN (Gold.cwF ls M) (by omega) (by omega) V4 (Hu.out.keep C2_4.out) (Hv.out.keep B3.out)).mono ?_
              rintro e V5 ⟨rfl, hb⟩
              have B4 := Lib.hid hb
              rw [hds]
              clear hb 
              refine ⟨_, rfl, ?_⟩
              simp only [Act.put, List.setIfInBounds_toArray, List.set_cons_zero, List.set_cons_succ]
              refine wpList_run (by kernel_rfl) (.slice Ap N cp) V5 rfl ?_
              simp only [Act.put, List.setIfInBounds_toArray, List.set_cons_zero, List.set_cons_succ]
              refine wpList_run (by kernel_rfl) (.int .i64 (N : Int)) V5 (xo_len Ap N cp Try.underlying22 rfl rfl) ?_
              simp only [Act.put, List.setIfInBounds_toArray, List.set_cons_zero, List.set_cons_succ]
              refine wpList_run (by kernel_rfl) (.int .i64 (z : Int)) V5 rfl ?_
              simp only [Act.put, List.setIfInBounds_toArray, List.set_cons_zero, List.set_cons_succ]
              refine wpList_call (by kernel_rfl) 33 Try.func33 (by kernel_rfl) (by kernel_rfl) _ _ #[.int .i64 (N : Int), .int .i64 (z : Int)] rfl (by kernel_rfl) ?_
              refine (minDistance_any N z (by omega) (by rw [hzN]; omega) V5).mono ?_
              rintro e V6 ⟨rfl, hb⟩
              have B5 := Lib.hid hb
              rw [hzN]
              clear hb 
              refine ⟨_, rfl, ?_⟩
              simp only [Act.put, List.setIfInBounds_toArray, List.set_cons_zero, List.set_cons_succ]
              refine wpList_run (by kernel_rfl) (.bool true) V6 (xo_geqT .i64 (ds_ : Int) ((NN - N + 1 : Nat) : Int) (by omega) rfl rfl rfl) ?_
              simp only [Act.put, List.setIfInBounds_toArray, List.set_cons_zero, List.set_cons_succ]
              refine wpList_run (by kernel_rfl) (.bool true) V6 rfl ?_
              simp only [Act.put, List.setIfInBounds_toArray, List.set_cons_zero, List.set_cons_succ]
              refine wpList_run (by kernel_rfl) (.bool true) V6 rfl ?_
              simp only [Act.put, List.setIfInBounds_toArray, List.set_cons_zero, List.set_cons_succ]
              refine wpList_run (by kernel_rfl) (.bool true) V6 rfl ?_
              simp only [Act.put, List.setIfInBounds_toArray, List.set_cons_zero, List.set_cons_succ]
              refine wpList_run (by kernel_rfl) (.slice Ap N cp) V6 rfl ?_
              simp only [Act.put, List.setIfInBounds_toArray, List.set_cons_zero, List.set_cons_succ]
              refine wpList_run (by kernel_rfl) (.slice (some ⟨og12, 0, none⟩) N oc12) V6 rfl ?_
              simp only [Act.put, List.setIfInBounds_toArray, List.set_cons_zero, List.set_cons_succ]
              have C0_4 := Lib.hid (bel_step C0_3.out B3.out)
              have C0_5 := Lib.hid (bel_step C0_4.out B4.out)
              have C0_6 := Lib.hid (bel_step C0_5.out B5.out)
              have C1_4 := Lib.hid (bel_step C1_3.out B3.out)
              have C1_5 := Lib.hid (bel_step C1_4.out B4.out)
              have C1_6 := Lib.hid (bel_step C1_5.out B5.out)
              refine wpList_call (by kernel_rfl) 17 Try.func17 (by kernel_rfl) (by kernel_rfl) _ _ #[.slice Ap N cp, .slice (some ⟨og12, 0, none⟩) N oc12] rfl (by kernel_rfl) ?_
              refine (rsame_any Ap N cp ps (some ⟨og12, 0, none⟩) N oc12 ls (by omega) (by omega) V6 (Hps.out.keep C0_6.out) (HLs.out.keep C1_6.out)).mono ?_
              rintro e V7 ⟨rfl, hb⟩
              have B6 := Lib.hid hb
              rw [show decide (ps = ls) = false from decide_eq_false hpq]
              clear hb 
              refine ⟨_, rfl, ?_⟩
              simp only [Act.put, List.setIfInBounds_toArray, List.set_cons_zero, List.set_cons_succ]
              refine wpList_run (by kernel_rfl) (.bool true) V7 rfl ?_
              simp only [Act.put, List.setIfInBounds_toArray, List.set_cons_zero, List.set_cons_succ]
              refine wpList_run (by kernel_rfl) (.bool true) V7 rfl ?_
              simp only [Act.put, List.setIfInBounds_toArray, List.set_cons_zero, List.set_cons_succ]
              refine wpList_skip (by kernel_rfl) ?_
              try simp only [Act.put, List.setIfInBounds_toArray, List.set_cons_zero, List.set_cons_succ]
              refine wpList_skip (by kernel_rfl) ?_
              try simp only [Act.put, List.setIfInBounds_toArray, List.set_cons_zero, List.set_cons_succ]
              refine wpList_skip (by kernel_rfl) ?_
              try simp only [Act.put, List.setIfInBounds_toArray, List.set_cons_zero, List.set_cons_succ]
              refine wpList_run (by kernel_rfl) (.bool true) V7 rfl ?_
              simp only [Act.put, List.setIfInBounds_toArray, List.set_cons_zero, List.set_cons_succ]
              refine wpList_run (by kernel_rfl) (.bool true) V7 rfl ?_
              simp only [Act.put, List.setIfInBounds_toArray, List.set_cons_zero, List.set_cons_succ]
              refine wpList_run (by kernel_rfl) (.bool true) V7 rfl ?_
              simp only [Act.put, List.setIfInBounds_toArray, List.set_cons_zero, List.set_cons_succ]
              refine wpList_nil ?_
              go_wp2_with fail
              go_ret
              have C0_7 := Lib.hid (bel_step C0_6.out B6.out)
              exact ⟨rfl, HBV3.out.trans ((HBV9.out.trans (C0_7.out.mono HBV9.out.size)).mono HBV3.out.size)⟩
end Go.Proofs.Ytkefijogpiofbaa
