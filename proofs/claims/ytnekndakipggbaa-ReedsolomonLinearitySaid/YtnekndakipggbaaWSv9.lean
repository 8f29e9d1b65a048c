/- A law of stage 9: ReedsolomonLinearity. -/
import Derived.Test.YtnekndakipggbaaH12
namespace Go.Proofs.Ytnekndakipggbaa
set_option linter.unusedVariables false
set_option linter.unusedSimpArgs false
set_option linter.unusedSectionVars false
set_option maxRecDepth 8000
open Go.RowKit Go.Proofs.Ytnekndakipggbaa.K
attribute [local irreducible] wpList wpQuiet
end Go.Proofs.Ytnekndakipggbaa
namespace Gold
set_option linter.unusedVariables false
set_option linter.unusedSimpArgs false
set_option linter.unusedSectionVars false
/-- f a + b, the first i of them -/
def smF (f : F) (ps qs : List F) (i : Nat) : List F := tbF i fun j => f * cfF ps j + cfF qs j
theorem smF_succ (f : F) (ps qs : List F) (i : Nat) : smF f ps qs (i + 1) = smF f ps qs i ++ [f * cfF ps i + cfF qs i] := by simp [smF, tbF, List.range_succ]
theorem cwF_length (xs : List F) (M : Nat) : (cwF xs M).length = 2 ^ M := tbF_length _ _
theorem cw_lin2 {f : F} {ps qs : List F} {N M j : Nat} {xu xv xw : F} (hp : ps.length = N) (hq : qs.length = N) (hj : j < 2 ^ M) (hu : (cwF ps M)[j]? = some xu) (hv : (cwF qs M)[j]? = some xv) (hw : (cwF (smF f ps qs N) M)[j]? = some xw) : xw = f * xu + xv := by
  unfold cwF at hu hv hw
  rw [tbF_get _ hj] at hu hv hw
  injection hu with hu
  injection hv with hv
  injection hw with hw
  subst hu hv hw
  rw [← evL_evF' (n := N) (by unfold smF; rw [tbF_length]; exact Nat.le_refl _), ← evL_evF' (xs := ps) (n := N) (by omega), ← evL_evF' (xs := qs) (n := N) (by omega), ← evF_mul, ← evF_add]
  exact evF_congr (fun i hi => by unfold smF; rw [cfF_tbF, if_pos hi]) _
end Gold
namespace Go.Proofs.Ytnekndakipggbaa
set_option linter.unusedVariables false
set_option linter.unusedSimpArgs false
set_option linter.unusedSectionVars false
open Go.RowKit Go.Proofs.Ytnekndakipggbaa.K
attribute [local irreducible] wpList wpQuiet
set_option maxRecDepth 100000 in
set_option maxHeartbeats 16000000 in
theorem rLinearity_any (A : Option Addr) (n1 c1 : Nat) (xs : List Nat) (E : Option Addr) (n2 c2 : Nat) (ys : List Nat) (a q : Nat) (ha : a < 18446744073709551616) (hq : q < 256) (hbx : ∀ z ∈ xs, z < 18446744073709551616) (hby : ∀ z ∈ ys, z < 18446744073709551616) (w : World) (hX : Sg wdC 1 w A n1 c1 xs) (hY : Sg wdC 1 w E n2 c2 ys) :
    Calls Try.prog 5 #[.slice A n1 c1, .slice E n2 c2, .int .u64 (a : Int), .int .u8 (q : Int)] w fun e w' => e = .returned (.bool true) ∧ Below w.heap.size w w' := by
  have HX := Lib.hid hX
  have HY := Lib.hid hY
  have HBX := Lib.hid hbx
  have HBY := Lib.hid hby
  clear hX hY hbx hby
  go_enter Try.func5, Try.ntmps5
  go_upto_region 1 with fail
  refine wp_region_lit ?_
  refine wpList_call (by kernel_rfl) 11 Try.func11 (by kernel_rfl) (by kernel_rfl) _ _ #[] rfl (by kernel_rfl) ?_
  refine (sanity9_any w).mono ?_
  rintro e V1 ⟨rfl, hb⟩
  have B0 := Lib.hid hb
  clear hb 
  refine ⟨_, rfl, ?_⟩
  simp only [Act.put, List.setIfInBounds_toArray, List.set_cons_zero, List.set_cons_succ]
  refine wpList_run (by kernel_rfl) (.bool true) V1 rfl ?_
  simp only [Act.put, List.setIfInBounds_toArray, List.set_cons_zero, List.set_cons_succ]
  refine wpList_nil ?_
  obtain ⟨nn, hnn⟩ : ∃ nn, q / 16 % 5 = nn := ⟨_, rfl⟩
  have hnn5 : nn < 5 := by omega
  obtain ⟨N, hN⟩ : ∃ N, 2 ^ nn = N := ⟨_, rfl⟩
  have hN16 : N ≤ 16 := by rw [← hN]; exact (show 2 ^ nn ≤ 2 ^ 4 from Nat.pow_le_pow_right (by omega) (by omega))
  have HN := Lib.hid hN
  clear hN
  obtain ⟨L, hL⟩ : ∃ L, q % 3 + 1 = L := ⟨_, rfl⟩
  have hL1 : 1 ≤ L ∧ L ≤ 3 := by omega
  obtain ⟨z, hz⟩ : ∃ z, 2 ^ L = z := ⟨_, rfl⟩
  have hz8 : z ≤ 8 := by rw [← hz]; exact (show 2 ^ L ≤ 2 ^ 3 from Nat.pow_le_pow_right (by omega) (by omega))
  have HZ := Lib.hid hz
  have HLq := Lib.hid hL
  clear hz hL
  obtain ⟨M, hM⟩ : ∃ M, nn + L = M := ⟨_, rfl⟩
  have hM7 : M ≤ 7 := by omega
  obtain ⟨NN, hNN⟩ : ∃ NN, 2 ^ M = NN := ⟨_, rfl⟩
  have hNN7 : NN ≤ 128 := by rw [← hNN]; exact (show 2 ^ M ≤ 2 ^ 7 from Nat.pow_le_pow_right (by omega) hM7)
  have hzN : z * N = NN := by rw [← HZ.out, ← HN.out, ← hNN, ← hM, Nat.pow_add, Nat.mul_comm]
  have HNN := Lib.hid hNN
  have HMM := Lib.hid hM
  clear hNN hM
  go_upto_region 2 with fail
  refine wp_region_lit ?_
  refine wpList_run (by kernel_rfl) (.int .u8 (q : Int)) V1 rfl ?_
  simp only [Act.put, List.setIfInBounds_toArray, List.set_cons_zero, List.set_cons_succ]
  refine wpList_run (by kernel_rfl) (.int .u8 ((q / 16 : Nat) : Int)) V1 (xo_shrN .u8 .u64 q 4 (q / 16) (by decide) rfl rfl rfl rfl) ?_
  simp only [Act.put, List.setIfInBounds_toArray, List.set_cons_zero, List.set_cons_succ]
  refine wpList_run (by kernel_rfl) (.int .i64 ((q / 16 : Nat) : Int)) V1 (xo_cvt .u8 .i64 ((q / 16 : Nat) : Int) ((q / 16 : Nat) : Int) (by rw [IntKind.wrap_i64]; omega) Try.underlying3 Try.underlying5 rfl rfl) ?_
  simp only [Act.put, List.setIfInBounds_toArray, List.set_cons_zero, List.set_cons_succ]
  refine wpList_run (by kernel_rfl) (.int .i64 (nn : Int)) V1 (xo_remN .i64 (q / 16) 5 nn (by omega) hnn rfl rfl rfl) ?_
  simp only [Act.put, List.setIfInBounds_toArray, List.set_cons_zero, List.set_cons_succ]
  refine wpList_run (by kernel_rfl) (.int .i64 (nn : Int)) V1 rfl ?_
  simp only [Act.put, List.setIfInBounds_toArray, List.set_cons_zero, List.set_cons_succ]
  refine wpList_nil ?_
  go_upto_region 3 with fail
  refine wp_region_lit ?_
  refine wpList_run (by kernel_rfl) (.slice A n1 c1) V1 rfl ?_
  simp only [Act.put, List.setIfInBounds_toArray, List.set_cons_zero, List.set_cons_succ]
  refine wpList_run (by kernel_rfl) (.int .i64 (nn : Int)) V1 rfl ?_
  simp only [Act.put, List.setIfInBounds_toArray, List.set_cons_zero, List.set_cons_succ]
  refine wpList_call (by kernel_rfl) 26 Try.func26 (by kernel_rfl) (by kernel_rfl) _ _ #[.slice A n1 c1, .int .i64 (nn : Int)] rfl (by kernel_rfl) ?_
  refine (rmade_any A n1 c1 xs nn (by omega) HBX.out V1 (HX.out.keep B0.out)).mono ?_
  rintro e V2 ⟨Ap, cp, rfl, ho, hb⟩
  have B1 := Lib.hid hb
  have hs := Sg.ownS ho
  clear ho
  rw [HN.out] at hs ⊢
  obtain ⟨ps, hps⟩ : ∃ l, Gold.mdF xs N = l := ⟨_, rfl⟩
  rw [hps] at hs
  have hlps : ps.length = N := by rw [← hps]; exact Gold.mdF_length _ _
  clear hps
  have Hps := Lib.hid hs
  clear hb hs
  refine ⟨_, rfl, ?_⟩
  simp only [Act.put, List.setIfInBounds_toArray, List.set_cons_zero, List.set_cons_succ]
  refine wpList_run (by kernel_rfl) (.slice Ap N cp) V2 rfl ?_
  simp only [Act.put, List.setIfInBounds_toArray, List.set_cons_zero, List.set_cons_succ]
  refine wpList_nil ?_
  go_upto_region 4 with fail
  refine wp_region_lit ?_
  refine wpList_run (by kernel_rfl) (.slice E n2 c2) V2 rfl ?_
  simp only [Act.put, List.setIfInBounds_toArray, List.set_cons_zero, List.set_cons_succ]
  refine wpList_run (by kernel_rfl) (.int .i64 (nn : Int)) V2 rfl ?_
  simp only [Act.put, List.setIfInBounds_toArray, List.set_cons_zero, List.set_cons_succ]
  have C0_2 := Lib.hid (bel_step B0.out B1.out)
  refine wpList_call (by kernel_rfl) 26 Try.func26 (by kernel_rfl) (by kernel_rfl) _ _ #[.slice E n2 c2, .int .i64 (nn : Int)] rfl (by kernel_rfl) ?_
  refine (rmade_any E n2 c2 ys nn (by omega) HBY.out V2 (HY.out.keep C0_2.out)).mono ?_
  rintro e V3 ⟨Aq, cq, rfl, ho, hb⟩
  have B2 := Lib.hid hb
  have hs := Sg.ownS ho
  clear ho
  rw [HN.out] at hs ⊢
  obtain ⟨qs, hqs⟩ : ∃ l, Gold.mdF ys N = l := ⟨_, rfl⟩
  rw [hqs] at hs
  have hlqs : qs.length = N := by rw [← hqs]; exact Gold.mdF_length _ _
  clear hqs
  have Hqs := Lib.hid hs
  clear hb hs
  refine ⟨_, rfl, ?_⟩
  simp only [Act.put, List.setIfInBounds_toArray, List.set_cons_zero, List.set_cons_succ]
  refine wpList_run (by kernel_rfl) (.slice Aq N cq) V3 rfl ?_
  simp only [Act.put, List.setIfInBounds_toArray, List.set_cons_zero, List.set_cons_succ]
  refine wpList_nil ?_
  obtain ⟨f, hf⟩ : ∃ f, Gold.toF (a : Int) = f := ⟨_, rfl⟩
  go_upto_region 5 with fail
  refine wp_region_lit ?_
  refine wpList_run (by kernel_rfl) (.int .u64 (a : Int)) V3 rfl ?_
  simp only [Act.put, List.setIfInBounds_toArray, List.set_cons_zero, List.set_cons_succ]
  refine wpList_call (by kernel_rfl) 31 Try.func31 (by kernel_rfl) (by kernel_rfl) _ _ #[.int .u64 (a : Int)] rfl (by kernel_rfl) ?_
  refine (J.rreduceF (a : Int) V3 ⟨by omega, by omega⟩).mono ?_
  rintro e W1 ⟨rfl, hw1⟩
  rw [hw1]
  clear hw1 W1
  refine ⟨_, rfl, ?_⟩
  simp only [Act.put, List.setIfInBounds_toArray, List.set_cons_zero, List.set_cons_succ]
  refine wpList_run (by kernel_rfl) (.int .u64 (Gold.vF (Gold.toF (a : Int)))) V3 rfl ?_
  simp only [Act.put, List.setIfInBounds_toArray, List.set_cons_zero, List.set_cons_succ]
  refine wpList_nil ?_
  rw [hf]
  clear hf
  have C0_3 := Lib.hid (bel_step C0_2.out B2.out)
  have HBV0 := Lib.hid C0_3.out
  have YHps := (Hps.out.keep B2.out)
  have YHqs := Hqs.out
  clear Hps
  have Hps := Lib.hid YHps
  clear YHps
  clear Hqs
  have Hqs := Lib.hid YHqs
  clear YHqs
  obtain ⟨VB0, rfl⟩ : ∃ VB0 : World, VB0 = V3 := ⟨_, rfl⟩
  have hcps := Hps.out.cap
  have htps := Hps.out.top
  have hcqs := Hqs.out.cap
  have htqs := Hqs.out.top
  go_upto_region 6 with fail
  refine wp_region_lit ?_
  refine wpList_mk (by kernel_rfl) #[] 29 0 0 (xo_empty (size := 1) Try.underlying22 (by kernel_rfl) rfl VB0) ?_
  intro g36 V1 hge h0 hb
  have hge2 := Nat.le_trans (Below.refl VB0.heap.size VB0).size hge
  have B0 := Lib.hid hb
  have Ow36 : Hid (V1.ownsRow VB0.heap.size 29 1 (.slice (some ⟨g36, 0, none⟩) 0 0) 0 (fl feC [])) := Lib.hid (own_new h0 hge2)
  clear hge hge2 h0 hb
  simp only [ptr, Act.put, List.setIfInBounds_toArray, List.set_cons_zero, List.set_cons_succ]
  refine wpList_run (by kernel_rfl) (.slice (some ⟨g36, 0, none⟩) 0 0) V1 rfl ?_
  simp only [Act.put, List.setIfInBounds_toArray, List.set_cons_zero, List.set_cons_succ]
  refine wpList_nil ?_
  go_upto_region 7 with fail
  refine wp_region_lit ?_
  refine wpList_run (by kernel_rfl) (.int .i64 0) V1 rfl ?_
  simp only [Act.put, List.setIfInBounds_toArray, List.set_cons_zero, List.set_cons_succ]
  refine wpList_nil ?_
  have O1 := Ow36.out
  have O2 := B0.out
  go_wp2_with fail
  go_loopw [14, 15] (fun v p wr => ∃ i : Nat, i ≤ N ∧ p = .int .i64 i ∧ wr.ownsRow VB0.heap.size 29 1 v i (fl feC (Gold.smF f ps qs i)) ∧ Below VB0.heap.size VB0 wr) (fun _ p _ => N - (intOf p).toNat)
  case atStart => exact ⟨0, Nat.zero_le _, rfl, O1, O2⟩
  case round =>
    clear O2 O1
    obtain ⟨wo, rfl⟩ : ∃ wo : World, wo = wr := ⟨_, rfl⟩
    obtain ⟨i, hi, rfl, hOW, hb0⟩ := hrel
    have hbr := hb0
    clear B0
    have B0 := Lib.hid hbr
    clear hbr
    have OW := Lib.hid hOW
    clear hb0 hOW
    by_cases hi1 : i < N
    · have hci4 : ((i : Int) < (N : Int)) := by omega
      go_upto_region 8 with fail
      refine wp_region_lit ?_
      refine wpList_run (by kernel_rfl) (.int .i64 (i : Int)) wo rfl ?_
      simp only [Act.put, List.setIfInBounds_toArray, List.set_cons_zero, List.set_cons_succ]
      refine wpList_run (by kernel_rfl) (.slice Ap N cp) wo rfl ?_
      simp only [Act.put, List.setIfInBounds_toArray, List.set_cons_zero, List.set_cons_succ]
      refine wpList_run (by kernel_rfl) (.int .i64 (N : Int)) wo (xo_len Ap N cp Try.underlying22 rfl rfl) ?_
      simp only [Act.put, List.setIfInBounds_toArray, List.set_cons_zero, List.set_cons_succ]
      refine wpList_run (by kernel_rfl) (.bool true) wo (xo_lssT .i64 (i : Int) (N : Int) (by omega) rfl rfl rfl) ?_
      simp only [Act.put, List.setIfInBounds_toArray, List.set_cons_zero, List.set_cons_succ]
      refine wpList_nil ?_
      obtain ⟨x, hx⟩ : ∃ x, ps[i]? = some x := ⟨_, List.getElem?_eq_getElem (by omega)⟩
      have HEx := Lib.hid hx
      clear hx
      obtain ⟨y, hy⟩ : ∃ y, qs[i]? = some y := ⟨_, List.getElem?_eq_getElem (by omega)⟩
      have HEy := Lib.hid hy
      clear hy
      go_upto_region 10 with fail
      try simp only [List.append_eq, List.cons_append, List.nil_append]
      refine wp_ordT (fun W => Below VB0.heap.size VB0 W) (.q 0 (.q 1 (.q 2 (.q 3 (.q 4 (.q 5 (.q 7 (.q 8 (.q 9 (.q 10 (.one 6 (.one 11 (.one 12 (.one 13 (.q 14 .nil))))))))))))))) (by kernel_rfl) (by kernel_rfl) (fun _ _ dt _ _ h => by first | exact h.elim | (cases dt <;> exact h)) (by kernel_rfl) (by kernel_rfl) B0.out.drew ?_
      have hb : Below wo.heap.size wo wo.drew := (Below.refl _ _).drew
      generalize wo.drew = V2 at hb ⊢
      have B1 := Lib.hid hb
      clear hb
      refine wpOT_q (u14) rfl (by kernel_rfl) (fun v hW => rfl) ?_
      simp only [ptr, Act.put, List.setIfInBounds_toArray, List.set_cons_zero, List.set_cons_succ]
      refine wpOT_q (.int .u64 (Gold.vF f)) rfl (by kernel_rfl) (fun v hW => rfl) ?_
      simp only [ptr, Act.put, List.setIfInBounds_toArray, List.set_cons_zero, List.set_cons_succ]
      refine wpOT_q (.slice Ap N cp) rfl (by kernel_rfl) (fun v hW => rfl) ?_
      simp only [ptr, Act.put, List.setIfInBounds_toArray, List.set_cons_zero, List.set_cons_succ]
      refine wpOT_q (.int .i64 (i : Int)) rfl (by kernel_rfl) (fun v hW => rfl) ?_
      simp only [ptr, Act.put, List.setIfInBounds_toArray, List.set_cons_zero, List.set_cons_succ]
      refine wpOT_q (.pointer (some (gad Ap (i * 1)))) rfl (by kernel_rfl) (fun v hW => (xg_idx .i64 (Hps.out.keep hW) HEx.out Try.underlying22 (by kernel_rfl) rfl rfl rfl)) ?_
      simp only [ptr, Act.put, List.setIfInBounds_toArray, List.set_cons_zero, List.set_cons_succ]
      refine wpOT_q (.int .u64 (Gold.vF x)) rfl (by kernel_rfl) (fun v hW => (xg_load1 (E := feC) (i := i) (j := 0) (Hps.out.keep hW) HEx.out rfl rfl Try.underlying29 rfl rfl rfl)) ?_
      simp only [ptr, Act.put, List.setIfInBounds_toArray, List.set_cons_zero, List.set_cons_succ]
      refine wpOT_q (.slice Aq N cq) rfl (by kernel_rfl) (fun v hW => rfl) ?_
      simp only [ptr, Act.put, List.setIfInBounds_toArray, List.set_cons_zero, List.set_cons_succ]
      refine wpOT_q (.int .i64 (i : Int)) rfl (by kernel_rfl) (fun v hW => rfl) ?_
      simp only [ptr, Act.put, List.setIfInBounds_toArray, List.set_cons_zero, List.set_cons_succ]
      refine wpOT_q (.pointer (some (gad Aq (i * 1)))) rfl (by kernel_rfl) (fun v hW => (xg_idx .i64 (Hqs.out.keep hW) HEy.out Try.underlying22 (by kernel_rfl) rfl rfl rfl)) ?_
      simp only [ptr, Act.put, List.setIfInBounds_toArray, List.set_cons_zero, List.set_cons_succ]
      refine wpOT_q (.int .u64 (Gold.vF y)) rfl (by kernel_rfl) (fun v hW => (xg_load1 (E := feC) (i := i) (j := 0) (Hqs.out.keep hW) HEy.out rfl rfl Try.underlying29 rfl rfl rfl)) ?_
      simp only [ptr, Act.put, List.setIfInBounds_toArray, List.set_cons_zero, List.set_cons_succ]
      refine wpOT_one rfl (by kernel_rfl) ?_
      refine hOp_call 33 Try.func33 (by kernel_rfl) (by kernel_rfl) _ _ #[.int .u64 (Gold.vF f), .int .u64 (Gold.vF x)] rfl (by kernel_rfl) ?_
      refine (J.rmulF f x V2).mono ?_
      rintro e W1 ⟨rfl, hw1⟩
      rw [hw1]
      clear hw1 W1
      have C0_2 := Lib.hid (bel_step B0.out B1.out)
      refine ⟨_, rfl, C0_2.out, ?_⟩
      simp only [ptr, Act.put, List.setIfInBounds_toArray, List.set_cons_zero, List.set_cons_succ]
      refine wpOT_one rfl (by kernel_rfl) ?_
      refine hOp_call 32 Try.func32 (by kernel_rfl) (by kernel_rfl) _ _ #[.int .u64 (Gold.vF (f * x)), .int .u64 (Gold.vF y)] rfl (by kernel_rfl) ?_
      refine (J.raddF (f * x) y V2).mono ?_
      rintro e W1 ⟨rfl, hw1⟩
      rw [hw1]
      clear hw1 W1
      refine ⟨_, rfl, C0_2.out, ?_⟩
      simp only [ptr, Act.put, List.setIfInBounds_toArray, List.set_cons_zero, List.set_cons_succ]
      refine wpOT_one rfl (by kernel_rfl) ?_
      refine hOp_mk ([((f * x) + y)].flatMap feC).toArray 29 1 1 (xg_lit (E := feC) (bytes := 8) (.int .u64 0) [.tmp 54] [((f * x) + y)] 1 Try.underlying22 (by kernel_rfl) rfl (by decide) (by decide) rfl rfl) ?_
      intro g55 V3 hge h0 hb
      have Ge5 : Hid (V2.heap.size ≤ g55) := Lib.hid hge
      have B2 := Lib.hid hb
      have Fv6_55 : Hid (RowG feC V3 g55 29 ([((f * x) + y)])) := Lib.hid (h0)
      have Lt7 : Hid (g55 < V3.heap.size) := Lib.hid (xp_lt Fv6_55.out)
      clear hge h0 hb
      have C0_3 := Lib.hid (bel_step C0_2.out B2.out)
      refine ⟨C0_3.out, ?_⟩
      simp only [ptr, Act.put, List.setIfInBounds_toArray, List.set_cons_zero, List.set_cons_succ]
      refine wpOT_one rfl (by kernel_rfl) ?_
      have C1_3 := Lib.hid (bel_step B1.out B2.out)
      refine hOp_app (size := 1) (.tmp 43) (.tmp 55) 22 rfl (.int .u64 0) 8 Try.underlying22 (by kernel_rfl) rfl (by decide) rfl (own_keep OW.out C1_3.out) (some ⟨g55, 0, none⟩) 1 1 (fl feC ([((f * x) + y)])) rfl (RowG.sg (n := 1) (c := 1) Fv6_55.out (show ([((f * x) + y)]).length = 1 from rfl) (Nat.le_refl _) (by omega)).src (by unfold maxLen; omega) (by omega) C0_3.out.size ?_
      intro v56 X3_8 ho hg hloc
      have hb1 := own_below (own_keep OW.out C1_3.out) hg C0_3.out.size
      have hox : X3_8.ownsRow VB0.heap.size 29 1 v56 (i + 1) (fl feC ((Gold.smF f ps qs i) ++ ([((f * x) + y)]))) := by rw [fl_append]; exact ho
      have hbr := C0_3.out.trans hb1
      clear B0
      have B0 := Lib.hid hbr
      clear hbr
      have Ow56_9 := Lib.hid hox
      clear ho hox hb1 hg hloc
      refine ⟨B0.out, ?_⟩
      simp only [ptr, Act.put, List.setIfInBounds_toArray, List.set_cons_zero, List.set_cons_succ]
      refine wpOT_q (v56) rfl (by kernel_rfl) (fun v hW => rfl) ?_
      simp only [ptr, Act.put, List.setIfInBounds_toArray, List.set_cons_zero, List.set_cons_succ]
      refine wpOT_nil ?_
      have hko := Ow56_9.out
      have hme : Gold.smF f ps qs i ++ [f * x + y] = Gold.smF f ps qs (i + 1) := by rw [Gold.smF_succ, Gold.cfF_some HEx.out, Gold.cfF_some HEy.out]
      rw [hme] at hko
      go_upto_region 9 with fail
      refine wp_region_lit ?_
      refine wpList_run (by kernel_rfl) (.int .i64 (i : Int)) X3_8 rfl ?_
      simp only [Act.put, List.setIfInBounds_toArray, List.set_cons_zero, List.set_cons_succ]
      refine wpList_run (by kernel_rfl) (.int .i64 ((i + 1 : Nat) : Int)) X3_8 (xo_addI (i : Int) 1 ((i + 1 : Nat) : Int) (by omega) (by omega) (by omega) rfl rfl rfl) ?_
      simp only [Act.put, List.setIfInBounds_toArray, List.set_cons_zero, List.set_cons_succ]
      refine wpList_run (by kernel_rfl) (.int .i64 ((i + 1 : Nat) : Int)) X3_8 rfl ?_
      simp only [Act.put, List.setIfInBounds_toArray, List.set_cons_zero, List.set_cons_succ]
      refine wpList_nil ?_
      have hq10 := B0.out
      go_wp2_with fail
      go_roundw
      case rel => exact ⟨i + 1, by omega, by go_num, hko, hq10⟩
      case measure => simp [intOf]; omega
    · have hci4 : ¬ ((i : Int) < (N : Int)) := by omega
      go_upto_region 8 with fail
      refine wp_region_lit ?_
      refine wpList_run (by kernel_rfl) (.int .i64 (i : Int)) wo rfl ?_
      simp only [Act.put, List.setIfInBounds_toArray, List.set_cons_zero, List.set_cons_succ]
      refine wpList_run (by kernel_rfl) (.slice Ap N cp) wo rfl ?_
      simp only [Act.put, List.setIfInBounds_toArray, List.set_cons_zero, List.set_cons_succ]
      refine wpList_run (by kernel_rfl) (.int .i64 (N : Int)) wo (xo_len Ap N cp Try.underlying22 rfl rfl) ?_
      simp only [Act.put, List.setIfInBounds_toArray, List.set_cons_zero, List.set_cons_succ]
      refine wpList_run (by kernel_rfl) (.bool false) wo (xo_lssF .i64 (i : Int) (N : Int) (by omega) rfl rfl rfl) ?_
      simp only [Act.put, List.setIfInBounds_toArray, List.set_cons_zero, List.set_cons_succ]
      refine wpList_nil ?_
      obtain rfl : N = i := by omega
      obtain ⟨As, cs, hvs⟩ := own_form OW.out
      subst hvs
      have hso := Sg.ownS OW.out
      have HSs := Lib.hid hso
      clear hso
      go_upto_region 11 with fail
      refine wp_region_lit ?_
      refine wpList_run (by kernel_rfl) (.slice Ap N cp) wo rfl ?_
      simp only [Act.put, List.setIfInBounds_toArray, List.set_cons_zero, List.set_cons_succ]
      refine wpList_run (by kernel_rfl) (.int .u8 (q : Int)) wo rfl ?_
      simp only [Act.put, List.setIfInBounds_toArray, List.set_cons_zero, List.set_cons_succ]
      refine wpList_call (by kernel_rfl) 25 Try.func25 (by kernel_rfl) (by kernel_rfl) _ _ #[.int .u8 (q : Int)] rfl (by kernel_rfl) ?_
      refine (blowup_any q hq wo).mono ?_
      rintro e V2 ⟨rfl, hb⟩
      have B1 := Lib.hid hb
      rw [HLq.out, HZ.out]
      clear hb 
      refine ⟨_, rfl, ?_⟩
      simp only [Act.put, List.setIfInBounds_toArray, List.set_cons_zero, List.set_cons_succ]
      have C0_2 := Lib.hid (bel_step B0.out B1.out)
      refine wpList_call (by kernel_rfl) 13 Try.func13 (by kernel_rfl) (by kernel_rfl) _ _ #[.slice Ap N cp, .int .i64 (z : Int)] rfl (by kernel_rfl) ?_
      refine (encodeN Ap N cp ps z nn L NN M HN.out.symm HZ.out.symm (by omega) (by omega) HMM.out (by omega) HNN.out.symm V2 (Hps.out.keep C0_2.out)).mono ?_
      rintro e V3 ⟨gu, rfl, hs, hb⟩
      have B2 := Lib.hid hb
      have Hu := Lib.hid hs
      clear hb hs
      refine ⟨_, rfl, ?_⟩
      simp only [Act.put, List.setIfInBounds_toArray, List.set_cons_zero, List.set_cons_succ]
      refine wpList_run (by kernel_rfl) (.tuple #[.slice (some ⟨gu, 0, none⟩) NN NN, .int .i64 0]) V3 rfl ?_
      simp only [Act.put, List.setIfInBounds_toArray, List.set_cons_zero, List.set_cons_succ]
      refine wpList_run (by kernel_rfl) (.slice (some ⟨gu, 0, none⟩) NN NN) V3 rfl ?_
      simp only [Act.put, List.setIfInBounds_toArray, List.set_cons_zero, List.set_cons_succ]
      refine wpList_run (by kernel_rfl) (.int .i64 0) V3 rfl ?_
      simp only [Act.put, List.setIfInBounds_toArray, List.set_cons_zero, List.set_cons_succ]
      refine wpList_run (by kernel_rfl) (.slice (some ⟨gu, 0, none⟩) NN NN) V3 rfl ?_
      simp only [Act.put, List.setIfInBounds_toArray, List.set_cons_zero, List.set_cons_succ]
      refine wpList_run (by kernel_rfl) (.int .i64 0) V3 rfl ?_
      simp only [Act.put, List.setIfInBounds_toArray, List.set_cons_zero, List.set_cons_succ]
      refine wpList_nil ?_
      go_upto_region 12 with fail
      refine wp_region_lit ?_
      refine wpList_run (by kernel_rfl) (.slice Aq N cq) V3 rfl ?_
      simp only [Act.put, List.setIfInBounds_toArray, List.set_cons_zero, List.set_cons_succ]
      refine wpList_run (by kernel_rfl) (.int .u8 (q : Int)) V3 rfl ?_
      simp only [Act.put, List.setIfInBounds_toArray, List.set_cons_zero, List.set_cons_succ]
      refine wpList_call (by kernel_rfl) 25 Try.func25 (by kernel_rfl) (by kernel_rfl) _ _ #[.int .u8 (q : Int)] rfl (by kernel_rfl) ?_
      refine (blowup_any q hq V3).mono ?_
      rintro e V4 ⟨rfl, hb⟩
      have B3 := Lib.hid hb
      rw [HLq.out, HZ.out]
      clear hb 
      refine ⟨_, rfl, ?_⟩
      simp only [Act.put, List.setIfInBounds_toArray, List.set_cons_zero, List.set_cons_succ]
      have C0_3 := Lib.hid (bel_step C0_2.out B2.out)
      have C0_4 := Lib.hid (bel_step C0_3.out B3.out)
      refine wpList_call (by kernel_rfl) 13 Try.func13 (by kernel_rfl) (by kernel_rfl) _ _ #[.slice Aq N cq, .int .i64 (z : Int)] rfl (by kernel_rfl) ?_
      refine (encodeN Aq N cq qs z nn L NN M HN.out.symm HZ.out.symm (by omega) (by omega) HMM.out (by omega) HNN.out.symm V4 (Hqs.out.keep C0_4.out)).mono ?_
      rintro e V5 ⟨gv, rfl, hs, hb⟩
      have B4 := Lib.hid hb
      have Hv := Lib.hid hs
      clear hb hs
      refine ⟨_, rfl, ?_⟩
      simp only [Act.put, List.setIfInBounds_toArray, List.set_cons_zero, List.set_cons_succ]
      refine wpList_run (by kernel_rfl) (.tuple #[.slice (some ⟨gv, 0, none⟩) NN NN, .int .i64 0]) V5 rfl ?_
      simp only [Act.put, List.setIfInBounds_toArray, List.set_cons_zero, List.set_cons_succ]
      refine wpList_run (by kernel_rfl) (.slice (some ⟨gv, 0, none⟩) NN NN) V5 rfl ?_
      simp only [Act.put, List.setIfInBounds_toArray, List.set_cons_zero, List.set_cons_succ]
      refine wpList_run (by kernel_rfl) (.int .i64 0) V5 rfl ?_
      simp only [Act.put, List.setIfInBounds_toArray, List.set_cons_zero, List.set_cons_succ]
      refine wpList_run (by kernel_rfl) (.slice (some ⟨gv, 0, none⟩) NN NN) V5 rfl ?_
      simp only [Act.put, List.setIfInBounds_toArray, List.set_cons_zero, List.set_cons_succ]
      refine wpList_run (by kernel_rfl) (.int .i64 0) V5 rfl ?_
      simp only [Act.put, List.setIfInBounds_toArray, List.set_cons_zero, List.set_cons_succ]
      refine wpList_nil ?_
      go_upto_region 13 with fail
      refine wp_region_lit ?_
      refine wpList_run (by kernel_rfl) (.slice As N cs) V5 rfl ?_
      simp only [Act.put, List.setIfInBounds_toArray, List.set_cons_zero, List.set_cons_succ]
      refine wpList_run (by kernel_rfl) (.int .u8 (q : Int)) V5 rfl ?_
      simp only [Act.put, List.setIfInBounds_toArray, List.set_cons_zero, List.set_cons_succ]
      refine wpList_call (by kernel_rfl) 25 Try.func25 (by kernel_rfl) (by kernel_rfl) _ _ #[.int .u8 (q : Int)] rfl (by kernel_rfl) ?_
      refine (blowup_any q hq V5).mono ?_
      rintro e V6 ⟨rfl, hb⟩
      have B5 := Lib.hid hb
      rw [HLq.out, HZ.out]
      clear hb 
      refine ⟨_, rfl, ?_⟩
      simp only [Act.put, List.setIfInBounds_toArray, List.set_cons_zero, List.set_cons_succ]
      have C1_3 := Lib.hid (bel_step B1.out B2.out)
      have C1_4 := Lib.hid (bel_step C1_3.out B3.out)
      have C1_5 := Lib.hid (bel_step C1_4.out B4.out)
      have C1_6 := Lib.hid (bel_step C1_5.out B5.out)
      refine wpList_call (by kernel_rfl) 13 Try.func13 (by kernel_rfl) (by kernel_rfl) _ _ #[.slice As N cs, .int .i64 (z : Int)] rfl (by kernel_rfl) ?_
      refine (encodeN As N cs (Gold.smF f ps qs N) z nn L NN M HN.out.symm HZ.out.symm (by omega) (by omega) HMM.out (by omega) HNN.out.symm V6 (HSs.out.keep C1_6.out)).mono ?_
      rintro e V7 ⟨gw, rfl, hs, hb⟩
      have B6 := Lib.hid hb
      have Hw := Lib.hid hs
      clear hb hs
      refine ⟨_, rfl, ?_⟩
      simp only [Act.put, List.setIfInBounds_toArray, List.set_cons_zero, List.set_cons_succ]
      refine wpList_run (by kernel_rfl) (.tuple #[.slice (some ⟨gw, 0, none⟩) NN NN, .int .i64 0]) V7 rfl ?_
      simp only [Act.put, List.setIfInBounds_toArray, List.set_cons_zero, List.set_cons_succ]
      refine wpList_run (by kernel_rfl) (.slice (some ⟨gw, 0, none⟩) NN NN) V7 rfl ?_
      simp only [Act.put, List.setIfInBounds_toArray, List.set_cons_zero, List.set_cons_succ]
      refine wpList_run (by kernel_rfl) (.int .i64 0) V7 rfl ?_
      simp only [Act.put, List.setIfInBounds_toArray, List.set_cons_zero, List.set_cons_succ]
      refine wpList_run (by kernel_rfl) (.slice (some ⟨gw, 0, none⟩) NN NN) V7 rfl ?_
      simp only [Act.put, List.setIfInBounds_toArray, List.set_cons_zero, List.set_cons_succ]
      refine wpList_run (by kernel_rfl) (.int .i64 0) V7 rfl ?_
      simp only [Act.put, List.setIfInBounds_toArray, List.set_cons_zero, List.set_cons_succ]
      refine wpList_nil ?_
      go_upto_region 14 with fail
      refine wp_region_lit ?_
      refine wpList_run (by kernel_rfl) (.int .i64 0) V7 rfl ?_
      simp only [Act.put, List.setIfInBounds_toArray, List.set_cons_zero, List.set_cons_succ]
      refine wpList_run (by kernel_rfl) (.bool false) V7 (xo_neqF .i64 0 0 (by omega) rfl rfl rfl) ?_
      simp only [Act.put, List.setIfInBounds_toArray, List.set_cons_zero, List.set_cons_succ]
      refine wpList_run (by kernel_rfl) (.bool false) V7 rfl ?_
      simp only [Act.put, List.setIfInBounds_toArray, List.set_cons_zero, List.set_cons_succ]
      refine wpList_run (by kernel_rfl) (.int .i64 0) V7 rfl ?_
      simp only [Act.put, List.setIfInBounds_toArray, List.set_cons_zero, List.set_cons_succ]
      refine wpList_run (by kernel_rfl) (.bool false) V7 (xo_neqF .i64 0 0 (by omega) rfl rfl rfl) ?_
      simp only [Act.put, List.setIfInBounds_toArray, List.set_cons_zero, List.set_cons_succ]
      refine wpList_run (by kernel_rfl) (.bool false) V7 rfl ?_
      simp only [Act.put, List.setIfInBounds_toArray, List.set_cons_zero, List.set_cons_succ]
      refine wpList_run (by kernel_rfl) (.bool false) V7 rfl ?_
      simp only [Act.put, List.setIfInBounds_toArray, List.set_cons_zero, List.set_cons_succ]
      refine wpList_run (by kernel_rfl) (.int .i64 0) V7 rfl ?_
      simp only [Act.put, List.setIfInBounds_toArray, List.set_cons_zero, List.set_cons_succ]
      refine wpList_run (by kernel_rfl) (.bool false) V7 (xo_neqF .i64 0 0 (by omega) rfl rfl rfl) ?_
      simp only [Act.put, List.setIfInBounds_toArray, List.set_cons_zero, List.set_cons_succ]
      refine wpList_run (by kernel_rfl) (.bool false) V7 rfl ?_
      simp only [Act.put, List.setIfInBounds_toArray, List.set_cons_zero, List.set_cons_succ]
      refine wpList_run (by kernel_rfl) (.bool false) V7 rfl ?_
      simp only [Act.put, List.setIfInBounds_toArray, List.set_cons_zero, List.set_cons_succ]
      refine wpList_run (by kernel_rfl) (.slice (some ⟨gu, 0, none⟩) NN NN) V7 rfl ?_
      simp only [Act.put, List.setIfInBounds_toArray, List.set_cons_zero, List.set_cons_succ]
      refine wpList_run (by kernel_rfl) (.int .i64 (NN : Int)) V7 (xo_len (some ⟨gu, 0, none⟩) NN NN Try.underlying22 rfl rfl) ?_
      simp only [Act.put, List.setIfInBounds_toArray, List.set_cons_zero, List.set_cons_succ]
      refine wpList_run (by kernel_rfl) (.int .u8 (q : Int)) V7 rfl ?_
      simp only [Act.put, List.setIfInBounds_toArray, List.set_cons_zero, List.set_cons_succ]
      refine wpList_call (by kernel_rfl) 25 Try.func25 (by kernel_rfl) (by kernel_rfl) _ _ #[.int .u8 (q : Int)] rfl (by kernel_rfl) ?_
      refine (blowup_any q hq V7).mono ?_
      rintro e V8 ⟨rfl, hb⟩
      have B7 := Lib.hid hb
      rw [HLq.out, HZ.out]
      clear hb 
      refine ⟨_, rfl, ?_⟩
      simp only [Act.put, List.setIfInBounds_toArray, List.set_cons_zero, List.set_cons_succ]
      refine wpList_run (by kernel_rfl) (.int .i64 (nn : Int)) V8 rfl ?_
      simp only [Act.put, List.setIfInBounds_toArray, List.set_cons_zero, List.set_cons_succ]
      refine wpList_run (by kernel_rfl) (.int .i64 (NN : Int)) V8 (xo_shlI .i64 z nn NN (by rw [HN.out]; exact hzN) (by omega) rfl rfl rfl) ?_
      simp only [Act.put, List.setIfInBounds_toArray, List.set_cons_zero, List.set_cons_succ]
      refine wpList_run (by kernel_rfl) (.bool false) V8 (xo_neqF .i64 (NN : Int) (NN : Int) (by omega) rfl rfl rfl) ?_
      simp only [Act.put, List.setIfInBounds_toArray, List.set_cons_zero, List.set_cons_succ]
      refine wpList_run (by kernel_rfl) (.bool false) V8 rfl ?_
      simp only [Act.put, List.setIfInBounds_toArray, List.set_cons_zero, List.set_cons_succ]
      refine wpList_run (by kernel_rfl) (.bool false) V8 rfl ?_
      simp only [Act.put, List.setIfInBounds_toArray, List.set_cons_zero, List.set_cons_succ]
      refine wpList_run (by kernel_rfl) (.slice (some ⟨gv, 0, none⟩) NN NN) V8 rfl ?_
      simp only [Act.put, List.setIfInBounds_toArray, List.set_cons_zero, List.set_cons_succ]
      refine wpList_run (by kernel_rfl) (.int .i64 (NN : Int)) V8 (xo_len (some ⟨gv, 0, none⟩) NN NN Try.underlying22 rfl rfl) ?_
      simp only [Act.put, List.setIfInBounds_toArray, List.set_cons_zero, List.set_cons_succ]
      refine wpList_run (by kernel_rfl) (.slice (some ⟨gu, 0, none⟩) NN NN) V8 rfl ?_
      simp only [Act.put, List.setIfInBounds_toArray, List.set_cons_zero, List.set_cons_succ]
      refine wpList_run (by kernel_rfl) (.int .i64 (NN : Int)) V8 (xo_len (some ⟨gu, 0, none⟩) NN NN Try.underlying22 rfl rfl) ?_
      simp only [Act.put, List.setIfInBounds_toArray, List.set_cons_zero, List.set_cons_succ]
      refine wpList_run (by kernel_rfl) (.bool false) V8 (xo_neqF .i64 (NN : Int) (NN : Int) (by omega) rfl rfl rfl) ?_
      simp only [Act.put, List.setIfInBounds_toArray, List.set_cons_zero, List.set_cons_succ]
      refine wpList_run (by kernel_rfl) (.bool false) V8 rfl ?_
      simp only [Act.put, List.setIfInBounds_toArray, List.set_cons_zero, List.set_cons_succ]
      refine wpList_run (by kernel_rfl) (.bool false) V8 rfl ?_
      simp only [Act.put, List.setIfInBounds_toArray, List.set_cons_zero, List.set_cons_succ]
      refine wpList_run (by kernel_rfl) (.slice (some ⟨gw, 0, none⟩) NN NN) V8 rfl ?_
      simp only [Act.put, List.setIfInBounds_toArray, List.set_cons_zero, List.set_cons_succ]
      refine wpList_run (by kernel_rfl) (.int .i64 (NN : Int)) V8 (xo_len (some ⟨gw, 0, none⟩) NN NN Try.underlying22 rfl rfl) ?_
      simp only [Act.put, List.setIfInBounds_toArray, List.set_cons_zero, List.set_cons_succ]
      refine wpList_run (by kernel_rfl) (.slice (some ⟨gu, 0, none⟩) NN NN) V8 rfl ?_
      simp only [Act.put, List.setIfInBounds_toArray, List.set_cons_zero, List.set_cons_succ]
      refine wpList_run (by kernel_rfl) (.int .i64 (NN : Int)) V8 (xo_len (some ⟨gu, 0, none⟩) NN NN Try.underlying22 rfl rfl) ?_
      simp only [Act.put, List.setIfInBounds_toArray, List.set_cons_zero, List.set_cons_succ]
      refine wpList_run (by kernel_rfl) (.bool false) V8 (xo_neqF .i64 (NN : Int) (NN : Int) (by omega) rfl rfl rfl) ?_
      simp only [Act.put, List.setIfInBounds_toArray, List.set_cons_zero, List.set_cons_succ]
      refine wpList_run (by kernel_rfl) (.bool false) V8 rfl ?_
      simp only [Act.put, List.setIfInBounds_toArray, List.set_cons_zero, List.set_cons_succ]
      refine wpList_nil ?_
      have C0_5 := Lib.hid (bel_step C0_4.out B4.out)
      have C0_6 := Lib.hid (bel_step C0_5.out B5.out)
      have C0_7 := Lib.hid (bel_step C0_6.out B6.out)
      have C0_8 := Lib.hid (bel_step C0_7.out B7.out)
      have HBV5 := Lib.hid C0_8.out
      have C3_5 := Lib.hid (bel_step B3.out B4.out)
      have C3_6 := Lib.hid (bel_step C3_5.out B5.out)
      have C3_7 := Lib.hid (bel_step C3_6.out B6.out)
      have C3_8 := Lib.hid (bel_step C3_7.out B7.out)
      have YHu := (Hu.out.keep C3_8.out)
      have C5_7 := Lib.hid (bel_step B5.out B6.out)
      have C5_8 := Lib.hid (bel_step C5_7.out B7.out)
      have YHv := (Hv.out.keep C5_8.out)
      have YHw := (Hw.out.keep B7.out)
      clear Hu
      have Hu := Lib.hid YHu
      clear YHu
      clear Hv
      have Hv := Lib.hid YHv
      clear YHv
      clear Hw
      have Hw := Lib.hid YHw
      clear YHw
      obtain ⟨VB5, rfl⟩ : ∃ VB5 : World, VB5 = V8 := ⟨_, rfl⟩
      go_upto_region 16 with fail
      refine wp_region_lit ?_
      refine wpList_run (by kernel_rfl) (.int .i64 0) VB5 rfl ?_
      simp only [Act.put, List.setIfInBounds_toArray, List.set_cons_zero, List.set_cons_succ]
      refine wpList_nil ?_
      have O6 := (Below.refl VB5.heap.size VB5)
      have B0 := Lib.hid (Below.refl VB5.heap.size VB5)
      go_wp2_with fail
      go_loopw [22] (fun p wr => ∃ j : Nat, j ≤ NN ∧ p = .int .i64 j ∧ Below VB5.heap.size VB5 wr) (fun p _ => NN - (intOf p).toNat)
      case atStart => exact ⟨0, Nat.zero_le _, rfl, O6⟩
      case round =>
        clear O6
        obtain ⟨wz, rfl⟩ : ∃ wz : World, wz = wr := ⟨_, rfl⟩
        obtain ⟨j, hi, rfl, hb0⟩ := hrel
        have hbr := hb0
        clear B0
        have B0 := Lib.hid hbr
        clear hbr
        clear hb0 
        by_cases hj1 : j < NN
        · have hci8 : ((j : Int) < (NN : Int)) := by omega
          go_upto_region 17 with fail
          refine wp_region_lit ?_
          refine wpList_run (by kernel_rfl) (.int .i64 (j : Int)) wz rfl ?_
          simp only [Act.put, List.setIfInBounds_toArray, List.set_cons_zero, List.set_cons_succ]
          refine wpList_run (by kernel_rfl) (.slice (some ⟨gw, 0, none⟩) NN NN) wz rfl ?_
          simp only [Act.put, List.setIfInBounds_toArray, List.set_cons_zero, List.set_cons_succ]
          refine wpList_run (by kernel_rfl) (.int .i64 (NN : Int)) wz (xo_len (some ⟨gw, 0, none⟩) NN NN Try.underlying22 rfl rfl) ?_
          simp only [Act.put, List.setIfInBounds_toArray, List.set_cons_zero, List.set_cons_succ]
          refine wpList_run (by kernel_rfl) (.bool true) wz (xo_lssT .i64 (j : Int) (NN : Int) (by omega) rfl rfl rfl) ?_
          simp only [Act.put, List.setIfInBounds_toArray, List.set_cons_zero, List.set_cons_succ]
          refine wpList_nil ?_
          obtain ⟨xu, hxu⟩ : ∃ xu, (Gold.cwF ps M)[j]? = some xu := ⟨_, List.getElem?_eq_getElem (by rw [Gold.cwF_length, HNN.out]; exact hj1)⟩
          have HExu := Lib.hid hxu
          clear hxu
          obtain ⟨xv, hxv⟩ : ∃ xv, (Gold.cwF qs M)[j]? = some xv := ⟨_, List.getElem?_eq_getElem (by rw [Gold.cwF_length, HNN.out]; exact hj1)⟩
          have HExv := Lib.hid hxv
          clear hxv
          obtain ⟨xw, hxw⟩ : ∃ xw, (Gold.cwF (Gold.smF f ps qs N) M)[j]? = some xw := ⟨_, List.getElem?_eq_getElem (by rw [Gold.cwF_length, HNN.out]; exact hj1)⟩
          have HExw := Lib.hid hxw
          clear hxw
          have hlin : xw = f * xu + xv := Gold.cw_lin2 hlps hlqs (by rw [HNN.out]; exact hj1) HExu.out HExv.out HExw.out
          have hvv : Gold.vF xw = Gold.vF (f * xu + xv) := by rw [hlin]
          go_upto_region 19 with fail
          refine wp_floatP [0, 1, 2, 3, 4, 5, 6, 7, 8, 9, 10, 11, 12, 13, 14, 15] (l' := [_, _, _, _, _, _, _, _, _, _, _, _, _, _, _, _]) (by kernel_rfl) (lexOK_of (by kernel_rfl) (by kernel_rfl)) (ordOK_of (by kernel_rfl) (by kernel_rfl)) rfl rfl ?_
          simp only [List.getElem_toArray, List.getElem_cons_succ, List.getElem_cons_zero]
          intro V2 hb hSW
          have B1 := Lib.hid hb
          have HF2 := Lib.hid hSW
          clear hb hSW
          refine wpF_seg 9 (by kernel_rfl) ?_
          simp only [List.take_succ_cons, List.take_zero, List.drop_succ_cons, List.drop_zero]
          refine wpQuiet_val (by kernel_rfl) (.slice (some ⟨gw, 0, none⟩) NN NN) (fun v hv => rfl) ?_
          simp only [Act.put, List.setIfInBounds_toArray, List.set_cons_zero, List.set_cons_succ]
          refine wpQuiet_val (by kernel_rfl) (.int .i64 (j : Int)) (fun v hv => rfl) ?_
          simp only [Act.put, List.setIfInBounds_toArray, List.set_cons_zero, List.set_cons_succ]
          refine wpQuiet_val (by kernel_rfl) (.pointer (some (gad (some ⟨gw, 0, none⟩) (j * 1)))) (fun v hv => (xg_idx .i64 ((Hw.out.keep B0.out).keep (laterF hv)) HExw.out Try.underlying22 (by kernel_rfl) rfl rfl rfl)) ?_
          simp only [Act.put, List.setIfInBounds_toArray, List.set_cons_zero, List.set_cons_succ]
          refine wpQuiet_val (by kernel_rfl) (.int .u64 (Gold.vF xw)) (fun v hv => (xg_load1 (E := feC) (i := j) (j := 0) ((Hw.out.keep B0.out).keep (laterF hv)) HExw.out rfl rfl Try.underlying29 rfl rfl rfl)) ?_
          simp only [Act.put, List.setIfInBounds_toArray, List.set_cons_zero, List.set_cons_succ]
          refine wpQuiet_val (by kernel_rfl) (.int .u64 (Gold.vF f)) (fun v hv => rfl) ?_
          simp only [Act.put, List.setIfInBounds_toArray, List.set_cons_zero, List.set_cons_succ]
          refine wpQuiet_val (by kernel_rfl) (.slice (some ⟨gu, 0, none⟩) NN NN) (fun v hv => rfl) ?_
          simp only [Act.put, List.setIfInBounds_toArray, List.set_cons_zero, List.set_cons_succ]
          refine wpQuiet_val (by kernel_rfl) (.int .i64 (j : Int)) (fun v hv => rfl) ?_
          simp only [Act.put, List.setIfInBounds_toArray, List.set_cons_zero, List.set_cons_succ]
          refine wpQuiet_val (by kernel_rfl) (.pointer (some (gad (some ⟨gu, 0, none⟩) (j * 1)))) (fun v hv => (xg_idx .i64 ((Hu.out.keep B0.out).keep (laterF hv)) HExu.out Try.underlying22 (by kernel_rfl) rfl rfl rfl)) ?_
          simp only [Act.put, List.setIfInBounds_toArray, List.set_cons_zero, List.set_cons_succ]
          refine wpQuiet_val (by kernel_rfl) (.int .u64 (Gold.vF xu)) (fun v hv => (xg_load1 (E := feC) (i := j) (j := 0) ((Hu.out.keep B0.out).keep (laterF hv)) HExu.out rfl rfl Try.underlying29 rfl rfl rfl)) ?_
          simp only [Act.put, List.setIfInBounds_toArray, List.set_cons_zero, List.set_cons_succ]
          refine wpQuiet_nil ?_
          refine wpF_call 33 Try.func33 (by kernel_rfl) (by kernel_rfl) _ _ #[.int .u64 (Gold.vF f), .int .u64 (Gold.vF xu)] rfl (by kernel_rfl) (by kernel_rfl) HF2.out (fun V3 hb => ?_)
          have B2 := Lib.hid hb
          have HF3 := Lib.hid (HF2.out.ext hb)
          clear hb
          refine (J.rmulF f xu V3).mono ?_
          rintro e _ ⟨rfl, rfl⟩
          refine ⟨_, rfl, Below.refl _ _, ?_⟩
          simp only [Act.put, List.setIfInBounds_toArray, List.set_cons_zero, List.set_cons_succ]
          refine wpF_seg 4 (by kernel_rfl) ?_
          simp only [List.take_succ_cons, List.take_zero, List.drop_succ_cons, List.drop_zero]
          refine wpQuiet_val (by kernel_rfl) (.slice (some ⟨gv, 0, none⟩) NN NN) (fun v hv => rfl) ?_
          simp only [Act.put, List.setIfInBounds_toArray, List.set_cons_zero, List.set_cons_succ]
          refine wpQuiet_val (by kernel_rfl) (.int .i64 (j : Int)) (fun v hv => rfl) ?_
          simp only [Act.put, List.setIfInBounds_toArray, List.set_cons_zero, List.set_cons_succ]
          refine wpQuiet_val (by kernel_rfl) (.pointer (some (gad (some ⟨gv, 0, none⟩) (j * 1)))) (fun v hv => (xg_idx .i64 ((Hv.out.keep B0.out).keep (laterF hv)) HExv.out Try.underlying22 (by kernel_rfl) rfl rfl rfl)) ?_
          simp only [Act.put, List.setIfInBounds_toArray, List.set_cons_zero, List.set_cons_succ]
          refine wpQuiet_val (by kernel_rfl) (.int .u64 (Gold.vF xv)) (fun v hv => (xg_load1 (E := feC) (i := j) (j := 0) ((Hv.out.keep B0.out).keep (laterF hv)) HExv.out rfl rfl Try.underlying29 rfl rfl rfl)) ?_
          simp only [Act.put, List.setIfInBounds_toArray, List.set_cons_zero, List.set_cons_succ]
          refine wpQuiet_nil ?_
          refine wpF_call 32 Try.func32 (by kernel_rfl) (by kernel_rfl) _ _ #[.int .u64 (Gold.vF (f * xu)), .int .u64 (Gold.vF xv)] rfl (by kernel_rfl) (by kernel_rfl) HF3.out (fun V4 hb => ?_)
          have B3 := Lib.hid hb
          have HF4 := Lib.hid (HF3.out.ext hb)
          clear hb
          refine (J.raddF (f * xu) xv V4).mono ?_
          rintro e _ ⟨rfl, rfl⟩
          refine ⟨_, rfl, Below.refl _ _, ?_⟩
          simp only [Act.put, List.setIfInBounds_toArray, List.set_cons_zero, List.set_cons_succ]
          refine wpF_seg 1 (by kernel_rfl) ?_
          simp only [List.take_succ_cons, List.take_zero, List.drop_succ_cons, List.drop_zero]
          refine wpQuiet_val (by kernel_rfl) (.bool false) (fun v hv => (xo_neqF .u64 (Gold.vF xw) (Gold.vF ((f * xu) + xv)) hvv rfl rfl rfl)) ?_
          simp only [Act.put, List.setIfInBounds_toArray, List.set_cons_zero, List.set_cons_succ]
          refine wpQuiet_nil ?_
          refine wpF_nil (fun V5 hb => ?_)
          have B4 := Lib.hid hb
          clear hb
          clear HF2
          clear HF3
          clear HF4
          go_upto_region 18 with fail
          refine wp_region_lit ?_
          refine wpList_run (by kernel_rfl) (.int .i64 (j : Int)) V5 rfl ?_
          simp only [Act.put, List.setIfInBounds_toArray, List.set_cons_zero, List.set_cons_succ]
          refine wpList_run (by kernel_rfl) (.int .i64 ((j + 1 : Nat) : Int)) V5 (xo_addI (j : Int) 1 ((j + 1 : Nat) : Int) (by omega) (by omega) (by omega) rfl rfl rfl) ?_
          simp only [Act.put, List.setIfInBounds_toArray, List.set_cons_zero, List.set_cons_succ]
          refine wpList_run (by kernel_rfl) (.int .i64 ((j + 1 : Nat) : Int)) V5 rfl ?_
          simp only [Act.put, List.setIfInBounds_toArray, List.set_cons_zero, List.set_cons_succ]
          refine wpList_nil ?_
          have C0_2 := Lib.hid (bel_step B0.out B1.out)
          have C0_3 := Lib.hid (bel_step C0_2.out B2.out)
          have C0_4 := Lib.hid (bel_step C0_3.out B3.out)
          have C0_5 := Lib.hid (bel_step C0_4.out B4.out)
          have hq9 := C0_5.out
          go_wp2_with fail
          go_roundw
          case rel => exact ⟨j + 1, by omega, by go_num, hq9⟩
          case measure => simp [intOf]; omega
        · have hci8 : ¬ ((j : Int) < (NN : Int)) := by omega
          go_upto_region 17 with fail
          refine wp_region_lit ?_
          refine wpList_run (by kernel_rfl) (.int .i64 (j : Int)) wz rfl ?_
          simp only [Act.put, List.setIfInBounds_toArray, List.set_cons_zero, List.set_cons_succ]
          refine wpList_run (by kernel_rfl) (.slice (some ⟨gw, 0, none⟩) NN NN) wz rfl ?_
          simp only [Act.put, List.setIfInBounds_toArray, List.set_cons_zero, List.set_cons_succ]
          refine wpList_run (by kernel_rfl) (.int .i64 (NN : Int)) wz (xo_len (some ⟨gw, 0, none⟩) NN NN Try.underlying22 rfl rfl) ?_
          simp only [Act.put, List.setIfInBounds_toArray, List.set_cons_zero, List.set_cons_succ]
          refine wpList_run (by kernel_rfl) (.bool false) wz (xo_lssF .i64 (j : Int) (NN : Int) (by omega) rfl rfl rfl) ?_
          simp only [Act.put, List.setIfInBounds_toArray, List.set_cons_zero, List.set_cons_succ]
          refine wpList_nil ?_
          go_upto_region 21 with fail
          refine wp_region_lit ?_
          refine wpList_run (by kernel_rfl) (.bool true) wz rfl ?_
          simp only [Act.put, List.setIfInBounds_toArray, List.set_cons_zero, List.set_cons_succ]
          refine wpList_run (by kernel_rfl) (.bool true) wz rfl ?_
          simp only [Act.put, List.setIfInBounds_toArray, List.set_cons_zero, List.set_cons_succ]
          refine wpList_nil ?_
          go_wp2_with fail
          go_ret
          exact ⟨rfl, HBV0.out.trans ((HBV5.out.trans (B0.out.mono HBV5.out.size)).mono HBV0.out.size)⟩
end Go.Proofs.Ytnekndakipggbaa
