/- Several texts in one: Uj9. -/
import Derived.Test.YtkefijogpiofbaaH18
namespace Go.Proofs.Ytkefijogpiofbaa
set_option linter.unusedVariables false
set_option linter.unusedSimpArgs false
set_option linter.unusedSectionVars false
set_option maxRecDepth 8000
open Go.RowKit Go.Proofs.Ytkefijogpiofbaa.K
attribute [local irreducible] wpList wpQuiet
theorem bB_pow {L : Nat} (h1 : 1 ≤ L) (h4 : L ≤ 4) : bB ((2 ^ L : Nat) : Int) = true := by
  have : L = 1 ∨ L = 2 ∨ L = 3 ∨ L = 4 := by omega
  rcases this with rfl | rfl | rfl | rfl <;> rfl
theorem pwB_pow (M : Nat) : pwB (2 ^ M) = true := by
  unfold pwB
  rw [J.and_pred]
  have h : 1 ≤ 2 ^ M := Nat.two_pow_pos M
  simp [h]
theorem pwB_yes {n : Nat} (h : pwB n = true) : ∃ K, n = 2 ^ K := by
  unfold pwB at h
  simp only [Bool.and_eq_true, decide_eq_true_eq, beq_iff_eq] at h
  exact J.pow_of_and h.1 h.2
theorem bB_log {z : Int} (h : bB z = true) : ∃ L : Nat, z = ((2 ^ L : Nat) : Int) ∧ 1 ≤ L ∧ L ≤ 4 := by
  simp only [bB, Bool.or_eq_true, decide_eq_true_eq] at h
  rcases h with h | h | h | h
  · exact ⟨1, by rw [h]; rfl, by omega, by omega⟩
  · exact ⟨2, by rw [h]; rfl, by omega, by omega⟩
  · exact ⟨3, by rw [h]; rfl, by omega, by omega⟩
  · exact ⟨4, by rw [h]; rfl, by omega, by omega⟩
theorem pow_exp_le {a b : Nat} (h : 2 ^ a ≤ 2 ^ b) : a ≤ b := (Nat.pow_le_pow_iff_right (by omega)).1 h
theorem rB_yes {n : Nat} {z : Int} (h : rB n z = true) : ∃ K L : Nat, n = 2 ^ K ∧ z = ((2 ^ L : Nat) : Int) ∧ 1 ≤ L ∧ L ≤ 4 ∧ K + L ≤ 16 := by
  rw [rB_pw] at h
  simp only [Bool.and_eq_true, decide_eq_true_eq] at h
  obtain ⟨L, rfl, h1, h4⟩ := bB_log h.1
  obtain ⟨K, rfl⟩ := pwB_yes h.2.1
  have h3 := h.2.2
  rw [Int.toNat_natCast, Nat.le_div_iff_mul_le (Nat.two_pow_pos L), ← Nat.pow_add] at h3
  exact ⟨K, L, rfl, rfl, h1, h4, pow_exp_le (b := 16) h3⟩
theorem wB_yes {n : Nat} {z : Int} (h : wB n z = true) : ∃ K L : Nat, n = 2 ^ (K + L) ∧ z = ((2 ^ L : Nat) : Int) ∧ 1 ≤ L ∧ L ≤ 4 ∧ K + L ≤ 16 := by
  rw [wB_eq] at h
  simp only [Bool.and_eq_true, beq_iff_eq] at h
  obtain ⟨K, L, hq, rfl, h1, h4, h5⟩ := rB_yes h.2.2
  refine ⟨K, L, ?_, rfl, h1, h4, h5⟩
  have hm := h.2.1
  rw [Int.toNat_natCast] at hm hq
  have := Nat.div_add_mod n (2 ^ L)
  rw [hm, hq, Nat.add_zero] at this
  rw [← this, Nat.pow_add, Nat.mul_comm]
theorem wB_big {n zn : Nat} (hb : bB (zn : Int) = true) (hp : pwB n = true) (hr : wB n (zn : Int) = false) (hl : zn ≤ n) : 65536 < n := by
  rcases Nat.lt_or_ge 65536 n with h | h
  · exact h
  · exfalso
    obtain ⟨L, hz, h1, h4⟩ := bB_log hb
    obtain ⟨M, rfl⟩ := pwB_yes hp
    have hzn : zn = 2 ^ L := by omega
    subst hzn
    have := wB_pow (M := M) h1 h4 (pow_exp_le hl) (pow_exp_le (b := 16) h)
    rw [this] at hr
    cases hr
/-- the row through the first symbols gives the word again, or there is none -/
theorem is_same {xs row : List Gold.F} {n k M : Nat} (hN : n = 2 ^ M) (hM : M ≤ 15) (hk : k ≤ n) (hx : xs.length = n) (hr : row.length = k) (hev : ∀ m j : Nat, (List.range k)[m]? = some j → Gold.evL row (Gold.ptF M j) = Gold.cfF xs j) : decide (dstF (Gold.cwF row M) xs = 0) = decide ((Gold.inF xs M).length ≤ k) := by
  have hl : (Gold.cwF row M).length = xs.length := by rw [Gold.cw_len, hx, hN]
  rw [Bool.eq_iff_iff, decide_eq_true_iff, decide_eq_true_iff, dst_zero hl]
  refine ⟨fun h => ?_, fun h => ?_⟩
  · rw [← h]
    exact Gold.inF_cw hr (by omega) hM
  · have h65 := Gold.pow2_le (k := M) (by omega)
    have hm := Gold.mnF_le row (Gold.inF xs M) 0 1
    have hz := Gold.zero_at (p := Gold.mnF row (Gold.inF xs M) 0 1) (K := M) (by omega) (List.range k) List.nodup_range (fun i hi => by have := List.mem_range.1 hi; omega) (by rw [List.length_range]; omega) (by rw [List.length_range]; omega) (fun i hi => by
      have hi := List.mem_range.1 hi
      rw [Gold.evL_mnF, hev i i (by rw [List.getElem?_range hi]), Gold.inF_at (by omega) (by omega), Gold.F_pow_zero]
      grind)
    refine Gold.F_ext hl fun i hi => ?_
    rw [Gold.cw_len] at hi
    unfold Gold.cwF
    rw [Gold.cfF_tbF, if_pos hi, ← Gold.inF_at (xs := xs) (by omega) hi]
    exact Gold.evL_congr (fun j => by
      have h1 := hz j
      rw [Gold.cfF_mnF, if_pos (Nat.zero_le _), Nat.sub_zero] at h1
      grind) _
set_option maxRecDepth 100000 in
set_option maxHeartbeats 8000000 in
theorem rat_yes (A : Option Addr) (n c : Nat) (xs : List Gold.E2) (z K L N M : Nat) (hn : n = 2 ^ K) (hz : z = 2 ^ L) (hL1 : 1 ≤ L) (hL4 : L ≤ 4) (hKL : K + L = M) (hM : M ≤ 16) (hN : N = 2 ^ M) (i : Nat) (hi : i < N) (w : World) (hX : Sg exC 2 w A n c xs) :
    Calls Try.prog 14 #[.slice A n c, .int .i64 (z : Int), .int .i64 (i : Int)] w fun e w' => e = .returned (.tuple #[.agg #[.int .u64 (Gold.vF (Gold.evE xs (Gold.E2.ofF (Gold.ptF M i))).A), .int .u64 (Gold.vF (Gold.evE xs (Gold.E2.ofF (Gold.ptF M i))).B)], .int .i64 0]) ∧ Below w.heap.size w w' := by
  have HX := Lib.hid hX
  have hcp := hX.cap
  have htp := hX.top
  clear hX
  go_enter Try.func14, Try.ntmps14
  go_upto_region 1 with fail
  refine wp_named1 (fun V1 hb g0 hlt => ?_)
  have B0 := Lib.hid hb
  have Fv0_6 : Hid (V1.heap[w.heap.size]? = some (.cells #[.int .u64 0, .int .u64 0] 31 (0, 0))) := Lib.hid (g0)
  have Gb0 : Hid (w.heap.size ≤ w.heap.size) := Lib.hid (by omega)
  clear hb g0 hlt
  have Lt0 : Hid (w.heap.size < V1.heap.size) := Lib.hid (xp_lt Fv0_6.out)
  have hn65 : n ≤ 65536 := by rw [hn]; exact Gold.pow2_le (by omega)
  have hr := rB_pow (K := K) (L := L) hL1 hL4 (by omega)
  rw [← hn, ← hz, rB_pw] at hr
  simp only [Bool.and_eq_true] at hr
  have HR := Lib.hid hr.1
  have HP := Lib.hid hr.2.1
  have hz16 : z ≤ 16 := by rw [hz]; exact Nat.pow_le_pow_right (n := 2) (by omega) hL4
  have hNN65 : N ≤ 65536 := by rw [hN]; exact Gold.pow2_le hM
  have hzn : z * n = N := by rw [hz, hn, hN, ← hKL, Nat.pow_add, Nat.mul_comm]
  have HNN := Lib.hid hN
  clear hr hn hz hN
  have hci1 : ¬ ((N : Int) > 65536) := by omega
  have hci2 : ¬ ((i : Int) < 0) := by omega
  have hci3 : ¬ ((i : Int) ≥ (N : Int)) := by omega
  refine wp_region_lit ?_
  refine wpList_run (by kernel_rfl) (.int .i64 (z : Int)) V1 rfl ?_
  simp only [Act.put, List.setIfInBounds_toArray, List.set_cons_zero, List.set_cons_succ]
  refine wpList_call (by kernel_rfl) 40 Try.func40 (by kernel_rfl) (by kernel_rfl) _ _ #[.int .i64 (z : Int)] rfl (by kernel_rfl) ?_
  refine (rrate_any (z : Int) V1).mono ?_
  rintro e V2 ⟨rfl, hb⟩
  have B1 := Lib.hid hb
  rw [HR.out]
  clear hb 
  refine ⟨_, rfl, ?_⟩
  simp only [Act.put, List.setIfInBounds_toArray, List.set_cons_zero, List.set_cons_succ]
  refine wpList_run (by kernel_rfl) (.bool false) V2 rfl ?_
  simp only [Act.put, List.setIfInBounds_toArray, List.set_cons_zero, List.set_cons_succ]
  refine wpList_run (by kernel_rfl) (.bool false) V2 rfl ?_
  simp only [Act.put, List.setIfInBounds_toArray, List.set_cons_zero, List.set_cons_succ]
  refine wpList_run (by kernel_rfl) (.slice A n c) V2 rfl ?_
  simp only [Act.put, List.setIfInBounds_toArray, List.set_cons_zero, List.set_cons_succ]
  refine wpList_run (by kernel_rfl) (.int .i64 (n : Int)) V2 (xo_len A n c Try.underlying28 rfl rfl) ?_
  simp only [Act.put, List.setIfInBounds_toArray, List.set_cons_zero, List.set_cons_succ]
  refine wpList_call (by kernel_rfl) 41 Try.func41 (by kernel_rfl) (by kernel_rfl) _ _ #[.int .i64 (n : Int)] rfl (by kernel_rfl) ?_
  refine (rpower_any n (by omega) V2).mono ?_
  rintro e V3 ⟨rfl, hb⟩
  have B2 := Lib.hid hb
  rw [HP.out]
  clear hb 
  refine ⟨_, rfl, ?_⟩
  simp only [Act.put, List.setIfInBounds_toArray, List.set_cons_zero, List.set_cons_succ]
  refine wpList_run (by kernel_rfl) (.bool false) V3 rfl ?_
  simp only [Act.put, List.setIfInBounds_toArray, List.set_cons_zero, List.set_cons_succ]
  refine wpList_run (by kernel_rfl) (.bool false) V3 rfl ?_
  simp only [Act.put, List.setIfInBounds_toArray, List.set_cons_zero, List.set_cons_succ]
  refine wpList_run (by kernel_rfl) (.bool false) V3 rfl ?_
  simp only [Act.put, List.setIfInBounds_toArray, List.set_cons_zero, List.set_cons_succ]
  refine wpList_run (by kernel_rfl) (.int .i64 (z : Int)) V3 rfl ?_
  simp only [Act.put, List.setIfInBounds_toArray, List.set_cons_zero, List.set_cons_succ]
  refine wpList_run (by kernel_rfl) (.slice A n c) V3 rfl ?_
  simp only [Act.put, List.setIfInBounds_toArray, List.set_cons_zero, List.set_cons_succ]
  refine wpList_run (by kernel_rfl) (.int .i64 (n : Int)) V3 (xo_len A n c Try.underlying28 rfl rfl) ?_
  simp only [Act.put, List.setIfInBounds_toArray, List.set_cons_zero, List.set_cons_succ]
  refine wpList_run (by kernel_rfl) (.int .i64 (N : Int)) V3 (xo_mulI (z : Int) (n : Int) (N : Int) (by rw [← hzn]; simp) (by omega) (by omega) rfl rfl rfl) ?_
  simp only [Act.put, List.setIfInBounds_toArray, List.set_cons_zero, List.set_cons_succ]
  refine wpList_run (by kernel_rfl) (.bool false) V3 (xo_gtrF .i64 (N : Int) 65536 (by omega) rfl rfl rfl) ?_
  simp only [Act.put, List.setIfInBounds_toArray, List.set_cons_zero, List.set_cons_succ]
  refine wpList_run (by kernel_rfl) (.bool false) V3 rfl ?_
  simp only [Act.put, List.setIfInBounds_toArray, List.set_cons_zero, List.set_cons_succ]
  refine wpList_run (by kernel_rfl) (.bool false) V3 rfl ?_
  simp only [Act.put, List.setIfInBounds_toArray, List.set_cons_zero, List.set_cons_succ]
  refine wpList_run (by kernel_rfl) (.int .i64 (i : Int)) V3 rfl ?_
  simp only [Act.put, List.setIfInBounds_toArray, List.set_cons_zero, List.set_cons_succ]
  refine wpList_run (by kernel_rfl) (.bool false) V3 (xo_lssF .i64 (i : Int) 0 (by omega) rfl rfl rfl) ?_
  simp only [Act.put, List.setIfInBounds_toArray, List.set_cons_zero, List.set_cons_succ]
  refine wpList_run (by kernel_rfl) (.bool false) V3 rfl ?_
  simp only [Act.put, List.setIfInBounds_toArray, List.set_cons_zero, List.set_cons_succ]
  refine wpList_run (by kernel_rfl) (.bool false) V3 rfl ?_
  simp only [Act.put, List.setIfInBounds_toArray, List.set_cons_zero, List.set_cons_succ]
  refine wpList_run (by kernel_rfl) (.int .i64 (i : Int)) V3 rfl ?_
  simp only [Act.put, List.setIfInBounds_toArray, List.set_cons_zero, List.set_cons_succ]
  refine wpList_run (by kernel_rfl) (.int .i64 (z : Int)) V3 rfl ?_
  simp only [Act.put, List.setIfInBounds_toArray, List.set_cons_zero, List.set_cons_succ]
  refine wpList_run (by kernel_rfl) (.slice A n c) V3 rfl ?_
  simp only [Act.put, List.setIfInBounds_toArray, List.set_cons_zero, List.set_cons_succ]
  refine wpList_run (by kernel_rfl) (.int .i64 (n : Int)) V3 (xo_len A n c Try.underlying28 rfl rfl) ?_
  simp only [Act.put, List.setIfInBounds_toArray, List.set_cons_zero, List.set_cons_succ]
  refine wpList_run (by kernel_rfl) (.int .i64 (N : Int)) V3 (xo_mulI (z : Int) (n : Int) (N : Int) (by rw [← hzn]; simp) (by omega) (by omega) rfl rfl rfl) ?_
  simp only [Act.put, List.setIfInBounds_toArray, List.set_cons_zero, List.set_cons_succ]
  refine wpList_run (by kernel_rfl) (.bool false) V3 (xo_geqF .i64 (i : Int) (N : Int) (by omega) rfl rfl rfl) ?_
  simp only [Act.put, List.setIfInBounds_toArray, List.set_cons_zero, List.set_cons_succ]
  refine wpList_run (by kernel_rfl) (.bool false) V3 rfl ?_
  simp only [Act.put, List.setIfInBounds_toArray, List.set_cons_zero, List.set_cons_succ]
  refine wpList_nil ?_
  go_upto_region 3 with fail
  refine wp_region_lit ?_
  refine wpList_run (by kernel_rfl) (.slice A n c) V3 rfl ?_
  simp only [Act.put, List.setIfInBounds_toArray, List.set_cons_zero, List.set_cons_succ]
  refine wpList_run (by kernel_rfl) (.int .i64 (z : Int)) V3 rfl ?_
  simp only [Act.put, List.setIfInBounds_toArray, List.set_cons_zero, List.set_cons_succ]
  refine wpList_run (by kernel_rfl) (.slice A n c) V3 rfl ?_
  simp only [Act.put, List.setIfInBounds_toArray, List.set_cons_zero, List.set_cons_succ]
  refine wpList_run (by kernel_rfl) (.int .i64 (n : Int)) V3 (xo_len A n c Try.underlying28 rfl rfl) ?_
  simp only [Act.put, List.setIfInBounds_toArray, List.set_cons_zero, List.set_cons_succ]
  refine wpList_run (by kernel_rfl) (.int .i64 (N : Int)) V3 (xo_mulI (z : Int) (n : Int) (N : Int) (by rw [← hzn]; simp) (by omega) (by omega) rfl rfl rfl) ?_
  simp only [Act.put, List.setIfInBounds_toArray, List.set_cons_zero, List.set_cons_succ]
  refine wpList_run (by kernel_rfl) (.int .i64 (i : Int)) V3 rfl ?_
  simp only [Act.put, List.setIfInBounds_toArray, List.set_cons_zero, List.set_cons_succ]
  refine wpList_call (by kernel_rfl) 31 Try.func31 (by kernel_rfl) (by kernel_rfl) _ _ #[.int .i64 (N : Int), .int .i64 (i : Int)] rfl (by kernel_rfl) ?_
  refine (rpoint_any N M i HNN.out hM (by omega) V3).mono ?_
  rintro e V4 ⟨rfl, hb⟩
  have B3 := Lib.hid hb
  clear hb 
  refine ⟨_, rfl, ?_⟩
  simp only [Act.put, List.setIfInBounds_toArray, List.set_cons_zero, List.set_cons_succ]
  refine wpList_call (by kernel_rfl) 29 Try.func29 (by kernel_rfl) (by kernel_rfl) _ _ #[.int .u64 (Gold.vF (Gold.ptF M i))] rfl (by kernel_rfl) ?_
  refine (J.rFromBase_any (Gold.ptF M i) V4).mono ?_
  rintro e V5 ⟨rfl, hb⟩
  have B4 := Lib.hid hb
  clear hb 
  refine ⟨_, rfl, ?_⟩
  simp only [Act.put, List.setIfInBounds_toArray, List.set_cons_zero, List.set_cons_succ]
  have C0_2 := Lib.hid (bel_step B0.out B1.out)
  have C0_3 := Lib.hid (bel_step C0_2.out B2.out)
  have C0_4 := Lib.hid (bel_step C0_3.out B3.out)
  have C0_5 := Lib.hid (bel_step C0_4.out B4.out)
  refine wpList_call (by kernel_rfl) 46 Try.func46 (by kernel_rfl) (by kernel_rfl) _ _ #[.slice A n c, .agg #[.int .u64 (Gold.vF (Gold.E2.ofF (Gold.ptF M i)).A), .int .u64 (Gold.vF (Gold.E2.ofF (Gold.ptF M i)).B)]] rfl (by kernel_rfl) ?_
  refine (J.rPEval_any A n c xs (Gold.E2.ofF (Gold.ptF M i)) V5 (slOf (HX.out.keep C0_5.out))).mono ?_
  rintro e V6 ⟨rfl, hb⟩
  have B5 := Lib.hid hb
  clear hb 
  refine ⟨_, rfl, ?_⟩
  simp only [Act.put, List.setIfInBounds_toArray, List.set_cons_zero, List.set_cons_succ]
  have C1_3 := Lib.hid (bel_step B1.out B2.out)
  have C1_4 := Lib.hid (bel_step C1_3.out B3.out)
  have C1_5 := Lib.hid (bel_step C1_4.out B4.out)
  have C1_6 := Lib.hid (bel_step C1_5.out B5.out)
  refine wpList_storeW w.heap.size #[.int .u64 0, .int .u64 0] #[.int .u64 (Gold.vF (Gold.evE xs (Gold.E2.ofF (Gold.ptF M i))).A), .int .u64 (Gold.vF (Gold.evE xs (Gold.E2.ofF (Gold.ptF M i))).B)] 31 (by kernel_rfl) (heap_keep Fv0_6.out C1_6.out) (xo_storeW w.heap.size #[.int .u64 0, .int .u64 0] #[.int .u64 (Gold.vF (Gold.evE xs (Gold.E2.ofF (Gold.ptF M i))).A), .int .u64 (Gold.vF (Gold.evE xs (Gold.E2.ofF (Gold.ptF M i))).B)] (heap_keep Fv0_6.out C1_6.out) (by kernel_rfl) rfl (by simp [Value.oneCell']) rfl rfl rfl) ?_
  intro X6_4 h1 hfar hbel hsz
  have C0_6 := Lib.hid (bel_step C0_5.out B5.out)
  have hbr := hbel _ _ Gb0.out C0_6.out
  clear B0
  have B0 := Lib.hid hbr
  clear hbr
  clear Fv0_6
  have Fv0_6 : Hid (X6_4.heap[w.heap.size]? = some (.cells #[.int .u64 (Gold.vF (Gold.evE xs (Gold.E2.ofF (Gold.ptF M i))).A), .int .u64 (Gold.vF (Gold.evE xs (Gold.E2.ofF (Gold.ptF M i))).B)] 31 (0, 0))) := Lib.hid (h1)
  have HszX6_4 := Lib.hid hsz
  clear h1 hfar hbel hsz
  simp only [ptr, Act.put, List.setIfInBounds_toArray, List.set_cons_zero, List.set_cons_succ]
  refine wpList_run (by kernel_rfl) (.int .i64 0) X6_4 rfl ?_
  simp only [Act.put, List.setIfInBounds_toArray, List.set_cons_zero, List.set_cons_succ]
  refine wpList_nil ?_
  go_wp2_with fail
  refine bodyPost_ret (v := .tuple #[.agg #[.int .u64 (Gold.vF (Gold.evE xs (Gold.E2.ofF (Gold.ptF M i))).A), .int .u64 (Gold.vF (Gold.evE xs (Gold.E2.ofF (Gold.ptF M i))).B)], .int .i64 0]) ?_ rfl ⟨rfl, B0.out⟩
  exact results_row_tmp rfl _ _ w.heap.size 31 _ (0, 0) _ _ rfl rfl Fv0_6.out Try.underlying31 rfl (by kernel_rfl)
set_option maxRecDepth 100000 in
set_option maxHeartbeats 8000000 in
theorem rat_no1 (A : Option Addr) (n c : Nat) (xs : List Gold.E2) (z i : Int) (hr : rB n z = false) (hn : n ≤ 1048576) (w : World) (hX : Sg exC 2 w A n c xs) :
    Calls Try.prog 14 #[.slice A n c, .int .i64 z, .int .i64 i] w fun e w' => e = .returned (.tuple #[.agg #[.int .u64 0, .int .u64 0], .int .i64 1]) ∧ Below w.heap.size w w' := by
  have HX := Lib.hid hX
  have hcp := hX.cap
  have htp := hX.top
  clear hX
  go_enter Try.func14, Try.ntmps14
  go_upto_region 1 with fail
  refine wp_named1 (fun V1 hb g0 hlt => ?_)
  have B0 := Lib.hid hb
  have Fv0_6 : Hid (V1.heap[w.heap.size]? = some (.cells #[.int .u64 0, .int .u64 0] 31 (0, 0))) := Lib.hid (g0)
  have Gb0 : Hid (w.heap.size ≤ w.heap.size) := Lib.hid (by omega)
  clear hb g0 hlt
  have Lt0 : Hid (w.heap.size < V1.heap.size) := Lib.hid (xp_lt Fv0_6.out)
  cases hbz : bB z with
  | false =>
    refine wp_region_lit ?_
    refine wpList_run (by kernel_rfl) (.int .i64 z) V1 rfl ?_
    simp only [Act.put, List.setIfInBounds_toArray, List.set_cons_zero, List.set_cons_succ]
    refine wpList_call (by kernel_rfl) 40 Try.func40 (by kernel_rfl) (by kernel_rfl) _ _ #[.int .i64 z] rfl (by kernel_rfl) ?_
    refine (rrate_any z V1).mono ?_
    rintro e V2 ⟨rfl, hb⟩
    have B1 := Lib.hid hb
    rw [hbz]
    clear hb 
    refine ⟨_, rfl, ?_⟩
    simp only [Act.put, List.setIfInBounds_toArray, List.set_cons_zero, List.set_cons_succ]
    refine wpList_run (by kernel_rfl) (.bool true) V2 rfl ?_
    simp only [Act.put, List.setIfInBounds_toArray, List.set_cons_zero, List.set_cons_succ]
    refine wpList_run (by kernel_rfl) (.bool true) V2 rfl ?_
    simp only [Act.put, List.setIfInBounds_toArray, List.set_cons_zero, List.set_cons_succ]
    refine wpList_skip (by kernel_rfl) ?_
    try simp only [Act.put, List.setIfInBounds_toArray, List.set_cons_zero, List.set_cons_succ]
    refine wpList_skip (by kernel_rfl) ?_
    try simp only [Act.put, List.setIfInBounds_toArray, List.set_cons_zero, List.set_cons_succ]
    refine wpList_skip (by kernel_rfl) ?_
    try simp only [Act.put, List.setIfInBounds_toArray, List.set_cons_zero, List.set_cons_succ]
    refine wpList_skip (by kernel_rfl) ?_
    try simp only [Act.put, List.setIfInBounds_toArray, List.set_cons_zero, List.set_cons_succ]
    refine wpList_run (by kernel_rfl) (.bool true) V2 rfl ?_
    simp only [Act.put, List.setIfInBounds_toArray, List.set_cons_zero, List.set_cons_succ]
    refine wpList_run (by kernel_rfl) (.bool true) V2 rfl ?_
    simp only [Act.put, List.setIfInBounds_toArray, List.set_cons_zero, List.set_cons_succ]
    refine wpList_skip (by kernel_rfl) ?_
    try simp only [Act.put, List.setIfInBounds_toArray, List.set_cons_zero, List.set_cons_succ]
    refine wpList_skip (by kernel_rfl) ?_
    try simp only [Act.put, List.setIfInBounds_toArray, List.set_cons_zero, List.set_cons_succ]
    refine wpList_skip (by kernel_rfl) ?_
    try simp only [Act.put, List.setIfInBounds_toArray, List.set_cons_zero, List.set_cons_succ]
    refine wpList_skip (by kernel_rfl) ?_
    try simp only [Act.put, List.setIfInBounds_toArray, List.set_cons_zero, List.set_cons_succ]
    refine wpList_skip (by kernel_rfl) ?_
    try simp only [Act.put, List.setIfInBounds_toArray, List.set_cons_zero, List.set_cons_succ]
    refine wpList_run (by kernel_rfl) (.bool true) V2 rfl ?_
    simp only [Act.put, List.setIfInBounds_toArray, List.set_cons_zero, List.set_cons_succ]
    refine wpList_run (by kernel_rfl) (.bool true) V2 rfl ?_
    simp only [Act.put, List.setIfInBounds_toArray, List.set_cons_zero, List.set_cons_succ]
    refine wpList_skip (by kernel_rfl) ?_
    try simp only [Act.put, List.setIfInBounds_toArray, List.set_cons_zero, List.set_cons_succ]
    refine wpList_skip (by kernel_rfl) ?_
    try simp only [Act.put, List.setIfInBounds_toArray, List.set_cons_zero, List.set_cons_succ]
    refine wpList_run (by kernel_rfl) (.bool true) V2 rfl ?_
    simp only [Act.put, List.setIfInBounds_toArray, List.set_cons_zero, List.set_cons_succ]
    refine wpList_run (by kernel_rfl) (.bool true) V2 rfl ?_
    simp only [Act.put, List.setIfInBounds_toArray, List.set_cons_zero, List.set_cons_succ]
    refine wpList_skip (by kernel_rfl) ?_
    try simp only [Act.put, List.setIfInBounds_toArray, List.set_cons_zero, List.set_cons_succ]
    refine wpList_skip (by kernel_rfl) ?_
    try simp only [Act.put, List.setIfInBounds_toArray, List.set_cons_zero, List.set_cons_succ]
    refine wpList_skip (by kernel_rfl) ?_
    try simp only [Act.put, List.setIfInBounds_toArray, List.set_cons_zero, List.set_cons_succ]
    refine wpList_skip (by kernel_rfl) ?_
    try simp only [Act.put, List.setIfInBounds_toArray, List.set_cons_zero, List.set_cons_succ]
    refine wpList_skip (by kernel_rfl) ?_
    try simp only [Act.put, List.setIfInBounds_toArray, List.set_cons_zero, List.set_cons_succ]
    refine wpList_skip (by kernel_rfl) ?_
    try simp only [Act.put, List.setIfInBounds_toArray, List.set_cons_zero, List.set_cons_succ]
    refine wpList_run (by kernel_rfl) (.bool true) V2 rfl ?_
    simp only [Act.put, List.setIfInBounds_toArray, List.set_cons_zero, List.set_cons_succ]
    refine wpList_nil ?_
    go_upto_region 2 with fail
    refine wp_region_lit ?_
    refine wpList_run (by kernel_rfl) (.agg #[.int .u64 0, .int .u64 0]) V2 (by unfold execOp; go_simp) ?_
    simp only [Act.put, List.setIfInBounds_toArray, List.set_cons_zero, List.set_cons_succ]
    refine wpList_storeW w.heap.size #[.int .u64 0, .int .u64 0] #[.int .u64 0, .int .u64 0] 31 (by kernel_rfl) (heap_keep Fv0_6.out B1.out) (xo_storeW w.heap.size #[.int .u64 0, .int .u64 0] #[.int .u64 0, .int .u64 0] (heap_keep Fv0_6.out B1.out) (by kernel_rfl) rfl (by simp [Value.oneCell']) rfl rfl rfl) ?_
    intro X2_1 h1 hfar hbel hsz
    have C0_2 := Lib.hid (bel_step B0.out B1.out)
    have hbr := hbel _ _ Gb0.out C0_2.out
    clear B0
    have B0 := Lib.hid hbr
    clear hbr
    clear Fv0_6
    have Fv0_6 : Hid (X2_1.heap[w.heap.size]? = some (.cells #[.int .u64 0, .int .u64 0] 31 (0, 0))) := Lib.hid (h1)
    have HszX2_1 := Lib.hid hsz
    clear h1 hfar hbel hsz
    simp only [ptr, Act.put, List.setIfInBounds_toArray, List.set_cons_zero, List.set_cons_succ]
    refine wpList_run (by kernel_rfl) (.int .i64 1) X2_1 rfl ?_
    simp only [Act.put, List.setIfInBounds_toArray, List.set_cons_zero, List.set_cons_succ]
    refine wpList_nil ?_
    go_wp2_with fail
    refine bodyPost_ret (v := .tuple #[.agg #[.int .u64 0, .int .u64 0], .int .i64 1]) ?_ rfl ⟨rfl, B0.out⟩
    exact results_row_tmp rfl _ _ w.heap.size 31 _ (0, 0) _ _ rfl rfl Fv0_6.out Try.underlying31 rfl (by kernel_rfl)
  | true =>
    obtain ⟨zn, hzn, hz2, hz16⟩ := bB_yes hbz
    subst hzn
    cases hpw : pwB n with
    | false =>
      refine wp_region_lit ?_
      refine wpList_run (by kernel_rfl) (.int .i64 (zn : Int)) V1 rfl ?_
      simp only [Act.put, List.setIfInBounds_toArray, List.set_cons_zero, List.set_cons_succ]
      refine wpList_call (by kernel_rfl) 40 Try.func40 (by kernel_rfl) (by kernel_rfl) _ _ #[.int .i64 (zn : Int)] rfl (by kernel_rfl) ?_
      refine (rrate_any (zn : Int) V1).mono ?_
      rintro e V2 ⟨rfl, hb⟩
      have B1 := Lib.hid hb
      rw [hbz]
      clear hb 
      refine ⟨_, rfl, ?_⟩
      simp only [Act.put, List.setIfInBounds_toArray, List.set_cons_zero, List.set_cons_succ]
      refine wpList_run (by kernel_rfl) (.bool false) V2 rfl ?_
      simp only [Act.put, List.setIfInBounds_toArray, List.set_cons_zero, List.set_cons_succ]
      refine wpList_run (by kernel_rfl) (.bool false) V2 rfl ?_
      simp only [Act.put, List.setIfInBounds_toArray, List.set_cons_zero, List.set_cons_succ]
      refine wpList_run (by kernel_rfl) (.slice A n c) V2 rfl ?_
      simp only [Act.put, List.setIfInBounds_toArray, List.set_cons_zero, List.set_cons_succ]
      refine wpList_run (by kernel_rfl) (.int .i64 (n : Int)) V2 (xo_len A n c Try.underlying28 rfl rfl) ?_
      simp only [Act.put, List.setIfInBounds_toArray, List.set_cons_zero, List.set_cons_succ]
      refine wpList_call (by kernel_rfl) 41 Try.func41 (by kernel_rfl) (by kernel_rfl) _ _ #[.int .i64 (n : Int)] rfl (by kernel_rfl) ?_
      refine (rpower_any n (by omega) V2).mono ?_
      rintro e V3 ⟨rfl, hb⟩
      have B2 := Lib.hid hb
      rw [hpw]
      clear hb 
      refine ⟨_, rfl, ?_⟩
      simp only [Act.put, List.setIfInBounds_toArray, List.set_cons_zero, List.set_cons_succ]
      refine wpList_run (by kernel_rfl) (.bool true) V3 rfl ?_
      simp only [Act.put, List.setIfInBounds_toArray, List.set_cons_zero, List.set_cons_succ]
      refine wpList_run (by kernel_rfl) (.bool true) V3 rfl ?_
      simp only [Act.put, List.setIfInBounds_toArray, List.set_cons_zero, List.set_cons_succ]
      refine wpList_run (by kernel_rfl) (.bool true) V3 rfl ?_
      simp only [Act.put, List.setIfInBounds_toArray, List.set_cons_zero, List.set_cons_succ]
      refine wpList_skip (by kernel_rfl) ?_
      try simp only [Act.put, List.setIfInBounds_toArray, List.set_cons_zero, List.set_cons_succ]
      refine wpList_skip (by kernel_rfl) ?_
      try simp only [Act.put, List.setIfInBounds_toArray, List.set_cons_zero, List.set_cons_succ]
      refine wpList_skip (by kernel_rfl) ?_
      try simp only [Act.put, List.setIfInBounds_toArray, List.set_cons_zero, List.set_cons_succ]
      refine wpList_skip (by kernel_rfl) ?_
      try simp only [Act.put, List.setIfInBounds_toArray, List.set_cons_zero, List.set_cons_succ]
      refine wpList_skip (by kernel_rfl) ?_
      try simp only [Act.put, List.setIfInBounds_toArray, List.set_cons_zero, List.set_cons_succ]
      refine wpList_run (by kernel_rfl) (.bool true) V3 rfl ?_
      simp only [Act.put, List.setIfInBounds_toArray, List.set_cons_zero, List.set_cons_succ]
      refine wpList_run (by kernel_rfl) (.bool true) V3 rfl ?_
      simp only [Act.put, List.setIfInBounds_toArray, List.set_cons_zero, List.set_cons_succ]
      refine wpList_skip (by kernel_rfl) ?_
      try simp only [Act.put, List.setIfInBounds_toArray, List.set_cons_zero, List.set_cons_succ]
      refine wpList_skip (by kernel_rfl) ?_
      try simp only [Act.put, List.setIfInBounds_toArray, List.set_cons_zero, List.set_cons_succ]
      refine wpList_run (by kernel_rfl) (.bool true) V3 rfl ?_
      simp only [Act.put, List.setIfInBounds_toArray, List.set_cons_zero, List.set_cons_succ]
      refine wpList_run (by kernel_rfl) (.bool true) V3 rfl ?_
      simp only [Act.put, List.setIfInBounds_toArray, List.set_cons_zero, List.set_cons_succ]
      refine wpList_skip (by kernel_rfl) ?_
      try simp only [Act.put, List.setIfInBounds_toArray, List.set_cons_zero, List.set_cons_succ]
      refine wpList_skip (by kernel_rfl) ?_
      try simp only [Act.put, List.setIfInBounds_toArray, List.set_cons_zero, List.set_cons_succ]
      refine wpList_skip (by kernel_rfl) ?_
      try simp only [Act.put, List.setIfInBounds_toArray, List.set_cons_zero, List.set_cons_succ]
      refine wpList_skip (by kernel_rfl) ?_
      try simp only [Act.put, List.setIfInBounds_toArray, List.set_cons_zero, List.set_cons_succ]
      refine wpList_skip (by kernel_rfl) ?_
      try simp only [Act.put, List.setIfInBounds_toArray, List.set_cons_zero, List.set_cons_succ]
      refine wpList_skip (by kernel_rfl) ?_
      try simp only [Act.put, List.setIfInBounds_toArray, List.set_cons_zero, List.set_cons_succ]
      refine wpList_run (by kernel_rfl) (.bool true) V3 rfl ?_
      simp only [Act.put, List.setIfInBounds_toArray, List.set_cons_zero, List.set_cons_succ]
      refine wpList_nil ?_
      go_upto_region 2 with fail
      refine wp_region_lit ?_
      refine wpList_run (by kernel_rfl) (.agg #[.int .u64 0, .int .u64 0]) V3 (by unfold execOp; go_simp) ?_
      simp only [Act.put, List.setIfInBounds_toArray, List.set_cons_zero, List.set_cons_succ]
      have C1_3 := Lib.hid (bel_step B1.out B2.out)
      refine wpList_storeW w.heap.size #[.int .u64 0, .int .u64 0] #[.int .u64 0, .int .u64 0] 31 (by kernel_rfl) (heap_keep Fv0_6.out C1_3.out) (xo_storeW w.heap.size #[.int .u64 0, .int .u64 0] #[.int .u64 0, .int .u64 0] (heap_keep Fv0_6.out C1_3.out) (by kernel_rfl) rfl (by simp [Value.oneCell']) rfl rfl rfl) ?_
      intro X3_1 h1 hfar hbel hsz
      have C0_2 := Lib.hid (bel_step B0.out B1.out)
      have C0_3 := Lib.hid (bel_step C0_2.out B2.out)
      have hbr := hbel _ _ Gb0.out C0_3.out
      clear B0
      have B0 := Lib.hid hbr
      clear hbr
      clear Fv0_6
      have Fv0_6 : Hid (X3_1.heap[w.heap.size]? = some (.cells #[.int .u64 0, .int .u64 0] 31 (0, 0))) := Lib.hid (h1)
      have HszX3_1 := Lib.hid hsz
      clear h1 hfar hbel hsz
      simp only [ptr, Act.put, List.setIfInBounds_toArray, List.set_cons_zero, List.set_cons_succ]
      refine wpList_run (by kernel_rfl) (.int .i64 1) X3_1 rfl ?_
      simp only [Act.put, List.setIfInBounds_toArray, List.set_cons_zero, List.set_cons_succ]
      refine wpList_nil ?_
      go_wp2_with fail
      refine bodyPost_ret (v := .tuple #[.agg #[.int .u64 0, .int .u64 0], .int .i64 1]) ?_ rfl ⟨rfl, B0.out⟩
      exact results_row_tmp rfl _ _ w.heap.size 31 _ (0, 0) _ _ rfl rfl Fv0_6.out Try.underlying31 rfl (by kernel_rfl)
    | true =>
      have hbig : 65536 < zn * n := by rw [rB_pw, hbz, hpw] at hr; simp only [Bool.true_and, decide_eq_false_iff_not, Int.toNat_natCast, Nat.not_le] at hr; have := (Nat.div_lt_iff_lt_mul (by omega)).1 hr; rw [Nat.mul_comm]; exact this
      have hnb : zn * n ≤ 16 * 1048576 := Nat.mul_le_mul hz16 hn
      obtain ⟨pz, hpz⟩ : ∃ p, zn * n = p := ⟨_, rfl⟩
      rw [hpz] at hbig hnb
      have hci1 : ((pz : Int) > 65536) := by omega
      refine wp_region_lit ?_
      refine wpList_run (by kernel_rfl) (.int .i64 (zn : Int)) V1 rfl ?_
      simp only [Act.put, List.setIfInBounds_toArray, List.set_cons_zero, List.set_cons_succ]
      refine wpList_call (by kernel_rfl) 40 Try.func40 (by kernel_rfl) (by kernel_rfl) _ _ #[.int .i64 (zn : Int)] rfl (by kernel_rfl) ?_
      refine (rrate_any (zn : Int) V1).mono ?_
      rintro e V2 ⟨rfl, hb⟩
      have B1 := Lib.hid hb
      rw [hbz]
      clear hb 
      refine ⟨_, rfl, ?_⟩
      simp only [Act.put, List.setIfInBounds_toArray, List.set_cons_zero, List.set_cons_succ]
      refine wpList_run (by kernel_rfl) (.bool false) V2 rfl ?_
      simp only [Act.put, List.setIfInBounds_toArray, List.set_cons_zero, List.set_cons_succ]
      refine wpList_run (by kernel_rfl) (.bool false) V2 rfl ?_
      simp only [Act.put, List.setIfInBounds_toArray, List.set_cons_zero, List.set_cons_succ]
      refine wpList_run (by kernel_rfl) (.slice A n c) V2 rfl ?_
      simp only [Act.put, List.setIfInBounds_toArray, List.set_cons_zero, List.set_cons_succ]
      refine wpList_run (by kernel_rfl) (.int .i64 (n : Int)) V2 (xo_len A n c Try.underlying28 rfl rfl) ?_
      simp only [Act.put, List.setIfInBounds_toArray, List.set_cons_zero, List.set_cons_succ]
      refine wpList_call (by kernel_rfl) 41 Try.func41 (by kernel_rfl) (by kernel_rfl) _ _ #[.int .i64 (n : Int)] rfl (by kernel_rfl) ?_
      refine (rpower_any n (by omega) V2).mono ?_
      rintro e V3 ⟨rfl, hb⟩
      have B2 := Lib.hid hb
      rw [hpw]
      clear hb 
      refine ⟨_, rfl, ?_⟩
      simp only [Act.put, List.setIfInBounds_toArray, List.set_cons_zero, List.set_cons_succ]
      refine wpList_run (by kernel_rfl) (.bool false) V3 rfl ?_
      simp only [Act.put, List.setIfInBounds_toArray, List.set_cons_zero, List.set_cons_succ]
      refine wpList_run (by kernel_rfl) (.bool false) V3 rfl ?_
      simp only [Act.put, List.setIfInBounds_toArray, List.set_cons_zero, List.set_cons_succ]
      refine wpList_run (by kernel_rfl) (.bool false) V3 rfl ?_
      simp only [Act.put, List.setIfInBounds_toArray, List.set_cons_zero, List.set_cons_succ]
      refine wpList_run (by kernel_rfl) (.int .i64 (zn : Int)) V3 rfl ?_
      simp only [Act.put, List.setIfInBounds_toArray, List.set_cons_zero, List.set_cons_succ]
      refine wpList_run (by kernel_rfl) (.slice A n c) V3 rfl ?_
      simp only [Act.put, List.setIfInBounds_toArray, List.set_cons_zero, List.set_cons_succ]
      refine wpList_run (by kernel_rfl) (.int .i64 (n : Int)) V3 (xo_len A n c Try.underlying28 rfl rfl) ?_
      simp only [Act.put, List.setIfInBounds_toArray, List.set_cons_zero, List.set_cons_succ]
      refine wpList_run (by kernel_rfl) (.int .i64 (pz : Int)) V3 (xo_mulI (zn : Int) (n : Int) (pz : Int) (by rw [← hpz]; simp) (by omega) (by omega) rfl rfl rfl) ?_
      simp only [Act.put, List.setIfInBounds_toArray, List.set_cons_zero, List.set_cons_succ]
      refine wpList_run (by kernel_rfl) (.bool true) V3 (xo_gtrT .i64 (pz : Int) 65536 (by omega) rfl rfl rfl) ?_
      simp only [Act.put, List.setIfInBounds_toArray, List.set_cons_zero, List.set_cons_succ]
      refine wpList_run (by kernel_rfl) (.bool true) V3 rfl ?_
      simp only [Act.put, List.setIfInBounds_toArray, List.set_cons_zero, List.set_cons_succ]
      refine wpList_run (by kernel_rfl) (.bool true) V3 rfl ?_
      simp only [Act.put, List.setIfInBounds_toArray, List.set_cons_zero, List.set_cons_succ]
      refine wpList_skip (by kernel_rfl) ?_
      try simp only [Act.put, List.setIfInBounds_toArray, List.set_cons_zero, List.set_cons_succ]
      refine wpList_skip (by kernel_rfl) ?_
      try simp only [Act.put, List.setIfInBounds_toArray, List.set_cons_zero, List.set_cons_succ]
      refine wpList_run (by kernel_rfl) (.bool true) V3 rfl ?_
      simp only [Act.put, List.setIfInBounds_toArray, List.set_cons_zero, List.set_cons_succ]
      refine wpList_run (by kernel_rfl) (.bool true) V3 rfl ?_
      simp only [Act.put, List.setIfInBounds_toArray, List.set_cons_zero, List.set_cons_succ]
      refine wpList_skip (by kernel_rfl) ?_
      try simp only [Act.put, List.setIfInBounds_toArray, List.set_cons_zero, List.set_cons_succ]
      refine wpList_skip (by kernel_rfl) ?_
      try simp only [Act.put, List.setIfInBounds_toArray, List.set_cons_zero, List.set_cons_succ]
      refine wpList_skip (by kernel_rfl) ?_
      try simp only [Act.put, List.setIfInBounds_toArray, List.set_cons_zero, List.set_cons_succ]
      refine wpList_skip (by kernel_rfl) ?_
      try simp only [Act.put, List.setIfInBounds_toArray, List.set_cons_zero, List.set_cons_succ]
      refine wpList_skip (by kernel_rfl) ?_
      try simp only [Act.put, List.setIfInBounds_toArray, List.set_cons_zero, List.set_cons_succ]
      refine wpList_skip (by kernel_rfl) ?_
      try simp only [Act.put, List.setIfInBounds_toArray, List.set_cons_zero, List.set_cons_succ]
      refine wpList_run (by kernel_rfl) (.bool true) V3 rfl ?_
      simp only [Act.put, List.setIfInBounds_toArray, List.set_cons_zero, List.set_cons_succ]
      refine wpList_nil ?_
      go_upto_region 2 with fail
      refine wp_region_lit ?_
      refine wpList_run (by kernel_rfl) (.agg #[.int .u64 0, .int .u64 0]) V3 (by unfold execOp; go_simp) ?_
      simp only [Act.put, List.setIfInBounds_toArray, List.set_cons_zero, List.set_cons_succ]
      have C1_3 := Lib.hid (bel_step B1.out B2.out)
      refine wpList_storeW w.heap.size #[.int .u64 0, .int .u64 0] #[.int .u64 0, .int .u64 0] 31 (by kernel_rfl) (heap_keep Fv0_6.out C1_3.out) (xo_storeW w.heap.size #[.int .u64 0, .int .u64 0] #[.int .u64 0, .int .u64 0] (heap_keep Fv0_6.out C1_3.out) (by kernel_rfl) rfl (by simp [Value.oneCell']) rfl rfl rfl) ?_
      intro X3_2 h1 hfar hbel hsz
      have C0_2 := Lib.hid (bel_step B0.out B1.out)
      have C0_3 := Lib.hid (bel_step C0_2.out B2.out)
      have hbr := hbel _ _ Gb0.out C0_3.out
      clear B0
      have B0 := Lib.hid hbr
      clear hbr
      clear Fv0_6
      have Fv0_6 : Hid (X3_2.heap[w.heap.size]? = some (.cells #[.int .u64 0, .int .u64 0] 31 (0, 0))) := Lib.hid (h1)
      have HszX3_2 := Lib.hid hsz
      clear h1 hfar hbel hsz
      simp only [ptr, Act.put, List.setIfInBounds_toArray, List.set_cons_zero, List.set_cons_succ]
      refine wpList_run (by kernel_rfl) (.int .i64 1) X3_2 rfl ?_
      simp only [Act.put, List.setIfInBounds_toArray, List.set_cons_zero, List.set_cons_succ]
      refine wpList_nil ?_
      go_wp2_with fail
      refine bodyPost_ret (v := .tuple #[.agg #[.int .u64 0, .int .u64 0], .int .i64 1]) ?_ rfl ⟨rfl, B0.out⟩
      exact results_row_tmp rfl _ _ w.heap.size 31 _ (0, 0) _ _ rfl rfl Fv0_6.out Try.underlying31 rfl (by kernel_rfl)
set_option maxRecDepth 100000 in
set_option maxHeartbeats 8000000 in
theorem rat_no2 (A : Option Addr) (n c : Nat) (xs : List Gold.E2) (z K L N M : Nat) (hn : n = 2 ^ K) (hz : z = 2 ^ L) (hL1 : 1 ≤ L) (hL4 : L ≤ 4) (hKL : K + L = M) (hM : M ≤ 16) (hN : N = 2 ^ M) (i : Int) (hi : i < 0 ∨ (N : Int) ≤ i) (w : World) (hX : Sg exC 2 w A n c xs) :
    Calls Try.prog 14 #[.slice A n c, .int .i64 (z : Int), .int .i64 i] w fun e w' => e = .returned (.tuple #[.agg #[.int .u64 0, .int .u64 0], .int .i64 1]) ∧ Below w.heap.size w w' := by
  have HX := Lib.hid hX
  have hcp := hX.cap
  have htp := hX.top
  clear hX
  go_enter Try.func14, Try.ntmps14
  go_upto_region 1 with fail
  refine wp_named1 (fun V1 hb g0 hlt => ?_)
  have B0 := Lib.hid hb
  have Fv0_6 : Hid (V1.heap[w.heap.size]? = some (.cells #[.int .u64 0, .int .u64 0] 31 (0, 0))) := Lib.hid (g0)
  have Gb0 : Hid (w.heap.size ≤ w.heap.size) := Lib.hid (by omega)
  clear hb g0 hlt
  have Lt0 : Hid (w.heap.size < V1.heap.size) := Lib.hid (xp_lt Fv0_6.out)
  have hn65 : n ≤ 65536 := by rw [hn]; exact Gold.pow2_le (by omega)
  have hr := rB_pow (K := K) (L := L) hL1 hL4 (by omega)
  rw [← hn, ← hz, rB_pw] at hr
  simp only [Bool.and_eq_true] at hr
  have HR := Lib.hid hr.1
  have HP := Lib.hid hr.2.1
  have hz16 : z ≤ 16 := by rw [hz]; exact Nat.pow_le_pow_right (n := 2) (by omega) hL4
  have hNN65 : N ≤ 65536 := by rw [hN]; exact Gold.pow2_le hM
  have hzn : z * n = N := by rw [hz, hn, hN, ← hKL, Nat.pow_add, Nat.mul_comm]
  have HNN := Lib.hid hN
  clear hr hn hz hN
  have hci1 : ¬ ((N : Int) > 65536) := by omega
  by_cases hneg : i < 0
  · refine wp_region_lit ?_
    refine wpList_run (by kernel_rfl) (.int .i64 (z : Int)) V1 rfl ?_
    simp only [Act.put, List.setIfInBounds_toArray, List.set_cons_zero, List.set_cons_succ]
    refine wpList_call (by kernel_rfl) 40 Try.func40 (by kernel_rfl) (by kernel_rfl) _ _ #[.int .i64 (z : Int)] rfl (by kernel_rfl) ?_
    refine (rrate_any (z : Int) V1).mono ?_
    rintro e V2 ⟨rfl, hb⟩
    have B1 := Lib.hid hb
    rw [HR.out]
    clear hb 
    refine ⟨_, rfl, ?_⟩
    simp only [Act.put, List.setIfInBounds_toArray, List.set_cons_zero, List.set_cons_succ]
    refine wpList_run (by kernel_rfl) (.bool false) V2 rfl ?_
    simp only [Act.put, List.setIfInBounds_toArray, List.set_cons_zero, List.set_cons_succ]
    refine wpList_run (by kernel_rfl) (.bool false) V2 rfl ?_
    simp only [Act.put, List.setIfInBounds_toArray, List.set_cons_zero, List.set_cons_succ]
    refine wpList_run (by kernel_rfl) (.slice A n c) V2 rfl ?_
    simp only [Act.put, List.setIfInBounds_toArray, List.set_cons_zero, List.set_cons_succ]
    refine wpList_run (by kernel_rfl) (.int .i64 (n : Int)) V2 (xo_len A n c Try.underlying28 rfl rfl) ?_
    simp only [Act.put, List.setIfInBounds_toArray, List.set_cons_zero, List.set_cons_succ]
    refine wpList_call (by kernel_rfl) 41 Try.func41 (by kernel_rfl) (by kernel_rfl) _ _ #[.int .i64 (n : Int)] rfl (by kernel_rfl) ?_
    refine (rpower_any n (by omega) V2).mono ?_
    rintro e V3 ⟨rfl, hb⟩
    have B2 := Lib.hid hb
    rw [HP.out]
    clear hb 
    refine ⟨_, rfl, ?_⟩
    simp only [Act.put, List.setIfInBounds_toArray, List.set_cons_zero, List.set_cons_succ]
    refine wpList_run (by kernel_rfl) (.bool false) V3 rfl ?_
    simp only [Act.put, List.setIfInBounds_toArray, List.set_cons_zero, List.set_cons_succ]
    refine wpList_run (by kernel_rfl) (.bool false) V3 rfl ?_
    simp only [Act.put, List.setIfInBounds_toArray, List.set_cons_zero, List.set_cons_succ]
    refine wpList_run (by kernel_rfl) (.bool false) V3 rfl ?_
    simp only [Act.put, List.setIfInBounds_toArray, List.set_cons_zero, List.set_cons_succ]
    refine wpList_run (by kernel_rfl) (.int .i64 (z : Int)) V3 rfl ?_
    simp only [Act.put, List.setIfInBounds_toArray, List.set_cons_zero, List.set_cons_succ]
    refine wpList_run (by kernel_rfl) (.slice A n c) V3 rfl ?_
    simp only [Act.put, List.setIfInBounds_toArray, List.set_cons_zero, List.set_cons_succ]
    refine wpList_run (by kernel_rfl) (.int .i64 (n : Int)) V3 (xo_len A n c Try.underlying28 rfl rfl) ?_
    simp only [Act.put, List.setIfInBounds_toArray, List.set_cons_zero, List.set_cons_succ]
    refine wpList_run (by kernel_rfl) (.int .i64 (N : Int)) V3 (xo_mulI (z : Int) (n : Int) (N : Int) (by rw [← hzn]; simp) (by omega) (by omega) rfl rfl rfl) ?_
    simp only [Act.put, List.setIfInBounds_toArray, List.set_cons_zero, List.set_cons_succ]
    refine wpList_run (by kernel_rfl) (.bool false) V3 (xo_gtrF .i64 (N : Int) 65536 (by omega) rfl rfl rfl) ?_
    simp only [Act.put, List.setIfInBounds_toArray, List.set_cons_zero, List.set_cons_succ]
    refine wpList_run (by kernel_rfl) (.bool false) V3 rfl ?_
    simp only [Act.put, List.setIfInBounds_toArray, List.set_cons_zero, List.set_cons_succ]
    refine wpList_run (by kernel_rfl) (.bool false) V3 rfl ?_
    simp only [Act.put, List.setIfInBounds_toArray, List.set_cons_zero, List.set_cons_succ]
    refine wpList_run (by kernel_rfl) (.int .i64 i) V3 rfl ?_
    simp only [Act.put, List.setIfInBounds_toArray, List.set_cons_zero, List.set_cons_succ]
    refine wpList_run (by kernel_rfl) (.bool true) V3 (xo_lssT .i64 i 0 hneg rfl rfl rfl) ?_
    simp only [Act.put, List.setIfInBounds_toArray, List.set_cons_zero, List.set_cons_succ]
    refine wpList_run (by kernel_rfl) (.bool true) V3 rfl ?_
    simp only [Act.put, List.setIfInBounds_toArray, List.set_cons_zero, List.set_cons_succ]
    refine wpList_run (by kernel_rfl) (.bool true) V3 rfl ?_
    simp only [Act.put, List.setIfInBounds_toArray, List.set_cons_zero, List.set_cons_succ]
    refine wpList_skip (by kernel_rfl) ?_
    try simp only [Act.put, List.setIfInBounds_toArray, List.set_cons_zero, List.set_cons_succ]
    refine wpList_skip (by kernel_rfl) ?_
    try simp only [Act.put, List.setIfInBounds_toArray, List.set_cons_zero, List.set_cons_succ]
    refine wpList_skip (by kernel_rfl) ?_
    try simp only [Act.put, List.setIfInBounds_toArray, List.set_cons_zero, List.set_cons_succ]
    refine wpList_skip (by kernel_rfl) ?_
    try simp only [Act.put, List.setIfInBounds_toArray, List.set_cons_zero, List.set_cons_succ]
    refine wpList_skip (by kernel_rfl) ?_
    try simp only [Act.put, List.setIfInBounds_toArray, List.set_cons_zero, List.set_cons_succ]
    refine wpList_skip (by kernel_rfl) ?_
    try simp only [Act.put, List.setIfInBounds_toArray, List.set_cons_zero, List.set_cons_succ]
    refine wpList_run (by kernel_rfl) (.bool true) V3 rfl ?_
    simp only [Act.put, List.setIfInBounds_toArray, List.set_cons_zero, List.set_cons_succ]
    refine wpList_nil ?_
    go_upto_region 2 with fail
    refine wp_region_lit ?_
    refine wpList_run (by kernel_rfl) (.agg #[.int .u64 0, .int .u64 0]) V3 (by unfold execOp; go_simp) ?_
    simp only [Act.put, List.setIfInBounds_toArray, List.set_cons_zero, List.set_cons_succ]
    have C1_3 := Lib.hid (bel_step B1.out B2.out)
    refine wpList_storeW w.heap.size #[.int .u64 0, .int .u64 0] #[.int .u64 0, .int .u64 0] 31 (by kernel_rfl) (heap_keep Fv0_6.out C1_3.out) (xo_storeW w.heap.size #[.int .u64 0, .int .u64 0] #[.int .u64 0, .int .u64 0] (heap_keep Fv0_6.out C1_3.out) (by kernel_rfl) rfl (by simp [Value.oneCell']) rfl rfl rfl) ?_
    intro X3_2 h1 hfar hbel hsz
    have C0_2 := Lib.hid (bel_step B0.out B1.out)
    have C0_3 := Lib.hid (bel_step C0_2.out B2.out)
    have hbr := hbel _ _ Gb0.out C0_3.out
    clear B0
    have B0 := Lib.hid hbr
    clear hbr
    clear Fv0_6
    have Fv0_6 : Hid (X3_2.heap[w.heap.size]? = some (.cells #[.int .u64 0, .int .u64 0] 31 (0, 0))) := Lib.hid (h1)
    have HszX3_2 := Lib.hid hsz
    clear h1 hfar hbel hsz
    simp only [ptr, Act.put, List.setIfInBounds_toArray, List.set_cons_zero, List.set_cons_succ]
    refine wpList_run (by kernel_rfl) (.int .i64 1) X3_2 rfl ?_
    simp only [Act.put, List.setIfInBounds_toArray, List.set_cons_zero, List.set_cons_succ]
    refine wpList_nil ?_
    go_wp2_with fail
    refine bodyPost_ret (v := .tuple #[.agg #[.int .u64 0, .int .u64 0], .int .i64 1]) ?_ rfl ⟨rfl, B0.out⟩
    exact results_row_tmp rfl _ _ w.heap.size 31 _ (0, 0) _ _ rfl rfl Fv0_6.out Try.underlying31 rfl (by kernel_rfl)
  · have hge : i ≥ (N : Int) := by omega
    refine wp_region_lit ?_
    refine wpList_run (by kernel_rfl) (.int .i64 (z : Int)) V1 rfl ?_
    simp only [Act.put, List.setIfInBounds_toArray, List.set_cons_zero, List.set_cons_succ]
    refine wpList_call (by kernel_rfl) 40 Try.func40 (by kernel_rfl) (by kernel_rfl) _ _ #[.int .i64 (z : Int)] rfl (by kernel_rfl) ?_
    refine (rrate_any (z : Int) V1).mono ?_
    rintro e V2 ⟨rfl, hb⟩
    have B1 := Lib.hid hb
    rw [HR.out]
    clear hb 
    refine ⟨_, rfl, ?_⟩
    simp only [Act.put, List.setIfInBounds_toArray, List.set_cons_zero, List.set_cons_succ]
    refine wpList_run (by kernel_rfl) (.bool false) V2 rfl ?_
    simp only [Act.put, List.setIfInBounds_toArray, List.set_cons_zero, List.set_cons_succ]
    refine wpList_run (by kernel_rfl) (.bool false) V2 rfl ?_
    simp only [Act.put, List.setIfInBounds_toArray, List.set_cons_zero, List.set_cons_succ]
    refine wpList_run (by kernel_rfl) (.slice A n c) V2 rfl ?_
    simp only [Act.put, List.setIfInBounds_toArray, List.set_cons_zero, List.set_cons_succ]
    refine wpList_run (by kernel_rfl) (.int .i64 (n : Int)) V2 (xo_len A n c Try.underlying28 rfl rfl) ?_
    simp only [Act.put, List.setIfInBounds_toArray, List.set_cons_zero, List.set_cons_succ]
    refine wpList_call (by kernel_rfl) 41 Try.func41 (by kernel_rfl) (by kernel_rfl) _ _ #[.int .i64 (n : Int)] rfl (by kernel_rfl) ?_
    refine (rpower_any n (by omega) V2).mono ?_
    rintro e V3 ⟨rfl, hb⟩
    have B2 := Lib.hid hb
    rw [HP.out]
    clear hb 
    refine ⟨_, rfl, ?_⟩
    simp only [Act.put, List.setIfInBounds_toArray, List.set_cons_zero, List.set_cons_succ]
    refine wpList_run (by kernel_rfl) (.bool false) V3 rfl ?_
    simp only [Act.put, List.setIfInBounds_toArray, List.set_cons_zero, List.set_cons_succ]
    refine wpList_run (by kernel_rfl) (.bool false) V3 rfl ?_
    simp only [Act.put, List.setIfInBounds_toArray, List.set_cons_zero, List.set_cons_succ]
    refine wpList_run (by kernel_rfl) (.bool false) V3 rfl ?_
    simp only [Act.put, List.setIfInBounds_toArray, List.set_cons_zero, List.set_cons_succ]
    refine wpList_run (by kernel_rfl) (.int .i64 (z : Int)) V3 rfl ?_
    simp only [Act.put, List.setIfInBounds_toArray, List.set_cons_zero, List.set_cons_succ]
    refine wpList_run (by kernel_rfl) (.slice A n c) V3 rfl ?_
    simp only [Act.put, List.setIfInBounds_toArray, List.set_cons_zero, List.set_cons_succ]
    refine wpList_run (by kernel_rfl) (.int .i64 (n : Int)) V3 (xo_len A n c Try.underlying28 rfl rfl) ?_
    simp only [Act.put, List.setIfInBounds_toArray, List.set_cons_zero, List.set_cons_succ]
    refine wpList_run (by kernel_rfl) (.int .i64 (N : Int)) V3 (xo_mulI (z : Int) (n : Int) (N : Int) (by rw [← hzn]; simp) (by omega) (by omega) rfl rfl rfl) ?_
    simp only [Act.put, List.setIfInBounds_toArray, List.set_cons_zero, List.set_cons_succ]
    refine wpList_run (by kernel_rfl) (.bool false) V3 (xo_gtrF .i64 (N : Int) 65536 (by omega) rfl rfl rfl) ?_
    simp only [Act.put, List.setIfInBounds_toArray, List.set_cons_zero, List.set_cons_succ]
    refine wpList_run (by kernel_rfl) (.bool false) V3 rfl ?_
    simp only [Act.put, List.setIfInBounds_toArray, List.set_cons_zero, List.set_cons_succ]
    refine wpList_run (by kernel_rfl) (.bool false) V3 rfl ?_
    simp only [Act.put, List.setIfInBounds_toArray, List.set_cons_zero, List.set_cons_succ]
    refine wpList_run (by kernel_rfl) (.int .i64 i) V3 rfl ?_
    simp only [Act.put, List.setIfInBounds_toArray, List.set_cons_zero, List.set_cons_succ]
    refine wpList_run (by kernel_rfl) (.bool false) V3 (xo_lssF .i64 i 0 hneg rfl rfl rfl) ?_
    simp only [Act.put, List.setIfInBounds_toArray, List.set_cons_zero, List.set_cons_succ]
    refine wpList_run (by kernel_rfl) (.bool false) V3 rfl ?_
    simp only [Act.put, List.setIfInBounds_toArray, List.set_cons_zero, List.set_cons_succ]
    refine wpList_run (by kernel_rfl) (.bool false) V3 rfl ?_
    simp only [Act.put, List.setIfInBounds_toArray, List.set_cons_zero, List.set_cons_succ]
    refine wpList_run (by kernel_rfl) (.int .i64 i) V3 rfl ?_
    simp only [Act.put, List.setIfInBounds_toArray, List.set_cons_zero, List.set_cons_succ]
    refine wpList_run (by kernel_rfl) (.int .i64 (z : Int)) V3 rfl ?_
    simp only [Act.put, List.setIfInBounds_toArray, List.set_cons_zero, List.set_cons_succ]
    refine wpList_run (by kernel_rfl) (.slice A n c) V3 rfl ?_
    simp only [Act.put, List.setIfInBounds_toArray, List.set_cons_zero, List.set_cons_succ]
    refine wpList_run (by kernel_rfl) (.int .i64 (n : Int)) V3 (xo_len A n c Try.underlying28 rfl rfl) ?_
    simp only [Act.put, List.setIfInBounds_toArray, List.set_cons_zero, List.set_cons_succ]
    refine wpList_run (by kernel_rfl) (.int .i64 (N : Int)) V3 (xo_mulI (z : Int) (n : Int) (N : Int) (by rw [← hzn]; simp) (by omega) (by omega) rfl rfl rfl) ?_
    simp only [Act.put, List.setIfInBounds_toArray, List.set_cons_zero, List.set_cons_succ]
    refine wpList_run (by kernel_rfl) (.bool true) V3 (xo_geqT .i64 i (N : Int) hge rfl rfl rfl) ?_
    simp only [Act.put, List.setIfInBounds_toArray, List.set_cons_zero, List.set_cons_succ]
    refine wpList_run (by kernel_rfl) (.bool true) V3 rfl ?_
    simp only [Act.put, List.setIfInBounds_toArray, List.set_cons_zero, List.set_cons_succ]
    refine wpList_nil ?_
    go_upto_region 2 with fail
    refine wp_region_lit ?_
    refine wpList_run (by kernel_rfl) (.agg #[.int .u64 0, .int .u64 0]) V3 (by unfold execOp; go_simp) ?_
    simp only [Act.put, List.setIfInBounds_toArray, List.set_cons_zero, List.set_cons_succ]
    have C1_3 := Lib.hid (bel_step B1.out B2.out)
    refine wpList_storeW w.heap.size #[.int .u64 0, .int .u64 0] #[.int .u64 0, .int .u64 0] 31 (by kernel_rfl) (heap_keep Fv0_6.out C1_3.out) (xo_storeW w.heap.size #[.int .u64 0, .int .u64 0] #[.int .u64 0, .int .u64 0] (heap_keep Fv0_6.out C1_3.out) (by kernel_rfl) rfl (by simp [Value.oneCell']) rfl rfl rfl) ?_
    intro X3_2 h1 hfar hbel hsz
    have C0_2 := Lib.hid (bel_step B0.out B1.out)
    have C0_3 := Lib.hid (bel_step C0_2.out B2.out)
    have hbr := hbel _ _ Gb0.out C0_3.out
    clear B0
    have B0 := Lib.hid hbr
    clear hbr
    clear Fv0_6
    have Fv0_6 : Hid (X3_2.heap[w.heap.size]? = some (.cells #[.int .u64 0, .int .u64 0] 31 (0, 0))) := Lib.hid (h1)
    have HszX3_2 := Lib.hid hsz
    clear h1 hfar hbel hsz
    simp only [ptr, Act.put, List.setIfInBounds_toArray, List.set_cons_zero, List.set_cons_succ]
    refine wpList_run (by kernel_rfl) (.int .i64 1) X3_2 rfl ?_
    simp only [Act.put, List.setIfInBounds_toArray, List.set_cons_zero, List.set_cons_succ]
    refine wpList_nil ?_
    go_wp2_with fail
    refine bodyPost_ret (v := .tuple #[.agg #[.int .u64 0, .int .u64 0], .int .i64 1]) ?_ rfl ⟨rfl, B0.out⟩
    exact results_row_tmp rfl _ _ w.heap.size 31 _ (0, 0) _ _ rfl rfl Fv0_6.out Try.underlying31 rfl (by kernel_rfl)
set_option maxRecDepth 100000 in
set_option maxHeartbeats 16000000 in
theorem ris_yes (A : Option Addr) (n c : Nat) (xs : List Gold.F) (z K L M k : Nat) (hN : n = 2 ^ M) (hz : z = 2 ^ L) (hk : k = 2 ^ K) (hL1 : 1 ≤ L) (hL4 : L ≤ 4) (hKL : K + L = M) (hM : M ≤ 13) (w : World) (hX : Sg feC 1 w A n c xs) :
    Calls Try.prog 16 #[.slice A n c, .int .i64 (z : Int)] w fun e w' => e = .returned (.tuple #[.bool (decide ((Gold.inF xs M).length ≤ k)), .int .i64 0]) ∧ Below w.heap.size w w' := by
  have HX := Lib.hid hX
  have hxl := hX.len
  have hcp := hX.cap
  have htp := hX.top
  clear hX
  go_enter Try.func16, Try.ntmps16
  go_upto_region 1 with fail
  have hn65 : n ≤ 8192 := by rw [hN]; exact Nat.pow_le_pow_right (n := 2) (by omega) hM
  have hbz := (bB_pow hL1 hL4)
  rw [← hz] at hbz
  have hpw := pwB_pow M
  rw [← hN] at hpw
  have HR := Lib.hid hbz
  have HP := Lib.hid hpw
  have hz16 : z ≤ 16 := by rw [hz]; exact Nat.pow_le_pow_right (n := 2) (by omega) hL4
  have hz1 : 1 ≤ z := by rw [hz]; exact Nat.two_pow_pos L
  have hkn : n / z = k := by rw [hN, hz, hk, ← hKL, Nat.pow_add, Nat.mul_div_cancel _ (Nat.two_pow_pos L)]
  have hzle : z ≤ n := by rw [hN, hz, ← hKL, Nat.pow_add]; exact Nat.le_mul_of_pos_left _ (Nat.two_pow_pos K)
  have hkle : k ≤ n := by rw [← hkn]; exact Nat.div_le_self _ _
  have HK := Lib.hid hk
  have HZ := Lib.hid hz
  have HNN := Lib.hid hN
  clear hbz hpw hk hz hN
  have hci0 : ¬ ((n : Int) < (z : Int)) := by omega
  have hci1 : ¬ ((n : Int) > 65536) := by omega
  refine wp_region_lit ?_
  refine wpList_run (by kernel_rfl) (.int .i64 (z : Int)) w rfl ?_
  simp only [Act.put, List.setIfInBounds_toArray, List.set_cons_zero, List.set_cons_succ]
  refine wpList_call (by kernel_rfl) 40 Try.func40 (by kernel_rfl) (by kernel_rfl) _ _ #[.int .i64 (z : Int)] rfl (by kernel_rfl) ?_
  refine (rrate_any (z : Int) w).mono ?_
  rintro e V1 ⟨rfl, hb⟩
  have B0 := Lib.hid hb
  rw [HR.out]
  clear hb 
  refine ⟨_, rfl, ?_⟩
  simp only [Act.put, List.setIfInBounds_toArray, List.set_cons_zero, List.set_cons_succ]
  refine wpList_run (by kernel_rfl) (.bool false) V1 rfl ?_
  simp only [Act.put, List.setIfInBounds_toArray, List.set_cons_zero, List.set_cons_succ]
  refine wpList_run (by kernel_rfl) (.bool false) V1 rfl ?_
  simp only [Act.put, List.setIfInBounds_toArray, List.set_cons_zero, List.set_cons_succ]
  refine wpList_run (by kernel_rfl) (.slice A n c) V1 rfl ?_
  simp only [Act.put, List.setIfInBounds_toArray, List.set_cons_zero, List.set_cons_succ]
  refine wpList_run (by kernel_rfl) (.int .i64 (n : Int)) V1 (xo_len A n c Try.underlying22 rfl rfl) ?_
  simp only [Act.put, List.setIfInBounds_toArray, List.set_cons_zero, List.set_cons_succ]
  refine wpList_call (by kernel_rfl) 41 Try.func41 (by kernel_rfl) (by kernel_rfl) _ _ #[.int .i64 (n : Int)] rfl (by kernel_rfl) ?_
  refine (rpower_any n (by omega) V1).mono ?_
  rintro e V2 ⟨rfl, hb⟩
  have B1 := Lib.hid hb
  rw [HP.out]
  clear hb 
  refine ⟨_, rfl, ?_⟩
  simp only [Act.put, List.setIfInBounds_toArray, List.set_cons_zero, List.set_cons_succ]
  refine wpList_run (by kernel_rfl) (.bool false) V2 rfl ?_
  simp only [Act.put, List.setIfInBounds_toArray, List.set_cons_zero, List.set_cons_succ]
  refine wpList_run (by kernel_rfl) (.bool false) V2 rfl ?_
  simp only [Act.put, List.setIfInBounds_toArray, List.set_cons_zero, List.set_cons_succ]
  refine wpList_run (by kernel_rfl) (.bool false) V2 rfl ?_
  simp only [Act.put, List.setIfInBounds_toArray, List.set_cons_zero, List.set_cons_succ]
  refine wpList_run (by kernel_rfl) (.slice A n c) V2 rfl ?_
  simp only [Act.put, List.setIfInBounds_toArray, List.set_cons_zero, List.set_cons_succ]
  refine wpList_run (by kernel_rfl) (.int .i64 (n : Int)) V2 (xo_len A n c Try.underlying22 rfl rfl) ?_
  simp only [Act.put, List.setIfInBounds_toArray, List.set_cons_zero, List.set_cons_succ]
  refine wpList_run (by kernel_rfl) (.int .i64 (z : Int)) V2 rfl ?_
  simp only [Act.put, List.setIfInBounds_toArray, List.set_cons_zero, List.set_cons_succ]
  refine wpList_run (by kernel_rfl) (.bool false) V2 (xo_lssF .i64 (n : Int) (z : Int) (by omega) rfl rfl rfl) ?_
  simp only [Act.put, List.setIfInBounds_toArray, List.set_cons_zero, List.set_cons_succ]
  refine wpList_run (by kernel_rfl) (.bool false) V2 rfl ?_
  simp only [Act.put, List.setIfInBounds_toArray, List.set_cons_zero, List.set_cons_succ]
  refine wpList_run (by kernel_rfl) (.bool false) V2 rfl ?_
  simp only [Act.put, List.setIfInBounds_toArray, List.set_cons_zero, List.set_cons_succ]
  refine wpList_run (by kernel_rfl) (.slice A n c) V2 rfl ?_
  simp only [Act.put, List.setIfInBounds_toArray, List.set_cons_zero, List.set_cons_succ]
  refine wpList_run (by kernel_rfl) (.int .i64 (n : Int)) V2 (xo_len A n c Try.underlying22 rfl rfl) ?_
  simp only [Act.put, List.setIfInBounds_toArray, List.set_cons_zero, List.set_cons_succ]
  refine wpList_run (by kernel_rfl) (.bool false) V2 (xo_gtrF .i64 (n : Int) 65536 (by omega) rfl rfl rfl) ?_
  simp only [Act.put, List.setIfInBounds_toArray, List.set_cons_zero, List.set_cons_succ]
  refine wpList_run (by kernel_rfl) (.bool false) V2 rfl ?_
  simp only [Act.put, List.setIfInBounds_toArray, List.set_cons_zero, List.set_cons_succ]
  refine wpList_nil ?_
  have C0_2 := Lib.hid (bel_step B0.out B1.out)
  have HBV2 := Lib.hid C0_2.out
  have YHX := (HX.out.keep C0_2.out)
  clear HX
  have HX := Lib.hid YHX
  clear YHX
  obtain ⟨VB2, rfl⟩ : ∃ VB2 : World, VB2 = V2 := ⟨_, rfl⟩
  go_upto_region 3 with fail
  refine wp_region_lit ?_
  refine wpList_mk (by kernel_rfl) #[] 3 0 0 (xo_empty (size := 1) Try.underlying68 (by kernel_rfl) rfl VB2) ?_
  intro g30 V1 hge h0 hb
  have hge2 := Nat.le_trans (Below.refl VB2.heap.size VB2).size hge
  have B0 := Lib.hid hb
  have Ow30 : Hid (V1.ownsRow VB2.heap.size 3 1 (.slice (some ⟨g30, 0, none⟩) 0 0) 0 (fl ixC [])) := Lib.hid (own_new h0 hge2)
  clear hge hge2 h0 hb
  simp only [ptr, Act.put, List.setIfInBounds_toArray, List.set_cons_zero, List.set_cons_succ]
  refine wpList_run (by kernel_rfl) (.slice (some ⟨g30, 0, none⟩) 0 0) V1 rfl ?_
  simp only [Act.put, List.setIfInBounds_toArray, List.set_cons_zero, List.set_cons_succ]
  refine wpList_nil ?_
  go_upto_region 4 with fail
  refine wp_region_lit ?_
  refine wpList_run (by kernel_rfl) (.int .i64 0) V1 rfl ?_
  simp only [Act.put, List.setIfInBounds_toArray, List.set_cons_zero, List.set_cons_succ]
  refine wpList_nil ?_
  have O3 := Ow30.out
  have O4 := B0.out
  go_wp2_with fail
  go_loopw [6, 7] (fun ov p wr => ∃ i : Nat, i ≤ k ∧ p = .int .i64 i ∧ wr.ownsRow VB2.heap.size 3 1 ov i (fl ixC (List.range i)) ∧ Below VB2.heap.size VB2 wr) (fun _ p _ => k - (intOf p).toNat)
  case atStart => exact ⟨0, Nat.zero_le _, rfl, O3, O4⟩
  case round =>
    clear O4 O3
    obtain ⟨wo, rfl⟩ : ∃ wo : World, wo = wr := ⟨_, rfl⟩
    obtain ⟨i, hi, rfl, hOW, hb0⟩ := hrel
    have hbr := hb0
    clear B0
    have B0 := Lib.hid hbr
    clear hbr
    have OW := Lib.hid hOW
    clear hb0 hOW
    by_cases hi1 : i < k
    · have hci6 : ((i : Int) < (k : Int)) := by omega
      go_upto_region 5 with fail
      refine wp_region_lit ?_
      refine wpList_run (by kernel_rfl) (.int .i64 (i : Int)) wo rfl ?_
      simp only [Act.put, List.setIfInBounds_toArray, List.set_cons_zero, List.set_cons_succ]
      refine wpList_run (by kernel_rfl) (.slice A n c) wo rfl ?_
      simp only [Act.put, List.setIfInBounds_toArray, List.set_cons_zero, List.set_cons_succ]
      refine wpList_run (by kernel_rfl) (.int .i64 (n : Int)) wo (xo_len A n c Try.underlying22 rfl rfl) ?_
      simp only [Act.put, List.setIfInBounds_toArray, List.set_cons_zero, List.set_cons_succ]
      refine wpList_run (by kernel_rfl) (.int .i64 (z : Int)) wo rfl ?_
      simp only [Act.put, List.setIfInBounds_toArray, List.set_cons_zero, List.set_cons_succ]
      refine wpList_run (by kernel_rfl) (.int .i64 (k : Int)) wo (xo_quoN .i64 n z k (by omega) hkn (by rw [IntKind.wrap_i64]; omega) rfl rfl rfl) ?_
      simp only [Act.put, List.setIfInBounds_toArray, List.set_cons_zero, List.set_cons_succ]
      refine wpList_run (by kernel_rfl) (.bool true) wo (xo_lssT .i64 (i : Int) (k : Int) (by omega) rfl rfl rfl) ?_
      simp only [Act.put, List.setIfInBounds_toArray, List.set_cons_zero, List.set_cons_succ]
      refine wpList_nil ?_
      go_upto_region 7 with fail
      refine wp_region_lit ?_
      refine wpList_run (by kernel_rfl) (u6) wo rfl ?_
      simp only [Act.put, List.setIfInBounds_toArray, List.set_cons_zero, List.set_cons_succ]
      refine wpList_run (by kernel_rfl) (.int .i64 (i : Int)) wo rfl ?_
      simp only [Act.put, List.setIfInBounds_toArray, List.set_cons_zero, List.set_cons_succ]
      refine wpList_mk (by kernel_rfl) ([i].flatMap ixC).toArray 3 1 1 (xg_lit (E := ixC) (bytes := 8) (.int .i64 0) [.tmp 40] [i] 1 Try.underlying68 (by kernel_rfl) rfl (by decide) (by decide) rfl rfl) ?_
      intro g41 V2 hge h0 hb
      have Ge7 : Hid (wo.heap.size ≤ g41) := Lib.hid hge
      have B1 := Lib.hid hb
      have Fv8_41 : Hid (RowG ixC V2 g41 3 ([i])) := Lib.hid (h0)
      have Lt9 : Hid (g41 < V2.heap.size) := Lib.hid (xp_lt Fv8_41.out)
      clear hge h0 hb
      simp only [ptr, Act.put, List.setIfInBounds_toArray, List.set_cons_zero, List.set_cons_succ]
      have C0_2 := Lib.hid (bel_step B0.out B1.out)
      refine wpList_app2 (size := 1) (by kernel_rfl) (.tmp 39) (.tmp 41) 68 rfl (.int .i64 0) 8 Try.underlying68 (by kernel_rfl) rfl (by decide) rfl (own_keep OW.out B1.out) (some ⟨g41, 0, none⟩) 1 1 (fl ixC ([i])) rfl (RowG.sg (n := 1) (c := 1) Fv8_41.out (show ([i]).length = 1 from rfl) (Nat.le_refl _) (by omega)).src (by unfold maxLen; omega) (by omega) C0_2.out.size ?_
      intro v42 X2_10 ho hb1 hg hloc
      have hox : X2_10.ownsRow VB2.heap.size 3 1 v42 (i + 1) (fl ixC ((List.range i) ++ ([i]))) := by rw [fl_append]; exact ho
      have hbr := C0_2.out.trans hb1
      clear B0
      have B0 := Lib.hid hbr
      clear hbr
      have Ow42_11 := Lib.hid hox
      clear ho hox hb1 hg hloc
      simp only [ptr, Act.put, List.setIfInBounds_toArray, List.set_cons_zero, List.set_cons_succ]
      refine wpList_run (by kernel_rfl) (v42) X2_10 rfl ?_
      simp only [Act.put, List.setIfInBounds_toArray, List.set_cons_zero, List.set_cons_succ]
      refine wpList_nil ?_
      have hko := Ow42_11.out
      rw [show List.range i ++ [i] = List.range (i + 1) from List.range_succ.symm] at hko
      go_upto_region 6 with fail
      refine wp_region_lit ?_
      refine wpList_run (by kernel_rfl) (.int .i64 (i : Int)) X2_10 rfl ?_
      simp only [Act.put, List.setIfInBounds_toArray, List.set_cons_zero, List.set_cons_succ]
      refine wpList_run (by kernel_rfl) (.int .i64 ((i + 1 : Nat) : Int)) X2_10 (xo_addI (i : Int) 1 ((i + 1 : Nat) : Int) (by omega) (by omega) (by omega) rfl rfl rfl) ?_
      simp only [Act.put, List.setIfInBounds_toArray, List.set_cons_zero, List.set_cons_succ]
      refine wpList_run (by kernel_rfl) (.int .i64 ((i + 1 : Nat) : Int)) X2_10 rfl ?_
      simp only [Act.put, List.setIfInBounds_toArray, List.set_cons_zero, List.set_cons_succ]
      refine wpList_nil ?_
      have hq12 := B0.out
      go_wp2_with fail
      go_roundw
      case rel => exact ⟨i + 1, by omega, by go_num, hko, hq12⟩
      case measure => simp [intOf]; omega
    · have hci6 : ¬ ((i : Int) < (k : Int)) := by omega
      go_upto_region 5 with fail
      refine wp_region_lit ?_
      refine wpList_run (by kernel_rfl) (.int .i64 (i : Int)) wo rfl ?_
      simp only [Act.put, List.setIfInBounds_toArray, List.set_cons_zero, List.set_cons_succ]
      refine wpList_run (by kernel_rfl) (.slice A n c) wo rfl ?_
      simp only [Act.put, List.setIfInBounds_toArray, List.set_cons_zero, List.set_cons_succ]
      refine wpList_run (by kernel_rfl) (.int .i64 (n : Int)) wo (xo_len A n c Try.underlying22 rfl rfl) ?_
      simp only [Act.put, List.setIfInBounds_toArray, List.set_cons_zero, List.set_cons_succ]
      refine wpList_run (by kernel_rfl) (.int .i64 (z : Int)) wo rfl ?_
      simp only [Act.put, List.setIfInBounds_toArray, List.set_cons_zero, List.set_cons_succ]
      refine wpList_run (by kernel_rfl) (.int .i64 (k : Int)) wo (xo_quoN .i64 n z k (by omega) hkn (by rw [IntKind.wrap_i64]; omega) rfl rfl rfl) ?_
      simp only [Act.put, List.setIfInBounds_toArray, List.set_cons_zero, List.set_cons_succ]
      refine wpList_run (by kernel_rfl) (.bool false) wo (xo_lssF .i64 (i : Int) (k : Int) (by omega) rfl rfl rfl) ?_
      simp only [Act.put, List.setIfInBounds_toArray, List.set_cons_zero, List.set_cons_succ]
      refine wpList_nil ?_
      obtain rfl : k = i := by omega
      obtain ⟨As, cs, hvs⟩ := own_form OW.out
      subst hvs
      have hso := Sg.ownS OW.out
      have HSs := Lib.hid hso
      clear hso
      go_upto_region 8 with fail
      refine wp_region_lit ?_
      refine wpList_run (by kernel_rfl) (.slice A n c) wo rfl ?_
      simp only [Act.put, List.setIfInBounds_toArray, List.set_cons_zero, List.set_cons_succ]
      refine wpList_run (by kernel_rfl) (.slice As k cs) wo rfl ?_
      simp only [Act.put, List.setIfInBounds_toArray, List.set_cons_zero, List.set_cons_succ]
      refine wpList_call (by kernel_rfl) 49 Try.func49 (by kernel_rfl) (by kernel_rfl) _ _ #[.slice A n c, .slice As k cs] rfl (by kernel_rfl) ?_
      refine (through_any A n c xs As k cs (List.range k) M HNN.out (by omega) (by omega) (fun j hj => by have := List.mem_range.1 hj; omega) List.nodup_range wo (HX.out.keep B0.out) HSs.out).mono ?_
      rintro e V2 ⟨At, ct, rfl, row, hrl, hs, hev, hb⟩
      have B1 := Lib.hid hb
      have HEV := Lib.hid hev
      clear hev
      have Ht := Lib.hid hs
      clear hb hs
      refine ⟨_, rfl, ?_⟩
      simp only [Act.put, List.setIfInBounds_toArray, List.set_cons_zero, List.set_cons_succ]
      refine wpList_run (by kernel_rfl) (.int .i64 (z : Int)) V2 rfl ?_
      simp only [Act.put, List.setIfInBounds_toArray, List.set_cons_zero, List.set_cons_succ]
      refine wpList_call (by kernel_rfl) 10 Try.func10 (by kernel_rfl) (by kernel_rfl) _ _ #[.slice At k ct, .int .i64 (z : Int)] rfl (by kernel_rfl) ?_
      refine (rencodeN At k ct row z K L n M HK.out HZ.out hL1 hL4 hKL (by omega) HNN.out V2 Ht.out).mono ?_
      rintro e V3 ⟨Au, cu, rfl, hs, hb⟩
      have B2 := Lib.hid hb
      have Hu := Lib.hid hs
      clear hb hs
      refine ⟨_, rfl, ?_⟩
      simp only [Act.put, List.setIfInBounds_toArray, List.set_cons_zero, List.set_cons_succ]
      refine wpList_run (by kernel_rfl) (.tuple #[.slice Au n cu, .int .i64 0]) V3 rfl ?_
      simp only [Act.put, List.setIfInBounds_toArray, List.set_cons_zero, List.set_cons_succ]
      refine wpList_run (by kernel_rfl) (.slice Au n cu) V3 rfl ?_
      simp only [Act.put, List.setIfInBounds_toArray, List.set_cons_zero, List.set_cons_succ]
      refine wpList_run (by kernel_rfl) (.int .i64 0) V3 rfl ?_
      simp only [Act.put, List.setIfInBounds_toArray, List.set_cons_zero, List.set_cons_succ]
      refine wpList_run (by kernel_rfl) (.slice Au n cu) V3 rfl ?_
      simp only [Act.put, List.setIfInBounds_toArray, List.set_cons_zero, List.set_cons_succ]
      refine wpList_run (by kernel_rfl) (.int .i64 0) V3 rfl ?_
      simp only [Act.put, List.setIfInBounds_toArray, List.set_cons_zero, List.set_cons_succ]
      refine wpList_nil ?_
      go_upto_region 9 with fail
      refine wp_region_lit ?_
      refine wpList_run (by kernel_rfl) (.slice Au n cu) V3 rfl ?_
      simp only [Act.put, List.setIfInBounds_toArray, List.set_cons_zero, List.set_cons_succ]
      refine wpList_run (by kernel_rfl) (.slice A n c) V3 rfl ?_
      simp only [Act.put, List.setIfInBounds_toArray, List.set_cons_zero, List.set_cons_succ]
      have C0_2 := Lib.hid (bel_step B0.out B1.out)
      have C0_3 := Lib.hid (bel_step C0_2.out B2.out)
      refine wpList_call (by kernel_rfl) 20 Try.func20 (by kernel_rfl) (by kernel_rfl) _ _ #[.slice Au n cu, .slice A n c] rfl (by kernel_rfl) ?_
      refine (rdistance_any Au n cu (Gold.cwF row M) A n c xs (by omega) (by omega) V3 Hu.out (HX.out.keep C0_3.out)).mono ?_
      rintro e V4 ⟨rfl, hb⟩
      have B3 := Lib.hid hb
      obtain ⟨ds, hds⟩ : ∃ d, dstF (Gold.cwF row M) xs = d := ⟨_, rfl⟩
      rw [hds]
      clear hb 
      refine ⟨_, rfl, ?_⟩
      simp only [Act.put, List.setIfInBounds_toArray, List.set_cons_zero, List.set_cons_succ]
      refine wpList_run (by kernel_rfl) (.bool (decide (ds = 0))) V4 (xo_cmp .eql .i64 (ds : Int) 0 (decide (ds = 0)) (.inl ⟨rfl, (by rw [Bool.eq_iff_iff, beq_iff_eq, decide_eq_true_iff]; omega)⟩) rfl rfl rfl) ?_
      simp only [Act.put, List.setIfInBounds_toArray, List.set_cons_zero, List.set_cons_succ]
      refine wpList_run (by kernel_rfl) (.bool (decide (ds = 0))) V4 rfl ?_
      simp only [Act.put, List.setIfInBounds_toArray, List.set_cons_zero, List.set_cons_succ]
      refine wpList_run (by kernel_rfl) (.int .i64 0) V4 rfl ?_
      simp only [Act.put, List.setIfInBounds_toArray, List.set_cons_zero, List.set_cons_succ]
      refine wpList_nil ?_
      have hfin : decide (ds = 0) = decide ((Gold.inF xs M).length ≤ k) := by rw [← hds]; exact is_same HNN.out (by omega) hkle hxl hrl HEV.out
      go_wp2_with fail
      go_ret2
      have C0_4 := Lib.hid (bel_step C0_3.out B3.out)
      exact ⟨rfl, HBV2.out.trans (C0_4.out.mono HBV2.out.size)⟩
set_option maxRecDepth 100000 in
set_option maxHeartbeats 8000000 in
theorem ris_no (A : Option Addr) (n c : Nat) (xs : List Gold.F) (z : Int) (hr : wB n z = false) (hn : n ≤ 1048576) (w : World) (hX : Sg feC 1 w A n c xs) :
    Calls Try.prog 16 #[.slice A n c, .int .i64 z] w fun e w' => e = .returned (.tuple #[.bool false, .int .i64 1]) ∧ Below w.heap.size w w' := by
  have HX := Lib.hid hX
  have hxl := hX.len
  have hcp := hX.cap
  have htp := hX.top
  clear hX
  go_enter Try.func16, Try.ntmps16
  go_upto_region 1 with fail
  cases hbz : bB z with
  | false =>
    refine wp_region_lit ?_
    refine wpList_run (by kernel_rfl) (.int .i64 z) w rfl ?_
    simp only [Act.put, List.setIfInBounds_toArray, List.set_cons_zero, List.set_cons_succ]
    refine wpList_call (by kernel_rfl) 40 Try.func40 (by kernel_rfl) (by kernel_rfl) _ _ #[.int .i64 z] rfl (by kernel_rfl) ?_
    refine (rrate_any z w).mono ?_
    rintro e V1 ⟨rfl, hb⟩
    have B0 := Lib.hid hb
    rw [hbz]
    clear hb 
    refine ⟨_, rfl, ?_⟩
    simp only [Act.put, List.setIfInBounds_toArray, List.set_cons_zero, List.set_cons_succ]
    refine wpList_run (by kernel_rfl) (.bool true) V1 rfl ?_
    simp only [Act.put, List.setIfInBounds_toArray, List.set_cons_zero, List.set_cons_succ]
    refine wpList_run (by kernel_rfl) (.bool true) V1 rfl ?_
    simp only [Act.put, List.setIfInBounds_toArray, List.set_cons_zero, List.set_cons_succ]
    refine wpList_skip (by kernel_rfl) ?_
    try simp only [Act.put, List.setIfInBounds_toArray, List.set_cons_zero, List.set_cons_succ]
    refine wpList_skip (by kernel_rfl) ?_
    try simp only [Act.put, List.setIfInBounds_toArray, List.set_cons_zero, List.set_cons_succ]
    refine wpList_skip (by kernel_rfl) ?_
    try simp only [Act.put, List.setIfInBounds_toArray, List.set_cons_zero, List.set_cons_succ]
    refine wpList_skip (by kernel_rfl) ?_
    try simp only [Act.put, List.setIfInBounds_toArray, List.set_cons_zero, List.set_cons_succ]
    refine wpList_run (by kernel_rfl) (.bool true) V1 rfl ?_
    simp only [Act.put, List.setIfInBounds_toArray, List.set_cons_zero, List.set_cons_succ]
    refine wpList_run (by kernel_rfl) (.bool true) V1 rfl ?_
    simp only [Act.put, List.setIfInBounds_toArray, List.set_cons_zero, List.set_cons_succ]
    refine wpList_skip (by kernel_rfl) ?_
    try simp only [Act.put, List.setIfInBounds_toArray, List.set_cons_zero, List.set_cons_succ]
    refine wpList_skip (by kernel_rfl) ?_
    try simp only [Act.put, List.setIfInBounds_toArray, List.set_cons_zero, List.set_cons_succ]
    refine wpList_skip (by kernel_rfl) ?_
    try simp only [Act.put, List.setIfInBounds_toArray, List.set_cons_zero, List.set_cons_succ]
    refine wpList_skip (by kernel_rfl) ?_
    try simp only [Act.put, List.setIfInBounds_toArray, List.set_cons_zero, List.set_cons_succ]
    refine wpList_run (by kernel_rfl) (.bool true) V1 rfl ?_
    simp only [Act.put, List.setIfInBounds_toArray, List.set_cons_zero, List.set_cons_succ]
    refine wpList_run (by kernel_rfl) (.bool true) V1 rfl ?_
    simp only [Act.put, List.setIfInBounds_toArray, List.set_cons_zero, List.set_cons_succ]
    refine wpList_skip (by kernel_rfl) ?_
    try simp only [Act.put, List.setIfInBounds_toArray, List.set_cons_zero, List.set_cons_succ]
    refine wpList_skip (by kernel_rfl) ?_
    try simp only [Act.put, List.setIfInBounds_toArray, List.set_cons_zero, List.set_cons_succ]
    refine wpList_skip (by kernel_rfl) ?_
    try simp only [Act.put, List.setIfInBounds_toArray, List.set_cons_zero, List.set_cons_succ]
    refine wpList_run (by kernel_rfl) (.bool true) V1 rfl ?_
    simp only [Act.put, List.setIfInBounds_toArray, List.set_cons_zero, List.set_cons_succ]
    refine wpList_nil ?_
    go_upto_region 2 with fail
    refine wp_region_lit ?_
    refine wpList_run (by kernel_rfl) (.bool false) V1 rfl ?_
    simp only [Act.put, List.setIfInBounds_toArray, List.set_cons_zero, List.set_cons_succ]
    refine wpList_run (by kernel_rfl) (.int .i64 1) V1 rfl ?_
    simp only [Act.put, List.setIfInBounds_toArray, List.set_cons_zero, List.set_cons_succ]
    refine wpList_nil ?_
    go_wp2_with fail
    go_ret2
    exact ⟨rfl, B0.out⟩
  | true =>
    obtain ⟨zn, hzn, hz2, hz16⟩ := bB_yes hbz
    subst hzn
    cases hpw : pwB n with
    | false =>
      refine wp_region_lit ?_
      refine wpList_run (by kernel_rfl) (.int .i64 (zn : Int)) w rfl ?_
      simp only [Act.put, List.setIfInBounds_toArray, List.set_cons_zero, List.set_cons_succ]
      refine wpList_call (by kernel_rfl) 40 Try.func40 (by kernel_rfl) (by kernel_rfl) _ _ #[.int .i64 (zn : Int)] rfl (by kernel_rfl) ?_
      refine (rrate_any (zn : Int) w).mono ?_
      rintro e V1 ⟨rfl, hb⟩
      have B0 := Lib.hid hb
      rw [hbz]
      clear hb 
      refine ⟨_, rfl, ?_⟩
      simp only [Act.put, List.setIfInBounds_toArray, List.set_cons_zero, List.set_cons_succ]
      refine wpList_run (by kernel_rfl) (.bool false) V1 rfl ?_
      simp only [Act.put, List.setIfInBounds_toArray, List.set_cons_zero, List.set_cons_succ]
      refine wpList_run (by kernel_rfl) (.bool false) V1 rfl ?_
      simp only [Act.put, List.setIfInBounds_toArray, List.set_cons_zero, List.set_cons_succ]
      refine wpList_run (by kernel_rfl) (.slice A n c) V1 rfl ?_
      simp only [Act.put, List.setIfInBounds_toArray, List.set_cons_zero, List.set_cons_succ]
      refine wpList_run (by kernel_rfl) (.int .i64 (n : Int)) V1 (xo_len A n c Try.underlying22 rfl rfl) ?_
      simp only [Act.put, List.setIfInBounds_toArray, List.set_cons_zero, List.set_cons_succ]
      refine wpList_call (by kernel_rfl) 41 Try.func41 (by kernel_rfl) (by kernel_rfl) _ _ #[.int .i64 (n : Int)] rfl (by kernel_rfl) ?_
      refine (rpower_any n (by omega) V1).mono ?_
      rintro e V2 ⟨rfl, hb⟩
      have B1 := Lib.hid hb
      rw [hpw]
      clear hb 
      refine ⟨_, rfl, ?_⟩
      simp only [Act.put, List.setIfInBounds_toArray, List.set_cons_zero, List.set_cons_succ]
      refine wpList_run (by kernel_rfl) (.bool true) V2 rfl ?_
      simp only [Act.put, List.setIfInBounds_toArray, List.set_cons_zero, List.set_cons_succ]
      refine wpList_run (by kernel_rfl) (.bool true) V2 rfl ?_
      simp only [Act.put, List.setIfInBounds_toArray, List.set_cons_zero, List.set_cons_succ]
      refine wpList_run (by kernel_rfl) (.bool true) V2 rfl ?_
      simp only [Act.put, List.setIfInBounds_toArray, List.set_cons_zero, List.set_cons_succ]
      refine wpList_skip (by kernel_rfl) ?_
      try simp only [Act.put, List.setIfInBounds_toArray, List.set_cons_zero, List.set_cons_succ]
      refine wpList_skip (by kernel_rfl) ?_
      try simp only [Act.put, List.setIfInBounds_toArray, List.set_cons_zero, List.set_cons_succ]
      refine wpList_skip (by kernel_rfl) ?_
      try simp only [Act.put, List.setIfInBounds_toArray, List.set_cons_zero, List.set_cons_succ]
      refine wpList_skip (by kernel_rfl) ?_
      try simp only [Act.put, List.setIfInBounds_toArray, List.set_cons_zero, List.set_cons_succ]
      refine wpList_run (by kernel_rfl) (.bool true) V2 rfl ?_
      simp only [Act.put, List.setIfInBounds_toArray, List.set_cons_zero, List.set_cons_succ]
      refine wpList_run (by kernel_rfl) (.bool true) V2 rfl ?_
      simp only [Act.put, List.setIfInBounds_toArray, List.set_cons_zero, List.set_cons_succ]
      refine wpList_skip (by kernel_rfl) ?_
      try simp only [Act.put, List.setIfInBounds_toArray, List.set_cons_zero, List.set_cons_succ]
      refine wpList_skip (by kernel_rfl) ?_
      try simp only [Act.put, List.setIfInBounds_toArray, List.set_cons_zero, List.set_cons_succ]
      refine wpList_skip (by kernel_rfl) ?_
      try simp only [Act.put, List.setIfInBounds_toArray, List.set_cons_zero, List.set_cons_succ]
      refine wpList_run (by kernel_rfl) (.bool true) V2 rfl ?_
      simp only [Act.put, List.setIfInBounds_toArray, List.set_cons_zero, List.set_cons_succ]
      refine wpList_nil ?_
      go_upto_region 2 with fail
      refine wp_region_lit ?_
      refine wpList_run (by kernel_rfl) (.bool false) V2 rfl ?_
      simp only [Act.put, List.setIfInBounds_toArray, List.set_cons_zero, List.set_cons_succ]
      refine wpList_run (by kernel_rfl) (.int .i64 1) V2 rfl ?_
      simp only [Act.put, List.setIfInBounds_toArray, List.set_cons_zero, List.set_cons_succ]
      refine wpList_nil ?_
      go_wp2_with fail
      go_ret2
      have C0_2 := Lib.hid (bel_step B0.out B1.out)
      exact ⟨rfl, C0_2.out⟩
    | true =>
      by_cases hlz : n < zn
      · have hci0 : ((n : Int) < (zn : Int)) := by omega
        refine wp_region_lit ?_
        refine wpList_run (by kernel_rfl) (.int .i64 (zn : Int)) w rfl ?_
        simp only [Act.put, List.setIfInBounds_toArray, List.set_cons_zero, List.set_cons_succ]
        refine wpList_call (by kernel_rfl) 40 Try.func40 (by kernel_rfl) (by kernel_rfl) _ _ #[.int .i64 (zn : Int)] rfl (by kernel_rfl) ?_
        refine (rrate_any (zn : Int) w).mono ?_
        rintro e V1 ⟨rfl, hb⟩
        have B0 := Lib.hid hb
        rw [hbz]
        clear hb 
        refine ⟨_, rfl, ?_⟩
        simp only [Act.put, List.setIfInBounds_toArray, List.set_cons_zero, List.set_cons_succ]
        refine wpList_run (by kernel_rfl) (.bool false) V1 rfl ?_
        simp only [Act.put, List.setIfInBounds_toArray, List.set_cons_zero, List.set_cons_succ]
        refine wpList_run (by kernel_rfl) (.bool false) V1 rfl ?_
        simp only [Act.put, List.setIfInBounds_toArray, List.set_cons_zero, List.set_cons_succ]
        refine wpList_run (by kernel_rfl) (.slice A n c) V1 rfl ?_
        simp only [Act.put, List.setIfInBounds_toArray, List.set_cons_zero, List.set_cons_succ]
        refine wpList_run (by kernel_rfl) (.int .i64 (n : Int)) V1 (xo_len A n c Try.underlying22 rfl rfl) ?_
        simp only [Act.put, List.setIfInBounds_toArray, List.set_cons_zero, List.set_cons_succ]
        refine wpList_call (by kernel_rfl) 41 Try.func41 (by kernel_rfl) (by kernel_rfl) _ _ #[.int .i64 (n : Int)] rfl (by kernel_rfl) ?_
        refine (rpower_any n (by omega) V1).mono ?_
        rintro e V2 ⟨rfl, hb⟩
        have B1 := Lib.hid hb
        rw [hpw]
        clear hb 
        refine ⟨_, rfl, ?_⟩
        simp only [Act.put, List.setIfInBounds_toArray, List.set_cons_zero, List.set_cons_succ]
        refine wpList_run (by kernel_rfl) (.bool false) V2 rfl ?_
        simp only [Act.put, List.setIfInBounds_toArray, List.set_cons_zero, List.set_cons_succ]
        refine wpList_run (by kernel_rfl) (.bool false) V2 rfl ?_
        simp only [Act.put, List.setIfInBounds_toArray, List.set_cons_zero, List.set_cons_succ]
        refine wpList_run (by kernel_rfl) (.bool false) V2 rfl ?_
        simp only [Act.put, List.setIfInBounds_toArray, List.set_cons_zero, List.set_cons_succ]
        refine wpList_run (by kernel_rfl) (.slice A n c) V2 rfl ?_
        simp only [Act.put, List.setIfInBounds_toArray, List.set_cons_zero, List.set_cons_succ]
        refine wpList_run (by kernel_rfl) (.int .i64 (n : Int)) V2 (xo_len A n c Try.underlying22 rfl rfl) ?_
        simp only [Act.put, List.setIfInBounds_toArray, List.set_cons_zero, List.set_cons_succ]
        refine wpList_run (by kernel_rfl) (.int .i64 (zn : Int)) V2 rfl ?_
        simp only [Act.put, List.setIfInBounds_toArray, List.set_cons_zero, List.set_cons_succ]
        refine wpList_run (by kernel_rfl) (.bool true) V2 (xo_lssT .i64 (n : Int) (zn : Int) (by omega) rfl rfl rfl) ?_
        simp only [Act.put, List.setIfInBounds_toArray, List.set_cons_zero, List.set_cons_succ]
        refine wpList_run (by kernel_rfl) (.bool true) V2 rfl ?_
        simp only [Act.put, List.setIfInBounds_toArray, List.set_cons_zero, List.set_cons_succ]
        refine wpList_run (by kernel_rfl) (.bool true) V2 rfl ?_
        simp only [Act.put, List.setIfInBounds_toArray, List.set_cons_zero, List.set_cons_succ]
        refine wpList_skip (by kernel_rfl) ?_
        try simp only [Act.put, List.setIfInBounds_toArray, List.set_cons_zero, List.set_cons_succ]
        refine wpList_skip (by kernel_rfl) ?_
        try simp only [Act.put, List.setIfInBounds_toArray, List.set_cons_zero, List.set_cons_succ]
        refine wpList_skip (by kernel_rfl) ?_
        try simp only [Act.put, List.setIfInBounds_toArray, List.set_cons_zero, List.set_cons_succ]
        refine wpList_run (by kernel_rfl) (.bool true) V2 rfl ?_
        simp only [Act.put, List.setIfInBounds_toArray, List.set_cons_zero, List.set_cons_succ]
        refine wpList_nil ?_
        go_upto_region 2 with fail
        refine wp_region_lit ?_
        refine wpList_run (by kernel_rfl) (.bool false) V2 rfl ?_
        simp only [Act.put, List.setIfInBounds_toArray, List.set_cons_zero, List.set_cons_succ]
        refine wpList_run (by kernel_rfl) (.int .i64 1) V2 rfl ?_
        simp only [Act.put, List.setIfInBounds_toArray, List.set_cons_zero, List.set_cons_succ]
        refine wpList_nil ?_
        go_wp2_with fail
        go_ret2
        have C0_2 := Lib.hid (bel_step B0.out B1.out)
        exact ⟨rfl, C0_2.out⟩
      · have hci0 : ¬ ((n : Int) < (zn : Int)) := by omega
        have hbig : 65536 < n := wB_big hbz hpw hr (by omega)
        have hci1 : ((n : Int) > 65536) := by omega
        refine wp_region_lit ?_
        refine wpList_run (by kernel_rfl) (.int .i64 (zn : Int)) w rfl ?_
        simp only [Act.put, List.setIfInBounds_toArray, List.set_cons_zero, List.set_cons_succ]
        refine wpList_call (by kernel_rfl) 40 Try.func40 (by kernel_rfl) (by kernel_rfl) _ _ #[.int .i64 (zn : Int)] rfl (by kernel_rfl) ?_
        refine (rrate_any (zn : Int) w).mono ?_
        rintro e V1 ⟨rfl, hb⟩
        have B0 := Lib.hid hb
        rw [hbz]
        clear hb 
        refine ⟨_, rfl, ?_⟩
        simp only [Act.put, List.setIfInBounds_toArray, List.set_cons_zero, List.set_cons_succ]
        refine wpList_run (by kernel_rfl) (.bool false) V1 rfl ?_
        simp only [Act.put, List.setIfInBounds_toArray, List.set_cons_zero, List.set_cons_succ]
        refine wpList_run (by kernel_rfl) (.bool false) V1 rfl ?_
        simp only [Act.put, List.setIfInBounds_toArray, List.set_cons_zero, List.set_cons_succ]
        refine wpList_run (by kernel_rfl) (.slice A n c) V1 rfl ?_
        simp only [Act.put, List.setIfInBounds_toArray, List.set_cons_zero, List.set_cons_succ]
        refine wpList_run (by kernel_rfl) (.int .i64 (n : Int)) V1 (xo_len A n c Try.underlying22 rfl rfl) ?_
        simp only [Act.put, List.setIfInBounds_toArray, List.set_cons_zero, List.set_cons_succ]
        refine wpList_call (by kernel_rfl) 41 Try.func41 (by kernel_rfl) (by kernel_rfl) _ _ #[.int .i64 (n : Int)] rfl (by kernel_rfl) ?_
        refine (rpower_any n (by omega) V1).mono ?_
        rintro e V2 ⟨rfl, hb⟩
        have B1 := Lib.hid hb
        rw [hpw]
        clear hb 
        refine ⟨_, rfl, ?_⟩
        simp only [Act.put, List.setIfInBounds_toArray, List.set_cons_zero, List.set_cons_succ]
        refine wpList_run (by kernel_rfl) (.bool false) V2 rfl ?_
        simp only [Act.put, List.setIfInBounds_toArray, List.set_cons_zero, List.set_cons_succ]
        refine wpList_run (by kernel_rfl) (.bool false) V2 rfl ?_
        simp only [Act.put, List.setIfInBounds_toArray, List.set_cons_zero, List.set_cons_succ]
        refine wpList_run (by kernel_rfl) (.bool false) V2 rfl ?_
        simp only [Act.put, List.setIfInBounds_toArray, List.set_cons_zero, List.set_cons_succ]
        refine wpList_run (by kernel_rfl) (.slice A n c) V2 rfl ?_
        simp only [Act.put, List.setIfInBounds_toArray, List.set_cons_zero, List.set_cons_succ]
        refine wpList_run (by kernel_rfl) (.int .i64 (n : Int)) V2 (xo_len A n c Try.underlying22 rfl rfl) ?_
        simp only [Act.put, List.setIfInBounds_toArray, List.set_cons_zero, List.set_cons_succ]
        refine wpList_run (by kernel_rfl) (.int .i64 (zn : Int)) V2 rfl ?_
        simp only [Act.put, List.setIfInBounds_toArray, List.set_cons_zero, List.set_cons_succ]
        refine wpList_run (by kernel_rfl) (.bool false) V2 (xo_lssF .i64 (n : Int) (zn : Int) (by omega) rfl rfl rfl) ?_
        simp only [Act.put, List.setIfInBounds_toArray, List.set_cons_zero, List.set_cons_succ]
        refine wpList_run (by kernel_rfl) (.bool false) V2 rfl ?_
        simp only [Act.put, List.setIfInBounds_toArray, List.set_cons_zero, List.set_cons_succ]
        refine wpList_run (by kernel_rfl) (.bool false) V2 rfl ?_
        simp only [Act.put, List.setIfInBounds_toArray, List.set_cons_zero, List.set_cons_succ]
        refine wpList_run (by kernel_rfl) (.slice A n c) V2 rfl ?_
        simp only [Act.put, List.setIfInBounds_toArray, List.set_cons_zero, List.set_cons_succ]
        refine wpList_run (by kernel_rfl) (.int .i64 (n : Int)) V2 (xo_len A n c Try.underlying22 rfl rfl) ?_
        simp only [Act.put, List.setIfInBounds_toArray, List.set_cons_zero, List.set_cons_succ]
        refine wpList_run (by kernel_rfl) (.bool true) V2 (xo_gtrT .i64 (n : Int) 65536 (by omega) rfl rfl rfl) ?_
        simp only [Act.put, List.setIfInBounds_toArray, List.set_cons_zero, List.set_cons_succ]
        refine wpList_run (by kernel_rfl) (.bool true) V2 rfl ?_
        simp only [Act.put, List.setIfInBounds_toArray, List.set_cons_zero, List.set_cons_succ]
        refine wpList_nil ?_
        go_upto_region 2 with fail
        refine wp_region_lit ?_
        refine wpList_run (by kernel_rfl) (.bool false) V2 rfl ?_
        simp only [Act.put, List.setIfInBounds_toArray, List.set_cons_zero, List.set_cons_succ]
        refine wpList_run (by kernel_rfl) (.int .i64 1) V2 rfl ?_
        simp only [Act.put, List.setIfInBounds_toArray, List.set_cons_zero, List.set_cons_succ]
        refine wpList_nil ?_
        go_wp2_with fail
        go_ret2
        have C0_2 := Lib.hid (bel_step B0.out B1.out)
        exact ⟨rfl, C0_2.out⟩
end Go.Proofs.Ytkefijogpiofbaa

