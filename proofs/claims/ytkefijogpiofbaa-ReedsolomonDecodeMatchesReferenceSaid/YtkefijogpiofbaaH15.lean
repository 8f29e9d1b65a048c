/- Several texts in one: Ub9, Sw9, Swx. -/
import Derived.Test.YtkefijogpiofbaaH14
import Derived.Test.YtkefijogpiofbaaRows
import Derived.ProofKit
import Derived.OpenShut
import Derived.ChangeOld
import Derived.ChangeSlices
import Derived.Below
import Derived.Lib.SmallJoins
import Derived.Deep.Slices
import Derived.Test.YtkefijogpiofbaaH03
import Derived.Test.YtkefijogpiofbaaH06
namespace Go.Proofs.Ytkefijogpiofbaa
set_option linter.unusedVariables false
set_option linter.unusedSimpArgs false
set_option linter.unusedSectionVars false
set_option maxRecDepth 8000
open Go.RowKit Go.Proofs.Ytkefijogpiofbaa.K
attribute [local irreducible] wpList wpQuiet
section
variable {α : Type}
/-- f's first i values, the others d -/
def fiG (d : α) (f : Nat → α) (n i : Nat) : List α := (List.range n).map fun j => if j < i then f j else d
theorem fiG_length (d : α) (f : Nat → α) (n i : Nat) : (fiG d f n i).length = n := by simp [fiG]
theorem fiG_get (d : α) (f : Nat → α) {n i j : Nat} (h : j < n) : (fiG d f n i)[j]? = some (if j < i then f j else d) := by simp [fiG, h]
theorem fiG_at (d : α) (f : Nat → α) {n i : Nat} (h : i < n) : (fiG d f n i)[i]? = some d := by rw [fiG_get d f h, if_neg (Nat.lt_irrefl _)]
theorem fiG_zero (d : α) (f : Nat → α) (n : Nat) : fiG d f n 0 = List.replicate n d := by
  refine List.ext_getElem? fun j => ?_
  by_cases h : j < n
  · rw [fiG_get d f h, if_neg (Nat.not_lt_zero _), List.getElem?_replicate, if_pos h]
  · rw [List.getElem?_eq_none (by rw [fiG_length]; omega), List.getElem?_eq_none (by rw [List.length_replicate]; omega)]
theorem fiG_set (d : α) (f : Nat → α) {n i : Nat} (x : α) (h : i < n) (hx : f i = x) : (fiG d f n i).set i x = fiG d f n (i + 1) := by
  refine List.ext_getElem? fun j => ?_
  by_cases h : j < n
  · rw [List.getElem?_set, fiG_length, fiG_get d f h, fiG_get d f h]
    by_cases e : i = j
    · subst e
      rw [if_pos rfl, if_pos h, if_pos (Nat.lt_succ_self _), hx]
    · rw [if_neg e]
      by_cases hl : j < i
      · rw [if_pos hl, if_pos (by omega)]
      · rw [if_neg hl, if_neg (by omega)]
  · rw [List.getElem?_eq_none (by rw [List.length_set, fiG_length]; omega), List.getElem?_eq_none (by rw [fiG_length]; omega)]
theorem fiG_all (d : α) (f : Nat → α) (n : Nat) : fiG d f n n = (List.range n).map f := List.map_congr_left fun j hj => if_pos (List.mem_range.1 hj)
end
theorem fiG_cf (d : Gold.F) (ys : List Gold.F) {n : Nat} (h : ys.length = n) : fiG d (Gold.cfF ys) n n = ys := by rw [fiG_all]; exact Gold.tbF_cfF h
theorem fiG_cwX (xs : List Gold.E2) {N M : Nat} (h : N = 2 ^ M) : fiG Gold.E2.zero (fun j => Gold.E2.mk (Gold.cfF (Gold.cwF (xs.map Gold.E2.A) M) j) (Gold.cfF (Gold.cwF (xs.map Gold.E2.B) M) j)) N N = Gold.cwX xs M := by
  refine List.ext_getElem? fun j => ?_
  by_cases hj : j < N
  · rw [fiG_get _ _ hj, if_pos hj, Gold.cwX_parts xs M j (by omega)]
  · rw [List.getElem?_eq_none (by rw [fiG_length]; omega), List.getElem?_eq_none (by rw [Gold.cwX_length]; omega)]
set_option maxRecDepth 100000 in
set_option maxHeartbeats 16000000 in
theorem encodeExtN (A : Option Addr) (n c : Nat) (xs : List Gold.E2) (z K L N M : Nat) (hn : n = 2 ^ K) (hz : z = 2 ^ L) (hL1 : 1 ≤ L) (hL4 : L ≤ 4) (hKL : K + L = M) (hM : M ≤ 16) (hN : N = 2 ^ M) (w : World) (hX : Sg exC 2 w A n c xs) :
    Calls Try.prog 11 #[.slice A n c, .int .i64 (z : Int)] w fun e w' => ∃ g, e = .returned (.tuple #[.slice (some ⟨g, 0, none⟩) N N, .int .i64 0]) ∧ Sg exC 2 w' (some ⟨g, 0, none⟩) N N (Gold.cwX xs M) ∧ Below w.heap.size w w' := by
  have HX := Lib.hid hX
  have hxl := hX.len
  have hcp := hX.cap
  have htp := hX.top
  clear hX
  have hn65 : n ≤ 65536 := by rw [hn]; exact Gold.pow2_le (by omega)
  have hr := rB_pow (K := K) (L := L) hL1 hL4 (by omega)
  rw [← hn, ← hz] at hr
  have HR := Lib.hid hr
  have hz16 : z ≤ 16 := by rw [hz]; exact Nat.pow_le_pow_right (n := 2) (by omega) hL4
  have hNN65 : N ≤ 65536 := by rw [hN]; exact Gold.pow2_le hM
  have hzn : z * n = N := by rw [hz, hn, hN, ← hKL, Nat.pow_add, Nat.mul_comm]
  have HN := Lib.hid hn
  have HZ := Lib.hid hz
  have HNN := Lib.hid hN
  clear hr hn hz hN
  go_enter Try.func11, Try.ntmps11
  go_upto_region 1 with fail
  refine wp_region_lit ?_
  refine wpList_run (by kernel_rfl) (.slice A n c) w rfl ?_
  simp only [Act.put, List.setIfInBounds_toArray, List.set_cons_zero, List.set_cons_succ]
  refine wpList_run (by kernel_rfl) (.int .i64 (n : Int)) w (xo_len A n c Try.underlying28 rfl rfl) ?_
  simp only [Act.put, List.setIfInBounds_toArray, List.set_cons_zero, List.set_cons_succ]
  refine wpList_run (by kernel_rfl) (.int .i64 (z : Int)) w rfl ?_
  simp only [Act.put, List.setIfInBounds_toArray, List.set_cons_zero, List.set_cons_succ]
  refine wpList_call (by kernel_rfl) 38 Try.func38 (by kernel_rfl) (by kernel_rfl) _ _ #[.int .i64 (n : Int), .int .i64 (z : Int)] rfl (by kernel_rfl) ?_
  refine (isRow_any n (z : Int) (by omega) w).mono ?_
  rintro e V1 ⟨rfl, hb⟩
  have B0 := Lib.hid hb
  rw [HR.out]
  clear hb 
  refine ⟨_, rfl, ?_⟩
  simp only [Act.put, List.setIfInBounds_toArray, List.set_cons_zero, List.set_cons_succ]
  refine wpList_run (by kernel_rfl) (.bool false) V1 rfl ?_
  simp only [Act.put, List.setIfInBounds_toArray, List.set_cons_zero, List.set_cons_succ]
  refine wpList_nil ?_
  go_upto_region 3 with fail
  refine wp_region_lit ?_
  refine wpList_run (by kernel_rfl) (.slice A n c) V1 rfl ?_
  simp only [Act.put, List.setIfInBounds_toArray, List.set_cons_zero, List.set_cons_succ]
  refine wpList_run (by kernel_rfl) (.int .i64 (n : Int)) V1 (xo_len A n c Try.underlying28 rfl rfl) ?_
  simp only [Act.put, List.setIfInBounds_toArray, List.set_cons_zero, List.set_cons_succ]
  refine wpList_run (by kernel_rfl) (.int .i64 (n : Int)) V1 rfl ?_
  simp only [Act.put, List.setIfInBounds_toArray, List.set_cons_zero, List.set_cons_succ]
  refine wpList_nil ?_
  go_upto_region 4 with fail
  try simp only [List.append_eq, List.cons_append, List.nil_append]
  refine wp_ordX (.q 0 (.q 2 (.fork 1 (.q 4 (.one 3 (.q 5 .nil))) 3 (.one 1 (.q 4 (.q 5 .nil)))))) (by kernel_rfl) (by kernel_rfl) (fun _ _ dt _ _ h => by first | exact h.elim | (cases dt <;> exact h)) (by kernel_rfl) (by kernel_rfl) (fun V2 hb => ?_)
  have B1 := Lib.hid hb
  clear hb
  refine wpX_q (.int .i64 (n : Int)) rfl (by kernel_rfl) (fun v hW => rfl) ?_
  simp only [ptr, Act.put, List.setIfInBounds_toArray, List.set_cons_zero, List.set_cons_succ]
  refine wpX_q (.int .i64 (n : Int)) rfl (by kernel_rfl) (fun v hW => rfl) ?_
  simp only [ptr, Act.put, List.setIfInBounds_toArray, List.set_cons_zero, List.set_cons_succ]
  refine wpX_fork ?_ ?_
  · refine wpX_one rfl (by kernel_rfl) ?_
    refine hOp_mk ((List.replicate n (0 : Gold.F)).flatMap feC).toArray 29 n n (xg_make (E := feC) (bytes := 8) (.int .u64 0) (0 : Gold.F) n .i64 Try.underlying22 (by kernel_rfl) rfl (by omega) (by omega) rfl rfl rfl) ?_
    intro g21 V3 hge h0 hb
    have Ge0 : Hid (V2.heap.size ≤ g21) := Lib.hid hge
    have B2 := Lib.hid hb
    have Fv1_21 : Hid (RowG feC V3 g21 29 (List.replicate n (0 : Gold.F))) := Lib.hid (h0)
    have Lt2 : Hid (g21 < V3.heap.size) := Lib.hid (xp_lt Fv1_21.out)
    clear hge h0 hb
    refine ⟨B2.out, ?_⟩
    simp only [ptr, Act.put, List.setIfInBounds_toArray, List.set_cons_zero, List.set_cons_succ]
    refine wpX_q (.slice (some ⟨g21, 0, none⟩) n n) rfl (by kernel_rfl) (fun v hW => rfl) ?_
    simp only [ptr, Act.put, List.setIfInBounds_toArray, List.set_cons_zero, List.set_cons_succ]
    refine wpX_one rfl (by kernel_rfl) ?_
    refine hOp_mk ((List.replicate n (0 : Gold.F)).flatMap feC).toArray 29 n n (xg_make (E := feC) (bytes := 8) (.int .u64 0) (0 : Gold.F) n .i64 Try.underlying22 (by kernel_rfl) rfl (by omega) (by omega) rfl rfl rfl) ?_
    intro g23 V4 hge h0 hb
    have N3_0 : Hid (g21 ≠ g23) := Lib.hid (xp_lt0 Fv1_21.out hge)
    have Ge4 : Hid (V3.heap.size ≤ g23) := Lib.hid hge
    have B3 := Lib.hid hb
    have Fv5_23 : Hid (RowG feC V4 g23 29 (List.replicate n (0 : Gold.F))) := Lib.hid (h0)
    have Lt6 : Hid (g23 < V4.heap.size) := Lib.hid (xp_lt Fv5_23.out)
    clear hge h0 hb
    refine ⟨B3.out, ?_⟩
    simp only [ptr, Act.put, List.setIfInBounds_toArray, List.set_cons_zero, List.set_cons_succ]
    refine wpX_q (.slice (some ⟨g23, 0, none⟩) n n) rfl (by kernel_rfl) (fun v hW => rfl) ?_
    simp only [ptr, Act.put, List.setIfInBounds_toArray, List.set_cons_zero, List.set_cons_succ]
    refine wpX_nil ?_
    rw [← fiG_zero (0 : Gold.F) (Gold.cfF (xs.map Gold.E2.A)) n] at Fv1_21
    rw [← fiG_zero (0 : Gold.F) (Gold.cfF (xs.map Gold.E2.B)) n] at Fv5_23
    go_upto_region 5 with fail
    refine wp_region_lit ?_
    refine wpList_run (by kernel_rfl) (.slice A n c) V4 rfl ?_
    simp only [Act.put, List.setIfInBounds_toArray, List.set_cons_zero, List.set_cons_succ]
    refine wpList_run (by kernel_rfl) (.int .i64 (n : Int)) V4 (xo_len A n c Try.underlying28 rfl rfl) ?_
    simp only [Act.put, List.setIfInBounds_toArray, List.set_cons_zero, List.set_cons_succ]
    refine wpList_run (by kernel_rfl) (.int .i64 0) V4 rfl ?_
    simp only [Act.put, List.setIfInBounds_toArray, List.set_cons_zero, List.set_cons_succ]
    refine wpList_nil ?_
    have O7 := (Fv1_21.out.keep B3.out)
    have O8 := Fv5_23.out
    have C0_2 := Lib.hid (bel_step B0.out B1.out)
    have C0_3 := Lib.hid (bel_step C0_2.out B2.out)
    have C0_4 := Lib.hid (bel_step C0_3.out B3.out)
    have O9 := C0_4.out
    have Gr10 : Hid (w.heap.size ≤ g21) := Lib.hid (Nat.le_trans C0_2.out.size Ge0.out)
    have Gr11 : Hid (w.heap.size ≤ g23) := Lib.hid (Nat.le_trans C0_3.out.size Ge4.out)
    go_wp2_with fail
    go_loopw [26] (fun p wr => ∃ i : Nat, i ≤ n ∧ p = .int .i64 i ∧ RowG feC wr g21 29 (fiG (0 : Gold.F) (Gold.cfF (xs.map Gold.E2.A)) n i) ∧ RowG feC wr g23 29 (fiG (0 : Gold.F) (Gold.cfF (xs.map Gold.E2.B)) n i) ∧ Below w.heap.size w wr) (fun p _ => n - (intOf p).toNat)
    case atStart => exact ⟨0, Nat.zero_le _, rfl, O7, O8, O9⟩
    case round =>
      clear O7 O8 O9
      obtain ⟨wo, rfl⟩ : ∃ wo : World, wo = wr := ⟨_, rfl⟩
      obtain ⟨i, hi, rfl, hr0, hr1, hb0⟩ := hrel
      have hbr := hb0
      clear B0
      have B0 := Lib.hid hbr
      clear hbr
      clear Fv1_21
      have Fv1_21 : Hid (RowG feC wo g21 29 (fiG (0 : Gold.F) (Gold.cfF (xs.map Gold.E2.A)) n i)) := Lib.hid (hr0)
      clear Fv5_23
      have Fv5_23 : Hid (RowG feC wo g23 29 (fiG (0 : Gold.F) (Gold.cfF (xs.map Gold.E2.B)) n i)) := Lib.hid (hr1)
      clear hb0 hr0 hr1
      by_cases hi1 : i < n
      · have hci13 : ((i : Int) < (n : Int)) := by omega
        go_upto_region 6 with fail
        refine wp_region_lit ?_
        refine wpList_run (by kernel_rfl) (.bool true) wo (xo_lssT .i64 (i : Int) (n : Int) (by omega) rfl rfl rfl) ?_
        simp only [Act.put, List.setIfInBounds_toArray, List.set_cons_zero, List.set_cons_succ]
        refine wpList_nil ?_
        obtain ⟨x, hx⟩ : ∃ x, xs[i]? = some x := ⟨_, List.getElem?_eq_getElem (by omega)⟩
        have HEx := Lib.hid hx
        clear hx
        go_upto_region 7 with fail
        refine wp_region_lit ?_
        refine wpList_run (by kernel_rfl) (.int .i64 (i : Int)) wo rfl ?_
        simp only [Act.put, List.setIfInBounds_toArray, List.set_cons_zero, List.set_cons_succ]
        refine wpList_run (by kernel_rfl) (.pointer (some (gad A (i * 2)))) wo (xg_idx .i64 (HX.out.keep B0.out) HEx.out Try.underlying28 (by kernel_rfl) rfl rfl rfl) ?_
        simp only [Act.put, List.setIfInBounds_toArray, List.set_cons_zero, List.set_cons_succ]
        refine wpList_run (by kernel_rfl) (.agg #[.int .u64 (Gold.vF x.A), .int .u64 (Gold.vF x.B)]) wo (xg_loadE (E := exC) (HX.out.keep B0.out) HEx.out Try.underlying31 rfl (by kernel_rfl) rfl rfl) ?_
        simp only [Act.put, List.setIfInBounds_toArray, List.set_cons_zero, List.set_cons_succ]
        refine wpList_new #[.int .u64 0, .int .u64 0] 31 (by kernel_rfl) (xo_alloc #[.int .u64 0, .int .u64 0] (by kernel_rfl) rfl) ?_
        intro b10 V2 hge h0 hb
        have N14_0 : Hid (g21 ≠ b10) := Lib.hid (xp_lt0 Fv1_21.out hge)
        have N15_1 : Hid (g23 ≠ b10) := Lib.hid (xp_lt0 Fv5_23.out hge)
        have Ge16 : Hid (wo.heap.size ≤ b10) := Lib.hid hge
        have B1 := Lib.hid hb
        have Fv17_10 : Hid (V2.heap[b10]? = some (.cells #[.int .u64 0, .int .u64 0] 31 (0, 0))) := Lib.hid (h0)
        have Lt18 : Hid (b10 < V2.heap.size) := Lib.hid (xp_lt Fv17_10.out)
        clear hge h0 hb
        simp only [ptr, Act.put, List.setIfInBounds_toArray, List.set_cons_zero, List.set_cons_succ]
        refine wpList_run (by kernel_rfl) (.int .i64 (i : Int)) V2 rfl ?_
        simp only [Act.put, List.setIfInBounds_toArray, List.set_cons_zero, List.set_cons_succ]
        refine wpList_storeW b10 #[.int .u64 0, .int .u64 0] #[.int .u64 (Gold.vF x.A), .int .u64 (Gold.vF x.B)] 31 (by kernel_rfl) Fv17_10.out (xo_storeW b10 #[.int .u64 0, .int .u64 0] #[.int .u64 (Gold.vF x.A), .int .u64 (Gold.vF x.B)] Fv17_10.out (by kernel_rfl) rfl (by simp [Value.oneCell']) rfl rfl rfl) ?_
        intro X2_19 h1 hfar hbel hsz
        have hbr := hbel _ _ Ge16.out B1.out
        clear B1
        have B1 := Lib.hid hbr
        clear hbr
        clear Fv17_10
        have Fv17_10 : Hid (X2_19.heap[b10]? = some (.cells #[.int .u64 (Gold.vF x.A), .int .u64 (Gold.vF x.B)] 31 (0, 0))) := Lib.hid (h1)
        have HszX2_19 := Lib.hid hsz
        clear h1 hfar hbel hsz
        simp only [ptr, Act.put, List.setIfInBounds_toArray, List.set_cons_zero, List.set_cons_succ]
        refine wpList_nil ?_
        have C0_2 := Lib.hid (bel_step B0.out B1.out)
        have hS0a := C0_2.out
        have hS0b := Fv17_10.out
        go_upto_region 8 with fail
        try simp only [List.append_eq, List.cons_append, List.nil_append]
        refine wp_ordT (fun W => Below w.heap.size w W ∧ W.heap[b10]? = some (.cells #[.int .u64 (Gold.vF x.A), .int .u64 (Gold.vF x.B)] 31 (0, 0))) (.q 0 (.q 1 (.q 2 (.q 3 (.q 4 (.q 5 (.q 6 (.q 7 (.q 8 (.one 9 (.one 10 (.one 11 .nil)))))))))))) (by kernel_rfl) (by kernel_rfl) (fun _ _ dt _ _ h => by first | exact h.elim | (cases dt <;> exact h)) (by kernel_rfl) (by kernel_rfl) ⟨hS0a.drew, hS0b⟩ ?_
        have hb : Below X2_19.heap.size X2_19 X2_19.drew := (Below.refl _ _).drew
        generalize X2_19.drew = V3 at hb ⊢
        have B2 := Lib.hid hb
        clear hb
        refine wpOT_q (.slice (some ⟨g21, 0, none⟩) n n) rfl (by kernel_rfl) (fun v hW => rfl) ?_
        simp only [ptr, Act.put, List.setIfInBounds_toArray, List.set_cons_zero, List.set_cons_succ]
        refine wpOT_q (.int .i64 (i : Int)) rfl (by kernel_rfl) (fun v hW => rfl) ?_
        simp only [ptr, Act.put, List.setIfInBounds_toArray, List.set_cons_zero, List.set_cons_succ]
        refine wpOT_q (.slice (some ⟨g23, 0, none⟩) n n) rfl (by kernel_rfl) (fun v hW => rfl) ?_
        simp only [ptr, Act.put, List.setIfInBounds_toArray, List.set_cons_zero, List.set_cons_succ]
        refine wpOT_q (.int .i64 (i : Int)) rfl (by kernel_rfl) (fun v hW => rfl) ?_
        simp only [ptr, Act.put, List.setIfInBounds_toArray, List.set_cons_zero, List.set_cons_succ]
        refine wpOT_q (.pointer (some ⟨b10, 0, none⟩)) rfl (by kernel_rfl) (fun v hW => (xo_fld0 0 b10 0 (by kernel_rfl) rfl rfl)) ?_
        simp only [ptr, Act.put, List.setIfInBounds_toArray, List.set_cons_zero, List.set_cons_succ]
        refine wpOT_q (.int .u64 (Gold.vF x.A)) rfl (by kernel_rfl) (fun v hW => (xo_load1 ⟨b10, 0, none⟩ _ (cells_at hW.2 0 rfl) Try.underlying29 rfl rfl rfl)) ?_
        simp only [ptr, Act.put, List.setIfInBounds_toArray, List.set_cons_zero, List.set_cons_succ]
        refine wpOT_q (.pointer (some ⟨b10, 1, none⟩)) rfl (by kernel_rfl) (fun v hW => (xo_fld0 1 b10 1 (by kernel_rfl) rfl rfl)) ?_
        simp only [ptr, Act.put, List.setIfInBounds_toArray, List.set_cons_zero, List.set_cons_succ]
        refine wpOT_q (.int .u64 (Gold.vF x.B)) rfl (by kernel_rfl) (fun v hW => (xo_load1 ⟨b10, 1, none⟩ _ (cells_at hW.2 1 rfl) Try.underlying29 rfl rfl rfl)) ?_
        simp only [ptr, Act.put, List.setIfInBounds_toArray, List.set_cons_zero, List.set_cons_succ]
        refine wpOT_q (.pointer (some (gad (some ⟨g21, 0, none⟩) (i * 1)))) rfl (by kernel_rfl) (fun v hW => (xo_index .i64 ⟨g21, 0, none⟩ n n i 1 (by omega) Try.underlying22 (by kernel_rfl) rfl rfl rfl)) ?_
        simp only [ptr, Act.put, List.setIfInBounds_toArray, List.set_cons_zero, List.set_cons_succ]
        refine wpOT_one rfl (by kernel_rfl) ?_
        have C1_3 := Lib.hid (bel_step B1.out B2.out)
        refine hOp_storeW g21 _ _ 29 (RowG.h (Fv1_21.out.keep C1_3.out)) (xg_store (Fv1_21.out.keep C1_3.out) (List.getElem?_eq_some_iff.1 (fiG_at (0 : Gold.F) (Gold.cfF (xs.map Gold.E2.A)) hi1)).1 x.A (by kernel_rfl) rfl rfl rfl) ?_
        intro X3_20 h1 hfar hbel hsz
        have YFv5_23 : RowG feC X3_20 g23 29 (fiG (0 : Gold.F) (Gold.cfF (xs.map Gold.E2.B)) n i) := hfar _ _ (Ne.symm N3_0.out) (Fv5_23.out.keep C1_3.out)
        have YFv17_10 : X3_20.heap[b10]? = some (.cells #[.int .u64 (Gold.vF x.A), .int .u64 (Gold.vF x.B)] 31 (0, 0)) := hfar _ _ (Ne.symm N14_0.out) (heap_keep Fv17_10.out B2.out)
        have Gs21 : Hid (w.heap.size ≤ b10) := Lib.hid (Nat.le_trans B0.out.size Ge16.out)
        have C0_3 := Lib.hid (bel_step C0_2.out B2.out)
        have hbr := hbel _ _ Gr10.out C0_3.out
        clear B0
        have B0 := Lib.hid hbr
        clear hbr
        clear Fv5_23
        have Fv5_23 : Hid (RowG feC X3_20 g23 29 (fiG (0 : Gold.F) (Gold.cfF (xs.map Gold.E2.B)) n i)) := Lib.hid YFv5_23
        clear YFv5_23
        clear Fv17_10
        have Fv17_10 : Hid (X3_20.heap[b10]? = some (.cells #[.int .u64 (Gold.vF x.A), .int .u64 (Gold.vF x.B)] 31 (0, 0))) := Lib.hid YFv17_10
        clear YFv17_10
        clear Fv1_21
        have Fv1_21 : Hid (RowG feC X3_20 g21 29 ((fiG (0 : Gold.F) (Gold.cfF (xs.map Gold.E2.A)) n i).set i x.A)) := Lib.hid (h1)
        have HszX3_20 := Lib.hid hsz
        clear h1 hfar hbel hsz
        simp only [ptr, Act.put, List.setIfInBounds_toArray, List.set_cons_zero, List.set_cons_succ]
        refine ⟨⟨B0.out, Fv17_10.out⟩, ?_⟩
        try simp only [ptr, Act.put, List.setIfInBounds_toArray, List.set_cons_zero, List.set_cons_succ]
        refine wpOT_one rfl (by kernel_rfl) ?_
        refine hOp_val (.pointer (some (gad (some ⟨g23, 0, none⟩) (i * 1)))) (xg_idx .i64 (RowG.sg (n := n) (c := n) Fv5_23.out (fiG_length ..) (Nat.le_refl _) (by omega)) (fiG_at (0 : Gold.F) (Gold.cfF (xs.map Gold.E2.B)) hi1) Try.underlying22 (by kernel_rfl) rfl rfl rfl) ⟨⟨B0.out, Fv17_10.out⟩, ?_⟩
        simp only [ptr, Act.put, List.setIfInBounds_toArray, List.set_cons_zero, List.set_cons_succ]
        refine wpOT_one rfl (by kernel_rfl) ?_
        refine hOp_storeW g23 _ _ 29 (RowG.h Fv5_23.out) (xg_store Fv5_23.out (List.getElem?_eq_some_iff.1 (fiG_at (0 : Gold.F) (Gold.cfF (xs.map Gold.E2.B)) hi1)).1 x.B (by kernel_rfl) rfl rfl rfl) ?_
        intro X1_22 h1 hfar hbel hsz
        have YFv1_21 : RowG feC X1_22 g21 29 ((fiG (0 : Gold.F) (Gold.cfF (xs.map Gold.E2.A)) n i).set i x.A) := hfar _ _ N3_0.out Fv1_21.out
        have YFv17_10 : X1_22.heap[b10]? = some (.cells #[.int .u64 (Gold.vF x.A), .int .u64 (Gold.vF x.B)] 31 (0, 0)) := hfar _ _ (Ne.symm N15_1.out) Fv17_10.out
        have hbr := hbel _ _ Gr11.out B0.out
        clear B0
        have B0 := Lib.hid hbr
        clear hbr
        clear Fv1_21
        have Fv1_21 : Hid (RowG feC X1_22 g21 29 ((fiG (0 : Gold.F) (Gold.cfF (xs.map Gold.E2.A)) n i).set i x.A)) := Lib.hid YFv1_21
        clear YFv1_21
        clear Fv17_10
        have Fv17_10 : Hid (X1_22.heap[b10]? = some (.cells #[.int .u64 (Gold.vF x.A), .int .u64 (Gold.vF x.B)] 31 (0, 0))) := Lib.hid YFv17_10
        clear YFv17_10
        clear Fv5_23
        have Fv5_23 : Hid (RowG feC X1_22 g23 29 ((fiG (0 : Gold.F) (Gold.cfF (xs.map Gold.E2.B)) n i).set i x.B)) := Lib.hid (h1)
        have HszX1_22 := Lib.hid hsz
        clear h1 hfar hbel hsz
        simp only [ptr, Act.put, List.setIfInBounds_toArray, List.set_cons_zero, List.set_cons_succ]
        refine ⟨⟨B0.out, Fv17_10.out⟩, ?_⟩
        try simp only [ptr, Act.put, List.setIfInBounds_toArray, List.set_cons_zero, List.set_cons_succ]
        refine wpOT_nil ?_
        have hqa := Fv1_21.out
        rw [fiG_set (0 : Gold.F) (Gold.cfF (xs.map Gold.E2.A)) x.A hi1 (Gold.cfF_some (by rw [List.getElem?_map, HEx.out]; rfl))] at hqa
        have hqb := Fv5_23.out
        rw [fiG_set (0 : Gold.F) (Gold.cfF (xs.map Gold.E2.B)) x.B hi1 (Gold.cfF_some (by rw [List.getElem?_map, HEx.out]; rfl))] at hqb
        go_upto_region 9 with fail
        refine wp_region_lit ?_
        refine wpList_run (by kernel_rfl) (.int .i64 ((i + 1 : Nat) : Int)) X1_22 (xo_addI (i : Int) 1 ((i + 1 : Nat) : Int) (by omega) (by omega) (by omega) rfl rfl rfl) ?_
        simp only [Act.put, List.setIfInBounds_toArray, List.set_cons_zero, List.set_cons_succ]
        refine wpList_run (by kernel_rfl) (.int .i64 ((i + 1 : Nat) : Int)) X1_22 rfl ?_
        simp only [Act.put, List.setIfInBounds_toArray, List.set_cons_zero, List.set_cons_succ]
        refine wpList_nil ?_
        have hq23 := B0.out
        go_wp2_with fail
        go_roundw
        case rel => exact ⟨i + 1, by omega, by go_num, hqa, hqb, hq23⟩
        case measure => simp [intOf]; omega
      · have hci13 : ¬ ((i : Int) < (n : Int)) := by omega
        go_upto_region 6 with fail
        refine wp_region_lit ?_
        refine wpList_run (by kernel_rfl) (.bool false) wo (xo_lssF .i64 (i : Int) (n : Int) (by omega) rfl rfl rfl) ?_
        simp only [Act.put, List.setIfInBounds_toArray, List.set_cons_zero, List.set_cons_succ]
        refine wpList_nil ?_
        obtain rfl : n = i := by omega
        rw [fiG_cf (0 : Gold.F) (xs.map Gold.E2.A) (show (xs.map Gold.E2.A).length = n by rw [List.length_map]; exact hxl)] at Fv1_21
        rw [fiG_cf (0 : Gold.F) (xs.map Gold.E2.B) (show (xs.map Gold.E2.B).length = n by rw [List.length_map]; exact hxl)] at Fv5_23
        go_upto_region 10 with fail
        refine wp_region_lit ?_
        refine wpList_run (by kernel_rfl) (.slice (some ⟨g21, 0, none⟩) n n) wo rfl ?_
        simp only [Act.put, List.setIfInBounds_toArray, List.set_cons_zero, List.set_cons_succ]
        refine wpList_run (by kernel_rfl) (.int .i64 (z : Int)) wo rfl ?_
        simp only [Act.put, List.setIfInBounds_toArray, List.set_cons_zero, List.set_cons_succ]
        refine wpList_call (by kernel_rfl) 9 Try.func9 (by kernel_rfl) (by kernel_rfl) _ _ #[.slice (some ⟨g21, 0, none⟩) n n, .int .i64 (z : Int)] rfl (by kernel_rfl) ?_
        refine (encodeN (some ⟨g21, 0, none⟩) n n (xs.map Gold.E2.A) z K L N M HN.out HZ.out hL1 hL4 hKL hM HNN.out wo (RowG.sg (n := n) (c := n) Fv1_21.out (show (xs.map Gold.E2.A).length = n by rw [List.length_map]; exact hxl) (Nat.le_refl _) (by omega))).mono ?_
        rintro e V2 ⟨ea, rfl, hs, hb⟩
        have B1 := Lib.hid hb
        have Ha := Lib.hid hs
        clear hb hs
        refine ⟨_, rfl, ?_⟩
        simp only [Act.put, List.setIfInBounds_toArray, List.set_cons_zero, List.set_cons_succ]
        refine wpList_run (by kernel_rfl) (.tuple #[.slice (some ⟨ea, 0, none⟩) N N, .int .i64 0]) V2 rfl ?_
        simp only [Act.put, List.setIfInBounds_toArray, List.set_cons_zero, List.set_cons_succ]
        refine wpList_run (by kernel_rfl) (.slice (some ⟨ea, 0, none⟩) N N) V2 rfl ?_
        simp only [Act.put, List.setIfInBounds_toArray, List.set_cons_zero, List.set_cons_succ]
        refine wpList_run (by kernel_rfl) (.int .i64 0) V2 rfl ?_
        simp only [Act.put, List.setIfInBounds_toArray, List.set_cons_zero, List.set_cons_succ]
        refine wpList_run (by kernel_rfl) (.slice (some ⟨ea, 0, none⟩) N N) V2 rfl ?_
        simp only [Act.put, List.setIfInBounds_toArray, List.set_cons_zero, List.set_cons_succ]
        refine wpList_nil ?_
        go_upto_region 11 with fail
        refine wp_region_lit ?_
        refine wpList_run (by kernel_rfl) (.slice (some ⟨g23, 0, none⟩) n n) V2 rfl ?_
        simp only [Act.put, List.setIfInBounds_toArray, List.set_cons_zero, List.set_cons_succ]
        refine wpList_run (by kernel_rfl) (.int .i64 (z : Int)) V2 rfl ?_
        simp only [Act.put, List.setIfInBounds_toArray, List.set_cons_zero, List.set_cons_succ]
        refine wpList_call (by kernel_rfl) 9 Try.func9 (by kernel_rfl) (by kernel_rfl) _ _ #[.slice (some ⟨g23, 0, none⟩) n n, .int .i64 (z : Int)] rfl (by kernel_rfl) ?_
        refine (encodeN (some ⟨g23, 0, none⟩) n n (xs.map Gold.E2.B) z K L N M HN.out HZ.out hL1 hL4 hKL hM HNN.out V2 (RowG.sg (n := n) (c := n) (Fv5_23.out.keep B1.out) (show (xs.map Gold.E2.B).length = n by rw [List.length_map]; exact hxl) (Nat.le_refl _) (by omega))).mono ?_
        rintro e V3 ⟨eb, rfl, hs, hb⟩
        have B2 := Lib.hid hb
        have Hb := Lib.hid hs
        clear hb hs
        refine ⟨_, rfl, ?_⟩
        simp only [Act.put, List.setIfInBounds_toArray, List.set_cons_zero, List.set_cons_succ]
        refine wpList_run (by kernel_rfl) (.tuple #[.slice (some ⟨eb, 0, none⟩) N N, .int .i64 0]) V3 rfl ?_
        simp only [Act.put, List.setIfInBounds_toArray, List.set_cons_zero, List.set_cons_succ]
        refine wpList_run (by kernel_rfl) (.slice (some ⟨eb, 0, none⟩) N N) V3 rfl ?_
        simp only [Act.put, List.setIfInBounds_toArray, List.set_cons_zero, List.set_cons_succ]
        refine wpList_run (by kernel_rfl) (.int .i64 0) V3 rfl ?_
        simp only [Act.put, List.setIfInBounds_toArray, List.set_cons_zero, List.set_cons_succ]
        refine wpList_run (by kernel_rfl) (.slice (some ⟨eb, 0, none⟩) N N) V3 rfl ?_
        simp only [Act.put, List.setIfInBounds_toArray, List.set_cons_zero, List.set_cons_succ]
        refine wpList_nil ?_
        have C0_2 := Lib.hid (bel_step B0.out B1.out)
        have C0_3 := Lib.hid (bel_step C0_2.out B2.out)
        have HBV14 := Lib.hid C0_3.out
        have YHa := (Ha.out.keep B2.out)
        have YHb := Hb.out
        clear Ha
        have Ha := Lib.hid YHa
        clear YHa
        clear Hb
        have Hb := Lib.hid YHb
        clear YHb
        obtain ⟨VB14, rfl⟩ : ∃ VB14 : World, VB14 = V3 := ⟨_, rfl⟩
        go_upto_region 12 with fail
        refine wp_region_lit ?_
        refine wpList_run (by kernel_rfl) (.int .i64 (z : Int)) VB14 rfl ?_
        simp only [Act.put, List.setIfInBounds_toArray, List.set_cons_zero, List.set_cons_succ]
        refine wpList_run (by kernel_rfl) (.int .i64 (n : Int)) VB14 rfl ?_
        simp only [Act.put, List.setIfInBounds_toArray, List.set_cons_zero, List.set_cons_succ]
        refine wpList_run (by kernel_rfl) (.int .i64 (N : Int)) VB14 (xo_mulI (z : Int) (n : Int) (N : Int) (by rw [← hzn]; simp) (by omega) (by omega) rfl rfl rfl) ?_
        simp only [Act.put, List.setIfInBounds_toArray, List.set_cons_zero, List.set_cons_succ]
        refine wpList_mk (by kernel_rfl) ((List.replicate N Gold.E2.zero).flatMap exC).toArray 31 N N (xg_make (E := exC) (bytes := 16) (.agg #[.int .u64 0, .int .u64 0]) Gold.E2.zero N .i64 Try.underlying28 (by kernel_rfl) rfl (by omega) (by omega) rfl rfl rfl) ?_
        intro g57 V1 hge h0 hb
        have Ge15 : Hid (VB14.heap.size ≤ g57) := Lib.hid hge
        have B0 := Lib.hid hb
        have Fv16_57 : Hid (RowG exC V1 g57 31 (List.replicate N Gold.E2.zero)) := Lib.hid (h0)
        have Lt17 : Hid (g57 < V1.heap.size) := Lib.hid (xp_lt Fv16_57.out)
        clear hge h0 hb
        simp only [ptr, Act.put, List.setIfInBounds_toArray, List.set_cons_zero, List.set_cons_succ]
        refine wpList_run (by kernel_rfl) (.slice (some ⟨g57, 0, none⟩) N N) V1 rfl ?_
        simp only [Act.put, List.setIfInBounds_toArray, List.set_cons_zero, List.set_cons_succ]
        refine wpList_nil ?_
        rw [← fiG_zero Gold.E2.zero (fun j => Gold.E2.mk (Gold.cfF (Gold.cwF (xs.map Gold.E2.A) M) j) (Gold.cfF (Gold.cwF (xs.map Gold.E2.B) M) j)) N] at Fv16_57
        go_upto_region 13 with fail
        refine wp_region_lit ?_
        refine wpList_run (by kernel_rfl) (.slice (some ⟨g57, 0, none⟩) N N) V1 rfl ?_
        simp only [Act.put, List.setIfInBounds_toArray, List.set_cons_zero, List.set_cons_succ]
        refine wpList_run (by kernel_rfl) (.int .i64 (N : Int)) V1 (xo_len (some ⟨g57, 0, none⟩) N N Try.underlying28 rfl rfl) ?_
        simp only [Act.put, List.setIfInBounds_toArray, List.set_cons_zero, List.set_cons_succ]
        refine wpList_run (by kernel_rfl) (.int .i64 0) V1 rfl ?_
        simp only [Act.put, List.setIfInBounds_toArray, List.set_cons_zero, List.set_cons_succ]
        refine wpList_nil ?_
        have O18 := Fv16_57.out
        have O19 := B0.out
        go_wp2_with fail
        go_loopw [12, 60] (fun iv p wr => ∃ j : Nat, j ≤ N ∧ p = .int .i64 j ∧ RowG exC wr g57 31 (fiG Gold.E2.zero (fun j => Gold.E2.mk (Gold.cfF (Gold.cwF (xs.map Gold.E2.A) M) j) (Gold.cfF (Gold.cwF (xs.map Gold.E2.B) M) j)) N j) ∧ Below VB14.heap.size VB14 wr) (fun _ p _ => N - (intOf p).toNat)
        case atStart => exact ⟨0, Nat.zero_le _, rfl, O18, O19⟩
        case round =>
          clear O18 O19
          obtain ⟨wz, rfl⟩ : ∃ wz : World, wz = wr := ⟨_, rfl⟩
          obtain ⟨j, hi, rfl, hr0, hb0⟩ := hrel
          have hbr := hb0
          clear B0
          have B0 := Lib.hid hbr
          clear hbr
          clear Fv16_57
          have Fv16_57 : Hid (RowG exC wz g57 31 (fiG Gold.E2.zero (fun j => Gold.E2.mk (Gold.cfF (Gold.cwF (xs.map Gold.E2.A) M) j) (Gold.cfF (Gold.cwF (xs.map Gold.E2.B) M) j)) N j)) := Lib.hid (hr0)
          clear hb0 hr0
          by_cases hj1 : j < N
          · have hci21 : ((j : Int) < (N : Int)) := by omega
            go_upto_region 14 with fail
            refine wp_region_lit ?_
            refine wpList_run (by kernel_rfl) (.bool true) wz (xo_lssT .i64 (j : Int) (N : Int) (by omega) rfl rfl rfl) ?_
            simp only [Act.put, List.setIfInBounds_toArray, List.set_cons_zero, List.set_cons_succ]
            refine wpList_nil ?_
            go_upto_region 15 with fail
            refine wp_region_lit ?_
            refine wpList_run (by kernel_rfl) (.int .i64 (j : Int)) wz rfl ?_
            simp only [Act.put, List.setIfInBounds_toArray, List.set_cons_zero, List.set_cons_succ]
            refine wpList_run (by kernel_rfl) (.int .i64 (j : Int)) wz rfl ?_
            simp only [Act.put, List.setIfInBounds_toArray, List.set_cons_zero, List.set_cons_succ]
            refine wpList_nil ?_
            obtain ⟨xa, hxa⟩ : ∃ xa, (Gold.cwF (xs.map Gold.E2.A) M)[j]? = some xa := ⟨_, List.getElem?_eq_getElem (by rw [Gold.cw_len, ← HNN.out]; exact hj1)⟩
            have HExa := Lib.hid hxa
            clear hxa
            obtain ⟨xb, hxb⟩ : ∃ xb, (Gold.cwF (xs.map Gold.E2.B) M)[j]? = some xb := ⟨_, List.getElem?_eq_getElem (by rw [Gold.cw_len, ← HNN.out]; exact hj1)⟩
            have HExb := Lib.hid hxb
            clear hxb
            go_upto_region 16 with fail
            try simp only [List.append_eq, List.cons_append, List.nil_append]
            refine wp_ordT (fun W => Below VB14.heap.size VB14 W) (.q 0 (.q 1 (.q 2 (.q 3 (.q 4 (.q 5 (.q 6 (.q 7 (.q 8 (.q 9 (.q 10 (.q 11 (.one 12 .nil))))))))))))) (by kernel_rfl) (by kernel_rfl) (fun _ _ dt _ _ h => by first | exact h.elim | (cases dt <;> exact h)) (by kernel_rfl) (by kernel_rfl) B0.out.drew ?_
            have hb : Below wz.heap.size wz wz.drew := (Below.refl _ _).drew
            generalize wz.drew = V2 at hb ⊢
            have B1 := Lib.hid hb
            clear hb
            refine wpOT_q (.slice (some ⟨g57, 0, none⟩) N N) rfl (by kernel_rfl) (fun v hW => rfl) ?_
            simp only [ptr, Act.put, List.setIfInBounds_toArray, List.set_cons_zero, List.set_cons_succ]
            refine wpOT_q (.int .i64 (j : Int)) rfl (by kernel_rfl) (fun v hW => rfl) ?_
            simp only [ptr, Act.put, List.setIfInBounds_toArray, List.set_cons_zero, List.set_cons_succ]
            refine wpOT_q (.slice (some ⟨ea, 0, none⟩) N N) rfl (by kernel_rfl) (fun v hW => rfl) ?_
            simp only [ptr, Act.put, List.setIfInBounds_toArray, List.set_cons_zero, List.set_cons_succ]
            refine wpOT_q (.int .i64 (j : Int)) rfl (by kernel_rfl) (fun v hW => rfl) ?_
            simp only [ptr, Act.put, List.setIfInBounds_toArray, List.set_cons_zero, List.set_cons_succ]
            refine wpOT_q (.pointer (some (gad (some ⟨ea, 0, none⟩) (j * 1)))) rfl (by kernel_rfl) (fun v hW => (xo_index .i64 ⟨ea, 0, none⟩ N N j 1 (by omega) Try.underlying22 (by kernel_rfl) rfl rfl rfl)) ?_
            simp only [ptr, Act.put, List.setIfInBounds_toArray, List.set_cons_zero, List.set_cons_succ]
            refine wpOT_q (.int .u64 (Gold.vF xa)) rfl (by kernel_rfl) (fun v hW => (xg_load1 (E := feC) (i := j) (j := 0) (Ha.out.keep hW) HExa.out rfl rfl Try.underlying29 rfl rfl rfl)) ?_
            simp only [ptr, Act.put, List.setIfInBounds_toArray, List.set_cons_zero, List.set_cons_succ]
            refine wpOT_q (.slice (some ⟨eb, 0, none⟩) N N) rfl (by kernel_rfl) (fun v hW => rfl) ?_
            simp only [ptr, Act.put, List.setIfInBounds_toArray, List.set_cons_zero, List.set_cons_succ]
            refine wpOT_q (.int .i64 (j : Int)) rfl (by kernel_rfl) (fun v hW => rfl) ?_
            simp only [ptr, Act.put, List.setIfInBounds_toArray, List.set_cons_zero, List.set_cons_succ]
            refine wpOT_q (.pointer (some (gad (some ⟨eb, 0, none⟩) (j * 1)))) rfl (by kernel_rfl) (fun v hW => (xo_index .i64 ⟨eb, 0, none⟩ N N j 1 (by omega) Try.underlying22 (by kernel_rfl) rfl rfl rfl)) ?_
            simp only [ptr, Act.put, List.setIfInBounds_toArray, List.set_cons_zero, List.set_cons_succ]
            refine wpOT_q (.int .u64 (Gold.vF xb)) rfl (by kernel_rfl) (fun v hW => (xg_load1 (E := feC) (i := j) (j := 0) (Hb.out.keep hW) HExb.out rfl rfl Try.underlying29 rfl rfl rfl)) ?_
            simp only [ptr, Act.put, List.setIfInBounds_toArray, List.set_cons_zero, List.set_cons_succ]
            refine wpOT_q (.agg #[.int .u64 (Gold.vF xa), .int .u64 (Gold.vF xb)]) rfl (by kernel_rfl) (fun v hW => (by unfold execOp; go_simp)) ?_
            simp only [ptr, Act.put, List.setIfInBounds_toArray, List.set_cons_zero, List.set_cons_succ]
            refine wpOT_q (.pointer (some (gad (some ⟨g57, 0, none⟩) (j * 2)))) rfl (by kernel_rfl) (fun v hW => (xo_index .i64 ⟨g57, 0, none⟩ N N j 2 (by omega) Try.underlying28 (by kernel_rfl) rfl rfl rfl)) ?_
            simp only [ptr, Act.put, List.setIfInBounds_toArray, List.set_cons_zero, List.set_cons_succ]
            refine wpOT_one rfl (by kernel_rfl) ?_
            refine hOp_storeW g57 _ _ 31 (RowG.h (Fv16_57.out.keep B1.out)) (xg_store (Fv16_57.out.keep B1.out) (List.getElem?_eq_some_iff.1 (fiG_at Gold.E2.zero (fun j => Gold.E2.mk (Gold.cfF (Gold.cwF (xs.map Gold.E2.A) M) j) (Gold.cfF (Gold.cwF (xs.map Gold.E2.B) M) j)) hj1)).1 (Gold.E2.mk xa xb) (by kernel_rfl) rfl rfl rfl) ?_
            intro X2_22 h1 hfar hbel hsz
            have C0_2 := Lib.hid (bel_step B0.out B1.out)
            have hbr := hbel _ _ Ge15.out C0_2.out
            clear B0
            have B0 := Lib.hid hbr
            clear hbr
            clear Fv16_57
            have Fv16_57 : Hid (RowG exC X2_22 g57 31 ((fiG Gold.E2.zero (fun j => Gold.E2.mk (Gold.cfF (Gold.cwF (xs.map Gold.E2.A) M) j) (Gold.cfF (Gold.cwF (xs.map Gold.E2.B) M) j)) N j).set j (Gold.E2.mk xa xb))) := Lib.hid (h1)
            have HszX2_22 := Lib.hid hsz
            clear h1 hfar hbel hsz
            simp only [ptr, Act.put, List.setIfInBounds_toArray, List.set_cons_zero, List.set_cons_succ]
            refine ⟨B0.out, ?_⟩
            try simp only [ptr, Act.put, List.setIfInBounds_toArray, List.set_cons_zero, List.set_cons_succ]
            refine wpOT_nil ?_
            have hqc := Fv16_57.out
            rw [fiG_set Gold.E2.zero (fun j => Gold.E2.mk (Gold.cfF (Gold.cwF (xs.map Gold.E2.A) M) j) (Gold.cfF (Gold.cwF (xs.map Gold.E2.B) M) j)) (Gold.E2.mk xa xb) hj1 (by show Gold.E2.mk _ _ = _; rw [Gold.cfF_some HExa.out, Gold.cfF_some HExb.out])] at hqc
            go_upto_region 17 with fail
            refine wp_region_lit ?_
            refine wpList_run (by kernel_rfl) (.int .i64 ((j + 1 : Nat) : Int)) X2_22 (xo_addI (j : Int) 1 ((j + 1 : Nat) : Int) (by omega) (by omega) (by omega) rfl rfl rfl) ?_
            simp only [Act.put, List.setIfInBounds_toArray, List.set_cons_zero, List.set_cons_succ]
            refine wpList_run (by kernel_rfl) (.int .i64 ((j + 1 : Nat) : Int)) X2_22 rfl ?_
            simp only [Act.put, List.setIfInBounds_toArray, List.set_cons_zero, List.set_cons_succ]
            refine wpList_nil ?_
            have hq23 := B0.out
            go_wp2_with fail
            go_roundw
            case rel => exact ⟨j + 1, by omega, by go_num, hqc, hq23⟩
            case measure => simp [intOf]; omega
          · have hci21 : ¬ ((j : Int) < (N : Int)) := by omega
            go_upto_region 14 with fail
            refine wp_region_lit ?_
            refine wpList_run (by kernel_rfl) (.bool false) wz (xo_lssF .i64 (j : Int) (N : Int) (by omega) rfl rfl rfl) ?_
            simp only [Act.put, List.setIfInBounds_toArray, List.set_cons_zero, List.set_cons_succ]
            refine wpList_nil ?_
            obtain rfl : N = j := by omega
            rw [fiG_cwX xs HNN.out] at Fv16_57
            go_upto_region 18 with fail
            refine wp_region_lit ?_
            refine wpList_run (by kernel_rfl) (.slice (some ⟨g57, 0, none⟩) N N) wz rfl ?_
            simp only [Act.put, List.setIfInBounds_toArray, List.set_cons_zero, List.set_cons_succ]
            refine wpList_run (by kernel_rfl) (.slice (some ⟨g57, 0, none⟩) N N) wz rfl ?_
            simp only [Act.put, List.setIfInBounds_toArray, List.set_cons_zero, List.set_cons_succ]
            refine wpList_run (by kernel_rfl) (.int .i64 0) wz rfl ?_
            simp only [Act.put, List.setIfInBounds_toArray, List.set_cons_zero, List.set_cons_succ]
            refine wpList_nil ?_
            go_wp2_with fail
            go_ret2
            exact ⟨g57, rfl, (RowG.sg (n := N) (c := N) Fv16_57.out ((Gold.cwX_length _ _).trans HNN.out.symm) (Nat.le_refl _) (by omega)), HBV14.out.trans (B0.out.mono HBV14.out.size)⟩
  · refine wpX_one rfl (by kernel_rfl) ?_
    refine hOp_mk ((List.replicate n (0 : Gold.F)).flatMap feC).toArray 29 n n (xg_make (E := feC) (bytes := 8) (.int .u64 0) (0 : Gold.F) n .i64 Try.underlying22 (by kernel_rfl) rfl (by omega) (by omega) rfl rfl rfl) ?_
    intro g23 V3 hge h0 hb
    have Ge0 : Hid (V2.heap.size ≤ g23) := Lib.hid hge
    have B2 := Lib.hid hb
    have Fv1_23 : Hid (RowG feC V3 g23 29 (List.replicate n (0 : Gold.F))) := Lib.hid (h0)
    have Lt2 : Hid (g23 < V3.heap.size) := Lib.hid (xp_lt Fv1_23.out)
    clear hge h0 hb
    refine ⟨B2.out, ?_⟩
    simp only [ptr, Act.put, List.setIfInBounds_toArray, List.set_cons_zero, List.set_cons_succ]
    refine wpX_one rfl (by kernel_rfl) ?_
    refine hOp_mk ((List.replicate n (0 : Gold.F)).flatMap feC).toArray 29 n n (xg_make (E := feC) (bytes := 8) (.int .u64 0) (0 : Gold.F) n .i64 Try.underlying22 (by kernel_rfl) rfl (by omega) (by omega) rfl rfl rfl) ?_
    intro g21 V4 hge h0 hb
    have N3_0 : Hid (g23 ≠ g21) := Lib.hid (xp_lt0 Fv1_23.out hge)
    have Ge4 : Hid (V3.heap.size ≤ g21) := Lib.hid hge
    have B3 := Lib.hid hb
    have Fv5_21 : Hid (RowG feC V4 g21 29 (List.replicate n (0 : Gold.F))) := Lib.hid (h0)
    have Lt6 : Hid (g21 < V4.heap.size) := Lib.hid (xp_lt Fv5_21.out)
    clear hge h0 hb
    refine ⟨B3.out, ?_⟩
    simp only [ptr, Act.put, List.setIfInBounds_toArray, List.set_cons_zero, List.set_cons_succ]
    refine wpX_q (.slice (some ⟨g21, 0, none⟩) n n) rfl (by kernel_rfl) (fun v hW => rfl) ?_
    simp only [ptr, Act.put, List.setIfInBounds_toArray, List.set_cons_zero, List.set_cons_succ]
    refine wpX_q (.slice (some ⟨g23, 0, none⟩) n n) rfl (by kernel_rfl) (fun v hW => rfl) ?_
    simp only [ptr, Act.put, List.setIfInBounds_toArray, List.set_cons_zero, List.set_cons_succ]
    refine wpX_nil ?_
    rw [← fiG_zero (0 : Gold.F) (Gold.cfF (xs.map Gold.E2.A)) n] at Fv5_21
    rw [← fiG_zero (0 : Gold.F) (Gold.cfF (xs.map Gold.E2.B)) n] at Fv1_23
    go_upto_region 5 with fail
    refine wp_region_lit ?_
    refine wpList_run (by kernel_rfl) (.slice A n c) V4 rfl ?_
    simp only [Act.put, List.setIfInBounds_toArray, List.set_cons_zero, List.set_cons_succ]
    refine wpList_run (by kernel_rfl) (.int .i64 (n : Int)) V4 (xo_len A n c Try.underlying28 rfl rfl) ?_
    simp only [Act.put, List.setIfInBounds_toArray, List.set_cons_zero, List.set_cons_succ]
    refine wpList_run (by kernel_rfl) (.int .i64 0) V4 rfl ?_
    simp only [Act.put, List.setIfInBounds_toArray, List.set_cons_zero, List.set_cons_succ]
    refine wpList_nil ?_
    have O7 := Fv5_21.out
    have O8 := (Fv1_23.out.keep B3.out)
    have C0_2 := Lib.hid (bel_step B0.out B1.out)
    have C0_3 := Lib.hid (bel_step C0_2.out B2.out)
    have C0_4 := Lib.hid (bel_step C0_3.out B3.out)
    have O9 := C0_4.out
    have Gr10 : Hid (w.heap.size ≤ g21) := Lib.hid (Nat.le_trans C0_3.out.size Ge4.out)
    have Gr11 : Hid (w.heap.size ≤ g23) := Lib.hid (Nat.le_trans C0_2.out.size Ge0.out)
    go_wp2_with fail
    go_loopw [26] (fun p wr => ∃ i : Nat, i ≤ n ∧ p = .int .i64 i ∧ RowG feC wr g21 29 (fiG (0 : Gold.F) (Gold.cfF (xs.map Gold.E2.A)) n i) ∧ RowG feC wr g23 29 (fiG (0 : Gold.F) (Gold.cfF (xs.map Gold.E2.B)) n i) ∧ Below w.heap.size w wr) (fun p _ => n - (intOf p).toNat)
    case atStart => exact ⟨0, Nat.zero_le _, rfl, O7, O8, O9⟩
    case round =>
      clear O7 O8 O9
      obtain ⟨wo, rfl⟩ : ∃ wo : World, wo = wr := ⟨_, rfl⟩
      obtain ⟨i, hi, rfl, hr0, hr1, hb0⟩ := hrel
      have hbr := hb0
      clear B0
      have B0 := Lib.hid hbr
      clear hbr
      clear Fv5_21
      have Fv5_21 : Hid (RowG feC wo g21 29 (fiG (0 : Gold.F) (Gold.cfF (xs.map Gold.E2.A)) n i)) := Lib.hid (hr0)
      clear Fv1_23
      have Fv1_23 : Hid (RowG feC wo g23 29 (fiG (0 : Gold.F) (Gold.cfF (xs.map Gold.E2.B)) n i)) := Lib.hid (hr1)
      clear hb0 hr0 hr1
      by_cases hi1 : i < n
      · have hci13 : ((i : Int) < (n : Int)) := by omega
        go_upto_region 6 with fail
        refine wp_region_lit ?_
        refine wpList_run (by kernel_rfl) (.bool true) wo (xo_lssT .i64 (i : Int) (n : Int) (by omega) rfl rfl rfl) ?_
        simp only [Act.put, List.setIfInBounds_toArray, List.set_cons_zero, List.set_cons_succ]
        refine wpList_nil ?_
        obtain ⟨x, hx⟩ : ∃ x, xs[i]? = some x := ⟨_, List.getElem?_eq_getElem (by omega)⟩
        have HEx := Lib.hid hx
        clear hx
        go_upto_region 7 with fail
        refine wp_region_lit ?_
        refine wpList_run (by kernel_rfl) (.int .i64 (i : Int)) wo rfl ?_
        simp only [Act.put, List.setIfInBounds_toArray, List.set_cons_zero, List.set_cons_succ]
        refine wpList_run (by kernel_rfl) (.pointer (some (gad A (i * 2)))) wo (xg_idx .i64 (HX.out.keep B0.out) HEx.out Try.underlying28 (by kernel_rfl) rfl rfl rfl) ?_
        simp only [Act.put, List.setIfInBounds_toArray, List.set_cons_zero, List.set_cons_succ]
        refine wpList_run (by kernel_rfl) (.agg #[.int .u64 (Gold.vF x.A), .int .u64 (Gold.vF x.B)]) wo (xg_loadE (E := exC) (HX.out.keep B0.out) HEx.out Try.underlying31 rfl (by kernel_rfl) rfl rfl) ?_
        simp only [Act.put, List.setIfInBounds_toArray, List.set_cons_zero, List.set_cons_succ]
        refine wpList_new #[.int .u64 0, .int .u64 0] 31 (by kernel_rfl) (xo_alloc #[.int .u64 0, .int .u64 0] (by kernel_rfl) rfl) ?_
        intro b10 V2 hge h0 hb
        have N14_0 : Hid (g23 ≠ b10) := Lib.hid (xp_lt0 Fv1_23.out hge)
        have N15_1 : Hid (g21 ≠ b10) := Lib.hid (xp_lt0 Fv5_21.out hge)
        have Ge16 : Hid (wo.heap.size ≤ b10) := Lib.hid hge
        have B1 := Lib.hid hb
        have Fv17_10 : Hid (V2.heap[b10]? = some (.cells #[.int .u64 0, .int .u64 0] 31 (0, 0))) := Lib.hid (h0)
        have Lt18 : Hid (b10 < V2.heap.size) := Lib.hid (xp_lt Fv17_10.out)
        clear hge h0 hb
        simp only [ptr, Act.put, List.setIfInBounds_toArray, List.set_cons_zero, List.set_cons_succ]
        refine wpList_run (by kernel_rfl) (.int .i64 (i : Int)) V2 rfl ?_
        simp only [Act.put, List.setIfInBounds_toArray, List.set_cons_zero, List.set_cons_succ]
        refine wpList_storeW b10 #[.int .u64 0, .int .u64 0] #[.int .u64 (Gold.vF x.A), .int .u64 (Gold.vF x.B)] 31 (by kernel_rfl) Fv17_10.out (xo_storeW b10 #[.int .u64 0, .int .u64 0] #[.int .u64 (Gold.vF x.A), .int .u64 (Gold.vF x.B)] Fv17_10.out (by kernel_rfl) rfl (by simp [Value.oneCell']) rfl rfl rfl) ?_
        intro X2_19 h1 hfar hbel hsz
        have hbr := hbel _ _ Ge16.out B1.out
        clear B1
        have B1 := Lib.hid hbr
        clear hbr
        clear Fv17_10
        have Fv17_10 : Hid (X2_19.heap[b10]? = some (.cells #[.int .u64 (Gold.vF x.A), .int .u64 (Gold.vF x.B)] 31 (0, 0))) := Lib.hid (h1)
        have HszX2_19 := Lib.hid hsz
        clear h1 hfar hbel hsz
        simp only [ptr, Act.put, List.setIfInBounds_toArray, List.set_cons_zero, List.set_cons_succ]
        refine wpList_nil ?_
        have C0_2 := Lib.hid (bel_step B0.out B1.out)
        have hS0a := C0_2.out
        have hS0b := Fv17_10.out
        go_upto_region 8 with fail
        try simp only [List.append_eq, List.cons_append, List.nil_append]
        refine wp_ordT (fun W => Below w.heap.size w W ∧ W.heap[b10]? = some (.cells #[.int .u64 (Gold.vF x.A), .int .u64 (Gold.vF x.B)] 31 (0, 0))) (.q 0 (.q 1 (.q 2 (.q 3 (.q 4 (.q 5 (.q 6 (.q 7 (.q 8 (.one 9 (.one 10 (.one 11 .nil)))))))))))) (by kernel_rfl) (by kernel_rfl) (fun _ _ dt _ _ h => by first | exact h.elim | (cases dt <;> exact h)) (by kernel_rfl) (by kernel_rfl) ⟨hS0a.drew, hS0b⟩ ?_
        have hb : Below X2_19.heap.size X2_19 X2_19.drew := (Below.refl _ _).drew
        generalize X2_19.drew = V3 at hb ⊢
        have B2 := Lib.hid hb
        clear hb
        refine wpOT_q (.slice (some ⟨g21, 0, none⟩) n n) rfl (by kernel_rfl) (fun v hW => rfl) ?_
        simp only [ptr, Act.put, List.setIfInBounds_toArray, List.set_cons_zero, List.set_cons_succ]
        refine wpOT_q (.int .i64 (i : Int)) rfl (by kernel_rfl) (fun v hW => rfl) ?_
        simp only [ptr, Act.put, List.setIfInBounds_toArray, List.set_cons_zero, List.set_cons_succ]
        refine wpOT_q (.slice (some ⟨g23, 0, none⟩) n n) rfl (by kernel_rfl) (fun v hW => rfl) ?_
        simp only [ptr, Act.put, List.setIfInBounds_toArray, List.set_cons_zero, List.set_cons_succ]
        refine wpOT_q (.int .i64 (i : Int)) rfl (by kernel_rfl) (fun v hW => rfl) ?_
        simp only [ptr, Act.put, List.setIfInBounds_toArray, List.set_cons_zero, List.set_cons_succ]
        refine wpOT_q (.pointer (some ⟨b10, 0, none⟩)) rfl (by kernel_rfl) (fun v hW => (xo_fld0 0 b10 0 (by kernel_rfl) rfl rfl)) ?_
        simp only [ptr, Act.put, List.setIfInBounds_toArray, List.set_cons_zero, List.set_cons_succ]
        refine wpOT_q (.int .u64 (Gold.vF x.A)) rfl (by kernel_rfl) (fun v hW => (xo_load1 ⟨b10, 0, none⟩ _ (cells_at hW.2 0 rfl) Try.underlying29 rfl rfl rfl)) ?_
        simp only [ptr, Act.put, List.setIfInBounds_toArray, List.set_cons_zero, List.set_cons_succ]
        refine wpOT_q (.pointer (some ⟨b10, 1, none⟩)) rfl (by kernel_rfl) (fun v hW => (xo_fld0 1 b10 1 (by kernel_rfl) rfl rfl)) ?_
        simp only [ptr, Act.put, List.setIfInBounds_toArray, List.set_cons_zero, List.set_cons_succ]
        refine wpOT_q (.int .u64 (Gold.vF x.B)) rfl (by kernel_rfl) (fun v hW => (xo_load1 ⟨b10, 1, none⟩ _ (cells_at hW.2 1 rfl) Try.underlying29 rfl rfl rfl)) ?_
        simp only [ptr, Act.put, List.setIfInBounds_toArray, List.set_cons_zero, List.set_cons_succ]
        refine wpOT_q (.pointer (some (gad (some ⟨g21, 0, none⟩) (i * 1)))) rfl (by kernel_rfl) (fun v hW => (xo_index .i64 ⟨g21, 0, none⟩ n n i 1 (by omega) Try.underlying22 (by kernel_rfl) rfl rfl rfl)) ?_
        simp only [ptr, Act.put, List.setIfInBounds_toArray, List.set_cons_zero, List.set_cons_succ]
        refine wpOT_one rfl (by kernel_rfl) ?_
        have C1_3 := Lib.hid (bel_step B1.out B2.out)
        refine hOp_storeW g21 _ _ 29 (RowG.h (Fv5_21.out.keep C1_3.out)) (xg_store (Fv5_21.out.keep C1_3.out) (List.getElem?_eq_some_iff.1 (fiG_at (0 : Gold.F) (Gold.cfF (xs.map Gold.E2.A)) hi1)).1 x.A (by kernel_rfl) rfl rfl rfl) ?_
        intro X3_20 h1 hfar hbel hsz
        have YFv1_23 : RowG feC X3_20 g23 29 (fiG (0 : Gold.F) (Gold.cfF (xs.map Gold.E2.B)) n i) := hfar _ _ N3_0.out (Fv1_23.out.keep C1_3.out)
        have YFv17_10 : X3_20.heap[b10]? = some (.cells #[.int .u64 (Gold.vF x.A), .int .u64 (Gold.vF x.B)] 31 (0, 0)) := hfar _ _ (Ne.symm N15_1.out) (heap_keep Fv17_10.out B2.out)
        have Gs21 : Hid (w.heap.size ≤ b10) := Lib.hid (Nat.le_trans B0.out.size Ge16.out)
        have C0_3 := Lib.hid (bel_step C0_2.out B2.out)
        have hbr := hbel _ _ Gr10.out C0_3.out
        clear B0
        have B0 := Lib.hid hbr
        clear hbr
        clear Fv1_23
        have Fv1_23 : Hid (RowG feC X3_20 g23 29 (fiG (0 : Gold.F) (Gold.cfF (xs.map Gold.E2.B)) n i)) := Lib.hid YFv1_23
        clear YFv1_23
        clear Fv17_10
        have Fv17_10 : Hid (X3_20.heap[b10]? = some (.cells #[.int .u64 (Gold.vF x.A), .int .u64 (Gold.vF x.B)] 31 (0, 0))) := Lib.hid YFv17_10
        clear YFv17_10
        clear Fv5_21
        have Fv5_21 : Hid (RowG feC X3_20 g21 29 ((fiG (0 : Gold.F) (Gold.cfF (xs.map Gold.E2.A)) n i).set i x.A)) := Lib.hid (h1)
        have HszX3_20 := Lib.hid hsz
        clear h1 hfar hbel hsz
        simp only [ptr, Act.put, List.setIfInBounds_toArray, List.set_cons_zero, List.set_cons_succ]
        refine ⟨⟨B0.out, Fv17_10.out⟩, ?_⟩
        try simp only [ptr, Act.put, List.setIfInBounds_toArray, List.set_cons_zero, List.set_cons_succ]
        refine wpOT_one rfl (by kernel_rfl) ?_
        refine hOp_val (.pointer (some (gad (some ⟨g23, 0, none⟩) (i * 1)))) (xg_idx .i64 (RowG.sg (n := n) (c := n) Fv1_23.out (fiG_length ..) (Nat.le_refl _) (by omega)) (fiG_at (0 : Gold.F) (Gold.cfF (xs.map Gold.E2.B)) hi1) Try.underlying22 (by kernel_rfl) rfl rfl rfl) ⟨⟨B0.out, Fv17_10.out⟩, ?_⟩
        simp only [ptr, Act.put, List.setIfInBounds_toArray, List.set_cons_zero, List.set_cons_succ]
        refine wpOT_one rfl (by kernel_rfl) ?_
        refine hOp_storeW g23 _ _ 29 (RowG.h Fv1_23.out) (xg_store Fv1_23.out (List.getElem?_eq_some_iff.1 (fiG_at (0 : Gold.F) (Gold.cfF (xs.map Gold.E2.B)) hi1)).1 x.B (by kernel_rfl) rfl rfl rfl) ?_
        intro X1_22 h1 hfar hbel hsz
        have YFv5_21 : RowG feC X1_22 g21 29 ((fiG (0 : Gold.F) (Gold.cfF (xs.map Gold.E2.A)) n i).set i x.A) := hfar _ _ (Ne.symm N3_0.out) Fv5_21.out
        have YFv17_10 : X1_22.heap[b10]? = some (.cells #[.int .u64 (Gold.vF x.A), .int .u64 (Gold.vF x.B)] 31 (0, 0)) := hfar _ _ (Ne.symm N14_0.out) Fv17_10.out
        have hbr := hbel _ _ Gr11.out B0.out
        clear B0
        have B0 := Lib.hid hbr
        clear hbr
        clear Fv5_21
        have Fv5_21 : Hid (RowG feC X1_22 g21 29 ((fiG (0 : Gold.F) (Gold.cfF (xs.map Gold.E2.A)) n i).set i x.A)) := Lib.hid YFv5_21
        clear YFv5_21
        clear Fv17_10
        have Fv17_10 : Hid (X1_22.heap[b10]? = some (.cells #[.int .u64 (Gold.vF x.A), .int .u64 (Gold.vF x.B)] 31 (0, 0))) := Lib.hid YFv17_10
        clear YFv17_10
        clear Fv1_23
        have Fv1_23 : Hid (RowG feC X1_22 g23 29 ((fiG (0 : Gold.F) (Gold.cfF (xs.map Gold.E2.B)) n i).set i x.B)) := Lib.hid (h1)
        have HszX1_22 := Lib.hid hsz
        clear h1 hfar hbel hsz
        simp only [ptr, Act.put, List.setIfInBounds_toArray, List.set_cons_zero, List.set_cons_succ]
        refine ⟨⟨B0.out, Fv17_10.out⟩, ?_⟩
        try simp only [ptr, Act.put, List.setIfInBounds_toArray, List.set_cons_zero, List.set_cons_succ]
        refine wpOT_nil ?_
        have hqa := Fv5_21.out
        rw [fiG_set (0 : Gold.F) (Gold.cfF (xs.map Gold.E2.A)) x.A hi1 (Gold.cfF_some (by rw [List.getElem?_map, HEx.out]; rfl))] at hqa
        have hqb := Fv1_23.out
        rw [fiG_set (0 : Gold.F) (Gold.cfF (xs.map Gold.E2.B)) x.B hi1 (Gold.cfF_some (by rw [List.getElem?_map, HEx.out]; rfl))] at hqb
        go_upto_region 9 with fail
        refine wp_region_lit ?_
        refine wpList_run (by kernel_rfl) (.int .i64 ((i + 1 : Nat) : Int)) X1_22 (xo_addI (i : Int) 1 ((i + 1 : Nat) : Int) (by omega) (by omega) (by omega) rfl rfl rfl) ?_
        simp only [Act.put, List.setIfInBounds_toArray, List.set_cons_zero, List.set_cons_succ]
        refine wpList_run (by kernel_rfl) (.int .i64 ((i + 1 : Nat) : Int)) X1_22 rfl ?_
        simp only [Act.put, List.setIfInBounds_toArray, List.set_cons_zero, List.set_cons_succ]
        refine wpList_nil ?_
        have hq23 := B0.out
        go_wp2_with fail
        go_roundw
        case rel => exact ⟨i + 1, by omega, by go_num, hqa, hqb, hq23⟩
        case measure => simp [intOf]; omega
      · have hci13 : ¬ ((i : Int) < (n : Int)) := by omega
        go_upto_region 6 with fail
        refine wp_region_lit ?_
        refine wpList_run (by kernel_rfl) (.bool false) wo (xo_lssF .i64 (i : Int) (n : Int) (by omega) rfl rfl rfl) ?_
        simp only [Act.put, List.setIfInBounds_toArray, List.set_cons_zero, List.set_cons_succ]
        refine wpList_nil ?_
        obtain rfl : n = i := by omega
        rw [fiG_cf (0 : Gold.F) (xs.map Gold.E2.A) (show (xs.map Gold.E2.A).length = n by rw [List.length_map]; exact hxl)] at Fv5_21
        rw [fiG_cf (0 : Gold.F) (xs.map Gold.E2.B) (show (xs.map Gold.E2.B).length = n by rw [List.length_map]; exact hxl)] at Fv1_23
        go_upto_region 10 with fail
        refine wp_region_lit ?_
        refine wpList_run (by kernel_rfl) (.slice (some ⟨g21, 0, none⟩) n n) wo rfl ?_
        simp only [Act.put, List.setIfInBounds_toArray, List.set_cons_zero, List.set_cons_succ]
        refine wpList_run (by kernel_rfl) (.int .i64 (z : Int)) wo rfl ?_
        simp only [Act.put, List.setIfInBounds_toArray, List.set_cons_zero, List.set_cons_succ]
        refine wpList_call (by kernel_rfl) 9 Try.func9 (by kernel_rfl) (by kernel_rfl) _ _ #[.slice (some ⟨g21, 0, none⟩) n n, .int .i64 (z : Int)] rfl (by kernel_rfl) ?_
        refine (encodeN (some ⟨g21, 0, none⟩) n n (xs.map Gold.E2.A) z K L N M HN.out HZ.out hL1 hL4 hKL hM HNN.out wo (RowG.sg (n := n) (c := n) Fv5_21.out (show (xs.map Gold.E2.A).length = n by rw [List.length_map]; exact hxl) (Nat.le_refl _) (by omega))).mono ?_
        rintro e V2 ⟨ea, rfl, hs, hb⟩
        have B1 := Lib.hid hb
        have Ha := Lib.hid hs
        clear hb hs
        refine ⟨_, rfl, ?_⟩
        simp only [Act.put, List.setIfInBounds_toArray, List.set_cons_zero, List.set_cons_succ]
        refine wpList_run (by kernel_rfl) (.tuple #[.slice (some ⟨ea, 0, none⟩) N N, .int .i64 0]) V2 rfl ?_
        simp only [Act.put, List.setIfInBounds_toArray, List.set_cons_zero, List.set_cons_succ]
        refine wpList_run (by kernel_rfl) (.slice (some ⟨ea, 0, none⟩) N N) V2 rfl ?_
        simp only [Act.put, List.setIfInBounds_toArray, List.set_cons_zero, List.set_cons_succ]
        refine wpList_run (by kernel_rfl) (.int .i64 0) V2 rfl ?_
        simp only [Act.put, List.setIfInBounds_toArray, List.set_cons_zero, List.set_cons_succ]
        refine wpList_run (by kernel_rfl) (.slice (some ⟨ea, 0, none⟩) N N) V2 rfl ?_
        simp only [Act.put, List.setIfInBounds_toArray, List.set_cons_zero, List.set_cons_succ]
        refine wpList_nil ?_
        go_upto_region 11 with fail
        refine wp_region_lit ?_
        refine wpList_run (by kernel_rfl) (.slice (some ⟨g23, 0, none⟩) n n) V2 rfl ?_
        simp only [Act.put, List.setIfInBounds_toArray, List.set_cons_zero, List.set_cons_succ]
        refine wpList_run (by kernel_rfl) (.int .i64 (z : Int)) V2 rfl ?_
        simp only [Act.put, List.setIfInBounds_toArray, List.set_cons_zero, List.set_cons_succ]
        refine wpList_call (by kernel_rfl) 9 Try.func9 (by kernel_rfl) (by kernel_rfl) _ _ #[.slice (some ⟨g23, 0, none⟩) n n, .int .i64 (z : Int)] rfl (by kernel_rfl) ?_
        refine (encodeN (some ⟨g23, 0, none⟩) n n (xs.map Gold.E2.B) z K L N M HN.out HZ.out hL1 hL4 hKL hM HNN.out V2 (RowG.sg (n := n) (c := n) (Fv1_23.out.keep B1.out) (show (xs.map Gold.E2.B).length = n by rw [List.length_map]; exact hxl) (Nat.le_refl _) (by omega))).mono ?_
        rintro e V3 ⟨eb, rfl, hs, hb⟩
        have B2 := Lib.hid hb
        have Hb := Lib.hid hs
        clear hb hs
        refine ⟨_, rfl, ?_⟩
        simp only [Act.put, List.setIfInBounds_toArray, List.set_cons_zero, List.set_cons_succ]
        refine wpList_run (by kernel_rfl) (.tuple #[.slice (some ⟨eb, 0, none⟩) N N, .int .i64 0]) V3 rfl ?_
        simp only [Act.put, List.setIfInBounds_toArray, List.set_cons_zero, List.set_cons_succ]
        refine wpList_run (by kernel_rfl) (.slice (some ⟨eb, 0, none⟩) N N) V3 rfl ?_
        simp only [Act.put, List.setIfInBounds_toArray, List.set_cons_zero, List.set_cons_succ]
        refine wpList_run (by kernel_rfl) (.int .i64 0) V3 rfl ?_
        simp only [Act.put, List.setIfInBounds_toArray, List.set_cons_zero, List.set_cons_succ]
        refine wpList_run (by kernel_rfl) (.slice (some ⟨eb, 0, none⟩) N N) V3 rfl ?_
        simp only [Act.put, List.setIfInBounds_toArray, List.set_cons_zero, List.set_cons_succ]
        refine wpList_nil ?_
        have C0_2 := Lib.hid (bel_step B0.out B1.out)
        have C0_3 := Lib.hid (bel_step C0_2.out B2.out)
        have HBV14 := Lib.hid C0_3.out
        have YHa := (Ha.out.keep B2.out)
        have YHb := Hb.out
        clear Ha
        have Ha := Lib.hid YHa
        clear YHa
        clear Hb
        have Hb := Lib.hid YHb
        clear YHb
        obtain ⟨VB14, rfl⟩ : ∃ VB14 : World, VB14 = V3 := ⟨_, rfl⟩
        go_upto_region 12 with fail
        refine wp_region_lit ?_
        refine wpList_run (by kernel_rfl) (.int .i64 (z : Int)) VB14 rfl ?_
        simp only [Act.put, List.setIfInBounds_toArray, List.set_cons_zero, List.set_cons_succ]
        refine wpList_run (by kernel_rfl) (.int .i64 (n : Int)) VB14 rfl ?_
        simp only [Act.put, List.setIfInBounds_toArray, List.set_cons_zero, List.set_cons_succ]
        refine wpList_run (by kernel_rfl) (.int .i64 (N : Int)) VB14 (xo_mulI (z : Int) (n : Int) (N : Int) (by rw [← hzn]; simp) (by omega) (by omega) rfl rfl rfl) ?_
        simp only [Act.put, List.setIfInBounds_toArray, List.set_cons_zero, List.set_cons_succ]
        refine wpList_mk (by kernel_rfl) ((List.replicate N Gold.E2.zero).flatMap exC).toArray 31 N N (xg_make (E := exC) (bytes := 16) (.agg #[.int .u64 0, .int .u64 0]) Gold.E2.zero N .i64 Try.underlying28 (by kernel_rfl) rfl (by omega) (by omega) rfl rfl rfl) ?_
        intro g57 V1 hge h0 hb
        have Ge15 : Hid (VB14.heap.size ≤ g57) := Lib.hid hge
        have B0 := Lib.hid hb
        have Fv16_57 : Hid (RowG exC V1 g57 31 (List.replicate N Gold.E2.zero)) := Lib.hid (h0)
        have Lt17 : Hid (g57 < V1.heap.size) := Lib.hid (xp_lt Fv16_57.out)
        clear hge h0 hb
        simp only [ptr, Act.put, List.setIfInBounds_toArray, List.set_cons_zero, List.set_cons_succ]
        refine wpList_run (by kernel_rfl) (.slice (some ⟨g57, 0, none⟩) N N) V1 rfl ?_
        simp only [Act.put, List.setIfInBounds_toArray, List.set_cons_zero, List.set_cons_succ]
        refine wpList_nil ?_
        rw [← fiG_zero Gold.E2.zero (fun j => Gold.E2.mk (Gold.cfF (Gold.cwF (xs.map Gold.E2.A) M) j) (Gold.cfF (Gold.cwF (xs.map Gold.E2.B) M) j)) N] at Fv16_57
        go_upto_region 13 with fail
        refine wp_region_lit ?_
        refine wpList_run (by kernel_rfl) (.slice (some ⟨g57, 0, none⟩) N N) V1 rfl ?_
        simp only [Act.put, List.setIfInBounds_toArray, List.set_cons_zero, List.set_cons_succ]
        refine wpList_run (by kernel_rfl) (.int .i64 (N : Int)) V1 (xo_len (some ⟨g57, 0, none⟩) N N Try.underlying28 rfl rfl) ?_
        simp only [Act.put, List.setIfInBounds_toArray, List.set_cons_zero, List.set_cons_succ]
        refine wpList_run (by kernel_rfl) (.int .i64 0) V1 rfl ?_
        simp only [Act.put, List.setIfInBounds_toArray, List.set_cons_zero, List.set_cons_succ]
        refine wpList_nil ?_
        have O18 := Fv16_57.out
        have O19 := B0.out
        go_wp2_with fail
        go_loopw [12, 60] (fun iv p wr => ∃ j : Nat, j ≤ N ∧ p = .int .i64 j ∧ RowG exC wr g57 31 (fiG Gold.E2.zero (fun j => Gold.E2.mk (Gold.cfF (Gold.cwF (xs.map Gold.E2.A) M) j) (Gold.cfF (Gold.cwF (xs.map Gold.E2.B) M) j)) N j) ∧ Below VB14.heap.size VB14 wr) (fun _ p _ => N - (intOf p).toNat)
        case atStart => exact ⟨0, Nat.zero_le _, rfl, O18, O19⟩
        case round =>
          clear O18 O19
          obtain ⟨wz, rfl⟩ : ∃ wz : World, wz = wr := ⟨_, rfl⟩
          obtain ⟨j, hi, rfl, hr0, hb0⟩ := hrel
          have hbr := hb0
          clear B0
          have B0 := Lib.hid hbr
          clear hbr
          clear Fv16_57
          have Fv16_57 : Hid (RowG exC wz g57 31 (fiG Gold.E2.zero (fun j => Gold.E2.mk (Gold.cfF (Gold.cwF (xs.map Gold.E2.A) M) j) (Gold.cfF (Gold.cwF (xs.map Gold.E2.B) M) j)) N j)) := Lib.hid (hr0)
          clear hb0 hr0
          by_cases hj1 : j < N
          · have hci21 : ((j : Int) < (N : Int)) := by omega
            go_upto_region 14 with fail
            refine wp_region_lit ?_
            refine wpList_run (by kernel_rfl) (.bool true) wz (xo_lssT .i64 (j : Int) (N : Int) (by omega) rfl rfl rfl) ?_
            simp only [Act.put, List.setIfInBounds_toArray, List.set_cons_zero, List.set_cons_succ]
            refine wpList_nil ?_
            go_upto_region 15 with fail
            refine wp_region_lit ?_
            refine wpList_run (by kernel_rfl) (.int .i64 (j : Int)) wz rfl ?_
            simp only [Act.put, List.setIfInBounds_toArray, List.set_cons_zero, List.set_cons_succ]
            refine wpList_run (by kernel_rfl) (.int .i64 (j : Int)) wz rfl ?_
            simp only [Act.put, List.setIfInBounds_toArray, List.set_cons_zero, List.set_cons_succ]
            refine wpList_nil ?_
            obtain ⟨xa, hxa⟩ : ∃ xa, (Gold.cwF (xs.map Gold.E2.A) M)[j]? = some xa := ⟨_, List.getElem?_eq_getElem (by rw [Gold.cw_len, ← HNN.out]; exact hj1)⟩
            have HExa := Lib.hid hxa
            clear hxa
            obtain ⟨xb, hxb⟩ : ∃ xb, (Gold.cwF (xs.map Gold.E2.B) M)[j]? = some xb := ⟨_, List.getElem?_eq_getElem (by rw [Gold.cw_len, ← HNN.out]; exact hj1)⟩
            have HExb := Lib.hid hxb
            clear hxb
            go_upto_region 16 with fail
            try simp only [List.append_eq, List.cons_append, List.nil_append]
            refine wp_ordT (fun W => Below VB14.heap.size VB14 W) (.q 0 (.q 1 (.q 2 (.q 3 (.q 4 (.q 5 (.q 6 (.q 7 (.q 8 (.q 9 (.q 10 (.q 11 (.one 12 .nil))))))))))))) (by kernel_rfl) (by kernel_rfl) (fun _ _ dt _ _ h => by first | exact h.elim | (cases dt <;> exact h)) (by kernel_rfl) (by kernel_rfl) B0.out.drew ?_
            have hb : Below wz.heap.size wz wz.drew := (Below.refl _ _).drew
            generalize wz.drew = V2 at hb ⊢
            have B1 := Lib.hid hb
            clear hb
            refine wpOT_q (.slice (some ⟨g57, 0, none⟩) N N) rfl (by kernel_rfl) (fun v hW => rfl) ?_
            simp only [ptr, Act.put, List.setIfInBounds_toArray, List.set_cons_zero, List.set_cons_succ]
            refine wpOT_q (.int .i64 (j : Int)) rfl (by kernel_rfl) (fun v hW => rfl) ?_
            simp only [ptr, Act.put, List.setIfInBounds_toArray, List.set_cons_zero, List.set_cons_succ]
            refine wpOT_q (.slice (some ⟨ea, 0, none⟩) N N) rfl (by kernel_rfl) (fun v hW => rfl) ?_
            simp only [ptr, Act.put, List.setIfInBounds_toArray, List.set_cons_zero, List.set_cons_succ]
            refine wpOT_q (.int .i64 (j : Int)) rfl (by kernel_rfl) (fun v hW => rfl) ?_
            simp only [ptr, Act.put, List.setIfInBounds_toArray, List.set_cons_zero, List.set_cons_succ]
            refine wpOT_q (.pointer (some (gad (some ⟨ea, 0, none⟩) (j * 1)))) rfl (by kernel_rfl) (fun v hW => (xo_index .i64 ⟨ea, 0, none⟩ N N j 1 (by omega) Try.underlying22 (by kernel_rfl) rfl rfl rfl)) ?_
            simp only [ptr, Act.put, List.setIfInBounds_toArray, List.set_cons_zero, List.set_cons_succ]
            refine wpOT_q (.int .u64 (Gold.vF xa)) rfl (by kernel_rfl) (fun v hW => (xg_load1 (E := feC) (i := j) (j := 0) (Ha.out.keep hW) HExa.out rfl rfl Try.underlying29 rfl rfl rfl)) ?_
            simp only [ptr, Act.put, List.setIfInBounds_toArray, List.set_cons_zero, List.set_cons_succ]
            refine wpOT_q (.slice (some ⟨eb, 0, none⟩) N N) rfl (by kernel_rfl) (fun v hW => rfl) ?_
            simp only [ptr, Act.put, List.setIfInBounds_toArray, List.set_cons_zero, List.set_cons_succ]
            refine wpOT_q (.int .i64 (j : Int)) rfl (by kernel_rfl) (fun v hW => rfl) ?_
            simp only [ptr, Act.put, List.setIfInBounds_toArray, List.set_cons_zero, List.set_cons_succ]
            refine wpOT_q (.pointer (some (gad (some ⟨eb, 0, none⟩) (j * 1)))) rfl (by kernel_rfl) (fun v hW => (xo_index .i64 ⟨eb, 0, none⟩ N N j 1 (by omega) Try.underlying22 (by kernel_rfl) rfl rfl rfl)) ?_
            simp only [ptr, Act.put, List.setIfInBounds_toArray, List.set_cons_zero, List.set_cons_succ]
            refine wpOT_q (.int .u64 (Gold.vF xb)) rfl (by kernel_rfl) (fun v hW => (xg_load1 (E := feC) (i := j) (j := 0) (Hb.out.keep hW) HExb.out rfl rfl Try.underlying29 rfl rfl rfl)) ?_
            simp only [ptr, Act.put, List.setIfInBounds_toArray, List.set_cons_zero, List.set_cons_succ]
            refine wpOT_q (.agg #[.int .u64 (Gold.vF xa), .int .u64 (Gold.vF xb)]) rfl (by kernel_rfl) (fun v hW => (by unfold execOp; go_simp)) ?_
            simp only [ptr, Act.put, List.setIfInBounds_toArray, List.set_cons_zero, List.set_cons_succ]
            refine wpOT_q (.pointer (some (gad (some ⟨g57, 0, none⟩) (j * 2)))) rfl (by kernel_rfl) (fun v hW => (xo_index .i64 ⟨g57, 0, none⟩ N N j 2 (by omega) Try.underlying28 (by kernel_rfl) rfl rfl rfl)) ?_
            simp only [ptr, Act.put, List.setIfInBounds_toArray, List.set_cons_zero, List.set_cons_succ]
            refine wpOT_one rfl (by kernel_rfl) ?_
            refine hOp_storeW g57 _ _ 31 (RowG.h (Fv16_57.out.keep B1.out)) (xg_store (Fv16_57.out.keep B1.out) (List.getElem?_eq_some_iff.1 (fiG_at Gold.E2.zero (fun j => Gold.E2.mk (Gold.cfF (Gold.cwF (xs.map Gold.E2.A) M) j) (Gold.cfF (Gold.cwF (xs.map Gold.E2.B) M) j)) hj1)).1 (Gold.E2.mk xa xb) (by kernel_rfl) rfl rfl rfl) ?_
            intro X2_22 h1 hfar hbel hsz
            have C0_2 := Lib.hid (bel_step B0.out B1.out)
            have hbr := hbel _ _ Ge15.out C0_2.out
            clear B0
            have B0 := Lib.hid hbr
            clear hbr
            clear Fv16_57
            have Fv16_57 : Hid (RowG exC X2_22 g57 31 ((fiG Gold.E2.zero (fun j => Gold.E2.mk (Gold.cfF (Gold.cwF (xs.map Gold.E2.A) M) j) (Gold.cfF (Gold.cwF (xs.map Gold.E2.B) M) j)) N j).set j (Gold.E2.mk xa xb))) := Lib.hid (h1)
            have HszX2_22 := Lib.hid hsz
            clear h1 hfar hbel hsz
            simp only [ptr, Act.put, List.setIfInBounds_toArray, List.set_cons_zero, List.set_cons_succ]
            refine ⟨B0.out, ?_⟩
            try simp only [ptr, Act.put, List.setIfInBounds_toArray, List.set_cons_zero, List.set_cons_succ]
            refine wpOT_nil ?_
            have hqc := Fv16_57.out
            rw [fiG_set Gold.E2.zero (fun j => Gold.E2.mk (Gold.cfF (Gold.cwF (xs.map Gold.E2.A) M) j) (Gold.cfF (Gold.cwF (xs.map Gold.E2.B) M) j)) (Gold.E2.mk xa xb) hj1 (by show Gold.E2.mk _ _ = _; rw [Gold.cfF_some HExa.out, Gold.cfF_some HExb.out])] at hqc
            go_upto_region 17 with fail
            refine wp_region_lit ?_
            refine wpList_run (by kernel_rfl) (.int .i64 ((j + 1 : Nat) : Int)) X2_22 (xo_addI (j : Int) 1 ((j + 1 : Nat) : Int) (by omega) (by omega) (by omega) rfl rfl rfl) ?_
            simp only [Act.put, List.setIfInBounds_toArray, List.set_cons_zero, List.set_cons_succ]
            refine wpList_run (by kernel_rfl) (.int .i64 ((j + 1 : Nat) : Int)) X2_22 rfl ?_
            simp only [Act.put, List.setIfInBounds_toArray, List.set_cons_zero, List.set_cons_succ]
            refine wpList_nil ?_
            have hq23 := B0.out
            go_wp2_with fail
            go_roundw
            case rel => exact ⟨j + 1, by omega, by go_num, hqc, hq23⟩
            case measure => simp [intOf]; omega
          · have hci21 : ¬ ((j : Int) < (N : Int)) := by omega
            go_upto_region 14 with fail
            refine wp_region_lit ?_
            refine wpList_run (by kernel_rfl) (.bool false) wz (xo_lssF .i64 (j : Int) (N : Int) (by omega) rfl rfl rfl) ?_
            simp only [Act.put, List.setIfInBounds_toArray, List.set_cons_zero, List.set_cons_succ]
            refine wpList_nil ?_
            obtain rfl : N = j := by omega
            rw [fiG_cwX xs HNN.out] at Fv16_57
            go_upto_region 18 with fail
            refine wp_region_lit ?_
            refine wpList_run (by kernel_rfl) (.slice (some ⟨g57, 0, none⟩) N N) wz rfl ?_
            simp only [Act.put, List.setIfInBounds_toArray, List.set_cons_zero, List.set_cons_succ]
            refine wpList_run (by kernel_rfl) (.slice (some ⟨g57, 0, none⟩) N N) wz rfl ?_
            simp only [Act.put, List.setIfInBounds_toArray, List.set_cons_zero, List.set_cons_succ]
            refine wpList_run (by kernel_rfl) (.int .i64 0) wz rfl ?_
            simp only [Act.put, List.setIfInBounds_toArray, List.set_cons_zero, List.set_cons_succ]
            refine wpList_nil ?_
            go_wp2_with fail
            go_ret2
            exact ⟨g57, rfl, (RowG.sg (n := N) (c := N) Fv16_57.out ((Gold.cwX_length _ _).trans HNN.out.symm) (Nat.le_refl _) (by omega)), HBV14.out.trans (B0.out.mono HBV14.out.size)⟩
set_option maxRecDepth 100000 in
set_option maxHeartbeats 8000000 in
theorem encodeExt_no (A : Option Addr) (n c : Nat) (xs : List Gold.E2) (z : Int) (hr : rB n z = false) (hn : n ≤ 1048576) (w : World) (hX : Sg exC 2 w A n c xs) :
    Calls Try.prog 11 #[.slice A n c, .int .i64 z] w fun e w' => e = .returned (.tuple #[.slice none 0 0, .int .i64 1]) ∧ Below w.heap.size w w' := by
  have HX := Lib.hid hX
  have hxl := hX.len
  have hcp := hX.cap
  have htp := hX.top
  clear hX
  go_enter Try.func11, Try.ntmps11
  go_upto_region 1 with fail
  refine wp_region_lit ?_
  refine wpList_run (by kernel_rfl) (.slice A n c) w rfl ?_
  simp only [Act.put, List.setIfInBounds_toArray, List.set_cons_zero, List.set_cons_succ]
  refine wpList_run (by kernel_rfl) (.int .i64 (n : Int)) w (xo_len A n c Try.underlying28 rfl rfl) ?_
  simp only [Act.put, List.setIfInBounds_toArray, List.set_cons_zero, List.set_cons_succ]
  refine wpList_run (by kernel_rfl) (.int .i64 z) w rfl ?_
  simp only [Act.put, List.setIfInBounds_toArray, List.set_cons_zero, List.set_cons_succ]
  refine wpList_call (by kernel_rfl) 38 Try.func38 (by kernel_rfl) (by kernel_rfl) _ _ #[.int .i64 (n : Int), .int .i64 z] rfl (by kernel_rfl) ?_
  refine (isRow_any n z (by omega) w).mono ?_
  rintro e V1 ⟨rfl, hb⟩
  have B0 := Lib.hid hb
  rw [hr]
  clear hb 
  refine ⟨_, rfl, ?_⟩
  simp only [Act.put, List.setIfInBounds_toArray, List.set_cons_zero, List.set_cons_succ]
  refine wpList_run (by kernel_rfl) (.bool true) V1 rfl ?_
  simp only [Act.put, List.setIfInBounds_toArray, List.set_cons_zero, List.set_cons_succ]
  refine wpList_nil ?_
  go_upto_region 2 with fail
  refine wp_region_lit ?_
  refine wpList_run (by kernel_rfl) (.slice none 0 0) V1 rfl ?_
  simp only [Act.put, List.setIfInBounds_toArray, List.set_cons_zero, List.set_cons_succ]
  refine wpList_run (by kernel_rfl) (.int .i64 1) V1 rfl ?_
  simp only [Act.put, List.setIfInBounds_toArray, List.set_cons_zero, List.set_cons_succ]
  refine wpList_nil ?_
  go_wp2_with fail
  go_ret2
  exact ⟨rfl, B0.out⟩
end Go.Proofs.Ytkefijogpiofbaa

namespace Go.Proofs.Ytkefijogpiofbaa.K
set_option linter.unusedVariables false
set_option linter.unusedSimpArgs false
set_option linter.unusedSectionVars false
set_option maxRecDepth 8000
open Go.ChangeShapes Go.WideShapes Go.ChangeAt Go.RowKit Go.Joins Go.Deep
theorem list_ofK {α : Type} (n : Nat) (P : Nat → α → Prop) (h : ∀ i, i < n → ∃ x, P i x) : ∃ l : List α, l.length = n ∧ ∀ i x, l[i]? = some x → P i x := by
  induction n with
  | zero => exact ⟨[], rfl, fun i x hx => by simp at hx⟩
  | succ n ih =>
    obtain ⟨l, hl, hp⟩ := ih fun i hi => h i (by omega)
    obtain ⟨x, hx⟩ := h n (Nat.lt_succ_self n)
    refine ⟨l ++ [x], by simp [hl], fun i y hy => ?_⟩
    by_cases hi : i < l.length
    · rw [List.getElem?_append_left hi] at hy
      exact hp i y hy
    · rw [List.getElem?_append_right (by omega)] at hy
      have e : i = n := by
        have := (List.getElem?_eq_some_iff.1 hy).1
        simp at this
        omega
      subst e
      rw [hl, Nat.sub_self] at hy
      simp at hy
      subst hy
      exact hx
section
variable {α : Type} {E : α → List Value} {k : Nat} [hE : Enc E k] {P : Program} {H : Type} {enc : TypeId × Value → H} {W : World} {b1 : Nat} {sp : Nat → Bool} {hd : Bool} {t e : TypeId}
/-- a slice that comes in, its elements opened -/
theorem open_seq (p : α → Prop) (hu : P.underlying t = some (.slice e)) (hc : P.cellsOf e = k) (hel : ∀ m cs y, cs.length = k → DataW.trod enc P W b1 sp hd m e cs = some y → ∃ x, cs = E x ∧ p x) {m : Nat} {cs : List Value} {y : DataW H × List MemPlace} (h : DataW.trod enc P W b1 sp hd m t cs = some y) :
    ∃ A n c xs, cs = [.slice A n c] ∧ Sg E k W A n c xs ∧ ∀ x ∈ xs, p x := by
  have hk := hE.pos
  rcases open_slice hu h with ⟨hcs, _⟩ | ⟨a, len, cap, m', n', D, Pl, hcs, _, hl, hm, hmm, _, hi⟩
  · exact ⟨none, 0, 0, [], hcs, Sg.nil_ _, fun x hx => by cases hx⟩
  · unfold maxLen at hm
    have hC : ∀ i, i < len → ∃ x, p x ∧ ∀ j v, (E x)[j]? = some v → W.cell? ((a.add (i * k)).add j) = some v := fun i hin => by
      obtain ⟨cs', hc2, ht⟩ := hi i (by rw [hmm]; split <;> omega)
      rw [hc] at hc2
      obtain ⟨_, hcl, hat⟩ := World.cells?_some hc2
      obtain ⟨x, hx, hpx⟩ := hel _ _ _ hcl ht
      subst hx
      exact ⟨x, hpx, fun j v hv => (hat j (by rw [← hE.len x]; exact (List.getElem?_eq_some_iff.1 hv).1)).trans hv⟩
    obtain ⟨xs, hxl, hxx⟩ := list_ofK len _ hC
    refine ⟨some a, len, cap, xs, hcs, ⟨hxl, hl, by omega, fun e => (by cases e), fun i x hx => ?_⟩, fun x hx => ?_⟩
    · have hil := (List.getElem?_eq_some_iff.1 hx).1
      obtain ⟨b, off, s⟩ := a
      obtain ⟨x0, hx0⟩ : ∃ x0, xs[0]? = some x0 := ⟨_, List.getElem?_eq_getElem (by omega)⟩
      obtain ⟨v0, hv0⟩ : ∃ v0, (E x0)[0]? = some v0 := ⟨_, List.getElem?_eq_getElem (by rw [hE.len]; exact hk)⟩
      have h0 := (hxx 0 x0 hx0).2 0 v0 hv0
      rw [Nat.zero_mul] at h0
      have hs : s = none := by
        cases s with
        | none => rfl
        | some q =>
          simp only [Addr.add, if_true, World.cell?] at h0
          split at h0 <;> simp at h0
      subst hs
      refine ⟨b, off, rfl, fun j v hv => ?_⟩
      have h1 := (hxx i x hx).2 j v hv
      rw [Addr.add_mid, Addr.add_mid] at h1
      exact h1
    · obtain ⟨i, hi'⟩ := List.getElem?_of_mem hx
      exact (hxx i x hi').1
end
end Go.Proofs.Ytkefijogpiofbaa.K
namespace Go.Proofs.Ytkefijogpiofbaa
set_option linter.unusedVariables false
set_option linter.unusedSimpArgs false
set_option linter.unusedSectionVars false
open Go.ChangeShapes Go.WideShapes Go.ChangeAt Go.RowKit Go.Joins Go.Deep Go.Proofs.Ytkefijogpiofbaa.K
theorem own : ownKnob Try.prog.godebug = none := by kernel_rfl
theorem laidOut : laidOutB Try.prog = true := by kernel_rfl
section
variable {H : Type} {enc : TypeId × Value → H} {W : World} {base : Nat} {sp : Nat → Bool} {b1 : Nat} {hd : Bool} {v : Value} {d : DataW H} {p : List MemPlace}
theorem cells9U : Try.prog.cellsOf 29 = 1 := by kernel_rfl
theorem trod9_u64 {m : Nat} {cs : List Value} {y : DataW H × List MemPlace} (h : DataW.trod enc Try.prog W b1 sp hd m 29 cs = some y) : ∃ x : Nat, cs = wdC x ∧ x < 18446744073709551616 := by
  obtain ⟨a, e, _, w⟩ := DataW.trod_int Try.underlying29 h
  have hb := bounds_u64 w
  exact ⟨a.toNat, by rw [e]; simp only [wdC]; rw [Int.toNat_of_nonneg hb.1], by omega⟩
theorem open9_u64s (hv : Value.okWide Try.prog W .any base 22 v) (h : DataW.Trod enc Try.prog W b1 sp hd 22 v d p) : ∃ (A : Option Addr) (n c : Nat) (xs : List Nat), v = .slice A n c ∧ Sg wdC 1 W A n c xs ∧ ∀ x ∈ xs, x < 18446744073709551616 := by
  obtain ⟨A, n, c, rfl⟩ : ∃ A n c, v = .slice A n c := okWide_slice Try.underlying22 hv
  obtain ⟨fuel, hf⟩ := h
  obtain ⟨A2, n2, c2, xs, e, hs, hp⟩ := open_seq (E := wdC) (fun x => x < 18446744073709551616) Try.underlying22 cells9U (fun m cs y _ hy => trod9_u64 hy) (show DataW.trod enc Try.prog W b1 sp hd fuel 22 [.slice A n c] = some (d, p) by simpa [Value.cells] using hf)
  simp only [List.cons.injEq, Value.slice.injEq, and_true] at e
  obtain ⟨rfl, rfl, rfl⟩ := e
  exact ⟨A, n, c, xs, rfl, hs, hp⟩
end
end Go.Proofs.Ytkefijogpiofbaa

namespace Go.Proofs.Ytkefijogpiofbaa
set_option linter.unusedVariables false
set_option linter.unusedSimpArgs false
set_option linter.unusedSectionVars false
set_option maxRecDepth 8000
open Go.ChangeShapes Go.WideShapes Go.ChangeAt Go.RowKit Go.Joins Go.Deep Go.Proofs.Ytkefijogpiofbaa.K
section
variable {H : Type} {enc : TypeId × Value → H} {W : World} {base : Nat} {sp : Nat → Bool} {b1 : Nat} {hd : Bool} {v : Value} {d : DataW H} {p : List MemPlace}
theorem cells9X : Try.prog.cellsOf 31 = 2 := by kernel_rfl
theorem cells9V : Try.prog.cellsOf 29 = 1 := by kernel_rfl
theorem trod9_ext {m : Nat} {cs : List Value} {y : DataW H × List MemPlace} (hl : cs.length = 2) (h : DataW.trod enc Try.prog W b1 sp hd m 31 cs = some y) : ∃ o : Int × Int, cs = exP o ∧ (Gold.U64 o.1 ∧ Gold.U64 o.2) := by
  obtain ⟨ys, m2, _, _, _, hn, hel⟩ := DataW.trod_struct Try.underlying31 h
  match cs, hl, ys, hn with
  | [c0, c1], _, [y0, y1], _ =>
    have g0 : DataW.trod enc Try.prog W b1 sp hd m2 29 [c0] = some y0 := by simpa [cells9V] using hel 0 _ rfl
    have g1 : DataW.trod enc Try.prog W b1 sp hd m2 29 [c1] = some y1 := by simpa [cells9V] using hel 1 _ rfl
    obtain ⟨a, e0, _, w0⟩ := DataW.trod_int Try.underlying29 g0
    obtain ⟨b, e1, _, w1⟩ := DataW.trod_int Try.underlying29 g1
    simp only [List.cons.injEq, and_true] at e0 e1
    subst e0 e1
    have h0 := bounds_u64 w0
    have h1 := bounds_u64 w1
    exact ⟨(a, b), rfl, ⟨h0.1, by omega⟩, ⟨h1.1, by omega⟩⟩
theorem open9_exts (hv : Value.okWide Try.prog W .any base 28 v) (h : DataW.Trod enc Try.prog W b1 sp hd 28 v d p) : ∃ (A : Option Addr) (n c : Nat) (xs : List (Int × Int)), v = .slice A n c ∧ Sg exP 2 W A n c xs ∧ J.Nums xs := by
  obtain ⟨A, n, c, rfl⟩ : ∃ A n c, v = .slice A n c := okWide_slice Try.underlying28 hv
  obtain ⟨fuel, hf⟩ := h
  obtain ⟨A2, n2, c2, xs, e, hs, hp⟩ := open_seq (E := exP) (fun o => Gold.U64 o.1 ∧ Gold.U64 o.2) Try.underlying28 cells9X (fun m cs y hl hy => trod9_ext hl hy) (show DataW.trod enc Try.prog W b1 sp hd fuel 28 [.slice A n c] = some (d, p) by simpa [Value.cells] using hf)
  simp only [List.cons.injEq, Value.slice.injEq, and_true] at e
  obtain ⟨rfl, rfl, rfl⟩ := e
  exact ⟨A, n, c, xs, rfl, hs, hp⟩
end
end Go.Proofs.Ytkefijogpiofbaa

