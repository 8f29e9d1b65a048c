/- Several texts in one: Yo. -/
import Derived.Test.YtbecajihgbbgjaaDoorV03
set_option linter.unusedVariables false
set_option linter.unusedSimpArgs false
set_option linter.unusedSectionVars false
namespace Go.Proofs.YtbecajihgbbgjaaDoor
set_option maxRecDepth 8000
open Go.RowKit Go.Proofs.YtbecajihgbbgjaaDoor.K
attribute [local irreducible] wpList wpQuiet
/-- a condition as it comes in -/
structure _root_.Qu.Ci where
 col : Int
 lo : Int
 hi : Int
 deriving DecidableEq
def _root_.Qu.Cd.ci (c : Qu.Cd) : Qu.Ci := ⟨(c.col : Int), (c.lo : Int), (c.hi : Int)⟩
def _root_.Qu.isC (x : Int) : Bool := decide (0 ≤ x) && decide (x < 4)
def _root_.Qu.valR (r : Rd) : Nat → Int
 | 0 => r.who
 | 1 => r.when_
 | 2 => r.kind
 | _ => r.value
def _root_.Qu.mC (r : Rd) (e : Qu.Ci) : Bool := Qu.isC e.col && (decide (e.lo ≤ Qu.valR r e.col.toNat) && decide (Qu.valR r e.col.toNat ≤ e.hi))
def _root_.Qu.vC (e : Qu.Ci) : Bool := Qu.isC e.col && (decide (0 ≤ e.lo) && (decide (e.lo ≤ e.hi) && decide (e.hi ≤ (Qu.maxN e.col.toNat : Int))))
def _root_.Qu.vL (l : List Qu.Ci) : Bool := l.all Qu.vC && decide (l.length ≤ 3)
def ciC (c : Qu.Ci) : List Value := [.int .i64 c.col, .int .i64 c.lo, .int .i64 c.hi]
instance : Enc ciC 3 := ⟨fun _ => rfl, fun x u hu => by
 simp only [ciC, List.mem_cons, List.not_mem_nil, or_false] at hu
 rcases hu with rfl | rfl | rfl <;> rfl, by decide⟩
theorem all_false {α : Type} {f : α → Bool} {l : List α} {i : Nat} {x : α} (h : l[i]? = some x) (hf : f x = false) : l.all f = false := by
 rw [List.all_eq_false]
 exact ⟨x, List.mem_of_getElem? h, by rw [hf]; decide⟩
theorem all_take {α : Type} {f : α → Bool} {l : List α} {i : Nat} {x : α} (h : l[i]? = some x) (h0 : (l.take i).all f = true) (hf : f x = true) : (l.take (i + 1)).all f = true := by
 rw [List.take_add_one, h]
 simp [h0, hf]
set_option maxRecDepth 100000 in
set_option maxHeartbeats 8000000 in
theorem isColumn_as (x : Int) (b : Bool) (hb : Qu.isC x = b) (w : World) : Calls Tryd.prog 55 #[.int .i64 x] w fun e w' => e = .returned (.bool b) ∧ w' = w := by
 go_enter Tryd.func55, Tryd.ntmps55
 go_upto_region 1 with fail
 by_cases h0 : x ≥ 0
 ·by_cases h1 : x < 4
  ·refine wp_region_lit ?_
   refine zr (.int .i64 x) w rfl ?_
   simp only [Act.put, zA]
   refine zr (.bool true) w (xo_geqT .i64 x 0 (by omega) rfl rfl rfl) ?_
   simp only [Act.put, zA]
   refine zr (.bool true) w rfl ?_
   simp only [Act.put, zA]
   refine zr (.int .i64 x) w rfl ?_
   simp only [Act.put, zA]
   refine zr (.bool true) w (xo_lssT .i64 x 4 (by omega) rfl rfl rfl) ?_
   simp only [Act.put, zA]
   refine zr (.bool true) w rfl ?_
   simp only [Act.put, zA]
   refine zr (.bool true) w rfl ?_
   simp only [Act.put, zA]
   refine wpList_nil ?_
   go_wp2_with fail
   go_ret
   exact ⟨by rw [← hb]; unfold Qu.isC; simp <;> omega, rfl⟩
  ·refine wp_region_lit ?_
   refine zr (.int .i64 x) w rfl ?_
   simp only [Act.put, zA]
   refine zr (.bool true) w (xo_geqT .i64 x 0 (by omega) rfl rfl rfl) ?_
   simp only [Act.put, zA]
   refine zr (.bool true) w rfl ?_
   simp only [Act.put, zA]
   refine zr (.int .i64 x) w rfl ?_
   simp only [Act.put, zA]
   refine zr (.bool false) w (xo_lssF .i64 x 4 (by omega) rfl rfl rfl) ?_
   simp only [Act.put, zA]
   refine zr (.bool false) w rfl ?_
   simp only [Act.put, zA]
   refine zr (.bool false) w rfl ?_
   simp only [Act.put, zA]
   refine wpList_nil ?_
   go_wp2_with fail
   go_ret
   exact ⟨by rw [← hb]; unfold Qu.isC; simp <;> omega, rfl⟩
 ·refine wp_region_lit ?_
  refine zr (.int .i64 x) w rfl ?_
  simp only [Act.put, zA]
  refine zr (.bool false) w (xo_geqF .i64 x 0 (by omega) rfl rfl rfl) ?_
  simp only [Act.put, zA]
  refine zr (.bool false) w rfl ?_
  simp only [Act.put, zA]
  refine zl ?_
  try simp only [Act.put, zA]
  refine zl ?_
  try simp only [Act.put, zA]
  refine zr (.bool false) w rfl ?_
  simp only [Act.put, zA]
  refine zr (.bool false) w rfl ?_
  simp only [Act.put, zA]
  refine wpList_nil ?_
  go_wp2_with fail
  go_ret
  exact ⟨by rw [← hb]; unfold Qu.isC; simp <;> omega, rfl⟩
set_option maxRecDepth 100000 in
set_option maxHeartbeats 32000000 in
theorem validCond_as (col lo hi : Int) (b : Bool) (hb : Qu.vC ⟨col, lo, hi⟩ = b) (w : World) (hG : Gc w) :
  Calls Tryd.prog 56 #[.agg #[.int .i64 col, .int .i64 lo, .int .i64 hi]] w fun e w' => e = .returned (.bool b) ∧ Below w.heap.size w w' := by
 have HG := zh hG
 clear hG
 go_enter Tryd.func56, Tryd.ntmps56
 go_upto_region 1 with fail
 refine wp_named1 (fun V1 hb g0 hlt => ?_)
 have B0 := zh hb
 have Fv0_1 : Hid (V1.heap[w.heap.size]? = some (.cells #[.int .i64 col, .int .i64 lo, .int .i64 hi] 49 (0, 0))) := zh (g0)
 have Gb0 : Hid (w.heap.size ≤ w.heap.size) := zh (by omega)
 clear hb g0 hlt
 have Lt0 : Hid (w.heap.size < V1.heap.size) := zh (xp_lt Fv0_1.out)
 cases his : Qu.isC col with
 | false =>
  have hme : Qu.vC ⟨col, lo, hi⟩ = false := by unfold Qu.vC; rw [show (Qu.Ci.mk col lo hi).col = col from rfl, his]; rfl
  try simp only [List.append_eq, List.cons_append, List.nil_append]
  refine wp_ordX (.q 0 (.q 1 (.one 2 (.q 3 (.q 4 (.q 5 (.q 6 (.q 7 (.q 8 (.q 9 (.q 10 (.q 11 (.q 12 (.q 13 (.q 14 (.q 15 (.q 16 (.q 17 (.q 18 (.q 19 (.q 20 (.q 21 (.q 22 (.q 23 (.q 24 (.q 25 .nil)))))))))))))))))))))))))) (by kernel_rfl) (by kernel_rfl) (fun _ _ dt _ _ h => by first | exact h.elim | (cases dt <;> exact h)) (by kernel_rfl) (by kernel_rfl) (fun V2 hb => ?_)
  have B1 := zh hb
  clear hb
  refine wpX_q (.pointer (some ⟨w.heap.size, 0, none⟩)) rfl (by kernel_rfl) (fun v hW => (xo_fld0 0 w.heap.size 0 (by kernel_rfl) rfl rfl)) ?_
  simp only [ptr, Act.put, zA]
  refine wpX_q (.int .i64 col) rfl (by kernel_rfl) (fun v hW => (xo_load1 ⟨w.heap.size, 0, none⟩ _ (cells_at (heap_keep (heap_keep Fv0_1.out B1.out) hW) 0 rfl) Tryd.underlying3 rfl rfl rfl)) ?_
  simp only [ptr, Act.put, zA]
  refine wpX_one rfl (by kernel_rfl) ?_
  refine hOp_call 55 Tryd.func55 (by kernel_rfl) (by kernel_rfl) _ _ #[.int .i64 col] rfl (by kernel_rfl) ?_
  refine (isColumn_as col false his V2).mono ?_
  rintro e W1 ⟨rfl, hw1⟩
  rw [hw1]
  clear hw1 W1
  refine ⟨_, rfl, (Below.refl V2.heap.size V2), ?_⟩
  simp only [ptr, Act.put, zA]
  refine wpX_q (.bool false) rfl (by kernel_rfl) (fun v hW => rfl) ?_
  simp only [ptr, Act.put, zA]
  refine wpX_skip rfl (by kernel_rfl) ?_
  try simp only [ptr, Act.put, zA]
  refine wpX_skip rfl (by kernel_rfl) ?_
  try simp only [ptr, Act.put, zA]
  refine wpX_skip rfl (by kernel_rfl) ?_
  try simp only [ptr, Act.put, zA]
  refine wpX_q (.bool false) rfl (by kernel_rfl) (fun v hW => rfl) ?_
  simp only [ptr, Act.put, zA]
  refine wpX_q (.bool false) rfl (by kernel_rfl) (fun v hW => rfl) ?_
  simp only [ptr, Act.put, zA]
  refine wpX_skip rfl (by kernel_rfl) ?_
  try simp only [ptr, Act.put, zA]
  refine wpX_skip rfl (by kernel_rfl) ?_
  try simp only [ptr, Act.put, zA]
  refine wpX_skip rfl (by kernel_rfl) ?_
  try simp only [ptr, Act.put, zA]
  refine wpX_skip rfl (by kernel_rfl) ?_
  try simp only [ptr, Act.put, zA]
  refine wpX_skip rfl (by kernel_rfl) ?_
  try simp only [ptr, Act.put, zA]
  refine wpX_q (.bool false) rfl (by kernel_rfl) (fun v hW => rfl) ?_
  simp only [ptr, Act.put, zA]
  refine wpX_q (.bool false) rfl (by kernel_rfl) (fun v hW => rfl) ?_
  simp only [ptr, Act.put, zA]
  refine wpX_skip rfl (by kernel_rfl) ?_
  try simp only [ptr, Act.put, zA]
  refine wpX_skip rfl (by kernel_rfl) ?_
  try simp only [ptr, Act.put, zA]
  refine wpX_skip rfl (by kernel_rfl) ?_
  try simp only [ptr, Act.put, zA]
  refine wpX_skip rfl (by kernel_rfl) ?_
  try simp only [ptr, Act.put, zA]
  refine wpX_skip rfl (by kernel_rfl) ?_
  try simp only [ptr, Act.put, zA]
  refine wpX_skip rfl (by kernel_rfl) ?_
  try simp only [ptr, Act.put, zA]
  refine wpX_skip rfl (by kernel_rfl) ?_
  try simp only [ptr, Act.put, zA]
  refine wpX_skip rfl (by kernel_rfl) ?_
  try simp only [ptr, Act.put, zA]
  refine wpX_q (.bool false) rfl (by kernel_rfl) (fun v hW => rfl) ?_
  simp only [ptr, Act.put, zA]
  refine wpX_q (.bool false) rfl (by kernel_rfl) (fun v hW => rfl) ?_
  simp only [ptr, Act.put, zA]
  refine wpX_nil ?_
  obtain rfl : b = false := by rw [← hb, hme] <;> simp <;> omega
  have C0_2 := zb B0 B1
  have hbf := C0_2.out
  go_wp2_with fail
  go_ret
  exact ⟨rfl, hbf⟩
 | true =>
  have hcol : 0 ≤ col ∧ col < 4 := by unfold Qu.isC at his; simpa using his
  obtain ⟨k, rfl⟩ : ∃ k : Nat, col = (k : Int) := ⟨col.toNat, by omega⟩
  have hk4 : k < 4 := by omega
  obtain ⟨m, hm⟩ : ∃ m, Qu.maxN k = m := ⟨_, rfl⟩
  have HM := zh hm
  clear hm
  have hme : Qu.vC ⟨(k : Int), lo, hi⟩ = (decide (0 ≤ lo) && (decide (lo ≤ hi) && decide (hi ≤ (m : Int)))) := by unfold Qu.vC; rw [show (Qu.Ci.mk (k : Int) lo hi).col = (k : Int) from rfl, his, Int.toNat_natCast, HM.out]; rfl
  by_cases h1 : lo ≥ 0
  ·by_cases h2 : lo ≤ hi
   ·have hmi : ((Qu.maxN k : Nat) : Int) = (m : Int) := by rw [HM.out]
    by_cases h3 : hi ≤ ((Qu.maxN k : Nat) : Int)
    ·try simp only [List.append_eq, List.cons_append, List.nil_append]
     refine wp_ordX (.q 0 (.q 1 (.one 2 (.q 3 (.q 4 (.q 5 (.q 6 (.q 7 (.q 8 (.q 9 (.q 10 (.q 11 (.q 12 (.q 13 (.q 14 (.q 15 (.q 16 (.q 17 (.q 18 (.q 19 (.q 20 (.q 21 (.q 22 (.q 23 (.q 24 (.q 25 .nil)))))))))))))))))))))))))) (by kernel_rfl) (by kernel_rfl) (fun _ _ dt _ _ h => by first | exact h.elim | (cases dt <;> exact h)) (by kernel_rfl) (by kernel_rfl) (fun V2 hb => ?_)
     have B1 := zh hb
     clear hb
     refine wpX_q (.pointer (some ⟨w.heap.size, 0, none⟩)) rfl (by kernel_rfl) (fun v hW => (xo_fld0 0 w.heap.size 0 (by kernel_rfl) rfl rfl)) ?_
     simp only [ptr, Act.put, zA]
     refine wpX_q (.int .i64 (k : Int)) rfl (by kernel_rfl) (fun v hW => (xo_load1 ⟨w.heap.size, 0, none⟩ _ (cells_at (heap_keep (heap_keep Fv0_1.out B1.out) hW) 0 rfl) Tryd.underlying3 rfl rfl rfl)) ?_
     simp only [ptr, Act.put, zA]
     refine wpX_one rfl (by kernel_rfl) ?_
     refine hOp_call 55 Tryd.func55 (by kernel_rfl) (by kernel_rfl) _ _ #[.int .i64 (k : Int)] rfl (by kernel_rfl) ?_
     refine (isColumn_as (k : Int) true his V2).mono ?_
     rintro e W1 ⟨rfl, hw1⟩
     rw [hw1]
     clear hw1 W1
     refine ⟨_, rfl, (Below.refl V2.heap.size V2), ?_⟩
     simp only [ptr, Act.put, zA]
     refine wpX_q (.bool true) rfl (by kernel_rfl) (fun v hW => rfl) ?_
     simp only [ptr, Act.put, zA]
     refine wpX_q (.pointer (some ⟨w.heap.size, 1, none⟩)) rfl (by kernel_rfl) (fun v hW => (xo_fld0 1 w.heap.size 1 (by kernel_rfl) rfl rfl)) ?_
     simp only [ptr, Act.put, zA]
     refine wpX_q (.int .i64 lo) rfl (by kernel_rfl) (fun v hW => (xo_load1 ⟨w.heap.size, 1, none⟩ _ (cells_at (heap_keep (heap_keep Fv0_1.out B1.out) hW) 1 rfl) Tryd.underlying3 rfl rfl rfl)) ?_
     simp only [ptr, Act.put, zA]
     refine wpX_q (.bool true) rfl (by kernel_rfl) (fun v hW => (xo_geqT .i64 lo 0 (by omega) rfl rfl rfl)) ?_
     simp only [ptr, Act.put, zA]
     refine wpX_q (.bool true) rfl (by kernel_rfl) (fun v hW => rfl) ?_
     simp only [ptr, Act.put, zA]
     refine wpX_q (.bool true) rfl (by kernel_rfl) (fun v hW => rfl) ?_
     simp only [ptr, Act.put, zA]
     refine wpX_q (.pointer (some ⟨w.heap.size, 1, none⟩)) rfl (by kernel_rfl) (fun v hW => (xo_fld0 1 w.heap.size 1 (by kernel_rfl) rfl rfl)) ?_
     simp only [ptr, Act.put, zA]
     refine wpX_q (.int .i64 lo) rfl (by kernel_rfl) (fun v hW => (xo_load1 ⟨w.heap.size, 1, none⟩ _ (cells_at (heap_keep (heap_keep Fv0_1.out B1.out) hW) 1 rfl) Tryd.underlying3 rfl rfl rfl)) ?_
     simp only [ptr, Act.put, zA]
     refine wpX_q (.pointer (some ⟨w.heap.size, 2, none⟩)) rfl (by kernel_rfl) (fun v hW => (xo_fld0 2 w.heap.size 2 (by kernel_rfl) rfl rfl)) ?_
     simp only [ptr, Act.put, zA]
     refine wpX_q (.int .i64 hi) rfl (by kernel_rfl) (fun v hW => (xo_load1 ⟨w.heap.size, 2, none⟩ _ (cells_at (heap_keep (heap_keep Fv0_1.out B1.out) hW) 2 rfl) Tryd.underlying3 rfl rfl rfl)) ?_
     simp only [ptr, Act.put, zA]
     refine wpX_q (.bool true) rfl (by kernel_rfl) (fun v hW => (xo_leqT .i64 lo hi (by omega) rfl rfl rfl)) ?_
     simp only [ptr, Act.put, zA]
     refine wpX_q (.bool true) rfl (by kernel_rfl) (fun v hW => rfl) ?_
     simp only [ptr, Act.put, zA]
     refine wpX_q (.bool true) rfl (by kernel_rfl) (fun v hW => rfl) ?_
     simp only [ptr, Act.put, zA]
     refine wpX_q (.pointer (some ⟨w.heap.size, 2, none⟩)) rfl (by kernel_rfl) (fun v hW => (xo_fld0 2 w.heap.size 2 (by kernel_rfl) rfl rfl)) ?_
     simp only [ptr, Act.put, zA]
     refine wpX_q (.int .i64 hi) rfl (by kernel_rfl) (fun v hW => (xo_load1 ⟨w.heap.size, 2, none⟩ _ (cells_at (heap_keep (heap_keep Fv0_1.out B1.out) hW) 2 rfl) Tryd.underlying3 rfl rfl rfl)) ?_
     simp only [ptr, Act.put, zA]
     refine wpX_q (.pointer (some ⟨w.heap.size, 0, none⟩)) rfl (by kernel_rfl) (fun v hW => (xo_fld0 0 w.heap.size 0 (by kernel_rfl) rfl rfl)) ?_
     simp only [ptr, Act.put, zA]
     refine wpX_q (.int .i64 (k : Int)) rfl (by kernel_rfl) (fun v hW => (xo_load1 ⟨w.heap.size, 0, none⟩ _ (cells_at (heap_keep (heap_keep Fv0_1.out B1.out) hW) 0 rfl) Tryd.underlying3 rfl rfl rfl)) ?_
     simp only [ptr, Act.put, zA]
     refine wpX_q (.pointer (some ⟨1, k * 2, none⟩)) rfl (by kernel_rfl) (fun v hW => (xc_iad k (by omega) rfl rfl rfl)) ?_
     simp only [ptr, Act.put, zA]
     refine wpX_q (.pointer (some ⟨1, k * 2 + 1, none⟩)) rfl (by kernel_rfl) (fun v hW => (xo_fld 1 1 (k * 2) 1 (by kernel_rfl) rfl rfl)) ?_
     simp only [ptr, Act.put, zA]
     have C0_2 := zb B0 B1
     refine wpX_q (.int .i64 (Qu.maxN k : Int)) rfl (by kernel_rfl) (fun v hW => (xo_load1 ⟨1, k * 2 + 1, none⟩ _ (Gc.max ((HG.out.keep C0_2.out).keep hW) k (by omega)) Tryd.underlying3 rfl rfl rfl)) ?_
     simp only [ptr, Act.put, zA]
     refine wpX_q (.bool true) rfl (by kernel_rfl) (fun v hW => (xo_leqT .i64 hi ((Qu.maxN k : Nat) : Int) (by omega) rfl rfl rfl)) ?_
     simp only [ptr, Act.put, zA]
     refine wpX_q (.bool true) rfl (by kernel_rfl) (fun v hW => rfl) ?_
     simp only [ptr, Act.put, zA]
     refine wpX_q (.bool true) rfl (by kernel_rfl) (fun v hW => rfl) ?_
     simp only [ptr, Act.put, zA]
     refine wpX_nil ?_
     obtain rfl : b = true := by rw [← hb, hme] <;> simp <;> omega
     have hbf := C0_2.out
     go_wp2_with fail
     go_ret
     exact ⟨rfl, hbf⟩
    ·try simp only [List.append_eq, List.cons_append, List.nil_append]
     refine wp_ordX (.q 0 (.q 1 (.one 2 (.q 3 (.q 4 (.q 5 (.q 6 (.q 7 (.q 8 (.q 9 (.q 10 (.q 11 (.q 12 (.q 13 (.q 14 (.q 15 (.q 16 (.q 17 (.q 18 (.q 19 (.q 20 (.q 21 (.q 22 (.q 23 (.q 24 (.q 25 .nil)))))))))))))))))))))))))) (by kernel_rfl) (by kernel_rfl) (fun _ _ dt _ _ h => by first | exact h.elim | (cases dt <;> exact h)) (by kernel_rfl) (by kernel_rfl) (fun V2 hb => ?_)
     have B1 := zh hb
     clear hb
     refine wpX_q (.pointer (some ⟨w.heap.size, 0, none⟩)) rfl (by kernel_rfl) (fun v hW => (xo_fld0 0 w.heap.size 0 (by kernel_rfl) rfl rfl)) ?_
     simp only [ptr, Act.put, zA]
     refine wpX_q (.int .i64 (k : Int)) rfl (by kernel_rfl) (fun v hW => (xo_load1 ⟨w.heap.size, 0, none⟩ _ (cells_at (heap_keep (heap_keep Fv0_1.out B1.out) hW) 0 rfl) Tryd.underlying3 rfl rfl rfl)) ?_
     simp only [ptr, Act.put, zA]
     refine wpX_one rfl (by kernel_rfl) ?_
     refine hOp_call 55 Tryd.func55 (by kernel_rfl) (by kernel_rfl) _ _ #[.int .i64 (k : Int)] rfl (by kernel_rfl) ?_
     refine (isColumn_as (k : Int) true his V2).mono ?_
     rintro e W1 ⟨rfl, hw1⟩
     rw [hw1]
     clear hw1 W1
     refine ⟨_, rfl, (Below.refl V2.heap.size V2), ?_⟩
     simp only [ptr, Act.put, zA]
     refine wpX_q (.bool true) rfl (by kernel_rfl) (fun v hW => rfl) ?_
     simp only [ptr, Act.put, zA]
     refine wpX_q (.pointer (some ⟨w.heap.size, 1, none⟩)) rfl (by kernel_rfl) (fun v hW => (xo_fld0 1 w.heap.size 1 (by kernel_rfl) rfl rfl)) ?_
     simp only [ptr, Act.put, zA]
     refine wpX_q (.int .i64 lo) rfl (by kernel_rfl) (fun v hW => (xo_load1 ⟨w.heap.size, 1, none⟩ _ (cells_at (heap_keep (heap_keep Fv0_1.out B1.out) hW) 1 rfl) Tryd.underlying3 rfl rfl rfl)) ?_
     simp only [ptr, Act.put, zA]
     refine wpX_q (.bool true) rfl (by kernel_rfl) (fun v hW => (xo_geqT .i64 lo 0 (by omega) rfl rfl rfl)) ?_
     simp only [ptr, Act.put, zA]
     refine wpX_q (.bool true) rfl (by kernel_rfl) (fun v hW => rfl) ?_
     simp only [ptr, Act.put, zA]
     refine wpX_q (.bool true) rfl (by kernel_rfl) (fun v hW => rfl) ?_
     simp only [ptr, Act.put, zA]
     refine wpX_q (.pointer (some ⟨w.heap.size, 1, none⟩)) rfl (by kernel_rfl) (fun v hW => (xo_fld0 1 w.heap.size 1 (by kernel_rfl) rfl rfl)) ?_
     simp only [ptr, Act.put, zA]
     refine wpX_q (.int .i64 lo) rfl (by kernel_rfl) (fun v hW => (xo_load1 ⟨w.heap.size, 1, none⟩ _ (cells_at (heap_keep (heap_keep Fv0_1.out B1.out) hW) 1 rfl) Tryd.underlying3 rfl rfl rfl)) ?_
     simp only [ptr, Act.put, zA]
     refine wpX_q (.pointer (some ⟨w.heap.size, 2, none⟩)) rfl (by kernel_rfl) (fun v hW => (xo_fld0 2 w.heap.size 2 (by kernel_rfl) rfl rfl)) ?_
     simp only [ptr, Act.put, zA]
     refine wpX_q (.int .i64 hi) rfl (by kernel_rfl) (fun v hW => (xo_load1 ⟨w.heap.size, 2, none⟩ _ (cells_at (heap_keep (heap_keep Fv0_1.out B1.out) hW) 2 rfl) Tryd.underlying3 rfl rfl rfl)) ?_
     simp only [ptr, Act.put, zA]
     refine wpX_q (.bool true) rfl (by kernel_rfl) (fun v hW => (xo_leqT .i64 lo hi (by omega) rfl rfl rfl)) ?_
     simp only [ptr, Act.put, zA]
     refine wpX_q (.bool true) rfl (by kernel_rfl) (fun v hW => rfl) ?_
     simp only [ptr, Act.put, zA]
     refine wpX_q (.bool true) rfl (by kernel_rfl) (fun v hW => rfl) ?_
     simp only [ptr, Act.put, zA]
     refine wpX_q (.pointer (some ⟨w.heap.size, 2, none⟩)) rfl (by kernel_rfl) (fun v hW => (xo_fld0 2 w.heap.size 2 (by kernel_rfl) rfl rfl)) ?_
     simp only [ptr, Act.put, zA]
     refine wpX_q (.int .i64 hi) rfl (by kernel_rfl) (fun v hW => (xo_load1 ⟨w.heap.size, 2, none⟩ _ (cells_at (heap_keep (heap_keep Fv0_1.out B1.out) hW) 2 rfl) Tryd.underlying3 rfl rfl rfl)) ?_
     simp only [ptr, Act.put, zA]
     refine wpX_q (.pointer (some ⟨w.heap.size, 0, none⟩)) rfl (by kernel_rfl) (fun v hW => (xo_fld0 0 w.heap.size 0 (by kernel_rfl) rfl rfl)) ?_
     simp only [ptr, Act.put, zA]
     refine wpX_q (.int .i64 (k : Int)) rfl (by kernel_rfl) (fun v hW => (xo_load1 ⟨w.heap.size, 0, none⟩ _ (cells_at (heap_keep (heap_keep Fv0_1.out B1.out) hW) 0 rfl) Tryd.underlying3 rfl rfl rfl)) ?_
     simp only [ptr, Act.put, zA]
     refine wpX_q (.pointer (some ⟨1, k * 2, none⟩)) rfl (by kernel_rfl) (fun v hW => (xc_iad k (by omega) rfl rfl rfl)) ?_
     simp only [ptr, Act.put, zA]
     refine wpX_q (.pointer (some ⟨1, k * 2 + 1, none⟩)) rfl (by kernel_rfl) (fun v hW => (xo_fld 1 1 (k * 2) 1 (by kernel_rfl) rfl rfl)) ?_
     simp only [ptr, Act.put, zA]
     have C0_2 := zb B0 B1
     refine wpX_q (.int .i64 (Qu.maxN k : Int)) rfl (by kernel_rfl) (fun v hW => (xo_load1 ⟨1, k * 2 + 1, none⟩ _ (Gc.max ((HG.out.keep C0_2.out).keep hW) k (by omega)) Tryd.underlying3 rfl rfl rfl)) ?_
     simp only [ptr, Act.put, zA]
     refine wpX_q (.bool false) rfl (by kernel_rfl) (fun v hW => (xo_leqF .i64 hi ((Qu.maxN k : Nat) : Int) (by omega) rfl rfl rfl)) ?_
     simp only [ptr, Act.put, zA]
     refine wpX_q (.bool false) rfl (by kernel_rfl) (fun v hW => rfl) ?_
     simp only [ptr, Act.put, zA]
     refine wpX_q (.bool false) rfl (by kernel_rfl) (fun v hW => rfl) ?_
     simp only [ptr, Act.put, zA]
     refine wpX_nil ?_
     obtain rfl : b = false := by rw [← hb, hme] <;> simp <;> omega
     have hbf := C0_2.out
     go_wp2_with fail
     go_ret
     exact ⟨rfl, hbf⟩
   ·try simp only [List.append_eq, List.cons_append, List.nil_append]
    refine wp_ordX (.q 0 (.q 1 (.one 2 (.q 3 (.q 4 (.q 5 (.q 6 (.q 7 (.q 8 (.q 9 (.q 10 (.q 11 (.q 12 (.q 13 (.q 14 (.q 15 (.q 16 (.q 17 (.q 18 (.q 19 (.q 20 (.q 21 (.q 22 (.q 23 (.q 24 (.q 25 .nil)))))))))))))))))))))))))) (by kernel_rfl) (by kernel_rfl) (fun _ _ dt _ _ h => by first | exact h.elim | (cases dt <;> exact h)) (by kernel_rfl) (by kernel_rfl) (fun V2 hb => ?_)
    have B1 := zh hb
    clear hb
    refine wpX_q (.pointer (some ⟨w.heap.size, 0, none⟩)) rfl (by kernel_rfl) (fun v hW => (xo_fld0 0 w.heap.size 0 (by kernel_rfl) rfl rfl)) ?_
    simp only [ptr, Act.put, zA]
    refine wpX_q (.int .i64 (k : Int)) rfl (by kernel_rfl) (fun v hW => (xo_load1 ⟨w.heap.size, 0, none⟩ _ (cells_at (heap_keep (heap_keep Fv0_1.out B1.out) hW) 0 rfl) Tryd.underlying3 rfl rfl rfl)) ?_
    simp only [ptr, Act.put, zA]
    refine wpX_one rfl (by kernel_rfl) ?_
    refine hOp_call 55 Tryd.func55 (by kernel_rfl) (by kernel_rfl) _ _ #[.int .i64 (k : Int)] rfl (by kernel_rfl) ?_
    refine (isColumn_as (k : Int) true his V2).mono ?_
    rintro e W1 ⟨rfl, hw1⟩
    rw [hw1]
    clear hw1 W1
    refine ⟨_, rfl, (Below.refl V2.heap.size V2), ?_⟩
    simp only [ptr, Act.put, zA]
    refine wpX_q (.bool true) rfl (by kernel_rfl) (fun v hW => rfl) ?_
    simp only [ptr, Act.put, zA]
    refine wpX_q (.pointer (some ⟨w.heap.size, 1, none⟩)) rfl (by kernel_rfl) (fun v hW => (xo_fld0 1 w.heap.size 1 (by kernel_rfl) rfl rfl)) ?_
    simp only [ptr, Act.put, zA]
    refine wpX_q (.int .i64 lo) rfl (by kernel_rfl) (fun v hW => (xo_load1 ⟨w.heap.size, 1, none⟩ _ (cells_at (heap_keep (heap_keep Fv0_1.out B1.out) hW) 1 rfl) Tryd.underlying3 rfl rfl rfl)) ?_
    simp only [ptr, Act.put, zA]
    refine wpX_q (.bool true) rfl (by kernel_rfl) (fun v hW => (xo_geqT .i64 lo 0 (by omega) rfl rfl rfl)) ?_
    simp only [ptr, Act.put, zA]
    refine wpX_q (.bool true) rfl (by kernel_rfl) (fun v hW => rfl) ?_
    simp only [ptr, Act.put, zA]
    refine wpX_q (.bool true) rfl (by kernel_rfl) (fun v hW => rfl) ?_
    simp only [ptr, Act.put, zA]
    refine wpX_q (.pointer (some ⟨w.heap.size, 1, none⟩)) rfl (by kernel_rfl) (fun v hW => (xo_fld0 1 w.heap.size 1 (by kernel_rfl) rfl rfl)) ?_
    simp only [ptr, Act.put, zA]
    refine wpX_q (.int .i64 lo) rfl (by kernel_rfl) (fun v hW => (xo_load1 ⟨w.heap.size, 1, none⟩ _ (cells_at (heap_keep (heap_keep Fv0_1.out B1.out) hW) 1 rfl) Tryd.underlying3 rfl rfl rfl)) ?_
    simp only [ptr, Act.put, zA]
    refine wpX_q (.pointer (some ⟨w.heap.size, 2, none⟩)) rfl (by kernel_rfl) (fun v hW => (xo_fld0 2 w.heap.size 2 (by kernel_rfl) rfl rfl)) ?_
    simp only [ptr, Act.put, zA]
    refine wpX_q (.int .i64 hi) rfl (by kernel_rfl) (fun v hW => (xo_load1 ⟨w.heap.size, 2, none⟩ _ (cells_at (heap_keep (heap_keep Fv0_1.out B1.out) hW) 2 rfl) Tryd.underlying3 rfl rfl rfl)) ?_
    simp only [ptr, Act.put, zA]
    refine wpX_q (.bool false) rfl (by kernel_rfl) (fun v hW => (xo_leqF .i64 lo hi (by omega) rfl rfl rfl)) ?_
    simp only [ptr, Act.put, zA]
    refine wpX_q (.bool false) rfl (by kernel_rfl) (fun v hW => rfl) ?_
    simp only [ptr, Act.put, zA]
    refine wpX_q (.bool false) rfl (by kernel_rfl) (fun v hW => rfl) ?_
    simp only [ptr, Act.put, zA]
    refine wpX_skip rfl (by kernel_rfl) ?_
    try simp only [ptr, Act.put, zA]
    refine wpX_skip rfl (by kernel_rfl) ?_
    try simp only [ptr, Act.put, zA]
    refine wpX_skip rfl (by kernel_rfl) ?_
    try simp only [ptr, Act.put, zA]
    refine wpX_skip rfl (by kernel_rfl) ?_
    try simp only [ptr, Act.put, zA]
    refine wpX_skip rfl (by kernel_rfl) ?_
    try simp only [ptr, Act.put, zA]
    refine wpX_skip rfl (by kernel_rfl) ?_
    try simp only [ptr, Act.put, zA]
    refine wpX_skip rfl (by kernel_rfl) ?_
    try simp only [ptr, Act.put, zA]
    refine wpX_skip rfl (by kernel_rfl) ?_
    try simp only [ptr, Act.put, zA]
    refine wpX_q (.bool false) rfl (by kernel_rfl) (fun v hW => rfl) ?_
    simp only [ptr, Act.put, zA]
    refine wpX_q (.bool false) rfl (by kernel_rfl) (fun v hW => rfl) ?_
    simp only [ptr, Act.put, zA]
    refine wpX_nil ?_
    obtain rfl : b = false := by rw [← hb, hme] <;> simp <;> omega
    have C0_2 := zb B0 B1
    have hbf := C0_2.out
    go_wp2_with fail
    go_ret
    exact ⟨rfl, hbf⟩
  ·try simp only [List.append_eq, List.cons_append, List.nil_append]
   refine wp_ordX (.q 0 (.q 1 (.one 2 (.q 3 (.q 4 (.q 5 (.q 6 (.q 7 (.q 8 (.q 9 (.q 10 (.q 11 (.q 12 (.q 13 (.q 14 (.q 15 (.q 16 (.q 17 (.q 18 (.q 19 (.q 20 (.q 21 (.q 22 (.q 23 (.q 24 (.q 25 .nil)))))))))))))))))))))))))) (by kernel_rfl) (by kernel_rfl) (fun _ _ dt _ _ h => by first | exact h.elim | (cases dt <;> exact h)) (by kernel_rfl) (by kernel_rfl) (fun V2 hb => ?_)
   have B1 := zh hb
   clear hb
   refine wpX_q (.pointer (some ⟨w.heap.size, 0, none⟩)) rfl (by kernel_rfl) (fun v hW => (xo_fld0 0 w.heap.size 0 (by kernel_rfl) rfl rfl)) ?_
   simp only [ptr, Act.put, zA]
   refine wpX_q (.int .i64 (k : Int)) rfl (by kernel_rfl) (fun v hW => (xo_load1 ⟨w.heap.size, 0, none⟩ _ (cells_at (heap_keep (heap_keep Fv0_1.out B1.out) hW) 0 rfl) Tryd.underlying3 rfl rfl rfl)) ?_
   simp only [ptr, Act.put, zA]
   refine wpX_one rfl (by kernel_rfl) ?_
   refine hOp_call 55 Tryd.func55 (by kernel_rfl) (by kernel_rfl) _ _ #[.int .i64 (k : Int)] rfl (by kernel_rfl) ?_
   refine (isColumn_as (k : Int) true his V2).mono ?_
   rintro e W1 ⟨rfl, hw1⟩
   rw [hw1]
   clear hw1 W1
   refine ⟨_, rfl, (Below.refl V2.heap.size V2), ?_⟩
   simp only [ptr, Act.put, zA]
   refine wpX_q (.bool true) rfl (by kernel_rfl) (fun v hW => rfl) ?_
   simp only [ptr, Act.put, zA]
   refine wpX_q (.pointer (some ⟨w.heap.size, 1, none⟩)) rfl (by kernel_rfl) (fun v hW => (xo_fld0 1 w.heap.size 1 (by kernel_rfl) rfl rfl)) ?_
   simp only [ptr, Act.put, zA]
   refine wpX_q (.int .i64 lo) rfl (by kernel_rfl) (fun v hW => (xo_load1 ⟨w.heap.size, 1, none⟩ _ (cells_at (heap_keep (heap_keep Fv0_1.out B1.out) hW) 1 rfl) Tryd.underlying3 rfl rfl rfl)) ?_
   simp only [ptr, Act.put, zA]
   refine wpX_q (.bool false) rfl (by kernel_rfl) (fun v hW => (xo_geqF .i64 lo 0 (by omega) rfl rfl rfl)) ?_
   simp only [ptr, Act.put, zA]
   refine wpX_q (.bool false) rfl (by kernel_rfl) (fun v hW => rfl) ?_
   simp only [ptr, Act.put, zA]
   refine wpX_q (.bool false) rfl (by kernel_rfl) (fun v hW => rfl) ?_
   simp only [ptr, Act.put, zA]
   refine wpX_skip rfl (by kernel_rfl) ?_
   try simp only [ptr, Act.put, zA]
   refine wpX_skip rfl (by kernel_rfl) ?_
   try simp only [ptr, Act.put, zA]
   refine wpX_skip rfl (by kernel_rfl) ?_
   try simp only [ptr, Act.put, zA]
   refine wpX_skip rfl (by kernel_rfl) ?_
   try simp only [ptr, Act.put, zA]
   refine wpX_skip rfl (by kernel_rfl) ?_
   try simp only [ptr, Act.put, zA]
   refine wpX_q (.bool false) rfl (by kernel_rfl) (fun v hW => rfl) ?_
   simp only [ptr, Act.put, zA]
   refine wpX_q (.bool false) rfl (by kernel_rfl) (fun v hW => rfl) ?_
   simp only [ptr, Act.put, zA]
   refine wpX_skip rfl (by kernel_rfl) ?_
   try simp only [ptr, Act.put, zA]
   refine wpX_skip rfl (by kernel_rfl) ?_
   try simp only [ptr, Act.put, zA]
   refine wpX_skip rfl (by kernel_rfl) ?_
   try simp only [ptr, Act.put, zA]
   refine wpX_skip rfl (by kernel_rfl) ?_
   try simp only [ptr, Act.put, zA]
   refine wpX_skip rfl (by kernel_rfl) ?_
   try simp only [ptr, Act.put, zA]
   refine wpX_skip rfl (by kernel_rfl) ?_
   try simp only [ptr, Act.put, zA]
   refine wpX_skip rfl (by kernel_rfl) ?_
   try simp only [ptr, Act.put, zA]
   refine wpX_skip rfl (by kernel_rfl) ?_
   try simp only [ptr, Act.put, zA]
   refine wpX_q (.bool false) rfl (by kernel_rfl) (fun v hW => rfl) ?_
   simp only [ptr, Act.put, zA]
   refine wpX_q (.bool false) rfl (by kernel_rfl) (fun v hW => rfl) ?_
   simp only [ptr, Act.put, zA]
   refine wpX_nil ?_
   obtain rfl : b = false := by rw [← hb, hme] <;> simp <;> omega
   have C0_2 := zb B0 B1
   have hbf := C0_2.out
   go_wp2_with fail
   go_ret
   exact ⟨rfl, hbf⟩
set_option maxRecDepth 100000 in
set_option maxHeartbeats 32000000 in
theorem validFilter_as (A : Option Addr) (n c : Nat) (cs : List Qu.Ci) (b : Bool) (hb : Qu.vL cs = b) (w : World) (hG : Gc w) (hL : Sg ciC 3 w A n c cs) :
  Calls Tryd.prog 43 #[.slice A n c] w fun e w' => e = .returned (.bool b) ∧ Below w.heap.size w w' := by
 have HL := zh hL
 have hln := hL.len
 have hlc := hL.cap
 have hlt := hL.top
 have HG := zh hG
 clear hL hG
 go_enter Tryd.func43, Tryd.ntmps43
 go_upto_region 1 with fail
 refine wp_region_lit ?_
 refine zr (.slice A n c) w rfl ?_
 simp only [Act.put, zA]
 refine zr (.int .i64 (n : Int)) w (xo_len A n c Tryd.underlying44 rfl rfl) ?_
 simp only [Act.put, zA]
 refine zr (.int .i64 0) w rfl ?_
 simp only [Act.put, zA]
 refine wpList_nil ?_
 have O0 := (Below.refl w.heap.size w)
 have B0 := zh (Below.refl w.heap.size w)
 go_wp2_with fail
 go_loopw [7] (fun p wr => ∃ i : Nat, i ≤ n ∧ p = .int .i64 i ∧ (cs.take i).all Qu.vC = true ∧ Below w.heap.size w wr) (fun p _ => n - (intOf p).toNat)
 case atStart => exact ⟨0, Nat.zero_le _, rfl, (by simp), O0⟩
 case round =>
  clear O0
  obtain ⟨wo, rfl⟩ : ∃ wo : World, wo = wr := ⟨_, rfl⟩
  obtain ⟨i, hi, rfl, hHALL, hb0⟩ := hrel
  have hbr := hb0
  clear B0
  have B0 := zh hbr
  clear hbr
  have HALL := zh hHALL
  clear hb0 hHALL
  by_cases hlt2 : i < n
  ·have hci2 : ((i : Int) < (n : Int)) := by omega
   obtain ⟨e0, hx⟩ : ∃ e, cs[i]? = some e := ⟨_, List.getElem?_eq_getElem (by omega)⟩
   obtain ⟨col, lo, hi2⟩ := e0
   have HE := zh hx
   clear hx
   go_upto_region 2 with fail
   refine wp_region_lit ?_
   refine zr (.bool true) wo (xo_lssT .i64 (i : Int) (n : Int) (by omega) rfl rfl rfl) ?_
   simp only [Act.put, zA]
   refine wpList_nil ?_
   go_upto_region 3 with fail
   refine wp_region_lit ?_
   refine zr (.pointer (some (gad A (i * 3)))) wo (xg_idx .i64 (HL.out.keep B0.out) HE.out Tryd.underlying44 (by kernel_rfl) rfl rfl rfl) ?_
   simp only [Act.put, zA]
   refine zr (.agg #[.int .i64 col, .int .i64 lo, .int .i64 hi2]) wo (xg_loadE (E := ciC) (HL.out.keep B0.out) HE.out Tryd.underlying49 rfl (by kernel_rfl) rfl rfl) ?_
   simp only [Act.put, zA]
   refine wpList_new #[.int .i64 0, .int .i64 0, .int .i64 0] 49 (by kernel_rfl) (xo_alloc #[.int .i64 0, .int .i64 0, .int .i64 0] (by kernel_rfl) rfl) ?_
   intro b4 V2 hge h0 hb
   have Ge3 : Hid (wo.heap.size ≤ b4) := zh hge
   have B1 := zh hb
   have Fv4_4 : Hid (V2.heap[b4]? = some (.cells #[.int .i64 0, .int .i64 0, .int .i64 0] 49 (0, 0))) := zh (h0)
   have Lt5 : Hid (b4 < V2.heap.size) := zh (xp_lt Fv4_4.out)
   clear hge h0 hb
   simp only [ptr, Act.put, zA]
   refine wpList_storeW b4 #[.int .i64 0, .int .i64 0, .int .i64 0] #[.int .i64 col, .int .i64 lo, .int .i64 hi2] 49 (by kernel_rfl) Fv4_4.out (xo_storeW b4 #[.int .i64 0, .int .i64 0, .int .i64 0] #[.int .i64 col, .int .i64 lo, .int .i64 hi2] Fv4_4.out (by kernel_rfl) rfl (by simp [Value.oneCell']) rfl rfl rfl) ?_
   intro X2_6 h1 hfar hbel hsz
   have hbr := hbel _ _ Ge3.out B1.out
   clear B1
   have B1 := zh hbr
   clear hbr
   clear Fv4_4
   have Fv4_4 : Hid (X2_6.heap[b4]? = some (.cells #[.int .i64 col, .int .i64 lo, .int .i64 hi2] 49 (0, 0))) := zh (h1)
   have HszX2_6 := zh hsz
   clear h1 hfar hbel hsz
   simp only [ptr, Act.put, zA]
   refine wpList_nil ?_
   cases hm : Qu.vC ⟨col, lo, hi2⟩ with
   | false =>
    go_upto_region 4 with fail
    refine wp_region_lit ?_
    refine zr (.agg #[.int .i64 col, .int .i64 lo, .int .i64 hi2]) X2_6 (xo_loadW b4 _ Fv4_4.out Tryd.underlying49 rfl (by kernel_rfl) rfl rfl) ?_
    simp only [Act.put, zA]
    have C0_2 := zb B0 B1
    refine wpList_call (by kernel_rfl) 56 Tryd.func56 (by kernel_rfl) (by kernel_rfl) _ _ #[.agg #[.int .i64 col, .int .i64 lo, .int .i64 hi2]] rfl (by kernel_rfl) ?_
    refine (validCond_as col lo hi2 false hm X2_6 (HG.out.keep C0_2.out)).mono ?_
    rintro e V3 ⟨rfl, hb⟩
    have B2 := zh hb
    clear hb 
    refine ⟨_, rfl, ?_⟩
    simp only [Act.put, zA]
    refine zr (.bool true) V3 rfl ?_
    simp only [Act.put, zA]
    refine wpList_nil ?_
    go_upto_region 5 with fail
    refine wp_region_lit ?_
    refine zr (.bool false) V3 rfl ?_
    simp only [Act.put, zA]
    refine wpList_nil ?_
    obtain rfl : b = false := by rw [← hb, Qu.vL, all_false HE.out hm]; rfl
    have C0_3 := zb C0_2 B2
    have hbf := C0_3.out
    go_wp2_with fail
    go_ret
    exact ⟨rfl, hbf⟩
   | true =>
    go_upto_region 4 with fail
    refine wp_region_lit ?_
    refine zr (.agg #[.int .i64 col, .int .i64 lo, .int .i64 hi2]) X2_6 (xo_loadW b4 _ Fv4_4.out Tryd.underlying49 rfl (by kernel_rfl) rfl rfl) ?_
    simp only [Act.put, zA]
    have C0_2 := zb B0 B1
    refine wpList_call (by kernel_rfl) 56 Tryd.func56 (by kernel_rfl) (by kernel_rfl) _ _ #[.agg #[.int .i64 col, .int .i64 lo, .int .i64 hi2]] rfl (by kernel_rfl) ?_
    refine (validCond_as col lo hi2 true hm X2_6 (HG.out.keep C0_2.out)).mono ?_
    rintro e V3 ⟨rfl, hb⟩
    have B2 := zh hb
    clear hb 
    refine ⟨_, rfl, ?_⟩
    simp only [Act.put, zA]
    refine zr (.bool false) V3 rfl ?_
    simp only [Act.put, zA]
    refine wpList_nil ?_
    go_upto_region 6 with fail
    refine wp_region_lit ?_
    refine zr (.int .i64 ((i + 1 : Nat) : Int)) V3 (xo_addI (i : Int) 1 ((i + 1 : Nat) : Int) (by omega) (by omega) (by omega) rfl rfl rfl) ?_
    simp only [Act.put, zA]
    refine zr (.int .i64 ((i + 1 : Nat) : Int)) V3 rfl ?_
    simp only [Act.put, zA]
    refine wpList_nil ?_
    have hal := all_take HE.out HALL.out hm
    have C0_3 := zb C0_2 B2
    have hq7 := C0_3.out
    go_wp2_with fail
    go_roundw
    case rel => exact ⟨i + 1, by omega, by go_num, hal, hq7⟩
    case measure => simp [intOf]; omega
  ·have hci2 : ¬ ((i : Int) < (n : Int)) := by omega
   go_upto_region 2 with fail
   refine wp_region_lit ?_
   refine zr (.bool false) wo (xo_lssF .i64 (i : Int) (n : Int) (by omega) rfl rfl rfl) ?_
   simp only [Act.put, zA]
   refine wpList_nil ?_
   have hal : cs.all Qu.vC = true := by rw [← List.take_length (l := cs), show cs.length = i from by omega]; exact HALL.out
   by_cases h3 : n ≤ 3
   ·have hci3 : ((n : Int) ≤ 3) := by omega
    go_upto_region 7 with fail
    refine wp_region_lit ?_
    refine zr (.slice A n c) wo rfl ?_
    simp only [Act.put, zA]
    refine zr (.int .i64 (n : Int)) wo (xo_len A n c Tryd.underlying44 rfl rfl) ?_
    simp only [Act.put, zA]
    refine zr (.bool true) wo (xo_leqT .i64 (n : Int) 3 (by omega) rfl rfl rfl) ?_
    simp only [Act.put, zA]
    refine zr (.bool true) wo rfl ?_
    simp only [Act.put, zA]
    refine wpList_nil ?_
    obtain rfl : b = true := by rw [← hb, Qu.vL, hal]; simp <;> omega
    have hbf := B0.out
    go_wp2_with fail
    go_ret
    exact ⟨rfl, hbf⟩
   ·have hci3 : ¬ ((n : Int) ≤ 3) := by omega
    go_upto_region 7 with fail
    refine wp_region_lit ?_
    refine zr (.slice A n c) wo rfl ?_
    simp only [Act.put, zA]
    refine zr (.int .i64 (n : Int)) wo (xo_len A n c Tryd.underlying44 rfl rfl) ?_
    simp only [Act.put, zA]
    refine zr (.bool false) wo (xo_leqF .i64 (n : Int) 3 (by omega) rfl rfl rfl) ?_
    simp only [Act.put, zA]
    refine zr (.bool false) wo rfl ?_
    simp only [Act.put, zA]
    refine wpList_nil ?_
    obtain rfl : b = false := by rw [← hb, Qu.vL, hal]; simp <;> omega
    have hbf := B0.out
    go_wp2_with fail
    go_ret
    exact ⟨rfl, hbf⟩
end Go.Proofs.YtbecajihgbbgjaaDoor

