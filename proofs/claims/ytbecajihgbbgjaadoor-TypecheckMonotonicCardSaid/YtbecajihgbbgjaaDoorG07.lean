/- Several texts in one: Ycp, Ycq, Ycg. -/
import Derived.Test.YtbecajihgbbgjaaDoorG06
import Derived.Test.YtbecajihgbbgjaaDoorG05
set_option linter.unusedVariables false
set_option linter.unusedSimpArgs false
set_option linter.unusedSectionVars false
namespace Go.Proofs.YtbecajihgbbgjaaDoor
set_option maxRecDepth 8000
open Go.RowKit Go.Proofs.YtbecajihgbbgjaaDoor.K
attribute [local irreducible] wpList wpQuiet
namespace Ty
/-- the product so far (modulo the word), and whether it always kept the limit -/
def pwJ (rows m i p : Nat) (f : Bool) : Prop := p < 18446744073709551616 ∧ ((f = true ∧ p = rows * m ^ i ∧ p < 4611686018427387904) ∨ (f = false ∧ 2 ^ 62 ≤ rows * m ^ i))
theorem pj_start {rows m : Nat} (h : rows ≤ 65536) : pwJ rows m 0 rows true := ⟨by omega, .inl ⟨rfl, by simp, by omega⟩⟩
theorem pj_step {rows m i p hi lo : Nat} {f f2 : Bool} (hr : rows ≤ 65536) (h : pwJ rows m i p f) (h1 : p * m / 18446744073709551616 = hi) (h2 : p * m % 18446744073709551616 = lo) (h3 : (f && (decide (hi = 0) && decide (lo < 4611686018427387904))) = f2) : pwJ rows m (i + 1) lo f2 := by
 have e62 : (2 : Nat) ^ 62 = 4611686018427387904 := by decide
 refine ⟨by omega, ?_⟩
 obtain ⟨hp, ⟨hf, he, hl⟩ | ⟨hf, hb⟩⟩ := h
 ·have e1 : rows * m ^ (i + 1) = p * m := by rw [he, Nat.pow_succ, Nat.mul_assoc]
  rw [e1]
  obtain ⟨pm, hpm⟩ : ∃ z, p * m = z := ⟨_, rfl⟩
  rw [hpm] at h1 h2 ⊢
  subst hf
  rw [Bool.true_and] at h3
  by_cases hh : hi = 0 ∧ lo < 4611686018427387904
  ·rw [decide_eq_true hh.1, decide_eq_true hh.2] at h3
   exact .inl ⟨h3.symm, by omega, hh.2⟩
  ·refine .inr ⟨?_, by omega⟩
   rw [← h3, ← Bool.decide_and]
   exact decide_eq_false hh
 ·subst hf
  exact .inr ⟨h3.symm, pow_big (by omega) (Nat.le_succ i) hb⟩
theorem pj_end {rows m k p : Nat} {f b : Bool} (h : pwJ rows m k p f) (hb : decide (rows * m ^ k < 2 ^ 62) = b) : f = b ∧ (b = true → p = rows * m ^ k ∧ p < 4611686018427387904) := by
 obtain ⟨_, ⟨h1, h2, h3⟩ | ⟨h1, h2⟩⟩ := h
 ·rw [decide_eq_true (by rw [← h2]; exact h3)] at hb
  exact ⟨by rw [h1, hb], fun _ => ⟨h2, h3⟩⟩
 ·rw [decide_eq_false (by omega)] at hb
  exact ⟨by rw [h1, hb], fun e => by rw [← hb] at e; cases e⟩
end Ty
set_option maxRecDepth 100000 in
set_option maxHeartbeats 16000000 in
theorem scale1_as (V : World) (pp pf x m : Nat) (b r : Bool) (hx : x < 18446744073709551616) (hm : m < 18446744073709551616) (lo : Nat) (hLO : x * m % 18446744073709551616 = lo) (hr : (b && (decide (x * m / 18446744073709551616 = 0) && decide (lo < 4611686018427387904))) = r) (w : World) (hV : Below V.heap.size V w) (hp1 : V.heap.size ≤ pp) (hp2 : V.heap.size ≤ pf) (hne : pp ≠ pf)
  (h1 : w.heap[pp]? = some (.cells #[.int .u64 (x : Int)] 91 (0, 0))) (h2 : w.heap[pf]? = some (.cells #[.bool b] 4 (0, 0))) :
  Calls Tryd.prog 59 #[.int .u64 (m : Int), .pointer (some ⟨pp, 0, none⟩), .pointer (some ⟨pf, 0, none⟩)] w fun e w' => e = .returned (.tuple #[]) ∧ w'.heap[pp]? = some (.cells #[.int .u64 (lo : Int)] 91 (0, 0)) ∧ w'.heap[pf]? = some (.cells #[.bool r] 4 (0, 0)) ∧ Below V.heap.size V w' := by
 have B0 := zh hV
 have HRR := zh hr
 obtain ⟨ww, hww⟩ : ∃ z, x * m / 18446744073709551616 = z := ⟨_, rfl⟩
 have HWW := zh hww
 clear hww
 have HLO := zh hLO
 clear hLO
 rw [HWW.out] at HRR
 have hlo : lo < 18446744073709551616 := by rw [← HLO.out]; exact Nat.mod_lt _ (by decide)
 have hmu : x * m < 18446744073709551616 * 18446744073709551616 := Nat.mul_lt_mul'' hx hm
 have hww : ww < 18446744073709551616 := by rw [← HWW.out]; exact Nat.div_lt_of_lt_mul hmu
 have Hppp : Hid (w.heap[pp]? = some (.cells #[.int .u64 (x : Int)] 91 (0, 0))) := zh (h1)
 have Gppp : Hid (V.heap.size ≤ pp) := zh hp1
 have Hppf : Hid (w.heap[pf]? = some (.cells #[.bool b] 4 (0, 0))) := zh (h2)
 have Gppf : Hid (V.heap.size ≤ pf) := zh hp2
 have Np : Hid (pp ≠ pf) := zh hne
 have hm64 := fun w0 => mul64_as x m hx hm w0
 simp only [HWW.out, HLO.out] at hm64
 have HM64 := zh hm64
 clear hm64
 clear hV hr h1 h2 hp1 hp2 hne hmu
 go_enter Tryd.func59, Tryd.ntmps59
 go_upto_region 0 with fail
 refine wp_region_lit ?_
 refine zr (.int .u64 (x : Int)) w (xo_load1 ⟨pp, 0, none⟩ _ (cells_at Hppp.out 0 rfl) Tryd.underlying91 rfl rfl rfl) ?_
 simp only [Act.put, zA]
 refine zr (.int .u64 (m : Int)) w rfl ?_
 simp only [Act.put, zA]
 refine wpList_call (by kernel_rfl) 60 Tryd.func60 (by kernel_rfl) (by kernel_rfl) _ _ #[.int .u64 (x : Int), .int .u64 (m : Int)] rfl (by kernel_rfl) ?_
 refine (HM64.out w).mono ?_
 rintro e W1 ⟨rfl, hw1⟩
 rw [hw1]
 clear hw1 W1
 refine ⟨_, rfl, ?_⟩
 simp only [Act.put, zA]
 refine zr (.tuple #[.int .u64 (ww : Int), .int .u64 (lo : Int)]) w rfl ?_
 simp only [Act.put, zA]
 refine zr (.int .u64 (ww : Int)) w rfl ?_
 simp only [Act.put, zA]
 refine zr (.int .u64 (lo : Int)) w rfl ?_
 simp only [Act.put, zA]
 refine zr (.int .u64 (ww : Int)) w rfl ?_
 simp only [Act.put, zA]
 refine zr (.int .u64 (lo : Int)) w rfl ?_
 simp only [Act.put, zA]
 refine wpList_nil ?_
 cases b with
 | false =>
  go_upto_region 1 with fail
  refine wp_region_lit ?_
  refine zr (.int .u64 (lo : Int)) w rfl ?_
  simp only [Act.put, zA]
  refine zr (.bool false) w (xo_load1 ⟨pf, 0, none⟩ _ (cells_at Hppf.out 0 rfl) Tryd.underlying4 rfl rfl rfl) ?_
  simp only [Act.put, zA]
  refine zr (.bool false) w rfl ?_
  simp only [Act.put, zA]
  refine zl ?_
  try simp only [Act.put, zA]
  refine zl ?_
  try simp only [Act.put, zA]
  refine zr (.bool false) w rfl ?_
  simp only [Act.put, zA]
  refine zr (.bool false) w rfl ?_
  simp only [Act.put, zA]
  refine zl ?_
  try simp only [Act.put, zA]
  refine zl ?_
  try simp only [Act.put, zA]
  refine zr (.bool false) w rfl ?_
  simp only [Act.put, zA]
  refine wpList_store1 pp 0 #[.int .u64 (x : Int)] (.int .u64 (lo : Int)) 91 (by kernel_rfl) Hppp.out (xo_store1 pp 0 #[.int .u64 (x : Int)] _ (.int .u64 (lo : Int)) Hppp.out rfl (by kernel_rfl) rfl rfl rfl rfl) ?_
  intro X1_0 h1 hfar hbel hsz
  have YHppf : X1_0.heap[pf]? = some (.cells #[.bool false] 4 (0, 0)) := hfar _ _ (Ne.symm Np.out) Hppf.out
  have hbr := hbel _ _ Gppp.out B0.out
  clear B0
  have B0 := zh hbr
  clear hbr
  clear Hppf
  have Hppf : Hid (X1_0.heap[pf]? = some (.cells #[.bool false] 4 (0, 0))) := zh YHppf
  clear YHppf
  clear Hppp
  have Hppp : Hid (X1_0.heap[pp]? = some (.cells #[.int .u64 (lo : Int)] 91 (0, 0))) := zh (h1)
  have HszX1_0 := zh hsz
  clear h1 hfar hbel hsz
  simp only [ptr, Act.put, zA]
  refine wpList_store1 pf 0 #[.bool false] (.bool false) 4 (by kernel_rfl) Hppf.out (xo_store1 pf 0 #[.bool false] _ (.bool false) Hppf.out rfl (by kernel_rfl) rfl rfl rfl rfl) ?_
  intro X1_1 h1 hfar hbel hsz
  have YHppp : X1_1.heap[pp]? = some (.cells #[.int .u64 (lo : Int)] 91 (0, 0)) := hfar _ _ Np.out Hppp.out
  have hbr := hbel _ _ Gppf.out B0.out
  clear B0
  have B0 := zh hbr
  clear hbr
  clear Hppp
  have Hppp : Hid (X1_1.heap[pp]? = some (.cells #[.int .u64 (lo : Int)] 91 (0, 0))) := zh YHppp
  clear YHppp
  clear Hppf
  have Hppf : Hid (X1_1.heap[pf]? = some (.cells #[.bool false] 4 (0, 0))) := zh (h1)
  have HszX1_1 := zh hsz
  clear h1 hfar hbel hsz
  simp only [ptr, Act.put, zA]
  refine wpList_nil ?_
  obtain rfl : r = false := by rw [← HRR.out]; simp
  have e1 := Hppp.out
  have e2 := Hppf.out
  have hbf := B0.out
  go_wp2_with fail
  go_end0
  exact ⟨rfl, e1, e2, hbf⟩
 | true =>
  by_cases hz0 : ww = 0
  ·by_cases hl0 : lo < 4611686018427387904
   ·have hci0 : ((ww : Int) = 0) := by omega
    have hci1 : ((lo : Int) < 4611686018427387904) := by omega
    go_upto_region 1 with fail
    refine wp_region_lit ?_
    refine zr (.int .u64 (lo : Int)) w rfl ?_
    simp only [Act.put, zA]
    refine zr (.bool true) w (xo_load1 ⟨pf, 0, none⟩ _ (cells_at Hppf.out 0 rfl) Tryd.underlying4 rfl rfl rfl) ?_
    simp only [Act.put, zA]
    refine zr (.bool true) w rfl ?_
    simp only [Act.put, zA]
    refine zr (.int .u64 (ww : Int)) w rfl ?_
    simp only [Act.put, zA]
    refine zr (.bool true) w (xo_eqlT .u64 (ww : Int) 0 (by omega) rfl rfl rfl) ?_
    simp only [Act.put, zA]
    refine zr (.bool true) w rfl ?_
    simp only [Act.put, zA]
    refine zr (.bool true) w rfl ?_
    simp only [Act.put, zA]
    refine zr (.int .u64 (lo : Int)) w rfl ?_
    simp only [Act.put, zA]
    refine zr (.bool true) w (xo_lssT .u64 (lo : Int) 4611686018427387904 (by omega) rfl rfl rfl) ?_
    simp only [Act.put, zA]
    refine zr (.bool true) w rfl ?_
    simp only [Act.put, zA]
    refine wpList_store1 pp 0 #[.int .u64 (x : Int)] (.int .u64 (lo : Int)) 91 (by kernel_rfl) Hppp.out (xo_store1 pp 0 #[.int .u64 (x : Int)] _ (.int .u64 (lo : Int)) Hppp.out rfl (by kernel_rfl) rfl rfl rfl rfl) ?_
    intro X1_2 h1 hfar hbel hsz
    have YHppf : X1_2.heap[pf]? = some (.cells #[.bool true] 4 (0, 0)) := hfar _ _ (Ne.symm Np.out) Hppf.out
    have hbr := hbel _ _ Gppp.out B0.out
    clear B0
    have B0 := zh hbr
    clear hbr
    clear Hppf
    have Hppf : Hid (X1_2.heap[pf]? = some (.cells #[.bool true] 4 (0, 0))) := zh YHppf
    clear YHppf
    clear Hppp
    have Hppp : Hid (X1_2.heap[pp]? = some (.cells #[.int .u64 (lo : Int)] 91 (0, 0))) := zh (h1)
    have HszX1_2 := zh hsz
    clear h1 hfar hbel hsz
    simp only [ptr, Act.put, zA]
    refine wpList_store1 pf 0 #[.bool true] (.bool true) 4 (by kernel_rfl) Hppf.out (xo_store1 pf 0 #[.bool true] _ (.bool true) Hppf.out rfl (by kernel_rfl) rfl rfl rfl rfl) ?_
    intro X1_3 h1 hfar hbel hsz
    have YHppp : X1_3.heap[pp]? = some (.cells #[.int .u64 (lo : Int)] 91 (0, 0)) := hfar _ _ Np.out Hppp.out
    have hbr := hbel _ _ Gppf.out B0.out
    clear B0
    have B0 := zh hbr
    clear hbr
    clear Hppp
    have Hppp : Hid (X1_3.heap[pp]? = some (.cells #[.int .u64 (lo : Int)] 91 (0, 0))) := zh YHppp
    clear YHppp
    clear Hppf
    have Hppf : Hid (X1_3.heap[pf]? = some (.cells #[.bool true] 4 (0, 0))) := zh (h1)
    have HszX1_3 := zh hsz
    clear h1 hfar hbel hsz
    simp only [ptr, Act.put, zA]
    refine wpList_nil ?_
    obtain rfl : r = true := by rw [← HRR.out]; simp <;> omega
    have e1 := Hppp.out
    have e2 := Hppf.out
    have hbf := B0.out
    go_wp2_with fail
    go_end0
    exact ⟨rfl, e1, e2, hbf⟩
   ·have hci0 : ((ww : Int) = 0) := by omega
    have hci1 : ¬ ((lo : Int) < 4611686018427387904) := by omega
    go_upto_region 1 with fail
    refine wp_region_lit ?_
    refine zr (.int .u64 (lo : Int)) w rfl ?_
    simp only [Act.put, zA]
    refine zr (.bool true) w (xo_load1 ⟨pf, 0, none⟩ _ (cells_at Hppf.out 0 rfl) Tryd.underlying4 rfl rfl rfl) ?_
    simp only [Act.put, zA]
    refine zr (.bool true) w rfl ?_
    simp only [Act.put, zA]
    refine zr (.int .u64 (ww : Int)) w rfl ?_
    simp only [Act.put, zA]
    refine zr (.bool true) w (xo_eqlT .u64 (ww : Int) 0 (by omega) rfl rfl rfl) ?_
    simp only [Act.put, zA]
    refine zr (.bool true) w rfl ?_
    simp only [Act.put, zA]
    refine zr (.bool true) w rfl ?_
    simp only [Act.put, zA]
    refine zr (.int .u64 (lo : Int)) w rfl ?_
    simp only [Act.put, zA]
    refine zr (.bool false) w (xo_lssF .u64 (lo : Int) 4611686018427387904 (by omega) rfl rfl rfl) ?_
    simp only [Act.put, zA]
    refine zr (.bool false) w rfl ?_
    simp only [Act.put, zA]
    refine wpList_store1 pp 0 #[.int .u64 (x : Int)] (.int .u64 (lo : Int)) 91 (by kernel_rfl) Hppp.out (xo_store1 pp 0 #[.int .u64 (x : Int)] _ (.int .u64 (lo : Int)) Hppp.out rfl (by kernel_rfl) rfl rfl rfl rfl) ?_
    intro X1_2 h1 hfar hbel hsz
    have YHppf : X1_2.heap[pf]? = some (.cells #[.bool true] 4 (0, 0)) := hfar _ _ (Ne.symm Np.out) Hppf.out
    have hbr := hbel _ _ Gppp.out B0.out
    clear B0
    have B0 := zh hbr
    clear hbr
    clear Hppf
    have Hppf : Hid (X1_2.heap[pf]? = some (.cells #[.bool true] 4 (0, 0))) := zh YHppf
    clear YHppf
    clear Hppp
    have Hppp : Hid (X1_2.heap[pp]? = some (.cells #[.int .u64 (lo : Int)] 91 (0, 0))) := zh (h1)
    have HszX1_2 := zh hsz
    clear h1 hfar hbel hsz
    simp only [ptr, Act.put, zA]
    refine wpList_store1 pf 0 #[.bool true] (.bool false) 4 (by kernel_rfl) Hppf.out (xo_store1 pf 0 #[.bool true] _ (.bool false) Hppf.out rfl (by kernel_rfl) rfl rfl rfl rfl) ?_
    intro X1_3 h1 hfar hbel hsz
    have YHppp : X1_3.heap[pp]? = some (.cells #[.int .u64 (lo : Int)] 91 (0, 0)) := hfar _ _ Np.out Hppp.out
    have hbr := hbel _ _ Gppf.out B0.out
    clear B0
    have B0 := zh hbr
    clear hbr
    clear Hppp
    have Hppp : Hid (X1_3.heap[pp]? = some (.cells #[.int .u64 (lo : Int)] 91 (0, 0))) := zh YHppp
    clear YHppp
    clear Hppf
    have Hppf : Hid (X1_3.heap[pf]? = some (.cells #[.bool false] 4 (0, 0))) := zh (h1)
    have HszX1_3 := zh hsz
    clear h1 hfar hbel hsz
    simp only [ptr, Act.put, zA]
    refine wpList_nil ?_
    obtain rfl : r = false := by rw [← HRR.out]; simp <;> omega
    have e1 := Hppp.out
    have e2 := Hppf.out
    have hbf := B0.out
    go_wp2_with fail
    go_end0
    exact ⟨rfl, e1, e2, hbf⟩
  ·have hci0 : ¬ ((ww : Int) = 0) := by omega
   go_upto_region 1 with fail
   refine wp_region_lit ?_
   refine zr (.int .u64 (lo : Int)) w rfl ?_
   simp only [Act.put, zA]
   refine zr (.bool true) w (xo_load1 ⟨pf, 0, none⟩ _ (cells_at Hppf.out 0 rfl) Tryd.underlying4 rfl rfl rfl) ?_
   simp only [Act.put, zA]
   refine zr (.bool true) w rfl ?_
   simp only [Act.put, zA]
   refine zr (.int .u64 (ww : Int)) w rfl ?_
   simp only [Act.put, zA]
   refine zr (.bool false) w (xo_eqlF .u64 (ww : Int) 0 (by omega) rfl rfl rfl) ?_
   simp only [Act.put, zA]
   refine zr (.bool false) w rfl ?_
   simp only [Act.put, zA]
   refine zr (.bool false) w rfl ?_
   simp only [Act.put, zA]
   refine zl ?_
   try simp only [Act.put, zA]
   refine zl ?_
   try simp only [Act.put, zA]
   refine zr (.bool false) w rfl ?_
   simp only [Act.put, zA]
   refine wpList_store1 pp 0 #[.int .u64 (x : Int)] (.int .u64 (lo : Int)) 91 (by kernel_rfl) Hppp.out (xo_store1 pp 0 #[.int .u64 (x : Int)] _ (.int .u64 (lo : Int)) Hppp.out rfl (by kernel_rfl) rfl rfl rfl rfl) ?_
   intro X1_1 h1 hfar hbel hsz
   have YHppf : X1_1.heap[pf]? = some (.cells #[.bool true] 4 (0, 0)) := hfar _ _ (Ne.symm Np.out) Hppf.out
   have hbr := hbel _ _ Gppp.out B0.out
   clear B0
   have B0 := zh hbr
   clear hbr
   clear Hppf
   have Hppf : Hid (X1_1.heap[pf]? = some (.cells #[.bool true] 4 (0, 0))) := zh YHppf
   clear YHppf
   clear Hppp
   have Hppp : Hid (X1_1.heap[pp]? = some (.cells #[.int .u64 (lo : Int)] 91 (0, 0))) := zh (h1)
   have HszX1_1 := zh hsz
   clear h1 hfar hbel hsz
   simp only [ptr, Act.put, zA]
   refine wpList_store1 pf 0 #[.bool true] (.bool false) 4 (by kernel_rfl) Hppf.out (xo_store1 pf 0 #[.bool true] _ (.bool false) Hppf.out rfl (by kernel_rfl) rfl rfl rfl rfl) ?_
   intro X1_2 h1 hfar hbel hsz
   have YHppp : X1_2.heap[pp]? = some (.cells #[.int .u64 (lo : Int)] 91 (0, 0)) := hfar _ _ Np.out Hppp.out
   have hbr := hbel _ _ Gppf.out B0.out
   clear B0
   have B0 := zh hbr
   clear hbr
   clear Hppp
   have Hppp : Hid (X1_2.heap[pp]? = some (.cells #[.int .u64 (lo : Int)] 91 (0, 0))) := zh YHppp
   clear YHppp
   clear Hppf
   have Hppf : Hid (X1_2.heap[pf]? = some (.cells #[.bool false] 4 (0, 0))) := zh (h1)
   have HszX1_2 := zh hsz
   clear h1 hfar hbel hsz
   simp only [ptr, Act.put, zA]
   refine wpList_nil ?_
   obtain rfl : r = false := by rw [← HRR.out]; simp <;> omega
   have e1 := Hppp.out
   have e2 := Hppf.out
   have hbf := B0.out
   go_wp2_with fail
   go_end0
   exact ⟨rfl, e1, e2, hbf⟩
set_option maxRecDepth 100000 in
set_option maxHeartbeats 16000000 in
theorem scale_as (rows m e0 r0 : Nat) (hr0 : rows * m ^ e0 = r0) (hrows : rows ≤ 65536) (hm : m ≤ 255) (he0 : e0 ≤ 65536) (b : Bool) (hb : decide (r0 < 2 ^ 62) = b) (w : World) : Calls Tryd.prog 52 #[.int .i64 (rows : Int), .int .i64 (m : Int), .int .i64 (e0 : Int)] w fun e w' => ∃ z : Int, e = .returned (.tuple #[.int .i64 z, .bool b]) ∧ (b = true → z = (r0 : Int)) ∧ Below w.heap.size w w' := by
 have HR0 := zh hr0
 rw [← HR0.out] at hb
 have HBB := zh hb
 clear hb hr0
 go_enter Tryd.func52, Tryd.ntmps52
 go_upto_region 1 with fail
 refine wp_region_lit ?_
 refine zr (.int .i64 (rows : Int)) w rfl ?_
 simp only [Act.put, zA]
 refine zr (.int .u64 (rows : Int)) w (xo_cvt .i64 .u64 (rows : Int) (rows : Int) (by rw [IntKind.wrap_u64]; omega) Tryd.underlying91 Tryd.underlying3 rfl rfl) ?_
 simp only [Act.put, zA]
 refine wpList_new #[.int .u64 0] 91 (by kernel_rfl) (xo_alloc1 (.int .u64 0) rfl (by kernel_rfl) rfl) ?_
 intro b8 V1 hge h0 hb
 have Ge0 : Hid (w.heap.size ≤ b8) := zh hge
 have B0 := zh hb
 have Fv1_8 : Hid (V1.heap[b8]? = some (.cells #[.int .u64 0] 91 (0, 0))) := zh (h0)
 have Lt2 : Hid (b8 < V1.heap.size) := zh (xp_lt Fv1_8.out)
 clear hge h0 hb
 simp only [ptr, Act.put, zA]
 refine wpList_new #[.bool false] 4 (by kernel_rfl) (xo_alloc1 (.bool false) rfl (by kernel_rfl) rfl) ?_
 intro b9 V2 hge h0 hb
 have N3_0 : Hid (b8 ≠ b9) := zh (xp_lt0 Fv1_8.out hge)
 have Ge4 : Hid (V1.heap.size ≤ b9) := zh hge
 have B1 := zh hb
 have Fv5_9 : Hid (V2.heap[b9]? = some (.cells #[.bool false] 4 (0, 0))) := zh (h0)
 have Lt6 : Hid (b9 < V2.heap.size) := zh (xp_lt Fv5_9.out)
 clear hge h0 hb
 simp only [ptr, Act.put, zA]
 refine wpList_store1 b8 0 #[.int .u64 0] (.int .u64 (rows : Int)) 91 (by kernel_rfl) (heap_keep Fv1_8.out B1.out) (xo_store1 b8 0 #[.int .u64 0] _ (.int .u64 (rows : Int)) (heap_keep Fv1_8.out B1.out) rfl (by kernel_rfl) rfl rfl rfl rfl) ?_
 intro X2_7 h1 hfar hbel hsz
 have YFv5_9 : X2_7.heap[b9]? = some (.cells #[.bool false] 4 (0, 0)) := hfar _ _ (Ne.symm N3_0.out) Fv5_9.out
 have Gs8 : Hid (w.heap.size ≤ b9) := zh (Nat.le_trans B0.out.size Ge4.out)
 have C0_2 := zb B0 B1
 have hbr := hbel _ _ Ge0.out C0_2.out
 clear B0
 have B0 := zh hbr
 clear hbr
 clear Fv5_9
 have Fv5_9 : Hid (X2_7.heap[b9]? = some (.cells #[.bool false] 4 (0, 0))) := zh YFv5_9
 clear YFv5_9
 clear Fv1_8
 have Fv1_8 : Hid (X2_7.heap[b8]? = some (.cells #[.int .u64 (rows : Int)] 91 (0, 0))) := zh (h1)
 have HszX2_7 := zh hsz
 clear h1 hfar hbel hsz
 simp only [ptr, Act.put, zA]
 refine wpList_store1 b9 0 #[.bool false] (.bool true) 4 (by kernel_rfl) Fv5_9.out (xo_store1 b9 0 #[.bool false] _ (.bool true) Fv5_9.out rfl (by kernel_rfl) rfl rfl rfl rfl) ?_
 intro X1_9 h1 hfar hbel hsz
 have YFv1_8 : X1_9.heap[b8]? = some (.cells #[.int .u64 (rows : Int)] 91 (0, 0)) := hfar _ _ N3_0.out Fv1_8.out
 have hbr := hbel _ _ Gs8.out B0.out
 clear B0
 have B0 := zh hbr
 clear hbr
 clear Fv1_8
 have Fv1_8 : Hid (X1_9.heap[b8]? = some (.cells #[.int .u64 (rows : Int)] 91 (0, 0))) := zh YFv1_8
 clear YFv1_8
 clear Fv5_9
 have Fv5_9 : Hid (X1_9.heap[b9]? = some (.cells #[.bool true] 4 (0, 0))) := zh (h1)
 have HszX1_9 := zh hsz
 clear h1 hfar hbel hsz
 simp only [ptr, Act.put, zA]
 refine wpList_nil ?_
 go_upto_region 2 with fail
 refine wp_region_lit ?_
 refine zr (.func (.func 59) #[] #[.pointer (some ⟨b8, 0, none⟩), .pointer (some ⟨b9, 0, none⟩)]) X1_9 (by unfold execOp; go_simp) ?_
 simp only [Act.put, zA]
 refine zr (.func (.func 59) #[] #[.pointer (some ⟨b8, 0, none⟩), .pointer (some ⟨b9, 0, none⟩)]) X1_9 rfl ?_
 simp only [Act.put, zA]
 refine wpList_nil ?_
 go_upto_region 3 with fail
 refine wp_region_lit ?_
 refine zr (.int .i64 (e0 : Int)) X1_9 rfl ?_
 simp only [Act.put, zA]
 refine zr (.int .i64 0) X1_9 rfl ?_
 simp only [Act.put, zA]
 refine wpList_nil ?_
 have O10 := Fv1_8.out
 have O11 := Fv5_9.out
 have O12 := B0.out
 go_wp2_with fail
 go_loopw [15] (fun q wr => ∃ i : Nat, ∃ (p : Nat) (f : Bool), i ≤ e0 ∧ q = .int .i64 i ∧ Ty.pwJ rows m i p f ∧ wr.heap[b8]? = some (.cells #[.int .u64 (p : Int)] 91 (0, 0)) ∧ wr.heap[b9]? = some (.cells #[.bool f] 4 (0, 0)) ∧ Below w.heap.size w wr) (fun q _ => e0 - (intOf q).toNat)
 case atStart => exact ⟨0, rows, true, Nat.zero_le _, rfl, Ty.pj_start hrows, O10, O11, O12⟩
 case round =>
  clear O10 O11 O12
  obtain ⟨wo, rfl⟩ : ∃ wo : World, wo = wr := ⟨_, rfl⟩
  obtain ⟨i, p, f, hi, rfl, hHPJ, hr0, hr1, hb0⟩ := hrel
  have hbr := hb0
  clear B0
  have B0 := zh hbr
  clear hbr
  clear Fv1_8
  have Fv1_8 : Hid (wo.heap[b8]? = some (.cells #[.int .u64 (p : Int)] 91 (0, 0))) := zh (hr0)
  clear Fv5_9
  have Fv5_9 : Hid (wo.heap[b9]? = some (.cells #[.bool f] 4 (0, 0))) := zh (hr1)
  have HPJ := zh hHPJ
  clear hb0 hr0 hr1 hHPJ
  by_cases hie : i < e0
  ·have hci14 : ((i : Int) < (e0 : Int)) := by omega
   go_upto_region 4 with fail
   refine wp_region_lit ?_
   refine zr (.bool true) wo (xo_lssT .i64 (i : Int) (e0 : Int) (by omega) rfl rfl rfl) ?_
   simp only [Act.put, zA]
   refine wpList_nil ?_
   have hp64 := HPJ.out.1
   obtain ⟨hh, hhh⟩ : ∃ z, p * m / 18446744073709551616 = z := ⟨_, rfl⟩
   have HHH := zh hhh
   clear hhh
   obtain ⟨lo, hlo⟩ : ∃ z, p * m % 18446744073709551616 = z := ⟨_, rfl⟩
   have HLO := zh hlo
   clear hlo
   obtain ⟨f2, hf2⟩ : ∃ z, (f && (decide (p * m / 18446744073709551616 = 0) && decide (lo < 4611686018427387904))) = z := ⟨_, rfl⟩
   have HF2 := zh hf2
   clear hf2
   go_upto_region 5 with fail
   refine wp_region_lit ?_
   refine zr (.func (.func 59) #[] #[.pointer (some ⟨b8, 0, none⟩), .pointer (some ⟨b9, 0, none⟩)]) wo rfl ?_
   simp only [Act.put, zA]
   refine zr (.int .i64 (m : Int)) wo rfl ?_
   simp only [Act.put, zA]
   refine zr (.int .u64 (m : Int)) wo (xo_cvt .i64 .u64 (m : Int) (m : Int) (by rw [IntKind.wrap_u64]; omega) Tryd.underlying91 Tryd.underlying3 rfl rfl) ?_
   simp only [Act.put, zA]
   refine wpList_op (by kernel_rfl) ?_
   refine hOp_callA 59 Tryd.func59 (by kernel_rfl) (by kernel_rfl) 17 _ #[.pointer (some ⟨b8, 0, none⟩), .pointer (some ⟨b9, 0, none⟩)] _ rfl rfl #[.int .u64 (m : Int)] (by kernel_rfl) ?_
   try simp only [List.append_toArray, List.append_nil, List.nil_append, List.cons_append]
   refine (scale1_as w b8 b9 p m f f2 hp64 (by omega) lo HLO.out HF2.out wo B0.out Ge0.out Gs8.out N3_0.out Fv1_8.out Fv5_9.out).mono ?_
   rintro e W1_15 ⟨rfl, h1, h2, hb⟩
   have hbr := hb
   clear B0
   have B0 := zh hbr
   clear hbr
   clear hb
   clear Fv1_8
   have Fv1_8 : Hid (W1_15.heap[b8]? = some (.cells #[.int .u64 (lo : Int)] 91 (0, 0))) := zh h1
   clear Fv5_9
   have Fv5_9 : Hid (W1_15.heap[b9]? = some (.cells #[.bool f2] 4 (0, 0))) := zh h2
   clear h1 h2
   refine ⟨_, rfl, ?_⟩
   simp only [ptr, Act.put, zA]
   refine wpList_nil ?_
   go_upto_region 6 with fail
   refine wp_region_lit ?_
   refine zr (.int .i64 ((i + 1 : Nat) : Int)) W1_15 (xo_addI (i : Int) 1 ((i + 1 : Nat) : Int) (by omega) (by omega) (by omega) rfl rfl rfl) ?_
   simp only [Act.put, zA]
   refine zr (.int .i64 ((i + 1 : Nat) : Int)) W1_15 rfl ?_
   simp only [Act.put, zA]
   refine wpList_nil ?_
   have hst := Ty.pj_step (i := i) (f2 := f2) hrows HPJ.out HHH.out HLO.out (by rw [← HHH.out]; exact HF2.out)
   have hq16 := Fv1_8.out
   have hq17 := Fv5_9.out
   have hq18 := B0.out
   go_wp2_with fail
   go_roundw
   case rel => exact ⟨i + 1, lo, f2, by omega, by go_num, hst, hq16, hq17, hq18⟩
   case measure => simp [intOf]; omega
  ·have hci14 : ¬ ((i : Int) < (e0 : Int)) := by omega
   go_upto_region 4 with fail
   refine wp_region_lit ?_
   refine zr (.bool false) wo (xo_lssF .i64 (i : Int) (e0 : Int) (by omega) rfl rfl rfl) ?_
   simp only [Act.put, zA]
   refine wpList_nil ?_
   obtain rfl : i = e0 := by omega
   obtain ⟨hfb, hpe⟩ := Ty.pj_end HPJ.out HBB.out
   subst hfb
   have HPE := zh hpe
   clear hpe
   obtain ⟨z, hz⟩ : ∃ z, IntKind.i64.wrap (p : Int) = z := ⟨_, rfl⟩
   have HZ := zh hz
   clear hz
   go_upto_region 7 with fail
   refine wp_later_lex (by kernel_rfl) (lexOK_of (by kernel_rfl) (by kernel_rfl)) ?_
   refine zv (.int .u64 (p : Int)) (fun v hv => (xo_load1 ⟨b8, 0, none⟩ _ (cells_at (heap_keep Fv1_8.out (later_bel hv)) 0 rfl) Tryd.underlying91 rfl rfl rfl)) ?_
   simp only [Act.put, zA]
   refine zv (.int .i64 z) (fun v hv => (xo_cvt .u64 .i64 (p : Int) z HZ.out Tryd.underlying2 Tryd.underlying91 rfl rfl)) ?_
   simp only [Act.put, zA]
   refine zv (.bool f) (fun v hv => (xo_load1 ⟨b9, 0, none⟩ _ (cells_at (heap_keep Fv5_9.out (later_bel hv)) 0 rfl) Tryd.underlying4 rfl rfl rfl)) ?_
   simp only [Act.put, zA]
   refine zv (.int .i64 z) (fun v hv => rfl) ?_
   simp only [Act.put, zA]
   refine zv (.bool f) (fun v hv => rfl) ?_
   simp only [Act.put, zA]
   refine wpQuiet_nil ?_
   intro X1_15
   have hb := X1_15.below
   generalize X1_15.at = V2 at *
   have B1 := zh hb
   clear hb
   have C0_2 := zb B0 B1
   have hbf := C0_2.out
   go_wp2_with fail
   go_ret2
   exact ⟨z, rfl, fun e => by obtain ⟨e1, e2⟩ := HPE.out e; rw [← HZ.out, ← HR0.out, ← e1]; exact wrapI (by omega) (by omega), hbf⟩
end Go.Proofs.YtbecajihgbbgjaaDoor

namespace Go.Proofs.YtbecajihgbbgjaaDoor
set_option maxRecDepth 8000
open Go.RowKit Go.Proofs.YtbecajihgbbgjaaDoor.K
attribute [local irreducible] wpList wpQuiet
namespace Ty
theorem bd_of {q : Qu.Qy} {rows v m e : Nat} {l : List Qu.Cd} (hl : q.fs[v / 16]? = some l) (hs : satN l = true) (hm : moN q l v = (m, e)) : bdN q rows v = rows * m ^ e := by
 have h1 : ruN q v = l := by unfold ruN; rw [List.getD_eq_getElem?_getD, hl]; rfl
 unfold bdN
 rw [h1, if_pos hs, hm]
theorem bd_un {q : Qu.Qy} {v : Nat} {l : List Qu.Cd} (rows : Nat) (hl : q.fs[v / 16]? = some l) (hs : satN l = false) : bdN q rows v = 0 := by
 have h1 : ruN q v = l := by unfold ruN; rw [List.getD_eq_getElem?_getD, hl]; rfl
 unfold bdN
 rw [h1, hs]
 rfl
theorem cn_sp {l : List Qu.Cd} {lw up : Nat → Nat} {c v : Nat} (h : lw c = (spC l c).1 ∧ up c = (spC l c).2) : (if lw c ≤ v ∧ v ≤ up c then 1 else 0) = cnN l c v := by
 unfold cnN
 rw [h.1, h.2]
 by_cases hp : (spC l c).1 ≤ v ∧ v ≤ (spC l c).2
 ·rw [if_pos hp, if_pos ((pos_iff l c v).2 hp)]
 ·rw [if_neg hp, if_neg (fun e => hp ((pos_iff l c v).1 e))]
theorem sat_sp {l : List Qu.Cd} {lw up : Nat → Nat} {b : Bool} (h : ∀ c, c < 4 → lw c = (spC l c).1 ∧ up c = (spC l c).2) (hb : satN l = b) : (List.range 4).all (fun c => decide (lw c ≤ up c)) = b := by
 rw [← hb]
 unfold satN
 rw [Bool.eq_iff_iff, List.all_eq_true, List.all_eq_true]
 refine forall_congr' fun c => forall_congr' fun hc => ?_
 have h4 := h c (List.mem_range.1 hc)
 rw [h4.1, h4.2]
theorem mo_1 {q : Qu.Qy} (l : List Qu.Cd) (v : Nat) (h : q.kind = 1) : moN q l v = (1, 1) := by unfold moN; simp only [h]
theorem mo_2 {q : Qu.Qy} (l : List Qu.Cd) (v : Nat) (h : q.kind = 2) : moN q l v = ((spC l q.col).2, 1) := by unfold moN; simp only [h]
theorem mo_3 {q : Qu.Qy} (l : List Qu.Cd) (v : Nat) (h : q.kind = 3) : moN q l v = ((spC l q.col).2, q.k) := by unfold moN; simp only [h]
theorem mo_g {q : Qu.Qy} (l : List Qu.Cd) (v : Nat) (h4 : 4 ≤ q.kind) (h6 : q.kind ≤ 6) : moN q l v = (cnN l q.col v, 1) := by
 unfold moN
 split <;> first | omega | rfl
theorem mo_7 {q : Qu.Qy} (l : List Qu.Cd) (v : Nat) (h : q.kind = 7) : moN q l v = (cnN l 0 (v % 16), 1) := by unfold moN; simp only [h]
end Ty
theorem kf_g {kd : Nat} (h4 : 4 ≤ kd) (h6 : kd ≤ 6) : kfN kd = 44 := by
 rcases (show kd = 4 ∨ kd = 5 ∨ kd = 6 by omega) with rfl | rfl | rfl <;> rfl
set_option maxRecDepth 100000 in
set_option maxHeartbeats 32000000 in
theorem bound_as (sv : Int) (gv : Bool) (f : FuncId) (kd col k : Nat) (A : Option Addr) (n c : Nat) (hs : List Hd) (fs : List (List Qu.Cd)) (rows v : Nat) (l : List Qu.Cd) (hf : kfN kd = f) (hk1 : 1 ≤ kd) (hk7 : kd ≤ 7) (hcol : col < 4) (hkk6 : k ≤ 65536) (hrows : rows ≤ 65536) (hv : v < 32) (hl : fs[v / 16]? = some l) (hc4 : ∀ e ∈ l, e.col < 4) (r0 : Nat) (hr0 : Ty.bdN ⟨kd, col, k, fs⟩ rows v = r0) (b : Bool) (hb : decide (r0 < 2 ^ 62) = b) (w : World) (hF : FsR w A n c hs (fs.map (List.map Qu.Cd.ci))) (hG : Gw5 w) :
  Calls Tryd.prog 32 #[.agg #[.int .i64 sv, .bool gv, .func (.func f) #[] #[]], .agg #[.int .i64 (kd : Int), .int .i64 (col : Int), .int .i64 (k : Int), .slice A n c], .int .i64 (rows : Int), .int .i64 (v : Int)] w fun e w' => ∃ z : Int, e = .returned (.tuple #[.int .i64 z, .bool b]) ∧ (b = true → z = (r0 : Int)) ∧ Below w.heap.size w w' := by
 have HFR := zh hF
 have HG := zh hG
 have HBB := zh hb
 have HR0 := zh hr0
 have HLL := zh hl
 have HC4 := zh hc4
 have HKF := zh hf
 have hln := hF.sg.len
 have hlc := hF.sg.cap
 have hlt := hF.sg.top
 have hfl := hF.len
 rw [List.length_map] at hfl
 have hu2 : v / 16 < fs.length := (List.getElem?_eq_some_iff.1 hl).1
 clear hF hG hb hr0 hl hc4 hf
 obtain ⟨u, hu⟩ : ∃ z, v / 16 = z := ⟨_, rfl⟩
 have HU := zh hu
 clear hu
 rw [HU.out] at HLL hu2
 obtain ⟨h, hh⟩ : ∃ h, hs[u]? = some h := ⟨_, List.getElem?_eq_getElem (by omega)⟩
 have HH := zh hh
 clear hh
 have HLM : Hid ((fs.map (List.map Qu.Cd.ci))[u]? = some (l.map Qu.Cd.ci)) := zh (by rw [List.getElem?_map, HLL.out]; rfl)
 go_enter Tryd.func32, Tryd.ntmps32
 go_upto_region 1 with fail
 refine wp_named2 (fun V1 hb g0 g1 hlt => ?_)
 have B0 := zh hb
 have Fv0_4 : Hid (V1.heap[w.heap.size]? = some (.cells #[.int .i64 sv, .bool gv, .func (.func f) #[] #[]] 63 (0, 0))) := zh (g0)
 have Fv1_5 : Hid (V1.heap[(w.heap.size + 1)]? = some (.cells #[.int .i64 (kd : Int), .int .i64 (col : Int), .int .i64 (k : Int), .slice A n c] 24 (0, 0))) := zh (g1)
 have Nb0_1 : Hid (w.heap.size ≠ (w.heap.size + 1)) := zh (by omega)
 have Gb0 : Hid (w.heap.size ≤ w.heap.size) := zh (by omega)
 have Gb1 : Hid (w.heap.size ≤ (w.heap.size + 1)) := zh (by omega)
 clear hb g0 g1 hlt
 have Lt0 : Hid (w.heap.size < V1.heap.size) := zh (xp_lt Fv0_4.out)
 have Lt1 : Hid ((w.heap.size + 1) < V1.heap.size) := zh (xp_lt Fv1_5.out)
 refine wp_region_lit ?_
 refine zr (.pointer (some ⟨(w.heap.size + 1), 3, none⟩)) V1 (xo_fld0 3 (w.heap.size + 1) 3 (by kernel_rfl) rfl rfl) ?_
 simp only [Act.put, zA]
 refine zr (.slice A n c) V1 (xo_load1 ⟨(w.heap.size + 1), 3, none⟩ _ (cells_at Fv1_5.out 3 rfl) Tryd.underlying22 rfl rfl rfl) ?_
 simp only [Act.put, zA]
 refine zr (.int .i64 (v : Int)) V1 rfl ?_
 simp only [Act.put, zA]
 refine zr (.int .i64 (u : Int)) V1 (xo_quoI v 16 u (by omega) HU.out (by omega) rfl rfl rfl) ?_
 simp only [Act.put, zA]
 refine zr (.pointer (some (gad A (u * 1)))) V1 (xg_idx .i64 (HFR.out.keep B0.out).sg HH.out Tryd.underlying22 (by kernel_rfl) rfl rfl rfl) ?_
 simp only [Act.put, zA]
 refine zr (.slice h.A h.n h.c) V1 (xg_load1 (E := hdC) (i := u) (j := 0) (HFR.out.keep B0.out).sg HH.out rfl rfl Tryd.underlying44 rfl rfl rfl) ?_
 simp only [Act.put, zA]
 refine wpList_call (by kernel_rfl) 50 Tryd.func50 (by kernel_rfl) (by kernel_rfl) _ _ #[.slice h.A h.n h.c] rfl (by kernel_rfl) ?_
 refine (spansOf_as h.A h.n h.c l HC4.out V1 ((HFR.out.keep B0.out).row u h (l.map Qu.Cd.ci) HH.out HLM.out) (HG.out.keep B0.out)).mono ?_
 rintro e V2 ⟨lw, up, rfl, hsp, hb⟩
 have B1 := zh hb
 have HSP := zh hsp
 clear hsp
 clear hb 
 refine ⟨_, rfl, ?_⟩
 simp only [Act.put, zA]
 refine wpList_new #[.int .i64 0, .int .i64 0, .int .i64 0, .int .i64 0, .int .i64 0, .int .i64 0, .int .i64 0, .int .i64 0] 84 (by kernel_rfl) (xo_alloc #[.int .i64 0, .int .i64 0, .int .i64 0, .int .i64 0, .int .i64 0, .int .i64 0, .int .i64 0, .int .i64 0] (by kernel_rfl) rfl) ?_
 intro b10 V3 hge h0 hb
 have N2_0 : Hid (w.heap.size ≠ b10) := zh (xp_lt0 (heap_keep Fv0_4.out B1.out) hge)
 have N3_1 : Hid ((w.heap.size + 1) ≠ b10) := zh (xp_lt0 (heap_keep Fv1_5.out B1.out) hge)
 have Ge4 : Hid (V2.heap.size ≤ b10) := zh hge
 have B2 := zh hb
 have Fv5_10 : Hid (V3.heap[b10]? = some (.cells #[.int .i64 0, .int .i64 0, .int .i64 0, .int .i64 0, .int .i64 0, .int .i64 0, .int .i64 0, .int .i64 0] 84 (0, 0))) := zh (h0)
 have Lt6 : Hid (b10 < V3.heap.size) := zh (xp_lt Fv5_10.out)
 clear hge h0 hb
 simp only [ptr, Act.put, zA]
 refine wpList_storeW b10 #[.int .i64 0, .int .i64 0, .int .i64 0, .int .i64 0, .int .i64 0, .int .i64 0, .int .i64 0, .int .i64 0] #[.int .i64 ((lw 0 : Nat) : Int), .int .i64 ((up 0 : Nat) : Int), .int .i64 ((lw 1 : Nat) : Int), .int .i64 ((up 1 : Nat) : Int), .int .i64 ((lw 2 : Nat) : Int), .int .i64 ((up 2 : Nat) : Int), .int .i64 ((lw 3 : Nat) : Int), .int .i64 ((up 3 : Nat) : Int)] 84 (by kernel_rfl) Fv5_10.out (xo_storeW b10 #[.int .i64 0, .int .i64 0, .int .i64 0, .int .i64 0, .int .i64 0, .int .i64 0, .int .i64 0, .int .i64 0] #[.int .i64 ((lw 0 : Nat) : Int), .int .i64 ((up 0 : Nat) : Int), .int .i64 ((lw 1 : Nat) : Int), .int .i64 ((up 1 : Nat) : Int), .int .i64 ((lw 2 : Nat) : Int), .int .i64 ((up 2 : Nat) : Int), .int .i64 ((lw 3 : Nat) : Int), .int .i64 ((up 3 : Nat) : Int)] Fv5_10.out (by kernel_rfl) rfl (by simp [Value.oneCell']) rfl rfl rfl) ?_
 intro X3_7 h1 hfar hbel hsz
 have hbr := hbel _ _ Ge4.out B2.out
 clear B2
 have B2 := zh hbr
 clear hbr
 clear Fv5_10
 have Fv5_10 : Hid (X3_7.heap[b10]? = some (.cells #[.int .i64 ((lw 0 : Nat) : Int), .int .i64 ((up 0 : Nat) : Int), .int .i64 ((lw 1 : Nat) : Int), .int .i64 ((up 1 : Nat) : Int), .int .i64 ((lw 2 : Nat) : Int), .int .i64 ((up 2 : Nat) : Int), .int .i64 ((lw 3 : Nat) : Int), .int .i64 ((up 3 : Nat) : Int)] 84 (0, 0))) := zh (h1)
 have HszX3_7 := zh hsz
 clear h1 hfar hbel hsz
 simp only [ptr, Act.put, zA]
 refine wpList_nil ?_
 cases HST : Ty.satN l with
 | false =>
  go_upto_region 2 with fail
  refine wp_region_lit ?_
  refine zr (.agg #[.int .i64 ((lw 0 : Nat) : Int), .int .i64 ((up 0 : Nat) : Int), .int .i64 ((lw 1 : Nat) : Int), .int .i64 ((up 1 : Nat) : Int), .int .i64 ((lw 2 : Nat) : Int), .int .i64 ((up 2 : Nat) : Int), .int .i64 ((lw 3 : Nat) : Int), .int .i64 ((up 3 : Nat) : Int)]) X3_7 (xo_loadW b10 _ Fv5_10.out Tryd.underlying84 rfl (by kernel_rfl) rfl rfl) ?_
  simp only [Act.put, zA]
  refine wpList_call (by kernel_rfl) 51 Tryd.func51 (by kernel_rfl) (by kernel_rfl) _ _ #[.agg #[.int .i64 ((lw 0 : Nat) : Int), .int .i64 ((up 0 : Nat) : Int), .int .i64 ((lw 1 : Nat) : Int), .int .i64 ((up 1 : Nat) : Int), .int .i64 ((lw 2 : Nat) : Int), .int .i64 ((up 2 : Nat) : Int), .int .i64 ((lw 3 : Nat) : Int), .int .i64 ((up 3 : Nat) : Int)]] rfl (by kernel_rfl) ?_
  refine (satisfiable_sp lw up false (Ty.sat_sp HSP.out HST) X3_7).mono ?_
  rintro e V4 ⟨rfl, hb⟩
  have B3 := zh hb
  clear hb 
  refine ⟨_, rfl, ?_⟩
  simp only [Act.put, zA]
  refine zr (.bool true) V4 rfl ?_
  simp only [Act.put, zA]
  refine wpList_nil ?_
  go_upto_region 3 with fail
  refine wp_region_lit ?_
  refine zr (.int .i64 0) V4 rfl ?_
  simp only [Act.put, zA]
  refine zr (.bool true) V4 rfl ?_
  simp only [Act.put, zA]
  refine wpList_nil ?_
  obtain rfl : r0 = 0 := by rw [← HR0.out]; exact Ty.bd_un rows (by rw [HU.out]; exact HLL.out) HST
  obtain rfl : b = true := by rw [← HBB.out]; rfl
  have C0_2 := zb B0 B1
  have C0_3 := zb C0_2 B2
  have C0_4 := zb C0_3 B3
  have hbf := C0_4.out
  go_wp2_with fail
  go_ret2
  exact ⟨0, rfl, (by simp), hbf⟩
 | true =>
  go_upto_region 2 with fail
  refine wp_region_lit ?_
  refine zr (.agg #[.int .i64 ((lw 0 : Nat) : Int), .int .i64 ((up 0 : Nat) : Int), .int .i64 ((lw 1 : Nat) : Int), .int .i64 ((up 1 : Nat) : Int), .int .i64 ((lw 2 : Nat) : Int), .int .i64 ((up 2 : Nat) : Int), .int .i64 ((lw 3 : Nat) : Int), .int .i64 ((up 3 : Nat) : Int)]) X3_7 (xo_loadW b10 _ Fv5_10.out Tryd.underlying84 rfl (by kernel_rfl) rfl rfl) ?_
  simp only [Act.put, zA]
  refine wpList_call (by kernel_rfl) 51 Tryd.func51 (by kernel_rfl) (by kernel_rfl) _ _ #[.agg #[.int .i64 ((lw 0 : Nat) : Int), .int .i64 ((up 0 : Nat) : Int), .int .i64 ((lw 1 : Nat) : Int), .int .i64 ((up 1 : Nat) : Int), .int .i64 ((lw 2 : Nat) : Int), .int .i64 ((up 2 : Nat) : Int), .int .i64 ((lw 3 : Nat) : Int), .int .i64 ((up 3 : Nat) : Int)]] rfl (by kernel_rfl) ?_
  refine (satisfiable_sp lw up true (Ty.sat_sp HSP.out HST) X3_7).mono ?_
  rintro e V4 ⟨rfl, hb⟩
  have B3 := zh hb
  clear hb 
  refine ⟨_, rfl, ?_⟩
  simp only [Act.put, zA]
  refine zr (.bool false) V4 rfl ?_
  simp only [Act.put, zA]
  refine wpList_nil ?_
  rcases (show kd = 1 ∨ kd = 2 ∨ kd = 3 ∨ (4 ≤ kd ∧ kd ≤ 6) ∨ kd = 7 by omega) with hkk | hkk | hkk | hkk | hkk
  ·obtain rfl : f = 46 := by rw [← HKF.out]; rw [hkk]; rfl
   go_upto_region 4 with fail
   refine wp_region_lit ?_
   refine zr (.pointer (some ⟨w.heap.size, 2, none⟩)) V4 (xo_fld0 2 w.heap.size 2 (by kernel_rfl) rfl rfl) ?_
   simp only [Act.put, zA]
   have C1_3 := zb B1 B2
   have C1_4 := zb C1_3 B3
   refine zr (.func (.func 46) #[] #[]) V4 (xo_load1 ⟨w.heap.size, 2, none⟩ _ (cells_at (heap_keep Fv0_4.out C1_4.out) 2 rfl) Tryd.underlying61 rfl rfl rfl) ?_
   simp only [Act.put, zA]
   refine zr (.agg #[.int .i64 (kd : Int), .int .i64 (col : Int), .int .i64 (k : Int), .slice A n c]) V4 (xo_loadW (w.heap.size + 1) _ (heap_keep Fv1_5.out C1_4.out) Tryd.underlying24 rfl (by kernel_rfl) rfl rfl) ?_
   simp only [Act.put, zA]
   refine zr (.agg #[.int .i64 ((lw 0 : Nat) : Int), .int .i64 ((up 0 : Nat) : Int), .int .i64 ((lw 1 : Nat) : Int), .int .i64 ((up 1 : Nat) : Int), .int .i64 ((lw 2 : Nat) : Int), .int .i64 ((up 2 : Nat) : Int), .int .i64 ((lw 3 : Nat) : Int), .int .i64 ((up 3 : Nat) : Int)]) V4 (xo_loadW b10 _ (heap_keep Fv5_10.out B3.out) Tryd.underlying84 rfl (by kernel_rfl) rfl rfl) ?_
   simp only [Act.put, zA]
   refine zr (.int .i64 (v : Int)) V4 rfl ?_
   simp only [Act.put, zA]
   refine wpList_op (by kernel_rfl) ?_
   refine hOp_callA 46 Tryd.func46 (by kernel_rfl) (by kernel_rfl) 25 _ #[] _ rfl rfl #[.agg #[.int .i64 (kd : Int), .int .i64 (col : Int), .int .i64 (k : Int), .slice A n c], .agg #[.int .i64 ((lw 0 : Nat) : Int), .int .i64 ((up 0 : Nat) : Int), .int .i64 ((lw 1 : Nat) : Int), .int .i64 ((up 1 : Nat) : Int), .int .i64 ((lw 2 : Nat) : Int), .int .i64 ((up 2 : Nat) : Int), .int .i64 ((lw 3 : Nat) : Int), .int .i64 ((up 3 : Nat) : Int)], .int .i64 (v : Int)] (by kernel_rfl) ?_
   try simp only [List.append_toArray, List.append_nil, List.nil_append, List.cons_append]
   refine (kd2_as kd col k A n c lw up v hcol V4).mono ?_
   rintro e V5 ⟨rfl, hb⟩
   have B4 := zh hb
   clear hb 
   refine ⟨_, rfl, ?_⟩
   simp only [ptr, Act.put, zA]
   refine zr (.tuple #[.int .i64 1, .int .i64 1]) V5 rfl ?_
   simp only [Act.put, zA]
   refine zr (.int .i64 1) V5 rfl ?_
   simp only [Act.put, zA]
   refine zr (.int .i64 1) V5 rfl ?_
   simp only [Act.put, zA]
   refine zr (.int .i64 1) V5 rfl ?_
   simp only [Act.put, zA]
   refine zr (.int .i64 1) V5 rfl ?_
   simp only [Act.put, zA]
   refine wpList_nil ?_
   have hm255 : 1 ≤ 255 := by first | decide | exact hm0
   have he0 : 1 ≤ 65536 := by first | decide | omega
   go_upto_region 5 with fail
   refine wp_region_lit ?_
   refine zr (.int .i64 (rows : Int)) V5 rfl ?_
   simp only [Act.put, zA]
   refine zr (.int .i64 1) V5 rfl ?_
   simp only [Act.put, zA]
   refine zr (.int .i64 1) V5 rfl ?_
   simp only [Act.put, zA]
   refine wpList_call (by kernel_rfl) 52 Tryd.func52 (by kernel_rfl) (by kernel_rfl) _ _ #[.int .i64 (rows : Int), .int .i64 1, .int .i64 1] rfl (by kernel_rfl) ?_
   refine (scale_as rows 1 1 r0 (by rw [← HR0.out]; exact (Ty.bd_of (q := ⟨kd, col, k, fs⟩) (m := 1) (e := 1) (by rw [HU.out]; exact HLL.out) HST (Ty.mo_1 l v hkk)).symm) hrows hm255 he0 b HBB.out V5).mono ?_
   rintro e V6 ⟨z, rfl, hz, hb⟩
   have B5 := zh hb
   have HZZ := zh hz
   clear hz
   clear hb 
   refine ⟨_, rfl, ?_⟩
   simp only [Act.put, zA]
   refine zr (.int .i64 z) V6 rfl ?_
   simp only [Act.put, zA]
   refine zr (.bool b) V6 rfl ?_
   simp only [Act.put, zA]
   refine zr (.int .i64 z) V6 rfl ?_
   simp only [Act.put, zA]
   refine zr (.bool b) V6 rfl ?_
   simp only [Act.put, zA]
   refine wpList_nil ?_
   have C0_2 := zb B0 B1
   have C0_3 := zb C0_2 B2
   have C0_4 := zb C0_3 B3
   have C0_5 := zb C0_4 B4
   have C0_6 := zb C0_5 B5
   have hbf := C0_6.out
   go_wp2_with fail
   go_ret2
   exact ⟨z, rfl, HZZ.out, hbf⟩
  ·have hm0 : up col ≤ 255 := by rw [(HSP.out col hcol).2]; exact Nat.le_trans (Ty.hi_le l col) (Ty.maxN_le col)
   obtain rfl : f = 47 := by rw [← HKF.out]; rw [hkk]; rfl
   go_upto_region 4 with fail
   refine wp_region_lit ?_
   refine zr (.pointer (some ⟨w.heap.size, 2, none⟩)) V4 (xo_fld0 2 w.heap.size 2 (by kernel_rfl) rfl rfl) ?_
   simp only [Act.put, zA]
   have C1_3 := zb B1 B2
   have C1_4 := zb C1_3 B3
   refine zr (.func (.func 47) #[] #[]) V4 (xo_load1 ⟨w.heap.size, 2, none⟩ _ (cells_at (heap_keep Fv0_4.out C1_4.out) 2 rfl) Tryd.underlying61 rfl rfl rfl) ?_
   simp only [Act.put, zA]
   refine zr (.agg #[.int .i64 (kd : Int), .int .i64 (col : Int), .int .i64 (k : Int), .slice A n c]) V4 (xo_loadW (w.heap.size + 1) _ (heap_keep Fv1_5.out C1_4.out) Tryd.underlying24 rfl (by kernel_rfl) rfl rfl) ?_
   simp only [Act.put, zA]
   refine zr (.agg #[.int .i64 ((lw 0 : Nat) : Int), .int .i64 ((up 0 : Nat) : Int), .int .i64 ((lw 1 : Nat) : Int), .int .i64 ((up 1 : Nat) : Int), .int .i64 ((lw 2 : Nat) : Int), .int .i64 ((up 2 : Nat) : Int), .int .i64 ((lw 3 : Nat) : Int), .int .i64 ((up 3 : Nat) : Int)]) V4 (xo_loadW b10 _ (heap_keep Fv5_10.out B3.out) Tryd.underlying84 rfl (by kernel_rfl) rfl rfl) ?_
   simp only [Act.put, zA]
   refine zr (.int .i64 (v : Int)) V4 rfl ?_
   simp only [Act.put, zA]
   refine wpList_op (by kernel_rfl) ?_
   refine hOp_callA 47 Tryd.func47 (by kernel_rfl) (by kernel_rfl) 25 _ #[] _ rfl rfl #[.agg #[.int .i64 (kd : Int), .int .i64 (col : Int), .int .i64 (k : Int), .slice A n c], .agg #[.int .i64 ((lw 0 : Nat) : Int), .int .i64 ((up 0 : Nat) : Int), .int .i64 ((lw 1 : Nat) : Int), .int .i64 ((up 1 : Nat) : Int), .int .i64 ((lw 2 : Nat) : Int), .int .i64 ((up 2 : Nat) : Int), .int .i64 ((lw 3 : Nat) : Int), .int .i64 ((up 3 : Nat) : Int)], .int .i64 (v : Int)] (by kernel_rfl) ?_
   try simp only [List.append_toArray, List.append_nil, List.nil_append, List.cons_append]
   refine (kd3_as kd col k A n c lw up v hcol V4).mono ?_
   rintro e V5 ⟨rfl, hb⟩
   have B4 := zh hb
   clear hb 
   refine ⟨_, rfl, ?_⟩
   simp only [ptr, Act.put, zA]
   refine zr (.tuple #[.int .i64 ((up col : Nat) : Int), .int .i64 1]) V5 rfl ?_
   simp only [Act.put, zA]
   refine zr (.int .i64 ((up col : Nat) : Int)) V5 rfl ?_
   simp only [Act.put, zA]
   refine zr (.int .i64 1) V5 rfl ?_
   simp only [Act.put, zA]
   refine zr (.int .i64 ((up col : Nat) : Int)) V5 rfl ?_
   simp only [Act.put, zA]
   refine zr (.int .i64 1) V5 rfl ?_
   simp only [Act.put, zA]
   refine wpList_nil ?_
   have hm255 : (up col) ≤ 255 := by first | decide | exact hm0
   have he0 : 1 ≤ 65536 := by first | decide | omega
   go_upto_region 5 with fail
   refine wp_region_lit ?_
   refine zr (.int .i64 (rows : Int)) V5 rfl ?_
   simp only [Act.put, zA]
   refine zr (.int .i64 ((up col : Nat) : Int)) V5 rfl ?_
   simp only [Act.put, zA]
   refine zr (.int .i64 1) V5 rfl ?_
   simp only [Act.put, zA]
   refine wpList_call (by kernel_rfl) 52 Tryd.func52 (by kernel_rfl) (by kernel_rfl) _ _ #[.int .i64 (rows : Int), .int .i64 ((up col : Nat) : Int), .int .i64 1] rfl (by kernel_rfl) ?_
   refine (scale_as rows (up col) 1 r0 (by rw [← HR0.out]; exact (Ty.bd_of (q := ⟨kd, col, k, fs⟩) (m := (up col)) (e := 1) (by rw [HU.out]; exact HLL.out) HST (by rw [Ty.mo_2 l v hkk]; exact congrArg (·, 1) (HSP.out col hcol).2.symm)).symm) hrows hm255 he0 b HBB.out V5).mono ?_
   rintro e V6 ⟨z, rfl, hz, hb⟩
   have B5 := zh hb
   have HZZ := zh hz
   clear hz
   clear hb 
   refine ⟨_, rfl, ?_⟩
   simp only [Act.put, zA]
   refine zr (.int .i64 z) V6 rfl ?_
   simp only [Act.put, zA]
   refine zr (.bool b) V6 rfl ?_
   simp only [Act.put, zA]
   refine zr (.int .i64 z) V6 rfl ?_
   simp only [Act.put, zA]
   refine zr (.bool b) V6 rfl ?_
   simp only [Act.put, zA]
   refine wpList_nil ?_
   have C0_2 := zb B0 B1
   have C0_3 := zb C0_2 B2
   have C0_4 := zb C0_3 B3
   have C0_5 := zb C0_4 B4
   have C0_6 := zb C0_5 B5
   have hbf := C0_6.out
   go_wp2_with fail
   go_ret2
   exact ⟨z, rfl, HZZ.out, hbf⟩
  ·have hm0 : up col ≤ 255 := by rw [(HSP.out col hcol).2]; exact Nat.le_trans (Ty.hi_le l col) (Ty.maxN_le col)
   obtain rfl : f = 48 := by rw [← HKF.out]; rw [hkk]; rfl
   go_upto_region 4 with fail
   refine wp_region_lit ?_
   refine zr (.pointer (some ⟨w.heap.size, 2, none⟩)) V4 (xo_fld0 2 w.heap.size 2 (by kernel_rfl) rfl rfl) ?_
   simp only [Act.put, zA]
   have C1_3 := zb B1 B2
   have C1_4 := zb C1_3 B3
   refine zr (.func (.func 48) #[] #[]) V4 (xo_load1 ⟨w.heap.size, 2, none⟩ _ (cells_at (heap_keep Fv0_4.out C1_4.out) 2 rfl) Tryd.underlying61 rfl rfl rfl) ?_
   simp only [Act.put, zA]
   refine zr (.agg #[.int .i64 (kd : Int), .int .i64 (col : Int), .int .i64 (k : Int), .slice A n c]) V4 (xo_loadW (w.heap.size + 1) _ (heap_keep Fv1_5.out C1_4.out) Tryd.underlying24 rfl (by kernel_rfl) rfl rfl) ?_
   simp only [Act.put, zA]
   refine zr (.agg #[.int .i64 ((lw 0 : Nat) : Int), .int .i64 ((up 0 : Nat) : Int), .int .i64 ((lw 1 : Nat) : Int), .int .i64 ((up 1 : Nat) : Int), .int .i64 ((lw 2 : Nat) : Int), .int .i64 ((up 2 : Nat) : Int), .int .i64 ((lw 3 : Nat) : Int), .int .i64 ((up 3 : Nat) : Int)]) V4 (xo_loadW b10 _ (heap_keep Fv5_10.out B3.out) Tryd.underlying84 rfl (by kernel_rfl) rfl rfl) ?_
   simp only [Act.put, zA]
   refine zr (.int .i64 (v : Int)) V4 rfl ?_
   simp only [Act.put, zA]
   refine wpList_op (by kernel_rfl) ?_
   refine hOp_callA 48 Tryd.func48 (by kernel_rfl) (by kernel_rfl) 25 _ #[] _ rfl rfl #[.agg #[.int .i64 (kd : Int), .int .i64 (col : Int), .int .i64 (k : Int), .slice A n c], .agg #[.int .i64 ((lw 0 : Nat) : Int), .int .i64 ((up 0 : Nat) : Int), .int .i64 ((lw 1 : Nat) : Int), .int .i64 ((up 1 : Nat) : Int), .int .i64 ((lw 2 : Nat) : Int), .int .i64 ((up 2 : Nat) : Int), .int .i64 ((lw 3 : Nat) : Int), .int .i64 ((up 3 : Nat) : Int)], .int .i64 (v : Int)] (by kernel_rfl) ?_
   try simp only [List.append_toArray, List.append_nil, List.nil_append, List.cons_append]
   refine (kd4_as kd col k A n c lw up v hcol V4).mono ?_
   rintro e V5 ⟨rfl, hb⟩
   have B4 := zh hb
   clear hb 
   refine ⟨_, rfl, ?_⟩
   simp only [ptr, Act.put, zA]
   refine zr (.tuple #[.int .i64 ((up col : Nat) : Int), .int .i64 (k : Int)]) V5 rfl ?_
   simp only [Act.put, zA]
   refine zr (.int .i64 ((up col : Nat) : Int)) V5 rfl ?_
   simp only [Act.put, zA]
   refine zr (.int .i64 (k : Int)) V5 rfl ?_
   simp only [Act.put, zA]
   refine zr (.int .i64 ((up col : Nat) : Int)) V5 rfl ?_
   simp only [Act.put, zA]
   refine zr (.int .i64 (k : Int)) V5 rfl ?_
   simp only [Act.put, zA]
   refine wpList_nil ?_
   have hm255 : (up col) ≤ 255 := by first | decide | exact hm0
   have he0 : k ≤ 65536 := by first | decide | omega
   go_upto_region 5 with fail
   refine wp_region_lit ?_
   refine zr (.int .i64 (rows : Int)) V5 rfl ?_
   simp only [Act.put, zA]
   refine zr (.int .i64 ((up col : Nat) : Int)) V5 rfl ?_
   simp only [Act.put, zA]
   refine zr (.int .i64 (k : Int)) V5 rfl ?_
   simp only [Act.put, zA]
   refine wpList_call (by kernel_rfl) 52 Tryd.func52 (by kernel_rfl) (by kernel_rfl) _ _ #[.int .i64 (rows : Int), .int .i64 ((up col : Nat) : Int), .int .i64 (k : Int)] rfl (by kernel_rfl) ?_
   refine (scale_as rows (up col) k r0 (by rw [← HR0.out]; exact (Ty.bd_of (q := ⟨kd, col, k, fs⟩) (m := (up col)) (e := k) (by rw [HU.out]; exact HLL.out) HST (by rw [Ty.mo_3 l v hkk]; exact congrArg (·, k) (HSP.out col hcol).2.symm)).symm) hrows hm255 he0 b HBB.out V5).mono ?_
   rintro e V6 ⟨z, rfl, hz, hb⟩
   have B5 := zh hb
   have HZZ := zh hz
   clear hz
   clear hb 
   refine ⟨_, rfl, ?_⟩
   simp only [Act.put, zA]
   refine zr (.int .i64 z) V6 rfl ?_
   simp only [Act.put, zA]
   refine zr (.bool b) V6 rfl ?_
   simp only [Act.put, zA]
   refine zr (.int .i64 z) V6 rfl ?_
   simp only [Act.put, zA]
   refine zr (.bool b) V6 rfl ?_
   simp only [Act.put, zA]
   refine wpList_nil ?_
   have C0_2 := zb B0 B1
   have C0_3 := zb C0_2 B2
   have C0_4 := zb C0_3 B3
   have C0_5 := zb C0_4 B4
   have C0_6 := zb C0_5 B5
   have hbf := C0_6.out
   go_wp2_with fail
   go_ret2
   exact ⟨z, rfl, HZZ.out, hbf⟩
  ·obtain ⟨r1, hr1⟩ : ∃ r, Ty.cnN l col v = r := ⟨_, rfl⟩
   have HR1 := zh hr1
   have HR2 := zh ((Ty.cn_sp (HSP.out col hcol)).trans hr1)
   have hm0 : r1 ≤ 255 := by rw [← hr1]; exact Nat.le_trans (Ty.cn_le l col v) (by decide)
   clear hr1
   obtain rfl : f = 44 := by rw [← HKF.out]; exact kf_g hkk.1 hkk.2
   go_upto_region 4 with fail
   refine wp_region_lit ?_
   refine zr (.pointer (some ⟨w.heap.size, 2, none⟩)) V4 (xo_fld0 2 w.heap.size 2 (by kernel_rfl) rfl rfl) ?_
   simp only [Act.put, zA]
   have C1_3 := zb B1 B2
   have C1_4 := zb C1_3 B3
   refine zr (.func (.func 44) #[] #[]) V4 (xo_load1 ⟨w.heap.size, 2, none⟩ _ (cells_at (heap_keep Fv0_4.out C1_4.out) 2 rfl) Tryd.underlying61 rfl rfl rfl) ?_
   simp only [Act.put, zA]
   refine zr (.agg #[.int .i64 (kd : Int), .int .i64 (col : Int), .int .i64 (k : Int), .slice A n c]) V4 (xo_loadW (w.heap.size + 1) _ (heap_keep Fv1_5.out C1_4.out) Tryd.underlying24 rfl (by kernel_rfl) rfl rfl) ?_
   simp only [Act.put, zA]
   refine zr (.agg #[.int .i64 ((lw 0 : Nat) : Int), .int .i64 ((up 0 : Nat) : Int), .int .i64 ((lw 1 : Nat) : Int), .int .i64 ((up 1 : Nat) : Int), .int .i64 ((lw 2 : Nat) : Int), .int .i64 ((up 2 : Nat) : Int), .int .i64 ((lw 3 : Nat) : Int), .int .i64 ((up 3 : Nat) : Int)]) V4 (xo_loadW b10 _ (heap_keep Fv5_10.out B3.out) Tryd.underlying84 rfl (by kernel_rfl) rfl rfl) ?_
   simp only [Act.put, zA]
   refine zr (.int .i64 (v : Int)) V4 rfl ?_
   simp only [Act.put, zA]
   refine wpList_op (by kernel_rfl) ?_
   refine hOp_callA 44 Tryd.func44 (by kernel_rfl) (by kernel_rfl) 25 _ #[] _ rfl rfl #[.agg #[.int .i64 (kd : Int), .int .i64 (col : Int), .int .i64 (k : Int), .slice A n c], .agg #[.int .i64 ((lw 0 : Nat) : Int), .int .i64 ((up 0 : Nat) : Int), .int .i64 ((lw 1 : Nat) : Int), .int .i64 ((up 1 : Nat) : Int), .int .i64 ((lw 2 : Nat) : Int), .int .i64 ((up 2 : Nat) : Int), .int .i64 ((lw 3 : Nat) : Int), .int .i64 ((up 3 : Nat) : Int)], .int .i64 (v : Int)] (by kernel_rfl) ?_
   try simp only [List.append_toArray, List.append_nil, List.nil_append, List.cons_append]
   refine (kd1_as kd col k A n c lw up v hcol r1 HR2.out V4).mono ?_
   rintro e V5 ⟨rfl, hb⟩
   have B4 := zh hb
   clear hb 
   refine ⟨_, rfl, ?_⟩
   simp only [ptr, Act.put, zA]
   refine zr (.tuple #[.int .i64 (r1 : Int), .int .i64 1]) V5 rfl ?_
   simp only [Act.put, zA]
   refine zr (.int .i64 (r1 : Int)) V5 rfl ?_
   simp only [Act.put, zA]
   refine zr (.int .i64 1) V5 rfl ?_
   simp only [Act.put, zA]
   refine zr (.int .i64 (r1 : Int)) V5 rfl ?_
   simp only [Act.put, zA]
   refine zr (.int .i64 1) V5 rfl ?_
   simp only [Act.put, zA]
   refine wpList_nil ?_
   have hm255 : r1 ≤ 255 := by first | decide | exact hm0
   have he0 : 1 ≤ 65536 := by first | decide | omega
   go_upto_region 5 with fail
   refine wp_region_lit ?_
   refine zr (.int .i64 (rows : Int)) V5 rfl ?_
   simp only [Act.put, zA]
   refine zr (.int .i64 (r1 : Int)) V5 rfl ?_
   simp only [Act.put, zA]
   refine zr (.int .i64 1) V5 rfl ?_
   simp only [Act.put, zA]
   refine wpList_call (by kernel_rfl) 52 Tryd.func52 (by kernel_rfl) (by kernel_rfl) _ _ #[.int .i64 (rows : Int), .int .i64 (r1 : Int), .int .i64 1] rfl (by kernel_rfl) ?_
   refine (scale_as rows r1 1 r0 (by rw [← HR0.out]; exact (Ty.bd_of (q := ⟨kd, col, k, fs⟩) (m := r1) (e := 1) (by rw [HU.out]; exact HLL.out) HST (by rw [Ty.mo_g l v hkk.1 hkk.2]; exact congrArg (·, 1) HR1.out)).symm) hrows hm255 he0 b HBB.out V5).mono ?_
   rintro e V6 ⟨z, rfl, hz, hb⟩
   have B5 := zh hb
   have HZZ := zh hz
   clear hz
   clear hb 
   refine ⟨_, rfl, ?_⟩
   simp only [Act.put, zA]
   refine zr (.int .i64 z) V6 rfl ?_
   simp only [Act.put, zA]
   refine zr (.bool b) V6 rfl ?_
   simp only [Act.put, zA]
   refine zr (.int .i64 z) V6 rfl ?_
   simp only [Act.put, zA]
   refine zr (.bool b) V6 rfl ?_
   simp only [Act.put, zA]
   refine wpList_nil ?_
   have C0_2 := zb B0 B1
   have C0_3 := zb C0_2 B2
   have C0_4 := zb C0_3 B3
   have C0_5 := zb C0_4 B4
   have C0_6 := zb C0_5 B5
   have hbf := C0_6.out
   go_wp2_with fail
   go_ret2
   exact ⟨z, rfl, HZZ.out, hbf⟩
  ·obtain ⟨v6, hv6⟩ : ∃ r, v % 16 = r := ⟨_, rfl⟩
   have HV6 := zh hv6
   clear hv6
   obtain ⟨r1, hr1⟩ : ∃ r, Ty.cnN l 0 v6 = r := ⟨_, rfl⟩
   have HR1 := zh hr1
   have HR2 := zh ((Ty.cn_sp (HSP.out 0 (by decide))).trans hr1)
   have hm0 : r1 ≤ 255 := by rw [← hr1]; exact Nat.le_trans (Ty.cn_le l 0 v6) (by decide)
   clear hr1
   obtain rfl : f = 49 := by rw [← HKF.out]; rw [hkk]; rfl
   go_upto_region 4 with fail
   refine wp_region_lit ?_
   refine zr (.pointer (some ⟨w.heap.size, 2, none⟩)) V4 (xo_fld0 2 w.heap.size 2 (by kernel_rfl) rfl rfl) ?_
   simp only [Act.put, zA]
   have C1_3 := zb B1 B2
   have C1_4 := zb C1_3 B3
   refine zr (.func (.func 49) #[] #[]) V4 (xo_load1 ⟨w.heap.size, 2, none⟩ _ (cells_at (heap_keep Fv0_4.out C1_4.out) 2 rfl) Tryd.underlying61 rfl rfl rfl) ?_
   simp only [Act.put, zA]
   refine zr (.agg #[.int .i64 (kd : Int), .int .i64 (col : Int), .int .i64 (k : Int), .slice A n c]) V4 (xo_loadW (w.heap.size + 1) _ (heap_keep Fv1_5.out C1_4.out) Tryd.underlying24 rfl (by kernel_rfl) rfl rfl) ?_
   simp only [Act.put, zA]
   refine zr (.agg #[.int .i64 ((lw 0 : Nat) : Int), .int .i64 ((up 0 : Nat) : Int), .int .i64 ((lw 1 : Nat) : Int), .int .i64 ((up 1 : Nat) : Int), .int .i64 ((lw 2 : Nat) : Int), .int .i64 ((up 2 : Nat) : Int), .int .i64 ((lw 3 : Nat) : Int), .int .i64 ((up 3 : Nat) : Int)]) V4 (xo_loadW b10 _ (heap_keep Fv5_10.out B3.out) Tryd.underlying84 rfl (by kernel_rfl) rfl rfl) ?_
   simp only [Act.put, zA]
   refine zr (.int .i64 (v : Int)) V4 rfl ?_
   simp only [Act.put, zA]
   refine wpList_op (by kernel_rfl) ?_
   refine hOp_callA 49 Tryd.func49 (by kernel_rfl) (by kernel_rfl) 25 _ #[] _ rfl rfl #[.agg #[.int .i64 (kd : Int), .int .i64 (col : Int), .int .i64 (k : Int), .slice A n c], .agg #[.int .i64 ((lw 0 : Nat) : Int), .int .i64 ((up 0 : Nat) : Int), .int .i64 ((lw 1 : Nat) : Int), .int .i64 ((up 1 : Nat) : Int), .int .i64 ((lw 2 : Nat) : Int), .int .i64 ((up 2 : Nat) : Int), .int .i64 ((lw 3 : Nat) : Int), .int .i64 ((up 3 : Nat) : Int)], .int .i64 (v : Int)] (by kernel_rfl) ?_
   try simp only [List.append_toArray, List.append_nil, List.nil_append, List.cons_append]
   refine (kd5_as kd col k A n c lw up v hcol v6 HV6.out r1 HR2.out V4).mono ?_
   rintro e V5 ⟨rfl, hb⟩
   have B4 := zh hb
   clear hb 
   refine ⟨_, rfl, ?_⟩
   simp only [ptr, Act.put, zA]
   refine zr (.tuple #[.int .i64 (r1 : Int), .int .i64 1]) V5 rfl ?_
   simp only [Act.put, zA]
   refine zr (.int .i64 (r1 : Int)) V5 rfl ?_
   simp only [Act.put, zA]
   refine zr (.int .i64 1) V5 rfl ?_
   simp only [Act.put, zA]
   refine zr (.int .i64 (r1 : Int)) V5 rfl ?_
   simp only [Act.put, zA]
   refine zr (.int .i64 1) V5 rfl ?_
   simp only [Act.put, zA]
   refine wpList_nil ?_
   have hm255 : r1 ≤ 255 := by first | decide | exact hm0
   have he0 : 1 ≤ 65536 := by first | decide | omega
   go_upto_region 5 with fail
   refine wp_region_lit ?_
   refine zr (.int .i64 (rows : Int)) V5 rfl ?_
   simp only [Act.put, zA]
   refine zr (.int .i64 (r1 : Int)) V5 rfl ?_
   simp only [Act.put, zA]
   refine zr (.int .i64 1) V5 rfl ?_
   simp only [Act.put, zA]
   refine wpList_call (by kernel_rfl) 52 Tryd.func52 (by kernel_rfl) (by kernel_rfl) _ _ #[.int .i64 (rows : Int), .int .i64 (r1 : Int), .int .i64 1] rfl (by kernel_rfl) ?_
   refine (scale_as rows r1 1 r0 (by rw [← HR0.out]; exact (Ty.bd_of (q := ⟨kd, col, k, fs⟩) (m := r1) (e := 1) (by rw [HU.out]; exact HLL.out) HST (by rw [Ty.mo_7 l v hkk]; exact congrArg (·, 1) (by rw [HV6.out]; exact HR1.out))).symm) hrows hm255 he0 b HBB.out V5).mono ?_
   rintro e V6 ⟨z, rfl, hz, hb⟩
   have B5 := zh hb
   have HZZ := zh hz
   clear hz
   clear hb 
   refine ⟨_, rfl, ?_⟩
   simp only [Act.put, zA]
   refine zr (.int .i64 z) V6 rfl ?_
   simp only [Act.put, zA]
   refine zr (.bool b) V6 rfl ?_
   simp only [Act.put, zA]
   refine zr (.int .i64 z) V6 rfl ?_
   simp only [Act.put, zA]
   refine zr (.bool b) V6 rfl ?_
   simp only [Act.put, zA]
   refine wpList_nil ?_
   have C0_2 := zb B0 B1
   have C0_3 := zb C0_2 B2
   have C0_4 := zb C0_3 B3
   have C0_5 := zb C0_4 B4
   have C0_6 := zb C0_5 B5
   have hbf := C0_6.out
   go_wp2_with fail
   go_ret2
   exact ⟨z, rfl, HZZ.out, hbf⟩
end Go.Proofs.YtbecajihgbbgjaaDoor

namespace Go.Proofs.YtbecajihgbbgjaaDoor
set_option maxRecDepth 8000
def _root_.Qu.Ci.cd (e : Qu.Ci) : Qu.Cd := ⟨e.col.toNat, e.lo.toNat, e.hi.toNat⟩
end Go.Proofs.YtbecajihgbbgjaaDoor

