/- Several texts in one: Yp. -/
import Derived.Test.YtbecajihgbbgjaaDoorG03
set_option linter.unusedVariables false
set_option linter.unusedSimpArgs false
set_option linter.unusedSectionVars false
namespace Go.Proofs.YtbecajihgbbgjaaDoor
set_option maxRecDepth 8000
open Go.RowKit Go.Proofs.YtbecajihgbbgjaaDoor.K
attribute [local irreducible] wpList wpQuiet
def _root_.Qu.mF (hc : Bool) (mk nf : Nat) (col k : Int) (n : Nat) : Bool := Qu.isC col && ((hc || decide (col = 0)) && (decide (((min 1 mk : Nat) : Int) ≤ k) && (decide (k ≤ (mk : Int)) && decide (n = nf))))
def _root_.Qu.vQ (kind col k : Int) (fs : List (List Qu.Ci)) : Bool := decide (1 ≤ kind) && (decide (kind ≤ 7) && (Qu.mF (Qu.hasC kind.toNat) (Qu.maxK kind.toNat) (Qu.numF kind.toNat) col k fs.length && fs.all Qu.vL))
/-- filters that are read, under heads -/
structure FsR (w : World) (A : Option Addr) (n c : Nat) (hs : List Hd) (fs : List (List Qu.Ci)) : Prop where
 sg : Sg hdC 1 w A n c hs
 len : hs.length = fs.length
 row : ∀ (i : Nat) (h : Hd) (xs : List Qu.Ci), hs[i]? = some h → fs[i]? = some xs → Sg ciC 3 w h.A h.n h.c xs
theorem FsR.keep {w w' : World} {A : Option Addr} {n c : Nat} {hs : List Hd} {fs : List (List Qu.Ci)} (h : FsR w A n c hs fs) (hb : Below w.heap.size w w') : FsR w' A n c hs fs := ⟨h.sg.keep hb, h.len, fun i d xs hi hx => (h.row i d xs hi hx).keep hb⟩
theorem _root_.Go.Proofs.YtbecajihgbbgjaaDoor.K.xm_lookupOk {P : Program} {ev : Operand → Value} {o : Oper} {w : World} {ty kt et : TypeId} {m k : Operand} (b : Nat) (es : List MapEntry) (c : Nat) (kv : Int) (j : Nat) (v : Value) (hb : w.heap[b]? = some (.map es.toArray c))
  (hn : Instr.findNow (.int .i64) (.int .i64 kv) es 0 = some (some (j, v))) (hu : P.underlying ty = some (.map kt et)) (hk : P.underlying kt = some (.int .i64)) (ho : o.op = .lookup ty m k true) (hm : ev m = .map (some b)) (hk' : ev k = .int .i64 kv) : (execOp ev o).run P w = .ok (.value (.tuple #[v, .bool true])) w := by
 unfold execOp
 simp only [ho, hm, hk', Instr.lookup, Sem.run_bind]
 rw [run_underlying hu, Result.andThen_ok]
 simp [Sem.run_bind, K.getObjM hb, Result.andThen_ok, K.checkKeyI hk, Instr.findKey, run_underlying hk, hn, Sem.run_pure]
theorem _root_.Go.Proofs.YtbecajihgbbgjaaDoor.K.xm_missOk {P : Program} {ev : Operand → Value} {o : Oper} {w : World} {ty kt et : TypeId} {m k : Operand} (b : Nat) (es : List MapEntry) (c : Nat) (kv : Int) (z : Value) (hb : w.heap[b]? = some (.map es.toArray c)) (hz : (zeroValue et).run P w = .ok z w)
  (hn : Instr.findNow (.int .i64) (.int .i64 kv) es 0 = some none) (hu : P.underlying ty = some (.map kt et)) (hk : P.underlying kt = some (.int .i64)) (ho : o.op = .lookup ty m k true) (hm : ev m = .map (some b)) (hk' : ev k = .int .i64 kv) : (execOp ev o).run P w = .ok (.value (.tuple #[z, .bool false])) w := by
 unfold execOp
 simp only [ho, hm, hk', Instr.lookup, Sem.run_bind]
 rw [run_underlying hu, Result.andThen_ok]
 simp [Sem.run_bind, K.getObjM hb, Result.andThen_ok, K.checkKeyI hk, Instr.findKey, run_underlying hk, hn, Sem.run_pure, hz]
set_option maxRecDepth 100000 in
set_option maxHeartbeats 32000000 in
theorem matches_as (kw : List UInt8) (hc : Bool) (mk nf : Nat) (kind col k : Int) (A : Option Addr) (n c : Nat) (b : Bool) (hb : Qu.mF hc mk nf col k n = b) (w : World) :
  Calls Tryd.prog 42 #[.agg #[.string (sB kw), .bool hc, .int .i64 (mk : Int), .int .i64 (nf : Int)], .agg #[.int .i64 kind, .int .i64 col, .int .i64 k, .slice A n c]] w fun e w' => e = .returned (.bool b) ∧ Below w.heap.size w w' := by
 go_enter Tryd.func42, Tryd.ntmps42
 go_upto_region 1 with fail
 refine wp_named2 (fun V1 hb g0 g1 hlt => ?_)
 have B0 := zh hb
 have Fv0_2 : Hid (V1.heap[w.heap.size]? = some (.cells #[.string (sB kw), .bool hc, .int .i64 (mk : Int), .int .i64 (nf : Int)] 77 (0, 0))) := zh (g0)
 have Fv1_3 : Hid (V1.heap[(w.heap.size + 1)]? = some (.cells #[.int .i64 kind, .int .i64 col, .int .i64 k, .slice A n c] 24 (0, 0))) := zh (g1)
 have Nb0_1 : Hid (w.heap.size ≠ (w.heap.size + 1)) := zh (by omega)
 have Gb0 : Hid (w.heap.size ≤ w.heap.size) := zh (by omega)
 have Gb1 : Hid (w.heap.size ≤ (w.heap.size + 1)) := zh (by omega)
 clear hb g0 g1 hlt
 have Lt0 : Hid (w.heap.size < V1.heap.size) := zh (xp_lt Fv0_2.out)
 have Lt1 : Hid ((w.heap.size + 1) < V1.heap.size) := zh (xp_lt Fv1_3.out)
 cases his : Qu.isC col with
 | false =>
  have hme : Qu.mF hc mk nf col k n = false := by unfold Qu.mF; rw [his]; rfl
  refine wp_region_lit ?_
  refine zr (.pointer (some ⟨(w.heap.size + 1), 1, none⟩)) V1 (xo_fld0 1 (w.heap.size + 1) 1 (by kernel_rfl) rfl rfl) ?_
  simp only [Act.put, zA]
  refine zr (.int .i64 col) V1 (xo_load1 ⟨(w.heap.size + 1), 1, none⟩ _ (cells_at Fv1_3.out 1 rfl) Tryd.underlying3 rfl rfl rfl) ?_
  simp only [Act.put, zA]
  refine wpList_call (by kernel_rfl) 55 Tryd.func55 (by kernel_rfl) (by kernel_rfl) _ _ #[.int .i64 col] rfl (by kernel_rfl) ?_
  refine (isColumn_as col false his V1).mono ?_
  rintro e W1 ⟨rfl, hw1⟩
  rw [hw1]
  clear hw1 W1
  refine ⟨_, rfl, ?_⟩
  simp only [Act.put, zA]
  refine zr (.bool true) V1 rfl ?_
  simp only [Act.put, zA]
  refine zr (.bool true) V1 rfl ?_
  simp only [Act.put, zA]
  refine zl ?_
  try simp only [Act.put, zA]
  refine zl ?_
  try simp only [Act.put, zA]
  refine zl ?_
  try simp only [Act.put, zA]
  refine zl ?_
  try simp only [Act.put, zA]
  refine zl ?_
  try simp only [Act.put, zA]
  refine zl ?_
  try simp only [Act.put, zA]
  refine zl ?_
  try simp only [Act.put, zA]
  refine zl ?_
  try simp only [Act.put, zA]
  refine zr (.bool true) V1 rfl ?_
  simp only [Act.put, zA]
  refine wpList_nil ?_
  go_upto_region 2 with fail
  refine wp_region_lit ?_
  refine zr (.bool false) V1 rfl ?_
  simp only [Act.put, zA]
  refine wpList_nil ?_
  obtain rfl : b = false := by rw [← hb, hme] <;> simp <;> omega
  have hbf := B0.out
  go_wp2_with fail
  go_ret
  exact ⟨rfl, hbf⟩
 | true =>
  cases hc with
  | true =>
   have hme : Qu.mF true mk nf col k n = (decide (((min 1 mk : Nat) : Int) ≤ k) && (decide (k ≤ (mk : Int)) && decide (n = nf))) := by unfold Qu.mF; rw [his]; rfl
   refine wp_region_lit ?_
   refine zr (.pointer (some ⟨(w.heap.size + 1), 1, none⟩)) V1 (xo_fld0 1 (w.heap.size + 1) 1 (by kernel_rfl) rfl rfl) ?_
   simp only [Act.put, zA]
   refine zr (.int .i64 col) V1 (xo_load1 ⟨(w.heap.size + 1), 1, none⟩ _ (cells_at Fv1_3.out 1 rfl) Tryd.underlying3 rfl rfl rfl) ?_
   simp only [Act.put, zA]
   refine wpList_call (by kernel_rfl) 55 Tryd.func55 (by kernel_rfl) (by kernel_rfl) _ _ #[.int .i64 col] rfl (by kernel_rfl) ?_
   refine (isColumn_as col true his V1).mono ?_
   rintro e W1 ⟨rfl, hw1⟩
   rw [hw1]
   clear hw1 W1
   refine ⟨_, rfl, ?_⟩
   simp only [Act.put, zA]
   refine zr (.bool false) V1 rfl ?_
   simp only [Act.put, zA]
   refine zr (.bool false) V1 rfl ?_
   simp only [Act.put, zA]
   refine zr (.pointer (some ⟨w.heap.size, 1, none⟩)) V1 (xo_fld0 1 w.heap.size 1 (by kernel_rfl) rfl rfl) ?_
   simp only [Act.put, zA]
   refine zr (.bool true) V1 (xo_load1 ⟨w.heap.size, 1, none⟩ _ (cells_at Fv0_2.out 1 rfl) Tryd.underlying4 rfl rfl rfl) ?_
   simp only [Act.put, zA]
   refine zr (.bool false) V1 rfl ?_
   simp only [Act.put, zA]
   refine zr (.bool false) V1 rfl ?_
   simp only [Act.put, zA]
   refine zl ?_
   try simp only [Act.put, zA]
   refine zl ?_
   try simp only [Act.put, zA]
   refine zl ?_
   try simp only [Act.put, zA]
   refine zr (.bool false) V1 rfl ?_
   simp only [Act.put, zA]
   refine zr (.bool false) V1 rfl ?_
   simp only [Act.put, zA]
   refine wpList_nil ?_
   obtain ⟨mm, hmm⟩ : ∃ mm, min 1 mk = mm := ⟨_, rfl⟩
   rw [hmm] at hme
   by_cases h1 : k ≥ ((mm : Nat) : Int)
   ·by_cases h2 : k ≤ ((mk : Nat) : Int)
    ·by_cases h3 : n = nf
     ·have hci2 : ((n : Int) = (nf : Int)) := by omega
      go_upto_region 3 with fail
      refine wp_region_lit ?_
      refine zr (.pointer (some ⟨(w.heap.size + 1), 2, none⟩)) V1 (xo_fld0 2 (w.heap.size + 1) 2 (by kernel_rfl) rfl rfl) ?_
      simp only [Act.put, zA]
      refine zr (.int .i64 k) V1 (xo_load1 ⟨(w.heap.size + 1), 2, none⟩ _ (cells_at Fv1_3.out 2 rfl) Tryd.underlying3 rfl rfl rfl) ?_
      simp only [Act.put, zA]
      refine zr (.pointer (some ⟨w.heap.size, 2, none⟩)) V1 (xo_fld0 2 w.heap.size 2 (by kernel_rfl) rfl rfl) ?_
      simp only [Act.put, zA]
      refine zr (.int .i64 (mk : Int)) V1 (xo_load1 ⟨w.heap.size, 2, none⟩ _ (cells_at Fv0_2.out 2 rfl) Tryd.underlying3 rfl rfl rfl) ?_
      simp only [Act.put, zA]
      refine zr (.int .i64 (mm : Int)) V1 (xo_min .i64 1 (mk : Int) (mm : Int) (by split <;> omega) rfl rfl rfl) ?_
      simp only [Act.put, zA]
      refine zr (.bool true) V1 (xo_geqT .i64 k (mm : Int) (by omega) rfl rfl rfl) ?_
      simp only [Act.put, zA]
      refine zr (.bool true) V1 rfl ?_
      simp only [Act.put, zA]
      refine zr (.pointer (some ⟨(w.heap.size + 1), 2, none⟩)) V1 (xo_fld0 2 (w.heap.size + 1) 2 (by kernel_rfl) rfl rfl) ?_
      simp only [Act.put, zA]
      refine zr (.int .i64 k) V1 (xo_load1 ⟨(w.heap.size + 1), 2, none⟩ _ (cells_at Fv1_3.out 2 rfl) Tryd.underlying3 rfl rfl rfl) ?_
      simp only [Act.put, zA]
      refine zr (.pointer (some ⟨w.heap.size, 2, none⟩)) V1 (xo_fld0 2 w.heap.size 2 (by kernel_rfl) rfl rfl) ?_
      simp only [Act.put, zA]
      refine zr (.int .i64 (mk : Int)) V1 (xo_load1 ⟨w.heap.size, 2, none⟩ _ (cells_at Fv0_2.out 2 rfl) Tryd.underlying3 rfl rfl rfl) ?_
      simp only [Act.put, zA]
      refine zr (.bool true) V1 (xo_leqT .i64 k (mk : Int) (by omega) rfl rfl rfl) ?_
      simp only [Act.put, zA]
      refine zr (.bool true) V1 rfl ?_
      simp only [Act.put, zA]
      refine zr (.bool true) V1 rfl ?_
      simp only [Act.put, zA]
      refine zr (.pointer (some ⟨(w.heap.size + 1), 3, none⟩)) V1 (xo_fld0 3 (w.heap.size + 1) 3 (by kernel_rfl) rfl rfl) ?_
      simp only [Act.put, zA]
      refine zr (.slice A n c) V1 (xo_load1 ⟨(w.heap.size + 1), 3, none⟩ _ (cells_at Fv1_3.out 3 rfl) Tryd.underlying22 rfl rfl rfl) ?_
      simp only [Act.put, zA]
      refine zr (.int .i64 (n : Int)) V1 (xo_len A n c Tryd.underlying22 rfl rfl) ?_
      simp only [Act.put, zA]
      refine zr (.pointer (some ⟨w.heap.size, 3, none⟩)) V1 (xo_fld0 3 w.heap.size 3 (by kernel_rfl) rfl rfl) ?_
      simp only [Act.put, zA]
      refine zr (.int .i64 (nf : Int)) V1 (xo_load1 ⟨w.heap.size, 3, none⟩ _ (cells_at Fv0_2.out 3 rfl) Tryd.underlying3 rfl rfl rfl) ?_
      simp only [Act.put, zA]
      refine zr (.bool true) V1 (xo_eqlT .i64 (n : Int) (nf : Int) (by omega) rfl rfl rfl) ?_
      simp only [Act.put, zA]
      refine zr (.bool true) V1 rfl ?_
      simp only [Act.put, zA]
      refine zr (.bool true) V1 rfl ?_
      simp only [Act.put, zA]
      refine wpList_nil ?_
      obtain rfl : b = true := by rw [← hb, hme] <;> simp <;> omega
      have hbf := B0.out
      go_wp2_with fail
      go_ret
      exact ⟨rfl, hbf⟩
     ·have hci2 : ¬ ((n : Int) = (nf : Int)) := by omega
      go_upto_region 3 with fail
      refine wp_region_lit ?_
      refine zr (.pointer (some ⟨(w.heap.size + 1), 2, none⟩)) V1 (xo_fld0 2 (w.heap.size + 1) 2 (by kernel_rfl) rfl rfl) ?_
      simp only [Act.put, zA]
      refine zr (.int .i64 k) V1 (xo_load1 ⟨(w.heap.size + 1), 2, none⟩ _ (cells_at Fv1_3.out 2 rfl) Tryd.underlying3 rfl rfl rfl) ?_
      simp only [Act.put, zA]
      refine zr (.pointer (some ⟨w.heap.size, 2, none⟩)) V1 (xo_fld0 2 w.heap.size 2 (by kernel_rfl) rfl rfl) ?_
      simp only [Act.put, zA]
      refine zr (.int .i64 (mk : Int)) V1 (xo_load1 ⟨w.heap.size, 2, none⟩ _ (cells_at Fv0_2.out 2 rfl) Tryd.underlying3 rfl rfl rfl) ?_
      simp only [Act.put, zA]
      refine zr (.int .i64 (mm : Int)) V1 (xo_min .i64 1 (mk : Int) (mm : Int) (by split <;> omega) rfl rfl rfl) ?_
      simp only [Act.put, zA]
      refine zr (.bool true) V1 (xo_geqT .i64 k (mm : Int) (by omega) rfl rfl rfl) ?_
      simp only [Act.put, zA]
      refine zr (.bool true) V1 rfl ?_
      simp only [Act.put, zA]
      refine zr (.pointer (some ⟨(w.heap.size + 1), 2, none⟩)) V1 (xo_fld0 2 (w.heap.size + 1) 2 (by kernel_rfl) rfl rfl) ?_
      simp only [Act.put, zA]
      refine zr (.int .i64 k) V1 (xo_load1 ⟨(w.heap.size + 1), 2, none⟩ _ (cells_at Fv1_3.out 2 rfl) Tryd.underlying3 rfl rfl rfl) ?_
      simp only [Act.put, zA]
      refine zr (.pointer (some ⟨w.heap.size, 2, none⟩)) V1 (xo_fld0 2 w.heap.size 2 (by kernel_rfl) rfl rfl) ?_
      simp only [Act.put, zA]
      refine zr (.int .i64 (mk : Int)) V1 (xo_load1 ⟨w.heap.size, 2, none⟩ _ (cells_at Fv0_2.out 2 rfl) Tryd.underlying3 rfl rfl rfl) ?_
      simp only [Act.put, zA]
      refine zr (.bool true) V1 (xo_leqT .i64 k (mk : Int) (by omega) rfl rfl rfl) ?_
      simp only [Act.put, zA]
      refine zr (.bool true) V1 rfl ?_
      simp only [Act.put, zA]
      refine zr (.bool true) V1 rfl ?_
      simp only [Act.put, zA]
      refine zr (.pointer (some ⟨(w.heap.size + 1), 3, none⟩)) V1 (xo_fld0 3 (w.heap.size + 1) 3 (by kernel_rfl) rfl rfl) ?_
      simp only [Act.put, zA]
      refine zr (.slice A n c) V1 (xo_load1 ⟨(w.heap.size + 1), 3, none⟩ _ (cells_at Fv1_3.out 3 rfl) Tryd.underlying22 rfl rfl rfl) ?_
      simp only [Act.put, zA]
      refine zr (.int .i64 (n : Int)) V1 (xo_len A n c Tryd.underlying22 rfl rfl) ?_
      simp only [Act.put, zA]
      refine zr (.pointer (some ⟨w.heap.size, 3, none⟩)) V1 (xo_fld0 3 w.heap.size 3 (by kernel_rfl) rfl rfl) ?_
      simp only [Act.put, zA]
      refine zr (.int .i64 (nf : Int)) V1 (xo_load1 ⟨w.heap.size, 3, none⟩ _ (cells_at Fv0_2.out 3 rfl) Tryd.underlying3 rfl rfl rfl) ?_
      simp only [Act.put, zA]
      refine zr (.bool false) V1 (xo_eqlF .i64 (n : Int) (nf : Int) (by omega) rfl rfl rfl) ?_
      simp only [Act.put, zA]
      refine zr (.bool false) V1 rfl ?_
      simp only [Act.put, zA]
      refine zr (.bool false) V1 rfl ?_
      simp only [Act.put, zA]
      refine wpList_nil ?_
      obtain rfl : b = false := by rw [← hb, hme] <;> simp <;> omega
      have hbf := B0.out
      go_wp2_with fail
      go_ret
      exact ⟨rfl, hbf⟩
    ·go_upto_region 3 with fail
     refine wp_region_lit ?_
     refine zr (.pointer (some ⟨(w.heap.size + 1), 2, none⟩)) V1 (xo_fld0 2 (w.heap.size + 1) 2 (by kernel_rfl) rfl rfl) ?_
     simp only [Act.put, zA]
     refine zr (.int .i64 k) V1 (xo_load1 ⟨(w.heap.size + 1), 2, none⟩ _ (cells_at Fv1_3.out 2 rfl) Tryd.underlying3 rfl rfl rfl) ?_
     simp only [Act.put, zA]
     refine zr (.pointer (some ⟨w.heap.size, 2, none⟩)) V1 (xo_fld0 2 w.heap.size 2 (by kernel_rfl) rfl rfl) ?_
     simp only [Act.put, zA]
     refine zr (.int .i64 (mk : Int)) V1 (xo_load1 ⟨w.heap.size, 2, none⟩ _ (cells_at Fv0_2.out 2 rfl) Tryd.underlying3 rfl rfl rfl) ?_
     simp only [Act.put, zA]
     refine zr (.int .i64 (mm : Int)) V1 (xo_min .i64 1 (mk : Int) (mm : Int) (by split <;> omega) rfl rfl rfl) ?_
     simp only [Act.put, zA]
     refine zr (.bool true) V1 (xo_geqT .i64 k (mm : Int) (by omega) rfl rfl rfl) ?_
     simp only [Act.put, zA]
     refine zr (.bool true) V1 rfl ?_
     simp only [Act.put, zA]
     refine zr (.pointer (some ⟨(w.heap.size + 1), 2, none⟩)) V1 (xo_fld0 2 (w.heap.size + 1) 2 (by kernel_rfl) rfl rfl) ?_
     simp only [Act.put, zA]
     refine zr (.int .i64 k) V1 (xo_load1 ⟨(w.heap.size + 1), 2, none⟩ _ (cells_at Fv1_3.out 2 rfl) Tryd.underlying3 rfl rfl rfl) ?_
     simp only [Act.put, zA]
     refine zr (.pointer (some ⟨w.heap.size, 2, none⟩)) V1 (xo_fld0 2 w.heap.size 2 (by kernel_rfl) rfl rfl) ?_
     simp only [Act.put, zA]
     refine zr (.int .i64 (mk : Int)) V1 (xo_load1 ⟨w.heap.size, 2, none⟩ _ (cells_at Fv0_2.out 2 rfl) Tryd.underlying3 rfl rfl rfl) ?_
     simp only [Act.put, zA]
     refine zr (.bool false) V1 (xo_leqF .i64 k (mk : Int) (by omega) rfl rfl rfl) ?_
     simp only [Act.put, zA]
     refine zr (.bool false) V1 rfl ?_
     simp only [Act.put, zA]
     refine zr (.bool false) V1 rfl ?_
     simp only [Act.put, zA]
     refine zl ?_
     try simp only [Act.put, zA]
     refine zl ?_
     try simp only [Act.put, zA]
     refine zl ?_
     try simp only [Act.put, zA]
     refine zl ?_
     try simp only [Act.put, zA]
     refine zl ?_
     try simp only [Act.put, zA]
     refine zl ?_
     try simp only [Act.put, zA]
     refine zr (.bool false) V1 rfl ?_
     simp only [Act.put, zA]
     refine zr (.bool false) V1 rfl ?_
     simp only [Act.put, zA]
     refine wpList_nil ?_
     obtain rfl : b = false := by rw [← hb, hme] <;> simp <;> omega
     have hbf := B0.out
     go_wp2_with fail
     go_ret
     exact ⟨rfl, hbf⟩
   ·go_upto_region 3 with fail
    refine wp_region_lit ?_
    refine zr (.pointer (some ⟨(w.heap.size + 1), 2, none⟩)) V1 (xo_fld0 2 (w.heap.size + 1) 2 (by kernel_rfl) rfl rfl) ?_
    simp only [Act.put, zA]
    refine zr (.int .i64 k) V1 (xo_load1 ⟨(w.heap.size + 1), 2, none⟩ _ (cells_at Fv1_3.out 2 rfl) Tryd.underlying3 rfl rfl rfl) ?_
    simp only [Act.put, zA]
    refine zr (.pointer (some ⟨w.heap.size, 2, none⟩)) V1 (xo_fld0 2 w.heap.size 2 (by kernel_rfl) rfl rfl) ?_
    simp only [Act.put, zA]
    refine zr (.int .i64 (mk : Int)) V1 (xo_load1 ⟨w.heap.size, 2, none⟩ _ (cells_at Fv0_2.out 2 rfl) Tryd.underlying3 rfl rfl rfl) ?_
    simp only [Act.put, zA]
    refine zr (.int .i64 (mm : Int)) V1 (xo_min .i64 1 (mk : Int) (mm : Int) (by split <;> omega) rfl rfl rfl) ?_
    simp only [Act.put, zA]
    refine zr (.bool false) V1 (xo_geqF .i64 k (mm : Int) (by omega) rfl rfl rfl) ?_
    simp only [Act.put, zA]
    refine zr (.bool false) V1 rfl ?_
    simp only [Act.put, zA]
    refine zl ?_
    try simp only [Act.put, zA]
    refine zl ?_
    try simp only [Act.put, zA]
    refine zl ?_
    try simp only [Act.put, zA]
    refine zl ?_
    try simp only [Act.put, zA]
    refine zl ?_
    try simp only [Act.put, zA]
    refine zr (.bool false) V1 rfl ?_
    simp only [Act.put, zA]
    refine zr (.bool false) V1 rfl ?_
    simp only [Act.put, zA]
    refine zl ?_
    try simp only [Act.put, zA]
    refine zl ?_
    try simp only [Act.put, zA]
    refine zl ?_
    try simp only [Act.put, zA]
    refine zl ?_
    try simp only [Act.put, zA]
    refine zl ?_
    try simp only [Act.put, zA]
    refine zl ?_
    try simp only [Act.put, zA]
    refine zr (.bool false) V1 rfl ?_
    simp only [Act.put, zA]
    refine zr (.bool false) V1 rfl ?_
    simp only [Act.put, zA]
    refine wpList_nil ?_
    obtain rfl : b = false := by rw [← hb, hme] <;> simp <;> omega
    have hbf := B0.out
    go_wp2_with fail
    go_ret
    exact ⟨rfl, hbf⟩
  | false =>
   by_cases hz : col = 0
   ·have hme : Qu.mF false mk nf col k n = (decide (((min 1 mk : Nat) : Int) ≤ k) && (decide (k ≤ (mk : Int)) && decide (n = nf))) := by unfold Qu.mF; rw [his, decide_eq_true hz]; rfl
    refine wp_region_lit ?_
    refine zr (.pointer (some ⟨(w.heap.size + 1), 1, none⟩)) V1 (xo_fld0 1 (w.heap.size + 1) 1 (by kernel_rfl) rfl rfl) ?_
    simp only [Act.put, zA]
    refine zr (.int .i64 col) V1 (xo_load1 ⟨(w.heap.size + 1), 1, none⟩ _ (cells_at Fv1_3.out 1 rfl) Tryd.underlying3 rfl rfl rfl) ?_
    simp only [Act.put, zA]
    refine wpList_call (by kernel_rfl) 55 Tryd.func55 (by kernel_rfl) (by kernel_rfl) _ _ #[.int .i64 col] rfl (by kernel_rfl) ?_
    refine (isColumn_as col true his V1).mono ?_
    rintro e W1 ⟨rfl, hw1⟩
    rw [hw1]
    clear hw1 W1
    refine ⟨_, rfl, ?_⟩
    simp only [Act.put, zA]
    refine zr (.bool false) V1 rfl ?_
    simp only [Act.put, zA]
    refine zr (.bool false) V1 rfl ?_
    simp only [Act.put, zA]
    refine zr (.pointer (some ⟨w.heap.size, 1, none⟩)) V1 (xo_fld0 1 w.heap.size 1 (by kernel_rfl) rfl rfl) ?_
    simp only [Act.put, zA]
    refine zr (.bool false) V1 (xo_load1 ⟨w.heap.size, 1, none⟩ _ (cells_at Fv0_2.out 1 rfl) Tryd.underlying4 rfl rfl rfl) ?_
    simp only [Act.put, zA]
    refine zr (.bool true) V1 rfl ?_
    simp only [Act.put, zA]
    refine zr (.bool true) V1 rfl ?_
    simp only [Act.put, zA]
    refine zr (.pointer (some ⟨(w.heap.size + 1), 1, none⟩)) V1 (xo_fld0 1 (w.heap.size + 1) 1 (by kernel_rfl) rfl rfl) ?_
    simp only [Act.put, zA]
    refine zr (.int .i64 col) V1 (xo_load1 ⟨(w.heap.size + 1), 1, none⟩ _ (cells_at Fv1_3.out 1 rfl) Tryd.underlying3 rfl rfl rfl) ?_
    simp only [Act.put, zA]
    refine zr (.bool false) V1 (xo_neqF .i64 col 0 (by omega) rfl rfl rfl) ?_
    simp only [Act.put, zA]
    refine zr (.bool false) V1 rfl ?_
    simp only [Act.put, zA]
    refine zr (.bool false) V1 rfl ?_
    simp only [Act.put, zA]
    refine wpList_nil ?_
    obtain ⟨mm, hmm⟩ : ∃ mm, min 1 mk = mm := ⟨_, rfl⟩
    rw [hmm] at hme
    by_cases h1 : k ≥ ((mm : Nat) : Int)
    ·by_cases h2 : k ≤ ((mk : Nat) : Int)
     ·by_cases h3 : n = nf
      ·have hci2 : ((n : Int) = (nf : Int)) := by omega
       go_upto_region 3 with fail
       refine wp_region_lit ?_
       refine zr (.pointer (some ⟨(w.heap.size + 1), 2, none⟩)) V1 (xo_fld0 2 (w.heap.size + 1) 2 (by kernel_rfl) rfl rfl) ?_
       simp only [Act.put, zA]
       refine zr (.int .i64 k) V1 (xo_load1 ⟨(w.heap.size + 1), 2, none⟩ _ (cells_at Fv1_3.out 2 rfl) Tryd.underlying3 rfl rfl rfl) ?_
       simp only [Act.put, zA]
       refine zr (.pointer (some ⟨w.heap.size, 2, none⟩)) V1 (xo_fld0 2 w.heap.size 2 (by kernel_rfl) rfl rfl) ?_
       simp only [Act.put, zA]
       refine zr (.int .i64 (mk : Int)) V1 (xo_load1 ⟨w.heap.size, 2, none⟩ _ (cells_at Fv0_2.out 2 rfl) Tryd.underlying3 rfl rfl rfl) ?_
       simp only [Act.put, zA]
       refine zr (.int .i64 (mm : Int)) V1 (xo_min .i64 1 (mk : Int) (mm : Int) (by split <;> omega) rfl rfl rfl) ?_
       simp only [Act.put, zA]
       refine zr (.bool true) V1 (xo_geqT .i64 k (mm : Int) (by omega) rfl rfl rfl) ?_
       simp only [Act.put, zA]
       refine zr (.bool true) V1 rfl ?_
       simp only [Act.put, zA]
       refine zr (.pointer (some ⟨(w.heap.size + 1), 2, none⟩)) V1 (xo_fld0 2 (w.heap.size + 1) 2 (by kernel_rfl) rfl rfl) ?_
       simp only [Act.put, zA]
       refine zr (.int .i64 k) V1 (xo_load1 ⟨(w.heap.size + 1), 2, none⟩ _ (cells_at Fv1_3.out 2 rfl) Tryd.underlying3 rfl rfl rfl) ?_
       simp only [Act.put, zA]
       refine zr (.pointer (some ⟨w.heap.size, 2, none⟩)) V1 (xo_fld0 2 w.heap.size 2 (by kernel_rfl) rfl rfl) ?_
       simp only [Act.put, zA]
       refine zr (.int .i64 (mk : Int)) V1 (xo_load1 ⟨w.heap.size, 2, none⟩ _ (cells_at Fv0_2.out 2 rfl) Tryd.underlying3 rfl rfl rfl) ?_
       simp only [Act.put, zA]
       refine zr (.bool true) V1 (xo_leqT .i64 k (mk : Int) (by omega) rfl rfl rfl) ?_
       simp only [Act.put, zA]
       refine zr (.bool true) V1 rfl ?_
       simp only [Act.put, zA]
       refine zr (.bool true) V1 rfl ?_
       simp only [Act.put, zA]
       refine zr (.pointer (some ⟨(w.heap.size + 1), 3, none⟩)) V1 (xo_fld0 3 (w.heap.size + 1) 3 (by kernel_rfl) rfl rfl) ?_
       simp only [Act.put, zA]
       refine zr (.slice A n c) V1 (xo_load1 ⟨(w.heap.size + 1), 3, none⟩ _ (cells_at Fv1_3.out 3 rfl) Tryd.underlying22 rfl rfl rfl) ?_
       simp only [Act.put, zA]
       refine zr (.int .i64 (n : Int)) V1 (xo_len A n c Tryd.underlying22 rfl rfl) ?_
       simp only [Act.put, zA]
       refine zr (.pointer (some ⟨w.heap.size, 3, none⟩)) V1 (xo_fld0 3 w.heap.size 3 (by kernel_rfl) rfl rfl) ?_
       simp only [Act.put, zA]
       refine zr (.int .i64 (nf : Int)) V1 (xo_load1 ⟨w.heap.size, 3, none⟩ _ (cells_at Fv0_2.out 3 rfl) Tryd.underlying3 rfl rfl rfl) ?_
       simp only [Act.put, zA]
       refine zr (.bool true) V1 (xo_eqlT .i64 (n : Int) (nf : Int) (by omega) rfl rfl rfl) ?_
       simp only [Act.put, zA]
       refine zr (.bool true) V1 rfl ?_
       simp only [Act.put, zA]
       refine zr (.bool true) V1 rfl ?_
       simp only [Act.put, zA]
       refine wpList_nil ?_
       obtain rfl : b = true := by rw [← hb, hme] <;> simp <;> omega
       have hbf := B0.out
       go_wp2_with fail
       go_ret
       exact ⟨rfl, hbf⟩
      ·have hci2 : ¬ ((n : Int) = (nf : Int)) := by omega
       go_upto_region 3 with fail
       refine wp_region_lit ?_
       refine zr (.pointer (some ⟨(w.heap.size + 1), 2, none⟩)) V1 (xo_fld0 2 (w.heap.size + 1) 2 (by kernel_rfl) rfl rfl) ?_
       simp only [Act.put, zA]
       refine zr (.int .i64 k) V1 (xo_load1 ⟨(w.heap.size + 1), 2, none⟩ _ (cells_at Fv1_3.out 2 rfl) Tryd.underlying3 rfl rfl rfl) ?_
       simp only [Act.put, zA]
       refine zr (.pointer (some ⟨w.heap.size, 2, none⟩)) V1 (xo_fld0 2 w.heap.size 2 (by kernel_rfl) rfl rfl) ?_
       simp only [Act.put, zA]
       refine zr (.int .i64 (mk : Int)) V1 (xo_load1 ⟨w.heap.size, 2, none⟩ _ (cells_at Fv0_2.out 2 rfl) Tryd.underlying3 rfl rfl rfl) ?_
       simp only [Act.put, zA]
       refine zr (.int .i64 (mm : Int)) V1 (xo_min .i64 1 (mk : Int) (mm : Int) (by split <;> omega) rfl rfl rfl) ?_
       simp only [Act.put, zA]
       refine zr (.bool true) V1 (xo_geqT .i64 k (mm : Int) (by omega) rfl rfl rfl) ?_
       simp only [Act.put, zA]
       refine zr (.bool true) V1 rfl ?_
       simp only [Act.put, zA]
       refine zr (.pointer (some ⟨(w.heap.size + 1), 2, none⟩)) V1 (xo_fld0 2 (w.heap.size + 1) 2 (by kernel_rfl) rfl rfl) ?_
       simp only [Act.put, zA]
       refine zr (.int .i64 k) V1 (xo_load1 ⟨(w.heap.size + 1), 2, none⟩ _ (cells_at Fv1_3.out 2 rfl) Tryd.underlying3 rfl rfl rfl) ?_
       simp only [Act.put, zA]
       refine zr (.pointer (some ⟨w.heap.size, 2, none⟩)) V1 (xo_fld0 2 w.heap.size 2 (by kernel_rfl) rfl rfl) ?_
       simp only [Act.put, zA]
       refine zr (.int .i64 (mk : Int)) V1 (xo_load1 ⟨w.heap.size, 2, none⟩ _ (cells_at Fv0_2.out 2 rfl) Tryd.underlying3 rfl rfl rfl) ?_
       simp only [Act.put, zA]
       refine zr (.bool true) V1 (xo_leqT .i64 k (mk : Int) (by omega) rfl rfl rfl) ?_
       simp only [Act.put, zA]
       refine zr (.bool true) V1 rfl ?_
       simp only [Act.put, zA]
       refine zr (.bool true) V1 rfl ?_
       simp only [Act.put, zA]
       refine zr (.pointer (some ⟨(w.heap.size + 1), 3, none⟩)) V1 (xo_fld0 3 (w.heap.size + 1) 3 (by kernel_rfl) rfl rfl) ?_
       simp only [Act.put, zA]
       refine zr (.slice A n c) V1 (xo_load1 ⟨(w.heap.size + 1), 3, none⟩ _ (cells_at Fv1_3.out 3 rfl) Tryd.underlying22 rfl rfl rfl) ?_
       simp only [Act.put, zA]
       refine zr (.int .i64 (n : Int)) V1 (xo_len A n c Tryd.underlying22 rfl rfl) ?_
       simp only [Act.put, zA]
       refine zr (.pointer (some ⟨w.heap.size, 3, none⟩)) V1 (xo_fld0 3 w.heap.size 3 (by kernel_rfl) rfl rfl) ?_
       simp only [Act.put, zA]
       refine zr (.int .i64 (nf : Int)) V1 (xo_load1 ⟨w.heap.size, 3, none⟩ _ (cells_at Fv0_2.out 3 rfl) Tryd.underlying3 rfl rfl rfl) ?_
       simp only [Act.put, zA]
       refine zr (.bool false) V1 (xo_eqlF .i64 (n : Int) (nf : Int) (by omega) rfl rfl rfl) ?_
       simp only [Act.put, zA]
       refine zr (.bool false) V1 rfl ?_
       simp only [Act.put, zA]
       refine zr (.bool false) V1 rfl ?_
       simp only [Act.put, zA]
       refine wpList_nil ?_
       obtain rfl : b = false := by rw [← hb, hme] <;> simp <;> omega
       have hbf := B0.out
       go_wp2_with fail
       go_ret
       exact ⟨rfl, hbf⟩
     ·go_upto_region 3 with fail
      refine wp_region_lit ?_
      refine zr (.pointer (some ⟨(w.heap.size + 1), 2, none⟩)) V1 (xo_fld0 2 (w.heap.size + 1) 2 (by kernel_rfl) rfl rfl) ?_
      simp only [Act.put, zA]
      refine zr (.int .i64 k) V1 (xo_load1 ⟨(w.heap.size + 1), 2, none⟩ _ (cells_at Fv1_3.out 2 rfl) Tryd.underlying3 rfl rfl rfl) ?_
      simp only [Act.put, zA]
      refine zr (.pointer (some ⟨w.heap.size, 2, none⟩)) V1 (xo_fld0 2 w.heap.size 2 (by kernel_rfl) rfl rfl) ?_
      simp only [Act.put, zA]
      refine zr (.int .i64 (mk : Int)) V1 (xo_load1 ⟨w.heap.size, 2, none⟩ _ (cells_at Fv0_2.out 2 rfl) Tryd.underlying3 rfl rfl rfl) ?_
      simp only [Act.put, zA]
      refine zr (.int .i64 (mm : Int)) V1 (xo_min .i64 1 (mk : Int) (mm : Int) (by split <;> omega) rfl rfl rfl) ?_
      simp only [Act.put, zA]
      refine zr (.bool true) V1 (xo_geqT .i64 k (mm : Int) (by omega) rfl rfl rfl) ?_
      simp only [Act.put, zA]
      refine zr (.bool true) V1 rfl ?_
      simp only [Act.put, zA]
      refine zr (.pointer (some ⟨(w.heap.size + 1), 2, none⟩)) V1 (xo_fld0 2 (w.heap.size + 1) 2 (by kernel_rfl) rfl rfl) ?_
      simp only [Act.put, zA]
      refine zr (.int .i64 k) V1 (xo_load1 ⟨(w.heap.size + 1), 2, none⟩ _ (cells_at Fv1_3.out 2 rfl) Tryd.underlying3 rfl rfl rfl) ?_
      simp only [Act.put, zA]
      refine zr (.pointer (some ⟨w.heap.size, 2, none⟩)) V1 (xo_fld0 2 w.heap.size 2 (by kernel_rfl) rfl rfl) ?_
      simp only [Act.put, zA]
      refine zr (.int .i64 (mk : Int)) V1 (xo_load1 ⟨w.heap.size, 2, none⟩ _ (cells_at Fv0_2.out 2 rfl) Tryd.underlying3 rfl rfl rfl) ?_
      simp only [Act.put, zA]
      refine zr (.bool false) V1 (xo_leqF .i64 k (mk : Int) (by omega) rfl rfl rfl) ?_
      simp only [Act.put, zA]
      refine zr (.bool false) V1 rfl ?_
      simp only [Act.put, zA]
      refine zr (.bool false) V1 rfl ?_
      simp only [Act.put, zA]
      refine zl ?_
      try simp only [Act.put, zA]
      refine zl ?_
      try simp only [Act.put, zA]
      refine zl ?_
      try simp only [Act.put, zA]
      refine zl ?_
      try simp only [Act.put, zA]
      refine zl ?_
      try simp only [Act.put, zA]
      refine zl ?_
      try simp only [Act.put, zA]
      refine zr (.bool false) V1 rfl ?_
      simp only [Act.put, zA]
      refine zr (.bool false) V1 rfl ?_
      simp only [Act.put, zA]
      refine wpList_nil ?_
      obtain rfl : b = false := by rw [← hb, hme] <;> simp <;> omega
      have hbf := B0.out
      go_wp2_with fail
      go_ret
      exact ⟨rfl, hbf⟩
    ·go_upto_region 3 with fail
     refine wp_region_lit ?_
     refine zr (.pointer (some ⟨(w.heap.size + 1), 2, none⟩)) V1 (xo_fld0 2 (w.heap.size + 1) 2 (by kernel_rfl) rfl rfl) ?_
     simp only [Act.put, zA]
     refine zr (.int .i64 k) V1 (xo_load1 ⟨(w.heap.size + 1), 2, none⟩ _ (cells_at Fv1_3.out 2 rfl) Tryd.underlying3 rfl rfl rfl) ?_
     simp only [Act.put, zA]
     refine zr (.pointer (some ⟨w.heap.size, 2, none⟩)) V1 (xo_fld0 2 w.heap.size 2 (by kernel_rfl) rfl rfl) ?_
     simp only [Act.put, zA]
     refine zr (.int .i64 (mk : Int)) V1 (xo_load1 ⟨w.heap.size, 2, none⟩ _ (cells_at Fv0_2.out 2 rfl) Tryd.underlying3 rfl rfl rfl) ?_
     simp only [Act.put, zA]
     refine zr (.int .i64 (mm : Int)) V1 (xo_min .i64 1 (mk : Int) (mm : Int) (by split <;> omega) rfl rfl rfl) ?_
     simp only [Act.put, zA]
     refine zr (.bool false) V1 (xo_geqF .i64 k (mm : Int) (by omega) rfl rfl rfl) ?_
     simp only [Act.put, zA]
     refine zr (.bool false) V1 rfl ?_
     simp only [Act.put, zA]
     refine zl ?_
     try simp only [Act.put, zA]
     refine zl ?_
     try simp only [Act.put, zA]
     refine zl ?_
     try simp only [Act.put, zA]
     refine zl ?_
     try simp only [Act.put, zA]
     refine zl ?_
     try simp only [Act.put, zA]
     refine zr (.bool false) V1 rfl ?_
     simp only [Act.put, zA]
     refine zr (.bool false) V1 rfl ?_
     simp only [Act.put, zA]
     refine zl ?_
     try simp only [Act.put, zA]
     refine zl ?_
     try simp only [Act.put, zA]
     refine zl ?_
     try simp only [Act.put, zA]
     refine zl ?_
     try simp only [Act.put, zA]
     refine zl ?_
     try simp only [Act.put, zA]
     refine zl ?_
     try simp only [Act.put, zA]
     refine zr (.bool false) V1 rfl ?_
     simp only [Act.put, zA]
     refine zr (.bool false) V1 rfl ?_
     simp only [Act.put, zA]
     refine wpList_nil ?_
     obtain rfl : b = false := by rw [← hb, hme] <;> simp <;> omega
     have hbf := B0.out
     go_wp2_with fail
     go_ret
     exact ⟨rfl, hbf⟩
   ·have hme : Qu.mF false mk nf col k n = false := by unfold Qu.mF; rw [his, decide_eq_false hz]; rfl
    refine wp_region_lit ?_
    refine zr (.pointer (some ⟨(w.heap.size + 1), 1, none⟩)) V1 (xo_fld0 1 (w.heap.size + 1) 1 (by kernel_rfl) rfl rfl) ?_
    simp only [Act.put, zA]
    refine zr (.int .i64 col) V1 (xo_load1 ⟨(w.heap.size + 1), 1, none⟩ _ (cells_at Fv1_3.out 1 rfl) Tryd.underlying3 rfl rfl rfl) ?_
    simp only [Act.put, zA]
    refine wpList_call (by kernel_rfl) 55 Tryd.func55 (by kernel_rfl) (by kernel_rfl) _ _ #[.int .i64 col] rfl (by kernel_rfl) ?_
    refine (isColumn_as col true his V1).mono ?_
    rintro e W1 ⟨rfl, hw1⟩
    rw [hw1]
    clear hw1 W1
    refine ⟨_, rfl, ?_⟩
    simp only [Act.put, zA]
    refine zr (.bool false) V1 rfl ?_
    simp only [Act.put, zA]
    refine zr (.bool false) V1 rfl ?_
    simp only [Act.put, zA]
    refine zr (.pointer (some ⟨w.heap.size, 1, none⟩)) V1 (xo_fld0 1 w.heap.size 1 (by kernel_rfl) rfl rfl) ?_
    simp only [Act.put, zA]
    refine zr (.bool false) V1 (xo_load1 ⟨w.heap.size, 1, none⟩ _ (cells_at Fv0_2.out 1 rfl) Tryd.underlying4 rfl rfl rfl) ?_
    simp only [Act.put, zA]
    refine zr (.bool true) V1 rfl ?_
    simp only [Act.put, zA]
    refine zr (.bool true) V1 rfl ?_
    simp only [Act.put, zA]
    refine zr (.pointer (some ⟨(w.heap.size + 1), 1, none⟩)) V1 (xo_fld0 1 (w.heap.size + 1) 1 (by kernel_rfl) rfl rfl) ?_
    simp only [Act.put, zA]
    refine zr (.int .i64 col) V1 (xo_load1 ⟨(w.heap.size + 1), 1, none⟩ _ (cells_at Fv1_3.out 1 rfl) Tryd.underlying3 rfl rfl rfl) ?_
    simp only [Act.put, zA]
    refine zr (.bool true) V1 (xo_neqT .i64 col 0 (by omega) rfl rfl rfl) ?_
    simp only [Act.put, zA]
    refine zr (.bool true) V1 rfl ?_
    simp only [Act.put, zA]
    refine zr (.bool true) V1 rfl ?_
    simp only [Act.put, zA]
    refine wpList_nil ?_
    go_upto_region 2 with fail
    refine wp_region_lit ?_
    refine zr (.bool false) V1 rfl ?_
    simp only [Act.put, zA]
    refine wpList_nil ?_
    obtain rfl : b = false := by rw [← hb, hme] <;> simp <;> omega
    have hbf := B0.out
    go_wp2_with fail
    go_ret
    exact ⟨rfl, hbf⟩
set_option maxRecDepth 100000 in
set_option maxHeartbeats 32000000 in
theorem valid_as (kind col k : Int) (A : Option Addr) (n c : Nat) (hs : List Hd) (fs : List (List Qu.Ci)) (b : Bool) (hbq : Qu.vQ kind col k fs = b) (w : World) (hG : Gc w) (hF : FsR w A n c hs fs) :
  Calls Tryd.prog 30 #[.agg #[.int .i64 kind, .int .i64 col, .int .i64 k, .slice A n c]] w fun e w' => e = .returned (.bool b) ∧ Below w.heap.size w w' := by
 have HFR := zh hF
 have HG := zh hG
 have hln := hF.sg.len
 have hlc := hF.sg.cap
 have hlt := hF.sg.top
 have hfl := hF.len
 clear hF hG
 go_enter Tryd.func30, Tryd.ntmps30
 go_upto_region 1 with fail
 refine wp_named1 (fun V1 hb g0 hlt => ?_)
 have B0 := zh hb
 have Fv0_1 : Hid (V1.heap[w.heap.size]? = some (.cells #[.int .i64 kind, .int .i64 col, .int .i64 k, .slice A n c] 24 (0, 0))) := zh (g0)
 have Gb0 : Hid (w.heap.size ≤ w.heap.size) := zh (by omega)
 clear hb g0 hlt
 have Lt0 : Hid (w.heap.size < V1.heap.size) := zh (xp_lt Fv0_1.out)
 by_cases hkn : 1 ≤ kind ∧ kind ≤ 7
 ·obtain ⟨kd, rfl⟩ : ∃ kd : Nat, kind = (kd : Int) := ⟨kind.toNat, by omega⟩
  refine wp_cutP (α := Nat × Nat) (fun ⟨fb, b3⟩ => [(8, .map (some fb)), (9, .pointer (some ⟨w.heap.size, 0, none⟩)), (10, .int .i64 (kd : Int)), (11, .tuple #[.agg #[.string (sB (Qu.kwN kd)), .bool (Qu.hasC kd), .int .i64 (Qu.maxK kd : Int), .int .i64 (Qu.numF kd : Int)], .bool true]), (7, .tuple #[.agg #[.string (sB (Qu.kwN kd)), .bool (Qu.hasC kd), .int .i64 (Qu.maxK kd : Int), .int .i64 (Qu.numF kd : Int)], .bool true]), (12, .agg #[.string (sB (Qu.kwN kd)), .bool (Qu.hasC kd), .int .i64 (Qu.maxK kd : Int), .int .i64 (Qu.numF kd : Int)]), (13, .bool true), (3, .pointer (some ⟨b3, 0, none⟩)), (4, .bool true)]) (fun ⟨_, b3⟩ W => Below V1.heap.size V1 W ∧ V1.heap.size ≤ b3 ∧ W.heap[b3]? = some (.cells #[.string (sB (Qu.kwN kd)), .bool (Qu.hasC kd), .int .i64 (Qu.maxK kd : Int), .int .i64 (Qu.numF kd : Int)] 77 (0, 0))) ?_ ?_
  ·have T4 := zh Fv0_1.out
   have T4l : Hid (w.heap.size < V1.heap.size) := zh (xp_lt T4.out)
   try simp only [List.append_eq, List.cons_append, List.nil_append]
   refine wp_ordT (fun W => Below V1.heap.size V1 W) (.q 1 (.q 2 (.fork 0 (.fork 3 (.q 4 (.q 5 (.q 6 (.one 7 (.one 8 (.q 9 .nil)))))) 7 (.one 3 (.q 4 (.q 5 (.q 6 (.one 8 (.q 9 .nil))))))) 7 (.one 0 (.one 3 (.q 4 (.q 5 (.q 6 (.one 8 (.q 9 .nil)))))))))) (by kernel_rfl) (by kernel_rfl) (fun _ _ dt _ _ h => by first | exact h.elim | (cases dt <;> exact h)) (by kernel_rfl) (by kernel_rfl) (Below.refl _ _).drew ?_
   have hb : Below V1.heap.size V1 V1.drew := (Below.refl _ _).drew
   generalize V1.drew = V1 at hb ⊢
   have B0 := zh hb
   clear hb
   refine wpOT_q (.pointer (some ⟨w.heap.size, 0, none⟩)) rfl (by kernel_rfl) (fun v hW => (xo_fld0 0 w.heap.size 0 (by kernel_rfl) rfl rfl)) ?_
   simp only [ptr, Act.put, zA]
   refine wpOT_q (.int .i64 (kd : Int)) rfl (by kernel_rfl) (fun v hW => (xo_load1 ⟨w.heap.size, 0, none⟩ _ (cells_at (heap_keep T4.out hW) 0 rfl) Tryd.underlying3 rfl rfl rfl)) ?_
   simp only [ptr, Act.put, zA]
   refine wpOT_fork ?_ ?_
   ·refine wpOT_one rfl (by kernel_rfl) ?_
    refine hOp_call 41 Tryd.func41 (by kernel_rfl) (by kernel_rfl) _ _ #[] rfl (by kernel_rfl) ?_
    refine (forms_any V1).mono ?_
    rintro e V2 ⟨fb, rfl, hge, hfm, hb⟩
    have B1 := zh hb
    have HFm := zh hfm
    have HFg := zh hge
    clear hb hfm hge
    have C0_2 := zb B0 B1
    refine ⟨_, rfl, C0_2.out, ?_⟩
    simp only [ptr, Act.put, zA]
    refine wpOT_fork ?_ ?_
    ·refine wpOT_one rfl (by kernel_rfl) ?_
     refine hOp_val (.tuple #[.agg #[.string (sB (Qu.kwN kd)), .bool (Qu.hasC kd), .int .i64 (Qu.maxK kd : Int), .int .i64 (Qu.numF kd : Int)], .bool true]) (xm_lookupOk fb [formE 1, formE 2, formE 3, formE 4, formE 5, formE 6, formE 7] 7 (kd : Int) (kd - 1) (.agg #[.string (sB (Qu.kwN kd)), .bool (Qu.hasC kd), .int .i64 (Qu.maxK kd : Int), .int .i64 (Qu.numF kd : Int)]) HFm.out (forms_find kd (by omega) (by omega)) Tryd.underlying79 Tryd.underlying3 rfl rfl rfl) ⟨C0_2.out, ?_⟩
     simp only [ptr, Act.put, zA]
     refine wpOT_q (.tuple #[.agg #[.string (sB (Qu.kwN kd)), .bool (Qu.hasC kd), .int .i64 (Qu.maxK kd : Int), .int .i64 (Qu.numF kd : Int)], .bool true]) rfl (by kernel_rfl) (fun v hW => rfl) ?_
     simp only [ptr, Act.put, zA]
     refine wpOT_q (.agg #[.string (sB (Qu.kwN kd)), .bool (Qu.hasC kd), .int .i64 (Qu.maxK kd : Int), .int .i64 (Qu.numF kd : Int)]) rfl (by kernel_rfl) (fun v hW => rfl) ?_
     simp only [ptr, Act.put, zA]
     refine wpOT_q (.bool true) rfl (by kernel_rfl) (fun v hW => rfl) ?_
     simp only [ptr, Act.put, zA]
     refine wpOT_one rfl (by kernel_rfl) ?_
     refine hOp_new #[.string ByteArray.empty, .bool false, .int .i64 0, .int .i64 0] 77 (xo_alloc #[.string ByteArray.empty, .bool false, .int .i64 0, .int .i64 0] (by kernel_rfl) rfl) ?_
     intro b3 V3 hge h0 hb
     have N1_0 : Hid (w.heap.size ≠ b3) := zh (xp_lt0 (heap_keep T4.out C0_2.out) hge)
     have Ge2 : Hid (V2.heap.size ≤ b3) := zh hge
     have B2 := zh hb
     have Fv3_3 : Hid (V3.heap[b3]? = some (.cells #[.string ByteArray.empty, .bool false, .int .i64 0, .int .i64 0] 77 (0, 0))) := zh (h0)
     have Lt4 : Hid (b3 < V3.heap.size) := zh (xp_lt Fv3_3.out)
     clear hge h0 hb
     have C0_3 := zb C0_2 B2
     refine ⟨C0_3.out, ?_⟩
     try simp only [ptr, Act.put, zA]
     refine wpOT_one rfl (by kernel_rfl) ?_
     refine hOp_storeW b3 #[.string ByteArray.empty, .bool false, .int .i64 0, .int .i64 0] #[.string (sB (Qu.kwN kd)), .bool (Qu.hasC kd), .int .i64 (Qu.maxK kd : Int), .int .i64 (Qu.numF kd : Int)] 77 Fv3_3.out (xo_storeW b3 #[.string ByteArray.empty, .bool false, .int .i64 0, .int .i64 0] #[.string (sB (Qu.kwN kd)), .bool (Qu.hasC kd), .int .i64 (Qu.maxK kd : Int), .int .i64 (Qu.numF kd : Int)] Fv3_3.out (by kernel_rfl) rfl (by simp [Value.oneCell']) rfl rfl rfl) ?_
     intro X3_5 h1 hfar hbel hsz
     have hbr := hbel _ _ Ge2.out B2.out
     clear B2
     have B2 := zh hbr
     clear hbr
     clear Fv3_3
     have Fv3_3 : Hid (X3_5.heap[b3]? = some (.cells #[.string (sB (Qu.kwN kd)), .bool (Qu.hasC kd), .int .i64 (Qu.maxK kd : Int), .int .i64 (Qu.numF kd : Int)] 77 (0, 0))) := zh (h1)
     have HszX3_5 := zh hsz
     clear h1 hfar hbel hsz
     simp only [ptr, Act.put, zA]
     have C0_3 := zb C0_2 B2
     refine ⟨C0_3.out, ?_⟩
     try simp only [ptr, Act.put, zA]
     refine wpOT_q (.bool true) rfl (by kernel_rfl) (fun v hW => rfl) ?_
     simp only [ptr, Act.put, zA]
     refine wpOT_nil ?_
     refine ⟨(fb, b3), ?_, C0_3.out, (Nat.le_trans C0_2.out.size Ge2.out), Fv3_3.out⟩
     simp only [putL, ptr, Act.put, zA] <;> rfl
    ·refine wpOT_one rfl (by kernel_rfl) ?_
     refine hOp_new #[.string ByteArray.empty, .bool false, .int .i64 0, .int .i64 0] 77 (xo_alloc #[.string ByteArray.empty, .bool false, .int .i64 0, .int .i64 0] (by kernel_rfl) rfl) ?_
     intro b3 V3 hge h0 hb
     have N1_0 : Hid (w.heap.size ≠ b3) := zh (xp_lt0 (heap_keep T4.out C0_2.out) hge)
     have Ge2 : Hid (V2.heap.size ≤ b3) := zh hge
     have B2 := zh hb
     have Fv3_3 : Hid (V3.heap[b3]? = some (.cells #[.string ByteArray.empty, .bool false, .int .i64 0, .int .i64 0] 77 (0, 0))) := zh (h0)
     have Lt4 : Hid (b3 < V3.heap.size) := zh (xp_lt Fv3_3.out)
     clear hge h0 hb
     have C0_3 := zb C0_2 B2
     refine ⟨C0_3.out, ?_⟩
     try simp only [ptr, Act.put, zA]
     refine wpOT_one rfl (by kernel_rfl) ?_
     refine hOp_val (.tuple #[.agg #[.string (sB (Qu.kwN kd)), .bool (Qu.hasC kd), .int .i64 (Qu.maxK kd : Int), .int .i64 (Qu.numF kd : Int)], .bool true]) (xm_lookupOk fb [formE 1, formE 2, formE 3, formE 4, formE 5, formE 6, formE 7] 7 (kd : Int) (kd - 1) (.agg #[.string (sB (Qu.kwN kd)), .bool (Qu.hasC kd), .int .i64 (Qu.maxK kd : Int), .int .i64 (Qu.numF kd : Int)]) (heap_keep HFm.out B2.out) (forms_find kd (by omega) (by omega)) Tryd.underlying79 Tryd.underlying3 rfl rfl rfl) ⟨C0_3.out, ?_⟩
     simp only [ptr, Act.put, zA]
     refine wpOT_q (.tuple #[.agg #[.string (sB (Qu.kwN kd)), .bool (Qu.hasC kd), .int .i64 (Qu.maxK kd : Int), .int .i64 (Qu.numF kd : Int)], .bool true]) rfl (by kernel_rfl) (fun v hW => rfl) ?_
     simp only [ptr, Act.put, zA]
     refine wpOT_q (.agg #[.string (sB (Qu.kwN kd)), .bool (Qu.hasC kd), .int .i64 (Qu.maxK kd : Int), .int .i64 (Qu.numF kd : Int)]) rfl (by kernel_rfl) (fun v hW => rfl) ?_
     simp only [ptr, Act.put, zA]
     refine wpOT_q (.bool true) rfl (by kernel_rfl) (fun v hW => rfl) ?_
     simp only [ptr, Act.put, zA]
     refine wpOT_one rfl (by kernel_rfl) ?_
     refine hOp_storeW b3 #[.string ByteArray.empty, .bool false, .int .i64 0, .int .i64 0] #[.string (sB (Qu.kwN kd)), .bool (Qu.hasC kd), .int .i64 (Qu.maxK kd : Int), .int .i64 (Qu.numF kd : Int)] 77 Fv3_3.out (xo_storeW b3 #[.string ByteArray.empty, .bool false, .int .i64 0, .int .i64 0] #[.string (sB (Qu.kwN kd)), .bool (Qu.hasC kd), .int .i64 (Qu.maxK kd : Int), .int .i64 (Qu.numF kd : Int)] Fv3_3.out (by kernel_rfl) rfl (by simp [Value.oneCell']) rfl rfl rfl) ?_
     intro X3_5 h1 hfar hbel hsz
     have hbr := hbel _ _ Ge2.out B2.out
     clear B2
     have B2 := zh hbr
     clear hbr
     clear Fv3_3
     have Fv3_3 : Hid (X3_5.heap[b3]? = some (.cells #[.string (sB (Qu.kwN kd)), .bool (Qu.hasC kd), .int .i64 (Qu.maxK kd : Int), .int .i64 (Qu.numF kd : Int)] 77 (0, 0))) := zh (h1)
     have HszX3_5 := zh hsz
     clear h1 hfar hbel hsz
     simp only [ptr, Act.put, zA]
     have C0_3 := zb C0_2 B2
     refine ⟨C0_3.out, ?_⟩
     try simp only [ptr, Act.put, zA]
     refine wpOT_q (.bool true) rfl (by kernel_rfl) (fun v hW => rfl) ?_
     simp only [ptr, Act.put, zA]
     refine wpOT_nil ?_
     refine ⟨(fb, b3), ?_, C0_3.out, (Nat.le_trans C0_2.out.size Ge2.out), Fv3_3.out⟩
     simp only [putL, ptr, Act.put, zA] <;> rfl
   ·refine wpOT_one rfl (by kernel_rfl) ?_
    refine hOp_new #[.string ByteArray.empty, .bool false, .int .i64 0, .int .i64 0] 77 (xo_alloc #[.string ByteArray.empty, .bool false, .int .i64 0, .int .i64 0] (by kernel_rfl) rfl) ?_
    intro b3 V2 hge h0 hb
    have N1_0 : Hid (w.heap.size ≠ b3) := zh (xp_lt0 (heap_keep T4.out B0.out) hge)
    have Ge2 : Hid (V1.heap.size ≤ b3) := zh hge
    have B1 := zh hb
    have Fv3_3 : Hid (V2.heap[b3]? = some (.cells #[.string ByteArray.empty, .bool false, .int .i64 0, .int .i64 0] 77 (0, 0))) := zh (h0)
    have Lt4 : Hid (b3 < V2.heap.size) := zh (xp_lt Fv3_3.out)
    clear hge h0 hb
    have C0_2 := zb B0 B1
    refine ⟨C0_2.out, ?_⟩
    try simp only [ptr, Act.put, zA]
    refine wpOT_one rfl (by kernel_rfl) ?_
    refine hOp_call 41 Tryd.func41 (by kernel_rfl) (by kernel_rfl) _ _ #[] rfl (by kernel_rfl) ?_
    refine (forms_any V2).mono ?_
    rintro e V3 ⟨fb, rfl, hge, hfm, hb⟩
    have B2 := zh hb
    have HFm := zh hfm
    have HFg := zh hge
    clear hb hfm hge
    have C0_3 := zb C0_2 B2
    refine ⟨_, rfl, C0_3.out, ?_⟩
    simp only [ptr, Act.put, zA]
    refine wpOT_one rfl (by kernel_rfl) ?_
    refine hOp_val (.tuple #[.agg #[.string (sB (Qu.kwN kd)), .bool (Qu.hasC kd), .int .i64 (Qu.maxK kd : Int), .int .i64 (Qu.numF kd : Int)], .bool true]) (xm_lookupOk fb [formE 1, formE 2, formE 3, formE 4, formE 5, formE 6, formE 7] 7 (kd : Int) (kd - 1) (.agg #[.string (sB (Qu.kwN kd)), .bool (Qu.hasC kd), .int .i64 (Qu.maxK kd : Int), .int .i64 (Qu.numF kd : Int)]) HFm.out (forms_find kd (by omega) (by omega)) Tryd.underlying79 Tryd.underlying3 rfl rfl rfl) ⟨C0_3.out, ?_⟩
    simp only [ptr, Act.put, zA]
    refine wpOT_q (.tuple #[.agg #[.string (sB (Qu.kwN kd)), .bool (Qu.hasC kd), .int .i64 (Qu.maxK kd : Int), .int .i64 (Qu.numF kd : Int)], .bool true]) rfl (by kernel_rfl) (fun v hW => rfl) ?_
    simp only [ptr, Act.put, zA]
    refine wpOT_q (.agg #[.string (sB (Qu.kwN kd)), .bool (Qu.hasC kd), .int .i64 (Qu.maxK kd : Int), .int .i64 (Qu.numF kd : Int)]) rfl (by kernel_rfl) (fun v hW => rfl) ?_
    simp only [ptr, Act.put, zA]
    refine wpOT_q (.bool true) rfl (by kernel_rfl) (fun v hW => rfl) ?_
    simp only [ptr, Act.put, zA]
    refine wpOT_one rfl (by kernel_rfl) ?_
    refine hOp_storeW b3 #[.string ByteArray.empty, .bool false, .int .i64 0, .int .i64 0] #[.string (sB (Qu.kwN kd)), .bool (Qu.hasC kd), .int .i64 (Qu.maxK kd : Int), .int .i64 (Qu.numF kd : Int)] 77 (heap_keep Fv3_3.out B2.out) (xo_storeW b3 #[.string ByteArray.empty, .bool false, .int .i64 0, .int .i64 0] #[.string (sB (Qu.kwN kd)), .bool (Qu.hasC kd), .int .i64 (Qu.maxK kd : Int), .int .i64 (Qu.numF kd : Int)] (heap_keep Fv3_3.out B2.out) (by kernel_rfl) rfl (by simp [Value.oneCell']) rfl rfl rfl) ?_
    intro X3_5 h1 hfar hbel hsz
    -- drops HFm
    -- drops HFg
    have C1_3 := zb B1 B2
    have hbr := hbel _ _ Ge2.out C1_3.out
    clear B1
    have B1 := zh hbr
    clear hbr
    clear Fv3_3
    have Fv3_3 : Hid (X3_5.heap[b3]? = some (.cells #[.string (sB (Qu.kwN kd)), .bool (Qu.hasC kd), .int .i64 (Qu.maxK kd : Int), .int .i64 (Qu.numF kd : Int)] 77 (0, 0))) := zh (h1)
    have HszX3_5 := zh hsz
    clear h1 hfar hbel hsz
    simp only [ptr, Act.put, zA]
    have C0_2 := zb B0 B1
    refine ⟨C0_2.out, ?_⟩
    try simp only [ptr, Act.put, zA]
    refine wpOT_q (.bool true) rfl (by kernel_rfl) (fun v hW => rfl) ?_
    simp only [ptr, Act.put, zA]
    refine wpOT_nil ?_
    refine ⟨(fb, b3), ?_, C0_2.out, (Nat.le_trans B0.out.size Ge2.out), Fv3_3.out⟩
    simp only [putL, ptr, Act.put, zA] <;> rfl
  rintro ⟨fb, b3⟩ V2 ⟨hb0, hge, h0⟩
  simp only [putL, ptr, Act.put, zA]
  have hb := hb0
  clear hb0
  have N41_0 : Hid (w.heap.size ≠ b3) := zh (xp_lt0 Fv0_1.out hge)
  have Ge42 : Hid (V1.heap.size ≤ b3) := zh hge
  have B1 := zh hb
  have Fv43_3 : Hid (V2.heap[b3]? = some (.cells #[.string (sB (Qu.kwN kd)), .bool (Qu.hasC kd), .int .i64 (Qu.maxK kd : Int), .int .i64 (Qu.numF kd : Int)] 77 (0, 0))) := zh (h0)
  have Lt44 : Hid (b3 < V2.heap.size) := zh (xp_lt Fv43_3.out)
  clear hge h0 hb
  have hmeq : Qu.vQ (kd : Int) col k fs = (Qu.mF (Qu.hasC kd) (Qu.maxK kd) (Qu.numF kd) col k n && fs.all Qu.vL) := by unfold Qu.vQ; rw [decide_eq_true (by omega : (1 : Int) ≤ (kd : Int)), decide_eq_true (by omega : (kd : Int) ≤ 7), Int.toNat_natCast, show fs.length = n from by omega]; rfl
  cases hma : Qu.mF (Qu.hasC kd) (Qu.maxK kd) (Qu.numF kd) col k n with
  | false =>
   go_upto_region 2 with fail
   refine wp_region_lit ?_
   refine zr (.bool true) V2 rfl ?_
   simp only [Act.put, zA]
   refine zr (.bool false) V2 rfl ?_
   simp only [Act.put, zA]
   refine zr (.bool false) V2 rfl ?_
   simp only [Act.put, zA]
   refine zr (.agg #[.string (sB (Qu.kwN kd)), .bool (Qu.hasC kd), .int .i64 (Qu.maxK kd : Int), .int .i64 (Qu.numF kd : Int)]) V2 (xo_loadW b3 _ Fv43_3.out Tryd.underlying77 rfl (by kernel_rfl) rfl rfl) ?_
   simp only [Act.put, zA]
   refine zr (.agg #[.int .i64 (kd : Int), .int .i64 col, .int .i64 k, .slice A n c]) V2 (xo_loadW w.heap.size _ (heap_keep Fv0_1.out B1.out) Tryd.underlying24 rfl (by kernel_rfl) rfl rfl) ?_
   simp only [Act.put, zA]
   refine wpList_call (by kernel_rfl) 42 Tryd.func42 (by kernel_rfl) (by kernel_rfl) _ _ #[.agg #[.string (sB (Qu.kwN kd)), .bool (Qu.hasC kd), .int .i64 (Qu.maxK kd : Int), .int .i64 (Qu.numF kd : Int)], .agg #[.int .i64 (kd : Int), .int .i64 col, .int .i64 k, .slice A n c]] rfl (by kernel_rfl) ?_
   refine (matches_as (Qu.kwN kd) (Qu.hasC kd) (Qu.maxK kd) (Qu.numF kd) (kd : Int) col k A n c false hma V2).mono ?_
   rintro e V3 ⟨rfl, hb⟩
   have B2 := zh hb
   clear hb 
   refine ⟨_, rfl, ?_⟩
   simp only [Act.put, zA]
   refine zr (.bool true) V3 rfl ?_
   simp only [Act.put, zA]
   refine zr (.bool true) V3 rfl ?_
   simp only [Act.put, zA]
   refine wpList_nil ?_
   go_upto_region 3 with fail
   refine wp_region_lit ?_
   refine zr (.bool false) V3 rfl ?_
   simp only [Act.put, zA]
   refine wpList_nil ?_
   obtain rfl : b = false := by rw [← hbq]; rw [hmeq, hma]; rfl
   have C0_2 := zb B0 B1
   have C0_3 := zb C0_2 B2
   have hbf := C0_3.out
   go_wp2_with fail
   go_ret
   exact ⟨rfl, hbf⟩
  | true =>
   go_upto_region 2 with fail
   refine wp_region_lit ?_
   refine zr (.bool true) V2 rfl ?_
   simp only [Act.put, zA]
   refine zr (.bool false) V2 rfl ?_
   simp only [Act.put, zA]
   refine zr (.bool false) V2 rfl ?_
   simp only [Act.put, zA]
   refine zr (.agg #[.string (sB (Qu.kwN kd)), .bool (Qu.hasC kd), .int .i64 (Qu.maxK kd : Int), .int .i64 (Qu.numF kd : Int)]) V2 (xo_loadW b3 _ Fv43_3.out Tryd.underlying77 rfl (by kernel_rfl) rfl rfl) ?_
   simp only [Act.put, zA]
   refine zr (.agg #[.int .i64 (kd : Int), .int .i64 col, .int .i64 k, .slice A n c]) V2 (xo_loadW w.heap.size _ (heap_keep Fv0_1.out B1.out) Tryd.underlying24 rfl (by kernel_rfl) rfl rfl) ?_
   simp only [Act.put, zA]
   refine wpList_call (by kernel_rfl) 42 Tryd.func42 (by kernel_rfl) (by kernel_rfl) _ _ #[.agg #[.string (sB (Qu.kwN kd)), .bool (Qu.hasC kd), .int .i64 (Qu.maxK kd : Int), .int .i64 (Qu.numF kd : Int)], .agg #[.int .i64 (kd : Int), .int .i64 col, .int .i64 k, .slice A n c]] rfl (by kernel_rfl) ?_
   refine (matches_as (Qu.kwN kd) (Qu.hasC kd) (Qu.maxK kd) (Qu.numF kd) (kd : Int) col k A n c true hma V2).mono ?_
   rintro e V3 ⟨rfl, hb⟩
   have B2 := zh hb
   clear hb 
   refine ⟨_, rfl, ?_⟩
   simp only [Act.put, zA]
   refine zr (.bool false) V3 rfl ?_
   simp only [Act.put, zA]
   refine zr (.bool false) V3 rfl ?_
   simp only [Act.put, zA]
   refine wpList_nil ?_
   go_upto_region 4 with fail
   refine wp_region_lit ?_
   refine zr (.pointer (some ⟨w.heap.size, 3, none⟩)) V3 (xo_fld0 3 w.heap.size 3 (by kernel_rfl) rfl rfl) ?_
   simp only [Act.put, zA]
   have C1_3 := zb B1 B2
   refine zr (.slice A n c) V3 (xo_load1 ⟨w.heap.size, 3, none⟩ _ (cells_at (heap_keep Fv0_1.out C1_3.out) 3 rfl) Tryd.underlying22 rfl rfl rfl) ?_
   simp only [Act.put, zA]
   refine zr (.int .i64 (n : Int)) V3 (xo_len A n c Tryd.underlying22 rfl rfl) ?_
   simp only [Act.put, zA]
   refine zr (.int .i64 0) V3 rfl ?_
   simp only [Act.put, zA]
   refine wpList_nil ?_
   have O45 := (heap_keep Fv0_1.out C1_3.out)
   have C0_2 := zb B0 B1
   have C0_3 := zb C0_2 B2
   have O46 := C0_3.out
   go_wp2_with fail
   go_loopw [25] (fun p wr => ∃ i : Nat, i ≤ n ∧ p = .int .i64 i ∧ (fs.take i).all Qu.vL = true ∧ wr.heap[w.heap.size]? = some (.cells #[.int .i64 (kd : Int), .int .i64 col, .int .i64 k, .slice A n c] 24 (0, 0)) ∧ Below w.heap.size w wr) (fun p _ => n - (intOf p).toNat)
   case atStart => exact ⟨0, Nat.zero_le _, rfl, (by simp), O45, O46⟩
   case round =>
    clear O45 O46
    obtain ⟨wo, rfl⟩ : ∃ wo : World, wo = wr := ⟨_, rfl⟩
    obtain ⟨i, hi, rfl, hHALL, hr0, hb0⟩ := hrel
    have hbr := hb0
    clear B0
    have B0 := zh hbr
    clear hbr
    clear Fv0_1
    have Fv0_1 : Hid (wo.heap[w.heap.size]? = some (.cells #[.int .i64 (kd : Int), .int .i64 col, .int .i64 k, .slice A n c] 24 (0, 0))) := zh (hr0)
    have HALL := zh hHALL
    clear hb0 hr0 hHALL
    by_cases hlt2 : i < n
    ·have hci48 : ((i : Int) < (n : Int)) := by omega
     obtain ⟨h, hh⟩ : ∃ h, hs[i]? = some h := ⟨_, List.getElem?_eq_getElem (by omega)⟩
     obtain ⟨xs, hxs⟩ : ∃ x, fs[i]? = some x := ⟨_, List.getElem?_eq_getElem (by omega)⟩
     have HH := zh hh
     have HX := zh hxs
     clear hh hxs
     go_upto_region 5 with fail
     refine wp_region_lit ?_
     refine zr (.bool true) wo (xo_lssT .i64 (i : Int) (n : Int) (by omega) rfl rfl rfl) ?_
     simp only [Act.put, zA]
     refine wpList_nil ?_
     go_upto_region 6 with fail
     refine wp_region_lit ?_
     refine zr (.pointer (some (gad A (i * 1)))) wo (xg_idx .i64 (HFR.out.keep B0.out).sg HH.out Tryd.underlying22 (by kernel_rfl) rfl rfl rfl) ?_
     simp only [Act.put, zA]
     refine zr (.slice h.A h.n h.c) wo (xg_load1 (E := hdC) (i := i) (j := 0) (HFR.out.keep B0.out).sg HH.out rfl rfl Tryd.underlying44 rfl rfl rfl) ?_
     simp only [Act.put, zA]
     refine zr (.slice h.A h.n h.c) wo rfl ?_
     simp only [Act.put, zA]
     refine wpList_nil ?_
     cases hm : Qu.vL xs with
     | false =>
      go_upto_region 7 with fail
      refine wp_region_lit ?_
      refine zr (.slice h.A h.n h.c) wo rfl ?_
      simp only [Act.put, zA]
      refine wpList_call (by kernel_rfl) 43 Tryd.func43 (by kernel_rfl) (by kernel_rfl) _ _ #[.slice h.A h.n h.c] rfl (by kernel_rfl) ?_
      refine (validFilter_as h.A h.n h.c xs false hm wo (HG.out.keep B0.out) ((HFR.out.keep B0.out).row i h xs HH.out HX.out)).mono ?_
      rintro e V2 ⟨rfl, hb⟩
      have B1 := zh hb
      clear hb 
      refine ⟨_, rfl, ?_⟩
      simp only [Act.put, zA]
      refine zr (.bool true) V2 rfl ?_
      simp only [Act.put, zA]
      refine wpList_nil ?_
      go_upto_region 8 with fail
      refine wp_region_lit ?_
      refine zr (.bool false) V2 rfl ?_
      simp only [Act.put, zA]
      refine wpList_nil ?_
      obtain rfl : b = false := by rw [← hbq]; rw [hmeq, all_false HX.out hm, Bool.and_false]
      have C0_2 := zb B0 B1
      have hbf := C0_2.out
      go_wp2_with fail
      go_ret
      exact ⟨rfl, hbf⟩
     | true =>
      go_upto_region 7 with fail
      refine wp_region_lit ?_
      refine zr (.slice h.A h.n h.c) wo rfl ?_
      simp only [Act.put, zA]
      refine wpList_call (by kernel_rfl) 43 Tryd.func43 (by kernel_rfl) (by kernel_rfl) _ _ #[.slice h.A h.n h.c] rfl (by kernel_rfl) ?_
      refine (validFilter_as h.A h.n h.c xs true hm wo (HG.out.keep B0.out) ((HFR.out.keep B0.out).row i h xs HH.out HX.out)).mono ?_
      rintro e V2 ⟨rfl, hb⟩
      have B1 := zh hb
      clear hb 
      refine ⟨_, rfl, ?_⟩
      simp only [Act.put, zA]
      refine zr (.bool false) V2 rfl ?_
      simp only [Act.put, zA]
      refine wpList_nil ?_
      go_upto_region 9 with fail
      refine wp_region_lit ?_
      refine zr (.int .i64 ((i + 1 : Nat) : Int)) V2 (xo_addI (i : Int) 1 ((i + 1 : Nat) : Int) (by omega) (by omega) (by omega) rfl rfl rfl) ?_
      simp only [Act.put, zA]
      refine zr (.int .i64 ((i + 1 : Nat) : Int)) V2 rfl ?_
      simp only [Act.put, zA]
      refine wpList_nil ?_
      have hal := all_take HX.out HALL.out hm
      have hq49 := (heap_keep Fv0_1.out B1.out)
      have C0_2 := zb B0 B1
      have hq50 := C0_2.out
      go_wp2_with fail
      go_roundw
      case rel => exact ⟨i + 1, by omega, by go_num, hal, hq49, hq50⟩
      case measure => simp [intOf]; omega
    ·have hci48 : ¬ ((i : Int) < (n : Int)) := by omega
     go_upto_region 5 with fail
     refine wp_region_lit ?_
     refine zr (.bool false) wo (xo_lssF .i64 (i : Int) (n : Int) (by omega) rfl rfl rfl) ?_
     simp only [Act.put, zA]
     refine wpList_nil ?_
     go_upto_region 10 with fail
     refine wp_region_lit ?_
     refine zr (.bool true) wo rfl ?_
     simp only [Act.put, zA]
     refine wpList_nil ?_
     have hal : fs.all Qu.vL = true := by rw [← List.take_length (l := fs), show fs.length = i from by omega]; exact HALL.out
     obtain rfl : b = true := by rw [← hbq]; rw [hmeq, hma, hal]; rfl
     have hbf := B0.out
     go_wp2_with fail
     go_ret
     exact ⟨rfl, hbf⟩
 ·refine wp_cutP (α := Nat × Nat) (fun ⟨fb, b3⟩ => [(8, .map (some fb)), (9, .pointer (some ⟨w.heap.size, 0, none⟩)), (10, .int .i64 kind), (11, .tuple #[.agg #[.string ByteArray.empty, .bool false, .int .i64 0, .int .i64 0], .bool false]), (7, .tuple #[.agg #[.string ByteArray.empty, .bool false, .int .i64 0, .int .i64 0], .bool false]), (12, .agg #[.string ByteArray.empty, .bool false, .int .i64 0, .int .i64 0]), (13, .bool false), (3, .pointer (some ⟨b3, 0, none⟩)), (4, .bool false)]) (fun ⟨_, b3⟩ W => Below V1.heap.size V1 W ∧ V1.heap.size ≤ b3 ∧ W.heap[b3]? = some (.cells #[.string ByteArray.empty, .bool false, .int .i64 0, .int .i64 0] 77 (0, 0))) ?_ ?_
  ·have T4 := zh Fv0_1.out
   have T4l : Hid (w.heap.size < V1.heap.size) := zh (xp_lt T4.out)
   try simp only [List.append_eq, List.cons_append, List.nil_append]
   refine wp_ordT (fun W => Below V1.heap.size V1 W) (.q 1 (.q 2 (.fork 0 (.fork 3 (.q 4 (.q 5 (.q 6 (.one 7 (.one 8 (.q 9 .nil)))))) 7 (.one 3 (.q 4 (.q 5 (.q 6 (.one 8 (.q 9 .nil))))))) 7 (.one 0 (.one 3 (.q 4 (.q 5 (.q 6 (.one 8 (.q 9 .nil)))))))))) (by kernel_rfl) (by kernel_rfl) (fun _ _ dt _ _ h => by first | exact h.elim | (cases dt <;> exact h)) (by kernel_rfl) (by kernel_rfl) (Below.refl _ _).drew ?_
   have hb : Below V1.heap.size V1 V1.drew := (Below.refl _ _).drew
   generalize V1.drew = V1 at hb ⊢
   have B0 := zh hb
   clear hb
   refine wpOT_q (.pointer (some ⟨w.heap.size, 0, none⟩)) rfl (by kernel_rfl) (fun v hW => (xo_fld0 0 w.heap.size 0 (by kernel_rfl) rfl rfl)) ?_
   simp only [ptr, Act.put, zA]
   refine wpOT_q (.int .i64 kind) rfl (by kernel_rfl) (fun v hW => (xo_load1 ⟨w.heap.size, 0, none⟩ _ (cells_at (heap_keep T4.out hW) 0 rfl) Tryd.underlying3 rfl rfl rfl)) ?_
   simp only [ptr, Act.put, zA]
   refine wpOT_fork ?_ ?_
   ·refine wpOT_one rfl (by kernel_rfl) ?_
    refine hOp_call 41 Tryd.func41 (by kernel_rfl) (by kernel_rfl) _ _ #[] rfl (by kernel_rfl) ?_
    refine (forms_any V1).mono ?_
    rintro e V2 ⟨fb, rfl, hge, hfm, hb⟩
    have B1 := zh hb
    have HFm := zh hfm
    have HFg := zh hge
    clear hb hfm hge
    have C0_2 := zb B0 B1
    refine ⟨_, rfl, C0_2.out, ?_⟩
    simp only [ptr, Act.put, zA]
    refine wpOT_fork ?_ ?_
    ·refine wpOT_one rfl (by kernel_rfl) ?_
     refine hOp_val (.tuple #[.agg #[.string ByteArray.empty, .bool false, .int .i64 0, .int .i64 0], .bool false]) (xm_missOk fb [formE 1, formE 2, formE 3, formE 4, formE 5, formE 6, formE 7] 7 kind (.agg #[.string ByteArray.empty, .bool false, .int .i64 0, .int .i64 0]) HFm.out (by kernel_rfl) (forms_miss kind (by omega)) Tryd.underlying79 Tryd.underlying3 rfl rfl rfl) ⟨C0_2.out, ?_⟩
     simp only [ptr, Act.put, zA]
     refine wpOT_q (.tuple #[.agg #[.string ByteArray.empty, .bool false, .int .i64 0, .int .i64 0], .bool false]) rfl (by kernel_rfl) (fun v hW => rfl) ?_
     simp only [ptr, Act.put, zA]
     refine wpOT_q (.agg #[.string ByteArray.empty, .bool false, .int .i64 0, .int .i64 0]) rfl (by kernel_rfl) (fun v hW => rfl) ?_
     simp only [ptr, Act.put, zA]
     refine wpOT_q (.bool false) rfl (by kernel_rfl) (fun v hW => rfl) ?_
     simp only [ptr, Act.put, zA]
     refine wpOT_one rfl (by kernel_rfl) ?_
     refine hOp_new #[.string ByteArray.empty, .bool false, .int .i64 0, .int .i64 0] 77 (xo_alloc #[.string ByteArray.empty, .bool false, .int .i64 0, .int .i64 0] (by kernel_rfl) rfl) ?_
     intro b3 V3 hge h0 hb
     have N1_0 : Hid (w.heap.size ≠ b3) := zh (xp_lt0 (heap_keep T4.out C0_2.out) hge)
     have Ge2 : Hid (V2.heap.size ≤ b3) := zh hge
     have B2 := zh hb
     have Fv3_3 : Hid (V3.heap[b3]? = some (.cells #[.string ByteArray.empty, .bool false, .int .i64 0, .int .i64 0] 77 (0, 0))) := zh (h0)
     have Lt4 : Hid (b3 < V3.heap.size) := zh (xp_lt Fv3_3.out)
     clear hge h0 hb
     have C0_3 := zb C0_2 B2
     refine ⟨C0_3.out, ?_⟩
     try simp only [ptr, Act.put, zA]
     refine wpOT_one rfl (by kernel_rfl) ?_
     refine hOp_storeW b3 #[.string ByteArray.empty, .bool false, .int .i64 0, .int .i64 0] #[.string ByteArray.empty, .bool false, .int .i64 0, .int .i64 0] 77 Fv3_3.out (xo_storeW b3 #[.string ByteArray.empty, .bool false, .int .i64 0, .int .i64 0] #[.string ByteArray.empty, .bool false, .int .i64 0, .int .i64 0] Fv3_3.out (by kernel_rfl) rfl (by simp [Value.oneCell']) rfl rfl rfl) ?_
     intro X3_5 h1 hfar hbel hsz
     have hbr := hbel _ _ Ge2.out B2.out
     clear B2
     have B2 := zh hbr
     clear hbr
     clear Fv3_3
     have Fv3_3 : Hid (X3_5.heap[b3]? = some (.cells #[.string ByteArray.empty, .bool false, .int .i64 0, .int .i64 0] 77 (0, 0))) := zh (h1)
     have HszX3_5 := zh hsz
     clear h1 hfar hbel hsz
     simp only [ptr, Act.put, zA]
     have C0_3 := zb C0_2 B2
     refine ⟨C0_3.out, ?_⟩
     try simp only [ptr, Act.put, zA]
     refine wpOT_q (.bool false) rfl (by kernel_rfl) (fun v hW => rfl) ?_
     simp only [ptr, Act.put, zA]
     refine wpOT_nil ?_
     refine ⟨(fb, b3), ?_, C0_3.out, (Nat.le_trans C0_2.out.size Ge2.out), Fv3_3.out⟩
     simp only [putL, ptr, Act.put, zA] <;> rfl
    ·refine wpOT_one rfl (by kernel_rfl) ?_
     refine hOp_new #[.string ByteArray.empty, .bool false, .int .i64 0, .int .i64 0] 77 (xo_alloc #[.string ByteArray.empty, .bool false, .int .i64 0, .int .i64 0] (by kernel_rfl) rfl) ?_
     intro b3 V3 hge h0 hb
     have N1_0 : Hid (w.heap.size ≠ b3) := zh (xp_lt0 (heap_keep T4.out C0_2.out) hge)
     have Ge2 : Hid (V2.heap.size ≤ b3) := zh hge
     have B2 := zh hb
     have Fv3_3 : Hid (V3.heap[b3]? = some (.cells #[.string ByteArray.empty, .bool false, .int .i64 0, .int .i64 0] 77 (0, 0))) := zh (h0)
     have Lt4 : Hid (b3 < V3.heap.size) := zh (xp_lt Fv3_3.out)
     clear hge h0 hb
     have C0_3 := zb C0_2 B2
     refine ⟨C0_3.out, ?_⟩
     try simp only [ptr, Act.put, zA]
     refine wpOT_one rfl (by kernel_rfl) ?_
     refine hOp_val (.tuple #[.agg #[.string ByteArray.empty, .bool false, .int .i64 0, .int .i64 0], .bool false]) (xm_missOk fb [formE 1, formE 2, formE 3, formE 4, formE 5, formE 6, formE 7] 7 kind (.agg #[.string ByteArray.empty, .bool false, .int .i64 0, .int .i64 0]) (heap_keep HFm.out B2.out) (by kernel_rfl) (forms_miss kind (by omega)) Tryd.underlying79 Tryd.underlying3 rfl rfl rfl) ⟨C0_3.out, ?_⟩
     simp only [ptr, Act.put, zA]
     refine wpOT_q (.tuple #[.agg #[.string ByteArray.empty, .bool false, .int .i64 0, .int .i64 0], .bool false]) rfl (by kernel_rfl) (fun v hW => rfl) ?_
     simp only [ptr, Act.put, zA]
     refine wpOT_q (.agg #[.string ByteArray.empty, .bool false, .int .i64 0, .int .i64 0]) rfl (by kernel_rfl) (fun v hW => rfl) ?_
     simp only [ptr, Act.put, zA]
     refine wpOT_q (.bool false) rfl (by kernel_rfl) (fun v hW => rfl) ?_
     simp only [ptr, Act.put, zA]
     refine wpOT_one rfl (by kernel_rfl) ?_
     refine hOp_storeW b3 #[.string ByteArray.empty, .bool false, .int .i64 0, .int .i64 0] #[.string ByteArray.empty, .bool false, .int .i64 0, .int .i64 0] 77 Fv3_3.out (xo_storeW b3 #[.string ByteArray.empty, .bool false, .int .i64 0, .int .i64 0] #[.string ByteArray.empty, .bool false, .int .i64 0, .int .i64 0] Fv3_3.out (by kernel_rfl) rfl (by simp [Value.oneCell']) rfl rfl rfl) ?_
     intro X3_5 h1 hfar hbel hsz
     have hbr := hbel _ _ Ge2.out B2.out
     clear B2
     have B2 := zh hbr
     clear hbr
     clear Fv3_3
     have Fv3_3 : Hid (X3_5.heap[b3]? = some (.cells #[.string ByteArray.empty, .bool false, .int .i64 0, .int .i64 0] 77 (0, 0))) := zh (h1)
     have HszX3_5 := zh hsz
     clear h1 hfar hbel hsz
     simp only [ptr, Act.put, zA]
     have C0_3 := zb C0_2 B2
     refine ⟨C0_3.out, ?_⟩
     try simp only [ptr, Act.put, zA]
     refine wpOT_q (.bool false) rfl (by kernel_rfl) (fun v hW => rfl) ?_
     simp only [ptr, Act.put, zA]
     refine wpOT_nil ?_
     refine ⟨(fb, b3), ?_, C0_3.out, (Nat.le_trans C0_2.out.size Ge2.out), Fv3_3.out⟩
     simp only [putL, ptr, Act.put, zA] <;> rfl
   ·refine wpOT_one rfl (by kernel_rfl) ?_
    refine hOp_new #[.string ByteArray.empty, .bool false, .int .i64 0, .int .i64 0] 77 (xo_alloc #[.string ByteArray.empty, .bool false, .int .i64 0, .int .i64 0] (by kernel_rfl) rfl) ?_
    intro b3 V2 hge h0 hb
    have N1_0 : Hid (w.heap.size ≠ b3) := zh (xp_lt0 (heap_keep T4.out B0.out) hge)
    have Ge2 : Hid (V1.heap.size ≤ b3) := zh hge
    have B1 := zh hb
    have Fv3_3 : Hid (V2.heap[b3]? = some (.cells #[.string ByteArray.empty, .bool false, .int .i64 0, .int .i64 0] 77 (0, 0))) := zh (h0)
    have Lt4 : Hid (b3 < V2.heap.size) := zh (xp_lt Fv3_3.out)
    clear hge h0 hb
    have C0_2 := zb B0 B1
    refine ⟨C0_2.out, ?_⟩
    try simp only [ptr, Act.put, zA]
    refine wpOT_one rfl (by kernel_rfl) ?_
    refine hOp_call 41 Tryd.func41 (by kernel_rfl) (by kernel_rfl) _ _ #[] rfl (by kernel_rfl) ?_
    refine (forms_any V2).mono ?_
    rintro e V3 ⟨fb, rfl, hge, hfm, hb⟩
    have B2 := zh hb
    have HFm := zh hfm
    have HFg := zh hge
    clear hb hfm hge
    have C0_3 := zb C0_2 B2
    refine ⟨_, rfl, C0_3.out, ?_⟩
    simp only [ptr, Act.put, zA]
    refine wpOT_one rfl (by kernel_rfl) ?_
    refine hOp_val (.tuple #[.agg #[.string ByteArray.empty, .bool false, .int .i64 0, .int .i64 0], .bool false]) (xm_missOk fb [formE 1, formE 2, formE 3, formE 4, formE 5, formE 6, formE 7] 7 kind (.agg #[.string ByteArray.empty, .bool false, .int .i64 0, .int .i64 0]) HFm.out (by kernel_rfl) (forms_miss kind (by omega)) Tryd.underlying79 Tryd.underlying3 rfl rfl rfl) ⟨C0_3.out, ?_⟩
    simp only [ptr, Act.put, zA]
    refine wpOT_q (.tuple #[.agg #[.string ByteArray.empty, .bool false, .int .i64 0, .int .i64 0], .bool false]) rfl (by kernel_rfl) (fun v hW => rfl) ?_
    simp only [ptr, Act.put, zA]
    refine wpOT_q (.agg #[.string ByteArray.empty, .bool false, .int .i64 0, .int .i64 0]) rfl (by kernel_rfl) (fun v hW => rfl) ?_
    simp only [ptr, Act.put, zA]
    refine wpOT_q (.bool false) rfl (by kernel_rfl) (fun v hW => rfl) ?_
    simp only [ptr, Act.put, zA]
    refine wpOT_one rfl (by kernel_rfl) ?_
    refine hOp_storeW b3 #[.string ByteArray.empty, .bool false, .int .i64 0, .int .i64 0] #[.string ByteArray.empty, .bool false, .int .i64 0, .int .i64 0] 77 (heap_keep Fv3_3.out B2.out) (xo_storeW b3 #[.string ByteArray.empty, .bool false, .int .i64 0, .int .i64 0] #[.string ByteArray.empty, .bool false, .int .i64 0, .int .i64 0] (heap_keep Fv3_3.out B2.out) (by kernel_rfl) rfl (by simp [Value.oneCell']) rfl rfl rfl) ?_
    intro X3_5 h1 hfar hbel hsz
    -- drops HFm
    -- drops HFg
    have C1_3 := zb B1 B2
    have hbr := hbel _ _ Ge2.out C1_3.out
    clear B1
    have B1 := zh hbr
    clear hbr
    clear Fv3_3
    have Fv3_3 : Hid (X3_5.heap[b3]? = some (.cells #[.string ByteArray.empty, .bool false, .int .i64 0, .int .i64 0] 77 (0, 0))) := zh (h1)
    have HszX3_5 := zh hsz
    clear h1 hfar hbel hsz
    simp only [ptr, Act.put, zA]
    have C0_2 := zb B0 B1
    refine ⟨C0_2.out, ?_⟩
    try simp only [ptr, Act.put, zA]
    refine wpOT_q (.bool false) rfl (by kernel_rfl) (fun v hW => rfl) ?_
    simp only [ptr, Act.put, zA]
    refine wpOT_nil ?_
    refine ⟨(fb, b3), ?_, C0_2.out, (Nat.le_trans B0.out.size Ge2.out), Fv3_3.out⟩
    simp only [putL, ptr, Act.put, zA] <;> rfl
  rintro ⟨fb, b3⟩ V2 ⟨hb0, hge, h0⟩
  simp only [putL, ptr, Act.put, zA]
  have hb := hb0
  clear hb0
  have N41_0 : Hid (w.heap.size ≠ b3) := zh (xp_lt0 Fv0_1.out hge)
  have Ge42 : Hid (V1.heap.size ≤ b3) := zh hge
  have B1 := zh hb
  have Fv43_3 : Hid (V2.heap[b3]? = some (.cells #[.string ByteArray.empty, .bool false, .int .i64 0, .int .i64 0] 77 (0, 0))) := zh (h0)
  have Lt44 : Hid (b3 < V2.heap.size) := zh (xp_lt Fv43_3.out)
  clear hge h0 hb
  go_upto_region 2 with fail
  refine wp_region_lit ?_
  refine zr (.bool false) V2 rfl ?_
  simp only [Act.put, zA]
  refine zr (.bool true) V2 rfl ?_
  simp only [Act.put, zA]
  refine zr (.bool true) V2 rfl ?_
  simp only [Act.put, zA]
  refine zl ?_
  try simp only [Act.put, zA]
  refine zl ?_
  try simp only [Act.put, zA]
  refine zl ?_
  try simp only [Act.put, zA]
  refine zl ?_
  try simp only [Act.put, zA]
  refine zr (.bool true) V2 rfl ?_
  simp only [Act.put, zA]
  refine wpList_nil ?_
  go_upto_region 3 with fail
  refine wp_region_lit ?_
  refine zr (.bool false) V2 rfl ?_
  simp only [Act.put, zA]
  refine wpList_nil ?_
  obtain rfl : b = false := by rw [← hbq]; unfold Qu.vQ; simp <;> omega
  have C0_2 := zb B0 B1
  have hbf := C0_2.out
  go_wp2_with fail
  go_ret
  exact ⟨rfl, hbf⟩
end Go.Proofs.YtbecajihgbbgjaaDoor

