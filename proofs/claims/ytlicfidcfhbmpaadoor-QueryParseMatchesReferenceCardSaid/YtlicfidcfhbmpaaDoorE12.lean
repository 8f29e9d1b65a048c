/- Several texts in one: Yo. -/
import Derived.Test.YtlicfidcfhbmpaaDoorE11
set_option linter.unusedVariables false
set_option linter.unusedSimpArgs false
set_option linter.unusedSectionVars false
namespace Go.Proofs.YtlicfidcfhbmpaaDoor
set_option maxRecDepth 8000
open Go.RowKit Go.Proofs.YtlicfidcfhbmpaaDoor.K
attribute [local irreducible] wpList wpQuiet
/-- a condition as it comes in -/
structure _root_.Qu.Ci where
 col : Int
 lo : Int
 hi : Int
 deriving DecidableEq
def _root_.Qu.Cd.ci (c : Qu.Cd) : Qu.Ci := ⟨(c.col : Int), (c.lo : Int), (c.hi : Int)⟩
def _root_.Qu.isC (x : Int) : Bool := decide (0 ≤ x) && decide (x < 4)
def _root_.Qu.valR (r : Rd) : Nat → Int
 | 0 => r.who
 | 1 => r.when_
 | 2 => r.kind
 | _ => r.value
def _root_.Qu.mC (r : Rd) (e : Qu.Ci) : Bool := Qu.isC e.col && (decide (e.lo ≤ Qu.valR r e.col.toNat) && decide (Qu.valR r e.col.toNat ≤ e.hi))
def _root_.Qu.vC (e : Qu.Ci) : Bool := Qu.isC e.col && (decide (0 ≤ e.lo) && (decide (e.lo ≤ e.hi) && decide (e.hi ≤ (Qu.maxN e.col.toNat : Int))))
def _root_.Qu.vL (l : List Qu.Ci) : Bool := l.all Qu.vC && decide (l.length ≤ 3)
def ciC (c : Qu.Ci) : List Value := [.int .i64 c.col, .int .i64 c.lo, .int .i64 c.hi]
instance : Enc ciC 3 := ⟨fun _ => rfl, fun x u hu => by
 simp only [ciC, List.mem_cons, List.not_mem_nil, or_false] at hu
 rcases hu with rfl | rfl | rfl <;> rfl, by decide⟩
theorem all_false {α : Type} {f : α → Bool} {l : List α} {i : Nat} {x : α} (h : l[i]? = some x) (hf : f x = false) : l.all f = false := by
 rw [List.all_eq_false]
 exact ⟨x, List.mem_of_getElem? h, by rw [hf]; decide⟩
theorem all_take {α : Type} {f : α → Bool} {l : List α} {i : Nat} {x : α} (h : l[i]? = some x) (h0 : (l.take i).all f = true) (hf : f x = true) : (l.take (i + 1)).all f = true := by
 rw [List.take_add_one, h]
 simp [h0, hf]
theorem xi_addr {ev : Operand → Value} {o : Oper} {w : World} {x y : Operand} (b i : Nat) (hi : i < 4) (ho : o.op = .indexAddr 59 x y) (hx : ev x = .pointer (some ⟨b, 0, none⟩)) (hy : ev y = .int .i64 (i : Int)) :
  (execOp ev o).run Tryd.prog w = .ok (.value (.pointer (some ⟨b, i, none⟩))) w := by
 unfold execOp
 simp only [ho, hx, hy]
 rcases i with _ | _ | _ | _ | i
 ·rfl
 ·rfl
 ·rfl
 ·rfl
 ·omega
theorem val_at {W : World} {b : Nat} {t : TypeId} {r : Rd} {i : Nat} {v : Int} (hi : i < 4) (hv : Qu.valR r i = v) (h : W.heap[b]? = some (.cells #[.int .i64 r.who, .int .i64 r.when_, .int .i64 r.kind, .int .i64 r.value] t (0, 0))) : W.cell? ⟨b, i, none⟩ = some (.int .i64 v) := by
 subst hv
 refine cells_at h i ?_
 rcases i with _ | _ | _ | _ | i
 ·rfl
 ·rfl
 ·rfl
 ·rfl
 ·omega
set_option maxRecDepth 100000 in
set_option maxHeartbeats 8000000 in
theorem isColumn_as (x : Int) (b : Bool) (hb : Qu.isC x = b) (w : World) : Calls Tryd.prog 35 #[.int .i64 x] w fun e w' => e = .returned (.bool b) ∧ w' = w := by
 go_enter Tryd.func35, Tryd.ntmps35
 go_upto_region 1 with fail
 by_cases h0 : x ≥ 0
 ·by_cases h1 : x < 4
  ·refine wp_region_lit ?_
   refine zr (.int .i64 x) w rfl ?_
   simp only [Act.put, zA]
   refine zr (.bool true) w (xo_geqT .i64 x 0 (by omega) rfl rfl rfl) ?_
   simp only [Act.put, zA]
   refine zr (.bool true) w rfl ?_
   simp only [Act.put, zA]
   refine zr (.int .i64 x) w rfl ?_
   simp only [Act.put, zA]
   refine zr (.bool true) w (xo_lssT .i64 x 4 (by omega) rfl rfl rfl) ?_
   simp only [Act.put, zA]
   refine zr (.bool true) w rfl ?_
   simp only [Act.put, zA]
   refine zr (.bool true) w rfl ?_
   simp only [Act.put, zA]
   refine wpList_nil ?_
   go_wp2_with fail
   go_ret
   exact ⟨by rw [← hb]; unfold Qu.isC; simp <;> omega, rfl⟩
  ·refine wp_region_lit ?_
   refine zr (.int .i64 x) w rfl ?_
   simp only [Act.put, zA]
   refine zr (.bool true) w (xo_geqT .i64 x 0 (by omega) rfl rfl rfl) ?_
   simp only [Act.put, zA]
   refine zr (.bool true) w rfl ?_
   simp only [Act.put, zA]
   refine zr (.int .i64 x) w rfl ?_
   simp only [Act.put, zA]
   refine zr (.bool false) w (xo_lssF .i64 x 4 (by omega) rfl rfl rfl) ?_
   simp only [Act.put, zA]
   refine zr (.bool false) w rfl ?_
   simp only [Act.put, zA]
   refine zr (.bool false) w rfl ?_
   simp only [Act.put, zA]
   refine wpList_nil ?_
   go_wp2_with fail
   go_ret
   exact ⟨by rw [← hb]; unfold Qu.isC; simp <;> omega, rfl⟩
 ·refine wp_region_lit ?_
  refine zr (.int .i64 x) w rfl ?_
  simp only [Act.put, zA]
  refine zr (.bool false) w (xo_geqF .i64 x 0 (by omega) rfl rfl rfl) ?_
  simp only [Act.put, zA]
  refine zr (.bool false) w rfl ?_
  simp only [Act.put, zA]
  refine zl ?_
  try simp only [Act.put, zA]
  refine zl ?_
  try simp only [Act.put, zA]
  refine zr (.bool false) w rfl ?_
  simp only [Act.put, zA]
  refine zr (.bool false) w rfl ?_
  simp only [Act.put, zA]
  refine wpList_nil ?_
  go_wp2_with fail
  go_ret
  exact ⟨by rw [← hb]; unfold Qu.isC; simp <;> omega, rfl⟩
set_option maxRecDepth 100000 in
set_option maxHeartbeats 32000000 in
theorem match_as (A : Option Addr) (n c : Nat) (cs : List Qu.Ci) (r : Rd) (b : Bool) (hb : cs.all (Qu.mC r) = b) (w : World) (hL : Sg ciC 3 w A n c cs) :
  Calls Tryd.prog 16 #[.slice A n c, .agg #[.int .i64 r.who, .int .i64 r.when_, .int .i64 r.kind, .int .i64 r.value]] w fun e w' => e = .returned (.bool b) ∧ Below w.heap.size w w' := by
 have HL := zh hL
 have hln := hL.len
 have hlc := hL.cap
 have hlt := hL.top
 clear hL
 go_enter Tryd.func16, Tryd.ntmps16
 go_upto_region 1 with fail
 refine wp_named1 (fun V1 hb g0 hlt => ?_)
 have B0 := zh hb
 have Fv0_3 : Hid (V1.heap[w.heap.size]? = some (.cells #[.int .i64 r.who, .int .i64 r.when_, .int .i64 r.kind, .int .i64 r.value] 26 (0, 0))) := zh (g0)
 have Gb0 : Hid (w.heap.size ≤ w.heap.size) := zh (by omega)
 clear hb g0 hlt
 have Lt0 : Hid (w.heap.size < V1.heap.size) := zh (xp_lt Fv0_3.out)
 refine wp_region_lit ?_
 refine zr (.pointer (some ⟨w.heap.size, 0, none⟩)) V1 (xo_fld0 0 w.heap.size 0 (by kernel_rfl) rfl rfl) ?_
 simp only [Act.put, zA]
 refine zr (.int .i64 r.who) V1 (xo_load1 ⟨w.heap.size, 0, none⟩ _ (cells_at Fv0_3.out 0 rfl) Tryd.underlying3 rfl rfl rfl) ?_
 simp only [Act.put, zA]
 refine zr (.pointer (some ⟨w.heap.size, 1, none⟩)) V1 (xo_fld0 1 w.heap.size 1 (by kernel_rfl) rfl rfl) ?_
 simp only [Act.put, zA]
 refine zr (.int .i64 r.when_) V1 (xo_load1 ⟨w.heap.size, 1, none⟩ _ (cells_at Fv0_3.out 1 rfl) Tryd.underlying3 rfl rfl rfl) ?_
 simp only [Act.put, zA]
 refine zr (.pointer (some ⟨w.heap.size, 2, none⟩)) V1 (xo_fld0 2 w.heap.size 2 (by kernel_rfl) rfl rfl) ?_
 simp only [Act.put, zA]
 refine zr (.int .i64 r.kind) V1 (xo_load1 ⟨w.heap.size, 2, none⟩ _ (cells_at Fv0_3.out 2 rfl) Tryd.underlying3 rfl rfl rfl) ?_
 simp only [Act.put, zA]
 refine zr (.pointer (some ⟨w.heap.size, 3, none⟩)) V1 (xo_fld0 3 w.heap.size 3 (by kernel_rfl) rfl rfl) ?_
 simp only [Act.put, zA]
 refine zr (.int .i64 r.value) V1 (xo_load1 ⟨w.heap.size, 3, none⟩ _ (cells_at Fv0_3.out 3 rfl) Tryd.underlying3 rfl rfl rfl) ?_
 simp only [Act.put, zA]
 refine zr (.agg #[.int .i64 r.who, .int .i64 r.when_, .int .i64 r.kind, .int .i64 r.value]) V1 (by unfold execOp; go_simp <;> rfl) ?_
 simp only [Act.put, zA]
 refine wpList_new #[.int .i64 0, .int .i64 0, .int .i64 0, .int .i64 0] 59 (by kernel_rfl) (xo_alloc #[.int .i64 0, .int .i64 0, .int .i64 0, .int .i64 0] (by kernel_rfl) rfl) ?_
 intro b5 V2 hge h0 hb
 have N1_0 : Hid (w.heap.size ≠ b5) := zh (xp_lt0 Fv0_3.out hge)
 have Ge2 : Hid (V1.heap.size ≤ b5) := zh hge
 have B1 := zh hb
 have Fv3_5 : Hid (V2.heap[b5]? = some (.cells #[.int .i64 0, .int .i64 0, .int .i64 0, .int .i64 0] 59 (0, 0))) := zh (h0)
 have Lt4 : Hid (b5 < V2.heap.size) := zh (xp_lt Fv3_5.out)
 clear hge h0 hb
 simp only [ptr, Act.put, zA]
 refine wpList_storeW b5 #[.int .i64 0, .int .i64 0, .int .i64 0, .int .i64 0] #[.int .i64 r.who, .int .i64 r.when_, .int .i64 r.kind, .int .i64 r.value] 59 (by kernel_rfl) Fv3_5.out (xo_storeW b5 #[.int .i64 0, .int .i64 0, .int .i64 0, .int .i64 0] #[.int .i64 r.who, .int .i64 r.when_, .int .i64 r.kind, .int .i64 r.value] Fv3_5.out (by kernel_rfl) rfl (by simp [Value.oneCell']) rfl rfl rfl) ?_
 intro X2_5 h1 hfar hbel hsz
 have hbr := hbel _ _ Ge2.out B1.out
 clear B1
 have B1 := zh hbr
 clear hbr
 clear Fv3_5
 have Fv3_5 : Hid (X2_5.heap[b5]? = some (.cells #[.int .i64 r.who, .int .i64 r.when_, .int .i64 r.kind, .int .i64 r.value] 59 (0, 0))) := zh (h1)
 have HszX2_5 := zh hsz
 clear h1 hfar hbel hsz
 simp only [ptr, Act.put, zA]
 refine wpList_nil ?_
 go_upto_region 2 with fail
 refine wp_region_lit ?_
 refine zr (.slice A n c) X2_5 rfl ?_
 simp only [Act.put, zA]
 refine zr (.int .i64 (n : Int)) X2_5 (xo_len A n c Tryd.underlying28 rfl rfl) ?_
 simp only [Act.put, zA]
 refine zr (.int .i64 0) X2_5 rfl ?_
 simp only [Act.put, zA]
 refine wpList_nil ?_
 have O6 := (heap_keep Fv0_3.out B1.out)
 have O7 := Fv3_5.out
 have C0_2 := zb B0 B1
 have O8 := C0_2.out
 have Gr9 : Hid (w.heap.size ≤ b5) := zh (Nat.le_trans B0.out.size Ge2.out)
 go_wp2_with fail
 go_loopw [19] (fun p wr => ∃ i : Nat, i ≤ n ∧ p = .int .i64 i ∧ (cs.take i).all (Qu.mC r) = true ∧ wr.heap[w.heap.size]? = some (.cells #[.int .i64 r.who, .int .i64 r.when_, .int .i64 r.kind, .int .i64 r.value] 26 (0, 0)) ∧ wr.heap[b5]? = some (.cells #[.int .i64 r.who, .int .i64 r.when_, .int .i64 r.kind, .int .i64 r.value] 59 (0, 0)) ∧ Below w.heap.size w wr) (fun p _ => n - (intOf p).toNat)
 case atStart => exact ⟨0, Nat.zero_le _, rfl, (by simp), O6, O7, O8⟩
 case round =>
  clear O6 O7 O8
  obtain ⟨wo, rfl⟩ : ∃ wo : World, wo = wr := ⟨_, rfl⟩
  obtain ⟨i, hi, rfl, hHALL, hr0, hr1, hb0⟩ := hrel
  have hbr := hb0
  clear B0
  have B0 := zh hbr
  clear hbr
  clear Fv0_3
  have Fv0_3 : Hid (wo.heap[w.heap.size]? = some (.cells #[.int .i64 r.who, .int .i64 r.when_, .int .i64 r.kind, .int .i64 r.value] 26 (0, 0))) := zh (hr0)
  clear Fv3_5
  have Fv3_5 : Hid (wo.heap[b5]? = some (.cells #[.int .i64 r.who, .int .i64 r.when_, .int .i64 r.kind, .int .i64 r.value] 59 (0, 0))) := zh (hr1)
  have HALL := zh hHALL
  clear hb0 hr0 hr1 hHALL
  by_cases hlt2 : i < n
  ·have hci11 : ((i : Int) < (n : Int)) := by omega
   obtain ⟨e0, hx⟩ : ∃ e, cs[i]? = some e := ⟨_, List.getElem?_eq_getElem (by omega)⟩
   obtain ⟨col, lo, hi2⟩ := e0
   have HE := zh hx
   clear hx
   cases his : Qu.isC col with
   | false =>
    go_upto_region 3 with fail
    refine wp_region_lit ?_
    refine zr (.bool true) wo (xo_lssT .i64 (i : Int) (n : Int) (by omega) rfl rfl rfl) ?_
    simp only [Act.put, zA]
    refine wpList_nil ?_
    go_upto_region 4 with fail
    refine wp_region_lit ?_
    refine zr (.pointer (some (gad A (i * 3)))) wo (xg_idx .i64 (HL.out.keep B0.out) HE.out Tryd.underlying28 (by kernel_rfl) rfl rfl rfl) ?_
    simp only [Act.put, zA]
    refine zr (.agg #[.int .i64 col, .int .i64 lo, .int .i64 hi2]) wo (xg_loadE (E := ciC) (HL.out.keep B0.out) HE.out Tryd.underlying46 rfl (by kernel_rfl) rfl rfl) ?_
    simp only [Act.put, zA]
    refine wpList_new #[.int .i64 0, .int .i64 0, .int .i64 0] 46 (by kernel_rfl) (xo_alloc #[.int .i64 0, .int .i64 0, .int .i64 0] (by kernel_rfl) rfl) ?_
    intro b7 V2 hge h0 hb
    have N12_0 : Hid (w.heap.size ≠ b7) := zh (xp_lt0 Fv0_3.out hge)
    have N13_1 : Hid (b5 ≠ b7) := zh (xp_lt0 Fv3_5.out hge)
    have Ge14 : Hid (wo.heap.size ≤ b7) := zh hge
    have B1 := zh hb
    have Fv15_7 : Hid (V2.heap[b7]? = some (.cells #[.int .i64 0, .int .i64 0, .int .i64 0] 46 (0, 0))) := zh (h0)
    have Lt16 : Hid (b7 < V2.heap.size) := zh (xp_lt Fv15_7.out)
    clear hge h0 hb
    simp only [ptr, Act.put, zA]
    refine wpList_storeW b7 #[.int .i64 0, .int .i64 0, .int .i64 0] #[.int .i64 col, .int .i64 lo, .int .i64 hi2] 46 (by kernel_rfl) Fv15_7.out (xo_storeW b7 #[.int .i64 0, .int .i64 0, .int .i64 0] #[.int .i64 col, .int .i64 lo, .int .i64 hi2] Fv15_7.out (by kernel_rfl) rfl (by simp [Value.oneCell']) rfl rfl rfl) ?_
    intro X2_17 h1 hfar hbel hsz
    have hbr := hbel _ _ Ge14.out B1.out
    clear B1
    have B1 := zh hbr
    clear hbr
    clear Fv15_7
    have Fv15_7 : Hid (X2_17.heap[b7]? = some (.cells #[.int .i64 col, .int .i64 lo, .int .i64 hi2] 46 (0, 0))) := zh (h1)
    have HszX2_17 := zh hsz
    clear h1 hfar hbel hsz
    simp only [ptr, Act.put, zA]
    refine wpList_nil ?_
    have hm : Qu.mC r ⟨col, lo, hi2⟩ = false := by unfold Qu.mC; rw [show (Qu.Ci.mk col lo hi2).col = col from rfl, his]; rfl
    go_upto_region 5 with fail
    try simp only [List.append_eq, List.cons_append, List.nil_append]
    refine wp_ordX (.q 0 (.q 1 (.one 2 (.q 3 (.q 4 (.q 5 (.q 6 (.q 7 (.q 8 (.q 9 (.q 10 (.q 11 (.q 12 (.q 13 (.q 14 (.q 15 (.q 16 (.q 17 (.q 18 (.q 19 (.q 20 (.q 21 .nil)))))))))))))))))))))) (by kernel_rfl) (by kernel_rfl) (fun _ _ dt _ _ h => by first | exact h.elim | (cases dt <;> exact h)) (by kernel_rfl) (by kernel_rfl) (fun V3 hb => ?_)
    have B2 := zh hb
    clear hb
    refine wpX_q (.pointer (some ⟨b7, 0, none⟩)) rfl (by kernel_rfl) (fun v hW => (xo_fld0 0 b7 0 (by kernel_rfl) rfl rfl)) ?_
    simp only [ptr, Act.put, zA]
    refine wpX_q (.int .i64 col) rfl (by kernel_rfl) (fun v hW => (xo_load1 ⟨b7, 0, none⟩ _ (cells_at (heap_keep (heap_keep Fv15_7.out B2.out) hW) 0 rfl) Tryd.underlying3 rfl rfl rfl)) ?_
    simp only [ptr, Act.put, zA]
    refine wpX_one rfl (by kernel_rfl) ?_
    refine hOp_call 35 Tryd.func35 (by kernel_rfl) (by kernel_rfl) _ _ #[.int .i64 col] rfl (by kernel_rfl) ?_
    refine (isColumn_as col false his V3).mono ?_
    rintro e W1 ⟨rfl, hw1⟩
    rw [hw1]
    clear hw1 W1
    refine ⟨_, rfl, (Below.refl V3.heap.size V3), ?_⟩
    simp only [ptr, Act.put, zA]
    refine wpX_q (.bool true) rfl (by kernel_rfl) (fun v hW => rfl) ?_
    simp only [ptr, Act.put, zA]
    refine wpX_q (.bool true) rfl (by kernel_rfl) (fun v hW => rfl) ?_
    simp only [ptr, Act.put, zA]
    refine wpX_skip rfl (by kernel_rfl) ?_
    try simp only [ptr, Act.put, zA]
    refine wpX_skip rfl (by kernel_rfl) ?_
    try simp only [ptr, Act.put, zA]
    refine wpX_skip rfl (by kernel_rfl) ?_
    try simp only [ptr, Act.put, zA]
    refine wpX_skip rfl (by kernel_rfl) ?_
    try simp only [ptr, Act.put, zA]
    refine wpX_skip rfl (by kernel_rfl) ?_
    try simp only [ptr, Act.put, zA]
    refine wpX_skip rfl (by kernel_rfl) ?_
    try simp only [ptr, Act.put, zA]
    refine wpX_skip rfl (by kernel_rfl) ?_
    try simp only [ptr, Act.put, zA]
    refine wpX_q (.bool true) rfl (by kernel_rfl) (fun v hW => rfl) ?_
    simp only [ptr, Act.put, zA]
    refine wpX_q (.bool true) rfl (by kernel_rfl) (fun v hW => rfl) ?_
    simp only [ptr, Act.put, zA]
    refine wpX_skip rfl (by kernel_rfl) ?_
    try simp only [ptr, Act.put, zA]
    refine wpX_skip rfl (by kernel_rfl) ?_
    try simp only [ptr, Act.put, zA]
    refine wpX_skip rfl (by kernel_rfl) ?_
    try simp only [ptr, Act.put, zA]
    refine wpX_skip rfl (by kernel_rfl) ?_
    try simp only [ptr, Act.put, zA]
    refine wpX_skip rfl (by kernel_rfl) ?_
    try simp only [ptr, Act.put, zA]
    refine wpX_skip rfl (by kernel_rfl) ?_
    try simp only [ptr, Act.put, zA]
    refine wpX_skip rfl (by kernel_rfl) ?_
    try simp only [ptr, Act.put, zA]
    refine wpX_q (.bool true) rfl (by kernel_rfl) (fun v hW => rfl) ?_
    simp only [ptr, Act.put, zA]
    refine wpX_nil ?_
    go_upto_region 6 with fail
    refine wp_region_lit ?_
    refine zr (.bool false) V3 rfl ?_
    simp only [Act.put, zA]
    refine wpList_nil ?_
    obtain rfl : b = false := by rw [← hb]; exact all_false HE.out hm
    have C0_2 := zb B0 B1
    have C0_3 := zb C0_2 B2
    have hbf := C0_3.out
    go_wp2_with fail
    go_ret
    exact ⟨rfl, hbf⟩
   | true =>
    have hcol : 0 ≤ col ∧ col < 4 := by unfold Qu.isC at his; simpa using his
    obtain ⟨k, rfl⟩ : ∃ k : Nat, col = (k : Int) := ⟨col.toNat, by omega⟩
    have hk4 : k < 4 := by omega
    obtain ⟨vv, hv⟩ : ∃ vv, Qu.valR r k = vv := ⟨_, rfl⟩
    have HV := zh hv
    clear hv
    have hme : Qu.mC r ⟨(k : Int), lo, hi2⟩ = (decide (lo ≤ vv) && decide (vv ≤ hi2)) := by unfold Qu.mC; rw [show (Qu.Ci.mk (k : Int) lo hi2).col = (k : Int) from rfl, his, Int.toNat_natCast, HV.out]; rfl
    go_upto_region 3 with fail
    refine wp_region_lit ?_
    refine zr (.bool true) wo (xo_lssT .i64 (i : Int) (n : Int) (by omega) rfl rfl rfl) ?_
    simp only [Act.put, zA]
    refine wpList_nil ?_
    go_upto_region 4 with fail
    refine wp_region_lit ?_
    refine zr (.pointer (some (gad A (i * 3)))) wo (xg_idx .i64 (HL.out.keep B0.out) HE.out Tryd.underlying28 (by kernel_rfl) rfl rfl rfl) ?_
    simp only [Act.put, zA]
    refine zr (.agg #[.int .i64 (k : Int), .int .i64 lo, .int .i64 hi2]) wo (xg_loadE (E := ciC) (HL.out.keep B0.out) HE.out Tryd.underlying46 rfl (by kernel_rfl) rfl rfl) ?_
    simp only [Act.put, zA]
    refine wpList_new #[.int .i64 0, .int .i64 0, .int .i64 0] 46 (by kernel_rfl) (xo_alloc #[.int .i64 0, .int .i64 0, .int .i64 0] (by kernel_rfl) rfl) ?_
    intro b7 V2 hge h0 hb
    have N12_0 : Hid (w.heap.size ≠ b7) := zh (xp_lt0 Fv0_3.out hge)
    have N13_1 : Hid (b5 ≠ b7) := zh (xp_lt0 Fv3_5.out hge)
    have Ge14 : Hid (wo.heap.size ≤ b7) := zh hge
    have B1 := zh hb
    have Fv15_7 : Hid (V2.heap[b7]? = some (.cells #[.int .i64 0, .int .i64 0, .int .i64 0] 46 (0, 0))) := zh (h0)
    have Lt16 : Hid (b7 < V2.heap.size) := zh (xp_lt Fv15_7.out)
    clear hge h0 hb
    simp only [ptr, Act.put, zA]
    refine wpList_storeW b7 #[.int .i64 0, .int .i64 0, .int .i64 0] #[.int .i64 (k : Int), .int .i64 lo, .int .i64 hi2] 46 (by kernel_rfl) Fv15_7.out (xo_storeW b7 #[.int .i64 0, .int .i64 0, .int .i64 0] #[.int .i64 (k : Int), .int .i64 lo, .int .i64 hi2] Fv15_7.out (by kernel_rfl) rfl (by simp [Value.oneCell']) rfl rfl rfl) ?_
    intro X2_17 h1 hfar hbel hsz
    have hbr := hbel _ _ Ge14.out B1.out
    clear B1
    have B1 := zh hbr
    clear hbr
    clear Fv15_7
    have Fv15_7 : Hid (X2_17.heap[b7]? = some (.cells #[.int .i64 (k : Int), .int .i64 lo, .int .i64 hi2] 46 (0, 0))) := zh (h1)
    have HszX2_17 := zh hsz
    clear h1 hfar hbel hsz
    simp only [ptr, Act.put, zA]
    refine wpList_nil ?_
    by_cases h1 : vv < lo
    ·have hm : Qu.mC r ⟨(k : Int), lo, hi2⟩ = false := by rw [hme] <;> simp <;> omega
     go_upto_region 5 with fail
     try simp only [List.append_eq, List.cons_append, List.nil_append]
     refine wp_ordX (.q 0 (.q 1 (.one 2 (.q 3 (.q 4 (.q 5 (.q 6 (.q 7 (.q 8 (.q 9 (.q 10 (.q 11 (.q 12 (.q 13 (.q 14 (.q 15 (.q 16 (.q 17 (.q 18 (.q 19 (.q 20 (.q 21 .nil)))))))))))))))))))))) (by kernel_rfl) (by kernel_rfl) (fun _ _ dt _ _ h => by first | exact h.elim | (cases dt <;> exact h)) (by kernel_rfl) (by kernel_rfl) (fun V3 hb => ?_)
     have B2 := zh hb
     clear hb
     refine wpX_q (.pointer (some ⟨b7, 0, none⟩)) rfl (by kernel_rfl) (fun v hW => (xo_fld0 0 b7 0 (by kernel_rfl) rfl rfl)) ?_
     simp only [ptr, Act.put, zA]
     refine wpX_q (.int .i64 (k : Int)) rfl (by kernel_rfl) (fun v hW => (xo_load1 ⟨b7, 0, none⟩ _ (cells_at (heap_keep (heap_keep Fv15_7.out B2.out) hW) 0 rfl) Tryd.underlying3 rfl rfl rfl)) ?_
     simp only [ptr, Act.put, zA]
     refine wpX_one rfl (by kernel_rfl) ?_
     refine hOp_call 35 Tryd.func35 (by kernel_rfl) (by kernel_rfl) _ _ #[.int .i64 (k : Int)] rfl (by kernel_rfl) ?_
     refine (isColumn_as (k : Int) true his V3).mono ?_
     rintro e W1 ⟨rfl, hw1⟩
     rw [hw1]
     clear hw1 W1
     refine ⟨_, rfl, (Below.refl V3.heap.size V3), ?_⟩
     simp only [ptr, Act.put, zA]
     refine wpX_q (.bool false) rfl (by kernel_rfl) (fun v hW => rfl) ?_
     simp only [ptr, Act.put, zA]
     refine wpX_q (.bool false) rfl (by kernel_rfl) (fun v hW => rfl) ?_
     simp only [ptr, Act.put, zA]
     refine wpX_q (.pointer (some ⟨b7, 0, none⟩)) rfl (by kernel_rfl) (fun v hW => (xo_fld0 0 b7 0 (by kernel_rfl) rfl rfl)) ?_
     simp only [ptr, Act.put, zA]
     refine wpX_q (.int .i64 (k : Int)) rfl (by kernel_rfl) (fun v hW => (xo_load1 ⟨b7, 0, none⟩ _ (cells_at (heap_keep (heap_keep Fv15_7.out B2.out) hW) 0 rfl) Tryd.underlying3 rfl rfl rfl)) ?_
     simp only [ptr, Act.put, zA]
     refine wpX_q (.pointer (some ⟨b5, k, none⟩)) rfl (by kernel_rfl) (fun v hW => (xi_addr b5 k hk4 rfl rfl rfl)) ?_
     simp only [ptr, Act.put, zA]
     have C1_3 := zb B1 B2
     refine wpX_q (.int .i64 vv) rfl (by kernel_rfl) (fun v hW => (xo_load1 ⟨b5, k, none⟩ _ (val_at hk4 HV.out (heap_keep (heap_keep Fv3_5.out C1_3.out) hW)) Tryd.underlying3 rfl rfl rfl)) ?_
     simp only [ptr, Act.put, zA]
     refine wpX_q (.pointer (some ⟨b7, 1, none⟩)) rfl (by kernel_rfl) (fun v hW => (xo_fld0 1 b7 1 (by kernel_rfl) rfl rfl)) ?_
     simp only [ptr, Act.put, zA]
     refine wpX_q (.int .i64 lo) rfl (by kernel_rfl) (fun v hW => (xo_load1 ⟨b7, 1, none⟩ _ (cells_at (heap_keep (heap_keep Fv15_7.out B2.out) hW) 1 rfl) Tryd.underlying3 rfl rfl rfl)) ?_
     simp only [ptr, Act.put, zA]
     refine wpX_q (.bool true) rfl (by kernel_rfl) (fun v hW => (xo_lssT .i64 vv lo (by omega) rfl rfl rfl)) ?_
     simp only [ptr, Act.put, zA]
     refine wpX_q (.bool true) rfl (by kernel_rfl) (fun v hW => rfl) ?_
     simp only [ptr, Act.put, zA]
     refine wpX_q (.bool true) rfl (by kernel_rfl) (fun v hW => rfl) ?_
     simp only [ptr, Act.put, zA]
     refine wpX_skip rfl (by kernel_rfl) ?_
     try simp only [ptr, Act.put, zA]
     refine wpX_skip rfl (by kernel_rfl) ?_
     try simp only [ptr, Act.put, zA]
     refine wpX_skip rfl (by kernel_rfl) ?_
     try simp only [ptr, Act.put, zA]
     refine wpX_skip rfl (by kernel_rfl) ?_
     try simp only [ptr, Act.put, zA]
     refine wpX_skip rfl (by kernel_rfl) ?_
     try simp only [ptr, Act.put, zA]
     refine wpX_skip rfl (by kernel_rfl) ?_
     try simp only [ptr, Act.put, zA]
     refine wpX_skip rfl (by kernel_rfl) ?_
     try simp only [ptr, Act.put, zA]
     refine wpX_q (.bool true) rfl (by kernel_rfl) (fun v hW => rfl) ?_
     simp only [ptr, Act.put, zA]
     refine wpX_nil ?_
     go_upto_region 6 with fail
     refine wp_region_lit ?_
     refine zr (.bool false) V3 rfl ?_
     simp only [Act.put, zA]
     refine wpList_nil ?_
     obtain rfl : b = false := by rw [← hb]; exact all_false HE.out hm
     have C0_2 := zb B0 B1
     have C0_3 := zb C0_2 B2
     have hbf := C0_3.out
     go_wp2_with fail
     go_ret
     exact ⟨rfl, hbf⟩
    ·by_cases h2 : vv > hi2
     ·have hm : Qu.mC r ⟨(k : Int), lo, hi2⟩ = false := by rw [hme] <;> simp <;> omega
      go_upto_region 5 with fail
      try simp only [List.append_eq, List.cons_append, List.nil_append]
      refine wp_ordX (.q 0 (.q 1 (.one 2 (.q 3 (.q 4 (.q 5 (.q 6 (.q 7 (.q 8 (.q 9 (.q 10 (.q 11 (.q 12 (.q 13 (.q 14 (.q 15 (.q 16 (.q 17 (.q 18 (.q 19 (.q 20 (.q 21 .nil)))))))))))))))))))))) (by kernel_rfl) (by kernel_rfl) (fun _ _ dt _ _ h => by first | exact h.elim | (cases dt <;> exact h)) (by kernel_rfl) (by kernel_rfl) (fun V3 hb => ?_)
      have B2 := zh hb
      clear hb
      refine wpX_q (.pointer (some ⟨b7, 0, none⟩)) rfl (by kernel_rfl) (fun v hW => (xo_fld0 0 b7 0 (by kernel_rfl) rfl rfl)) ?_
      simp only [ptr, Act.put, zA]
      refine wpX_q (.int .i64 (k : Int)) rfl (by kernel_rfl) (fun v hW => (xo_load1 ⟨b7, 0, none⟩ _ (cells_at (heap_keep (heap_keep Fv15_7.out B2.out) hW) 0 rfl) Tryd.underlying3 rfl rfl rfl)) ?_
      simp only [ptr, Act.put, zA]
      refine wpX_one rfl (by kernel_rfl) ?_
      refine hOp_call 35 Tryd.func35 (by kernel_rfl) (by kernel_rfl) _ _ #[.int .i64 (k : Int)] rfl (by kernel_rfl) ?_
      refine (isColumn_as (k : Int) true his V3).mono ?_
      rintro e W1 ⟨rfl, hw1⟩
      rw [hw1]
      clear hw1 W1
      refine ⟨_, rfl, (Below.refl V3.heap.size V3), ?_⟩
      simp only [ptr, Act.put, zA]
      refine wpX_q (.bool false) rfl (by kernel_rfl) (fun v hW => rfl) ?_
      simp only [ptr, Act.put, zA]
      refine wpX_q (.bool false) rfl (by kernel_rfl) (fun v hW => rfl) ?_
      simp only [ptr, Act.put, zA]
      refine wpX_q (.pointer (some ⟨b7, 0, none⟩)) rfl (by kernel_rfl) (fun v hW => (xo_fld0 0 b7 0 (by kernel_rfl) rfl rfl)) ?_
      simp only [ptr, Act.put, zA]
      refine wpX_q (.int .i64 (k : Int)) rfl (by kernel_rfl) (fun v hW => (xo_load1 ⟨b7, 0, none⟩ _ (cells_at (heap_keep (heap_keep Fv15_7.out B2.out) hW) 0 rfl) Tryd.underlying3 rfl rfl rfl)) ?_
      simp only [ptr, Act.put, zA]
      refine wpX_q (.pointer (some ⟨b5, k, none⟩)) rfl (by kernel_rfl) (fun v hW => (xi_addr b5 k hk4 rfl rfl rfl)) ?_
      simp only [ptr, Act.put, zA]
      have C1_3 := zb B1 B2
      refine wpX_q (.int .i64 vv) rfl (by kernel_rfl) (fun v hW => (xo_load1 ⟨b5, k, none⟩ _ (val_at hk4 HV.out (heap_keep (heap_keep Fv3_5.out C1_3.out) hW)) Tryd.underlying3 rfl rfl rfl)) ?_
      simp only [ptr, Act.put, zA]
      refine wpX_q (.pointer (some ⟨b7, 1, none⟩)) rfl (by kernel_rfl) (fun v hW => (xo_fld0 1 b7 1 (by kernel_rfl) rfl rfl)) ?_
      simp only [ptr, Act.put, zA]
      refine wpX_q (.int .i64 lo) rfl (by kernel_rfl) (fun v hW => (xo_load1 ⟨b7, 1, none⟩ _ (cells_at (heap_keep (heap_keep Fv15_7.out B2.out) hW) 1 rfl) Tryd.underlying3 rfl rfl rfl)) ?_
      simp only [ptr, Act.put, zA]
      refine wpX_q (.bool false) rfl (by kernel_rfl) (fun v hW => (xo_lssF .i64 vv lo (by omega) rfl rfl rfl)) ?_
      simp only [ptr, Act.put, zA]
      refine wpX_q (.bool false) rfl (by kernel_rfl) (fun v hW => rfl) ?_
      simp only [ptr, Act.put, zA]
      refine wpX_q (.bool false) rfl (by kernel_rfl) (fun v hW => rfl) ?_
      simp only [ptr, Act.put, zA]
      refine wpX_q (.pointer (some ⟨b7, 0, none⟩)) rfl (by kernel_rfl) (fun v hW => (xo_fld0 0 b7 0 (by kernel_rfl) rfl rfl)) ?_
      simp only [ptr, Act.put, zA]
      refine wpX_q (.int .i64 (k : Int)) rfl (by kernel_rfl) (fun v hW => (xo_load1 ⟨b7, 0, none⟩ _ (cells_at (heap_keep (heap_keep Fv15_7.out B2.out) hW) 0 rfl) Tryd.underlying3 rfl rfl rfl)) ?_
      simp only [ptr, Act.put, zA]
      refine wpX_q (.pointer (some ⟨b5, k, none⟩)) rfl (by kernel_rfl) (fun v hW => (xi_addr b5 k hk4 rfl rfl rfl)) ?_
      simp only [ptr, Act.put, zA]
      refine wpX_q (.int .i64 vv) rfl (by kernel_rfl) (fun v hW => (xo_load1 ⟨b5, k, none⟩ _ (val_at hk4 HV.out (heap_keep (heap_keep Fv3_5.out C1_3.out) hW)) Tryd.underlying3 rfl rfl rfl)) ?_
      simp only [ptr, Act.put, zA]
      refine wpX_q (.pointer (some ⟨b7, 2, none⟩)) rfl (by kernel_rfl) (fun v hW => (xo_fld0 2 b7 2 (by kernel_rfl) rfl rfl)) ?_
      simp only [ptr, Act.put, zA]
      refine wpX_q (.int .i64 hi2) rfl (by kernel_rfl) (fun v hW => (xo_load1 ⟨b7, 2, none⟩ _ (cells_at (heap_keep (heap_keep Fv15_7.out B2.out) hW) 2 rfl) Tryd.underlying3 rfl rfl rfl)) ?_
      simp only [ptr, Act.put, zA]
      refine wpX_q (.bool true) rfl (by kernel_rfl) (fun v hW => (xo_gtrT .i64 vv hi2 (by omega) rfl rfl rfl)) ?_
      simp only [ptr, Act.put, zA]
      refine wpX_q (.bool true) rfl (by kernel_rfl) (fun v hW => rfl) ?_
      simp only [ptr, Act.put, zA]
      refine wpX_nil ?_
      go_upto_region 6 with fail
      refine wp_region_lit ?_
      refine zr (.bool false) V3 rfl ?_
      simp only [Act.put, zA]
      refine wpList_nil ?_
      obtain rfl : b = false := by rw [← hb]; exact all_false HE.out hm
      have C0_2 := zb B0 B1
      have C0_3 := zb C0_2 B2
      have hbf := C0_3.out
      go_wp2_with fail
      go_ret
      exact ⟨rfl, hbf⟩
     ·have hm : Qu.mC r ⟨(k : Int), lo, hi2⟩ = true := by rw [hme] <;> simp <;> omega
      go_upto_region 5 with fail
      try simp only [List.append_eq, List.cons_append, List.nil_append]
      refine wp_ordX (.q 0 (.q 1 (.one 2 (.q 3 (.q 4 (.q 5 (.q 6 (.q 7 (.q 8 (.q 9 (.q 10 (.q 11 (.q 12 (.q 13 (.q 14 (.q 15 (.q 16 (.q 17 (.q 18 (.q 19 (.q 20 (.q 21 .nil)))))))))))))))))))))) (by kernel_rfl) (by kernel_rfl) (fun _ _ dt _ _ h => by first | exact h.elim | (cases dt <;> exact h)) (by kernel_rfl) (by kernel_rfl) (fun V3 hb => ?_)
      have B2 := zh hb
      clear hb
      refine wpX_q (.pointer (some ⟨b7, 0, none⟩)) rfl (by kernel_rfl) (fun v hW => (xo_fld0 0 b7 0 (by kernel_rfl) rfl rfl)) ?_
      simp only [ptr, Act.put, zA]
      refine wpX_q (.int .i64 (k : Int)) rfl (by kernel_rfl) (fun v hW => (xo_load1 ⟨b7, 0, none⟩ _ (cells_at (heap_keep (heap_keep Fv15_7.out B2.out) hW) 0 rfl) Tryd.underlying3 rfl rfl rfl)) ?_
      simp only [ptr, Act.put, zA]
      refine wpX_one rfl (by kernel_rfl) ?_
      refine hOp_call 35 Tryd.func35 (by kernel_rfl) (by kernel_rfl) _ _ #[.int .i64 (k : Int)] rfl (by kernel_rfl) ?_
      refine (isColumn_as (k : Int) true his V3).mono ?_
      rintro e W1 ⟨rfl, hw1⟩
      rw [hw1]
      clear hw1 W1
      refine ⟨_, rfl, (Below.refl V3.heap.size V3), ?_⟩
      simp only [ptr, Act.put, zA]
      refine wpX_q (.bool false) rfl (by kernel_rfl) (fun v hW => rfl) ?_
      simp only [ptr, Act.put, zA]
      refine wpX_q (.bool false) rfl (by kernel_rfl) (fun v hW => rfl) ?_
      simp only [ptr, Act.put, zA]
      refine wpX_q (.pointer (some ⟨b7, 0, none⟩)) rfl (by kernel_rfl) (fun v hW => (xo_fld0 0 b7 0 (by kernel_rfl) rfl rfl)) ?_
      simp only [ptr, Act.put, zA]
      refine wpX_q (.int .i64 (k : Int)) rfl (by kernel_rfl) (fun v hW => (xo_load1 ⟨b7, 0, none⟩ _ (cells_at (heap_keep (heap_keep Fv15_7.out B2.out) hW) 0 rfl) Tryd.underlying3 rfl rfl rfl)) ?_
      simp only [ptr, Act.put, zA]
      refine wpX_q (.pointer (some ⟨b5, k, none⟩)) rfl (by kernel_rfl) (fun v hW => (xi_addr b5 k hk4 rfl rfl rfl)) ?_
      simp only [ptr, Act.put, zA]
      have C1_3 := zb B1 B2
      refine wpX_q (.int .i64 vv) rfl (by kernel_rfl) (fun v hW => (xo_load1 ⟨b5, k, none⟩ _ (val_at hk4 HV.out (heap_keep (heap_keep Fv3_5.out C1_3.out) hW)) Tryd.underlying3 rfl rfl rfl)) ?_
      simp only [ptr, Act.put, zA]
      refine wpX_q (.pointer (some ⟨b7, 1, none⟩)) rfl (by kernel_rfl) (fun v hW => (xo_fld0 1 b7 1 (by kernel_rfl) rfl rfl)) ?_
      simp only [ptr, Act.put, zA]
      refine wpX_q (.int .i64 lo) rfl (by kernel_rfl) (fun v hW => (xo_load1 ⟨b7, 1, none⟩ _ (cells_at (heap_keep (heap_keep Fv15_7.out B2.out) hW) 1 rfl) Tryd.underlying3 rfl rfl rfl)) ?_
      simp only [ptr, Act.put, zA]
      refine wpX_q (.bool false) rfl (by kernel_rfl) (fun v hW => (xo_lssF .i64 vv lo (by omega) rfl rfl rfl)) ?_
      simp only [ptr, Act.put, zA]
      refine wpX_q (.bool false) rfl (by kernel_rfl) (fun v hW => rfl) ?_
      simp only [ptr, Act.put, zA]
      refine wpX_q (.bool false) rfl (by kernel_rfl) (fun v hW => rfl) ?_
      simp only [ptr, Act.put, zA]
      refine wpX_q (.pointer (some ⟨b7, 0, none⟩)) rfl (by kernel_rfl) (fun v hW => (xo_fld0 0 b7 0 (by kernel_rfl) rfl rfl)) ?_
      simp only [ptr, Act.put, zA]
      refine wpX_q (.int .i64 (k : Int)) rfl (by kernel_rfl) (fun v hW => (xo_load1 ⟨b7, 0, none⟩ _ (cells_at (heap_keep (heap_keep Fv15_7.out B2.out) hW) 0 rfl) Tryd.underlying3 rfl rfl rfl)) ?_
      simp only [ptr, Act.put, zA]
      refine wpX_q (.pointer (some ⟨b5, k, none⟩)) rfl (by kernel_rfl) (fun v hW => (xi_addr b5 k hk4 rfl rfl rfl)) ?_
      simp only [ptr, Act.put, zA]
      refine wpX_q (.int .i64 vv) rfl (by kernel_rfl) (fun v hW => (xo_load1 ⟨b5, k, none⟩ _ (val_at hk4 HV.out (heap_keep (heap_keep Fv3_5.out C1_3.out) hW)) Tryd.underlying3 rfl rfl rfl)) ?_
      simp only [ptr, Act.put, zA]
      refine wpX_q (.pointer (some ⟨b7, 2, none⟩)) rfl (by kernel_rfl) (fun v hW => (xo_fld0 2 b7 2 (by kernel_rfl) rfl rfl)) ?_
      simp only [ptr, Act.put, zA]
      refine wpX_q (.int .i64 hi2) rfl (by kernel_rfl) (fun v hW => (xo_load1 ⟨b7, 2, none⟩ _ (cells_at (heap_keep (heap_keep Fv15_7.out B2.out) hW) 2 rfl) Tryd.underlying3 rfl rfl rfl)) ?_
      simp only [ptr, Act.put, zA]
      refine wpX_q (.bool false) rfl (by kernel_rfl) (fun v hW => (xo_gtrF .i64 vv hi2 (by omega) rfl rfl rfl)) ?_
      simp only [ptr, Act.put, zA]
      refine wpX_q (.bool false) rfl (by kernel_rfl) (fun v hW => rfl) ?_
      simp only [ptr, Act.put, zA]
      refine wpX_nil ?_
      go_upto_region 7 with fail
      refine wp_region_lit ?_
      refine zr (.int .i64 ((i + 1 : Nat) : Int)) V3 (xo_addI (i : Int) 1 ((i + 1 : Nat) : Int) (by omega) (by omega) (by omega) rfl rfl rfl) ?_
      simp only [Act.put, zA]
      refine zr (.int .i64 ((i + 1 : Nat) : Int)) V3 rfl ?_
      simp only [Act.put, zA]
      refine wpList_nil ?_
      have hal := all_take HE.out HALL.out hm
      have hq18 := (heap_keep Fv0_3.out C1_3.out)
      have hq19 := (heap_keep Fv3_5.out C1_3.out)
      have C0_2 := zb B0 B1
      have C0_3 := zb C0_2 B2
      have hq20 := C0_3.out
      go_wp2_with fail
      go_roundw
      case rel => exact ⟨i + 1, by omega, by go_num, hal, hq18, hq19, hq20⟩
      case measure => simp [intOf]; omega
  ·have hci11 : ¬ ((i : Int) < (n : Int)) := by omega
   go_upto_region 3 with fail
   refine wp_region_lit ?_
   refine zr (.bool false) wo (xo_lssF .i64 (i : Int) (n : Int) (by omega) rfl rfl rfl) ?_
   simp only [Act.put, zA]
   refine wpList_nil ?_
   go_upto_region 8 with fail
   refine wp_region_lit ?_
   refine zr (.bool true) wo rfl ?_
   simp only [Act.put, zA]
   refine wpList_nil ?_
   obtain rfl : b = true := by rw [← hb, ← List.take_length (l := cs), show cs.length = i from by omega]; exact HALL.out
   have hbf := B0.out
   go_wp2_with fail
   go_ret
   exact ⟨rfl, hbf⟩
set_option maxRecDepth 100000 in
set_option maxHeartbeats 32000000 in
theorem validCond_as (col lo hi : Int) (b : Bool) (hb : Qu.vC ⟨col, lo, hi⟩ = b) (w : World) (hG : Gc w) :
  Calls Tryd.prog 51 #[.agg #[.int .i64 col, .int .i64 lo, .int .i64 hi]] w fun e w' => e = .returned (.bool b) ∧ Below w.heap.size w w' := by
 have HG := zh hG
 clear hG
 go_enter Tryd.func51, Tryd.ntmps51
 go_upto_region 1 with fail
 refine wp_named1 (fun V1 hb g0 hlt => ?_)
 have B0 := zh hb
 have Fv0_1 : Hid (V1.heap[w.heap.size]? = some (.cells #[.int .i64 col, .int .i64 lo, .int .i64 hi] 46 (0, 0))) := zh (g0)
 have Gb0 : Hid (w.heap.size ≤ w.heap.size) := zh (by omega)
 clear hb g0 hlt
 have Lt0 : Hid (w.heap.size < V1.heap.size) := zh (xp_lt Fv0_1.out)
 cases his : Qu.isC col with
 | false =>
  have hme : Qu.vC ⟨col, lo, hi⟩ = false := by unfold Qu.vC; rw [show (Qu.Ci.mk col lo hi).col = col from rfl, his]; rfl
  try simp only [List.append_eq, List.cons_append, List.nil_append]
  refine wp_ordX (.q 0 (.q 1 (.one 2 (.q 3 (.q 4 (.q 5 (.q 6 (.q 7 (.q 8 (.q 9 (.q 10 (.q 11 (.q 12 (.q 13 (.q 14 (.q 15 (.q 16 (.q 17 (.q 18 (.q 19 (.q 20 (.q 21 (.q 22 (.q 23 (.q 24 (.q 25 .nil)))))))))))))))))))))))))) (by kernel_rfl) (by kernel_rfl) (fun _ _ dt _ _ h => by first | exact h.elim | (cases dt <;> exact h)) (by kernel_rfl) (by kernel_rfl) (fun V2 hb => ?_)
  have B1 := zh hb
  clear hb
  refine wpX_q (.pointer (some ⟨w.heap.size, 0, none⟩)) rfl (by kernel_rfl) (fun v hW => (xo_fld0 0 w.heap.size 0 (by kernel_rfl) rfl rfl)) ?_
  simp only [ptr, Act.put, zA]
  refine wpX_q (.int .i64 col) rfl (by kernel_rfl) (fun v hW => (xo_load1 ⟨w.heap.size, 0, none⟩ _ (cells_at (heap_keep (heap_keep Fv0_1.out B1.out) hW) 0 rfl) Tryd.underlying3 rfl rfl rfl)) ?_
  simp only [ptr, Act.put, zA]
  refine wpX_one rfl (by kernel_rfl) ?_
  refine hOp_call 35 Tryd.func35 (by kernel_rfl) (by kernel_rfl) _ _ #[.int .i64 col] rfl (by kernel_rfl) ?_
  refine (isColumn_as col false his V2).mono ?_
  rintro e W1 ⟨rfl, hw1⟩
  rw [hw1]
  clear hw1 W1
  refine ⟨_, rfl, (Below.refl V2.heap.size V2), ?_⟩
  simp only [ptr, Act.put, zA]
  refine wpX_q (.bool false) rfl (by kernel_rfl) (fun v hW => rfl) ?_
  simp only [ptr, Act.put, zA]
  refine wpX_skip rfl (by kernel_rfl) ?_
  try simp only [ptr, Act.put, zA]
  refine wpX_skip rfl (by kernel_rfl) ?_
  try simp only [ptr, Act.put, zA]
  refine wpX_skip rfl (by kernel_rfl) ?_
  try simp only [ptr, Act.put, zA]
  refine wpX_q (.bool false) rfl (by kernel_rfl) (fun v hW => rfl) ?_
  simp only [ptr, Act.put, zA]
  refine wpX_q (.bool false) rfl (by kernel_rfl) (fun v hW => rfl) ?_
  simp only [ptr, Act.put, zA]
  refine wpX_skip rfl (by kernel_rfl) ?_
  try simp only [ptr, Act.put, zA]
  refine wpX_skip rfl (by kernel_rfl) ?_
  try simp only [ptr, Act.put, zA]
  refine wpX_skip rfl (by kernel_rfl) ?_
  try simp only [ptr, Act.put, zA]
  refine wpX_skip rfl (by kernel_rfl) ?_
  try simp only [ptr, Act.put, zA]
  refine wpX_skip rfl (by kernel_rfl) ?_
  try simp only [ptr, Act.put, zA]
  refine wpX_q (.bool false) rfl (by kernel_rfl) (fun v hW => rfl) ?_
  simp only [ptr, Act.put, zA]
  refine wpX_q (.bool false) rfl (by kernel_rfl) (fun v hW => rfl) ?_
  simp only [ptr, Act.put, zA]
  refine wpX_skip rfl (by kernel_rfl) ?_
  try simp only [ptr, Act.put, zA]
  refine wpX_skip rfl (by kernel_rfl) ?_
  try simp only [ptr, Act.put, zA]
  refine wpX_skip rfl (by kernel_rfl) ?_
  try simp only [ptr, Act.put, zA]
  refine wpX_skip rfl (by kernel_rfl) ?_
  try simp only [ptr, Act.put, zA]
  refine wpX_skip rfl (by kernel_rfl) ?_
  try simp only [ptr, Act.put, zA]
  refine wpX_skip rfl (by kernel_rfl) ?_
  try simp only [ptr, Act.put, zA]
  refine wpX_skip rfl (by kernel_rfl) ?_
  try simp only [ptr, Act.put, zA]
  refine wpX_skip rfl (by kernel_rfl) ?_
  try simp only [ptr, Act.put, zA]
  refine wpX_q (.bool false) rfl (by kernel_rfl) (fun v hW => rfl) ?_
  simp only [ptr, Act.put, zA]
  refine wpX_q (.bool false) rfl (by kernel_rfl) (fun v hW => rfl) ?_
  simp only [ptr, Act.put, zA]
  refine wpX_nil ?_
  obtain rfl : b = false := by rw [← hb, hme] <;> simp <;> omega
  have C0_2 := zb B0 B1
  have hbf := C0_2.out
  go_wp2_with fail
  go_ret
  exact ⟨rfl, hbf⟩
 | true =>
  have hcol : 0 ≤ col ∧ col < 4 := by unfold Qu.isC at his; simpa using his
  obtain ⟨k, rfl⟩ : ∃ k : Nat, col = (k : Int) := ⟨col.toNat, by omega⟩
  have hk4 : k < 4 := by omega
  obtain ⟨m, hm⟩ : ∃ m, Qu.maxN k = m := ⟨_, rfl⟩
  have HM := zh hm
  clear hm
  have hme : Qu.vC ⟨(k : Int), lo, hi⟩ = (decide (0 ≤ lo) && (decide (lo ≤ hi) && decide (hi ≤ (m : Int)))) := by unfold Qu.vC; rw [show (Qu.Ci.mk (k : Int) lo hi).col = (k : Int) from rfl, his, Int.toNat_natCast, HM.out]; rfl
  by_cases h1 : lo ≥ 0
  ·by_cases h2 : lo ≤ hi
   ·have hmi : ((Qu.maxN k : Nat) : Int) = (m : Int) := by rw [HM.out]
    by_cases h3 : hi ≤ ((Qu.maxN k : Nat) : Int)
    ·try simp only [List.append_eq, List.cons_append, List.nil_append]
     refine wp_ordX (.q 0 (.q 1 (.one 2 (.q 3 (.q 4 (.q 5 (.q 6 (.q 7 (.q 8 (.q 9 (.q 10 (.q 11 (.q 12 (.q 13 (.q 14 (.q 15 (.q 16 (.q 17 (.q 18 (.q 19 (.q 20 (.q 21 (.q 22 (.q 23 (.q 24 (.q 25 .nil)))))))))))))))))))))))))) (by kernel_rfl) (by kernel_rfl) (fun _ _ dt _ _ h => by first | exact h.elim | (cases dt <;> exact h)) (by kernel_rfl) (by kernel_rfl) (fun V2 hb => ?_)
     have B1 := zh hb
     clear hb
     refine wpX_q (.pointer (some ⟨w.heap.size, 0, none⟩)) rfl (by kernel_rfl) (fun v hW => (xo_fld0 0 w.heap.size 0 (by kernel_rfl) rfl rfl)) ?_
     simp only [ptr, Act.put, zA]
     refine wpX_q (.int .i64 (k : Int)) rfl (by kernel_rfl) (fun v hW => (xo_load1 ⟨w.heap.size, 0, none⟩ _ (cells_at (heap_keep (heap_keep Fv0_1.out B1.out) hW) 0 rfl) Tryd.underlying3 rfl rfl rfl)) ?_
     simp only [ptr, Act.put, zA]
     refine wpX_one rfl (by kernel_rfl) ?_
     refine hOp_call 35 Tryd.func35 (by kernel_rfl) (by kernel_rfl) _ _ #[.int .i64 (k : Int)] rfl (by kernel_rfl) ?_
     refine (isColumn_as (k : Int) true his V2).mono ?_
     rintro e W1 ⟨rfl, hw1⟩
     rw [hw1]
     clear hw1 W1
     refine ⟨_, rfl, (Below.refl V2.heap.size V2), ?_⟩
     simp only [ptr, Act.put, zA]
     refine wpX_q (.bool true) rfl (by kernel_rfl) (fun v hW => rfl) ?_
     simp only [ptr, Act.put, zA]
     refine wpX_q (.pointer (some ⟨w.heap.size, 1, none⟩)) rfl (by kernel_rfl) (fun v hW => (xo_fld0 1 w.heap.size 1 (by kernel_rfl) rfl rfl)) ?_
     simp only [ptr, Act.put, zA]
     refine wpX_q (.int .i64 lo) rfl (by kernel_rfl) (fun v hW => (xo_load1 ⟨w.heap.size, 1, none⟩ _ (cells_at (heap_keep (heap_keep Fv0_1.out B1.out) hW) 1 rfl) Tryd.underlying3 rfl rfl rfl)) ?_
     simp only [ptr, Act.put, zA]
     refine wpX_q (.bool true) rfl (by kernel_rfl) (fun v hW => (xo_geqT .i64 lo 0 (by omega) rfl rfl rfl)) ?_
     simp only [ptr, Act.put, zA]
     refine wpX_q (.bool true) rfl (by kernel_rfl) (fun v hW => rfl) ?_
     simp only [ptr, Act.put, zA]
     refine wpX_q (.bool true) rfl (by kernel_rfl) (fun v hW => rfl) ?_
     simp only [ptr, Act.put, zA]
     refine wpX_q (.pointer (some ⟨w.heap.size, 1, none⟩)) rfl (by kernel_rfl) (fun v hW => (xo_fld0 1 w.heap.size 1 (by kernel_rfl) rfl rfl)) ?_
     simp only [ptr, Act.put, zA]
     refine wpX_q (.int .i64 lo) rfl (by kernel_rfl) (fun v hW => (xo_load1 ⟨w.heap.size, 1, none⟩ _ (cells_at (heap_keep (heap_keep Fv0_1.out B1.out) hW) 1 rfl) Tryd.underlying3 rfl rfl rfl)) ?_
     simp only [ptr, Act.put, zA]
     refine wpX_q (.pointer (some ⟨w.heap.size, 2, none⟩)) rfl (by kernel_rfl) (fun v hW => (xo_fld0 2 w.heap.size 2 (by kernel_rfl) rfl rfl)) ?_
     simp only [ptr, Act.put, zA]
     refine wpX_q (.int .i64 hi) rfl (by kernel_rfl) (fun v hW => (xo_load1 ⟨w.heap.size, 2, none⟩ _ (cells_at (heap_keep (heap_keep Fv0_1.out B1.out) hW) 2 rfl) Tryd.underlying3 rfl rfl rfl)) ?_
     simp only [ptr, Act.put, zA]
     refine wpX_q (.bool true) rfl (by kernel_rfl) (fun v hW => (xo_leqT .i64 lo hi (by omega) rfl rfl rfl)) ?_
     simp only [ptr, Act.put, zA]
     refine wpX_q (.bool true) rfl (by kernel_rfl) (fun v hW => rfl) ?_
     simp only [ptr, Act.put, zA]
     refine wpX_q (.bool true) rfl (by kernel_rfl) (fun v hW => rfl) ?_
     simp only [ptr, Act.put, zA]
     refine wpX_q (.pointer (some ⟨w.heap.size, 2, none⟩)) rfl (by kernel_rfl) (fun v hW => (xo_fld0 2 w.heap.size 2 (by kernel_rfl) rfl rfl)) ?_
     simp only [ptr, Act.put, zA]
     refine wpX_q (.int .i64 hi) rfl (by kernel_rfl) (fun v hW => (xo_load1 ⟨w.heap.size, 2, none⟩ _ (cells_at (heap_keep (heap_keep Fv0_1.out B1.out) hW) 2 rfl) Tryd.underlying3 rfl rfl rfl)) ?_
     simp only [ptr, Act.put, zA]
     refine wpX_q (.pointer (some ⟨w.heap.size, 0, none⟩)) rfl (by kernel_rfl) (fun v hW => (xo_fld0 0 w.heap.size 0 (by kernel_rfl) rfl rfl)) ?_
     simp only [ptr, Act.put, zA]
     refine wpX_q (.int .i64 (k : Int)) rfl (by kernel_rfl) (fun v hW => (xo_load1 ⟨w.heap.size, 0, none⟩ _ (cells_at (heap_keep (heap_keep Fv0_1.out B1.out) hW) 0 rfl) Tryd.underlying3 rfl rfl rfl)) ?_
     simp only [ptr, Act.put, zA]
     refine wpX_q (.pointer (some ⟨0, k * 2, none⟩)) rfl (by kernel_rfl) (fun v hW => (xc_iad k (by omega) rfl rfl rfl)) ?_
     simp only [ptr, Act.put, zA]
     refine wpX_q (.pointer (some ⟨0, k * 2 + 1, none⟩)) rfl (by kernel_rfl) (fun v hW => (xo_fld 1 0 (k * 2) 1 (by kernel_rfl) rfl rfl)) ?_
     simp only [ptr, Act.put, zA]
     have C0_2 := zb B0 B1
     refine wpX_q (.int .i64 (Qu.maxN k : Int)) rfl (by kernel_rfl) (fun v hW => (xo_load1 ⟨0, k * 2 + 1, none⟩ _ (Gc.max ((HG.out.keep C0_2.out).keep hW) k (by omega)) Tryd.underlying3 rfl rfl rfl)) ?_
     simp only [ptr, Act.put, zA]
     refine wpX_q (.bool true) rfl (by kernel_rfl) (fun v hW => (xo_leqT .i64 hi ((Qu.maxN k : Nat) : Int) (by omega) rfl rfl rfl)) ?_
     simp only [ptr, Act.put, zA]
     refine wpX_q (.bool true) rfl (by kernel_rfl) (fun v hW => rfl) ?_
     simp only [ptr, Act.put, zA]
     refine wpX_q (.bool true) rfl (by kernel_rfl) (fun v hW => rfl) ?_
     simp only [ptr, Act.put, zA]
     refine wpX_nil ?_
     obtain rfl : b = true := by rw [← hb, hme] <;> simp <;> omega
     have hbf := C0_2.out
     go_wp2_with fail
     go_ret
     exact ⟨rfl, hbf⟩
    ·try simp only [List.append_eq, List.cons_append, List.nil_append]
     refine wp_ordX (.q 0 (.q 1 (.one 2 (.q 3 (.q 4 (.q 5 (.q 6 (.q 7 (.q 8 (.q 9 (.q 10 (.q 11 (.q 12 (.q 13 (.q 14 (.q 15 (.q 16 (.q 17 (.q 18 (.q 19 (.q 20 (.q 21 (.q 22 (.q 23 (.q 24 (.q 25 .nil)))))))))))))))))))))))))) (by kernel_rfl) (by kernel_rfl) (fun _ _ dt _ _ h => by first | exact h.elim | (cases dt <;> exact h)) (by kernel_rfl) (by kernel_rfl) (fun V2 hb => ?_)
     have B1 := zh hb
     clear hb
     refine wpX_q (.pointer (some ⟨w.heap.size, 0, none⟩)) rfl (by kernel_rfl) (fun v hW => (xo_fld0 0 w.heap.size 0 (by kernel_rfl) rfl rfl)) ?_
     simp only [ptr, Act.put, zA]
     refine wpX_q (.int .i64 (k : Int)) rfl (by kernel_rfl) (fun v hW => (xo_load1 ⟨w.heap.size, 0, none⟩ _ (cells_at (heap_keep (heap_keep Fv0_1.out B1.out) hW) 0 rfl) Tryd.underlying3 rfl rfl rfl)) ?_
     simp only [ptr, Act.put, zA]
     refine wpX_one rfl (by kernel_rfl) ?_
     refine hOp_call 35 Tryd.func35 (by kernel_rfl) (by kernel_rfl) _ _ #[.int .i64 (k : Int)] rfl (by kernel_rfl) ?_
     refine (isColumn_as (k : Int) true his V2).mono ?_
     rintro e W1 ⟨rfl, hw1⟩
     rw [hw1]
     clear hw1 W1
     refine ⟨_, rfl, (Below.refl V2.heap.size V2), ?_⟩
     simp only [ptr, Act.put, zA]
     refine wpX_q (.bool true) rfl (by kernel_rfl) (fun v hW => rfl) ?_
     simp only [ptr, Act.put, zA]
     refine wpX_q (.pointer (some ⟨w.heap.size, 1, none⟩)) rfl (by kernel_rfl) (fun v hW => (xo_fld0 1 w.heap.size 1 (by kernel_rfl) rfl rfl)) ?_
     simp only [ptr, Act.put, zA]
     refine wpX_q (.int .i64 lo) rfl (by kernel_rfl) (fun v hW => (xo_load1 ⟨w.heap.size, 1, none⟩ _ (cells_at (heap_keep (heap_keep Fv0_1.out B1.out) hW) 1 rfl) Tryd.underlying3 rfl rfl rfl)) ?_
     simp only [ptr, Act.put, zA]
     refine wpX_q (.bool true) rfl (by kernel_rfl) (fun v hW => (xo_geqT .i64 lo 0 (by omega) rfl rfl rfl)) ?_
     simp only [ptr, Act.put, zA]
     refine wpX_q (.bool true) rfl (by kernel_rfl) (fun v hW => rfl) ?_
     simp only [ptr, Act.put, zA]
     refine wpX_q (.bool true) rfl (by kernel_rfl) (fun v hW => rfl) ?_
     simp only [ptr, Act.put, zA]
     refine wpX_q (.pointer (some ⟨w.heap.size, 1, none⟩)) rfl (by kernel_rfl) (fun v hW => (xo_fld0 1 w.heap.size 1 (by kernel_rfl) rfl rfl)) ?_
     simp only [ptr, Act.put, zA]
     refine wpX_q (.int .i64 lo) rfl (by kernel_rfl) (fun v hW => (xo_load1 ⟨w.heap.size, 1, none⟩ _ (cells_at (heap_keep (heap_keep Fv0_1.out B1.out) hW) 1 rfl) Tryd.underlying3 rfl rfl rfl)) ?_
     simp only [ptr, Act.put, zA]
     refine wpX_q (.pointer (some ⟨w.heap.size, 2, none⟩)) rfl (by kernel_rfl) (fun v hW => (xo_fld0 2 w.heap.size 2 (by kernel_rfl) rfl rfl)) ?_
     simp only [ptr, Act.put, zA]
     refine wpX_q (.int .i64 hi) rfl (by kernel_rfl) (fun v hW => (xo_load1 ⟨w.heap.size, 2, none⟩ _ (cells_at (heap_keep (heap_keep Fv0_1.out B1.out) hW) 2 rfl) Tryd.underlying3 rfl rfl rfl)) ?_
     simp only [ptr, Act.put, zA]
     refine wpX_q (.bool true) rfl (by kernel_rfl) (fun v hW => (xo_leqT .i64 lo hi (by omega) rfl rfl rfl)) ?_
     simp only [ptr, Act.put, zA]
     refine wpX_q (.bool true) rfl (by kernel_rfl) (fun v hW => rfl) ?_
     simp only [ptr, Act.put, zA]
     refine wpX_q (.bool true) rfl (by kernel_rfl) (fun v hW => rfl) ?_
     simp only [ptr, Act.put, zA]
     refine wpX_q (.pointer (some ⟨w.heap.size, 2, none⟩)) rfl (by kernel_rfl) (fun v hW => (xo_fld0 2 w.heap.size 2 (by kernel_rfl) rfl rfl)) ?_
     simp only [ptr, Act.put, zA]
     refine wpX_q (.int .i64 hi) rfl (by kernel_rfl) (fun v hW => (xo_load1 ⟨w.heap.size, 2, none⟩ _ (cells_at (heap_keep (heap_keep Fv0_1.out B1.out) hW) 2 rfl) Tryd.underlying3 rfl rfl rfl)) ?_
     simp only [ptr, Act.put, zA]
     refine wpX_q (.pointer (some ⟨w.heap.size, 0, none⟩)) rfl (by kernel_rfl) (fun v hW => (xo_fld0 0 w.heap.size 0 (by kernel_rfl) rfl rfl)) ?_
     simp only [ptr, Act.put, zA]
     refine wpX_q (.int .i64 (k : Int)) rfl (by kernel_rfl) (fun v hW => (xo_load1 ⟨w.heap.size, 0, none⟩ _ (cells_at (heap_keep (heap_keep Fv0_1.out B1.out) hW) 0 rfl) Tryd.underlying3 rfl rfl rfl)) ?_
     simp only [ptr, Act.put, zA]
     refine wpX_q (.pointer (some ⟨0, k * 2, none⟩)) rfl (by kernel_rfl) (fun v hW => (xc_iad k (by omega) rfl rfl rfl)) ?_
     simp only [ptr, Act.put, zA]
     refine wpX_q (.pointer (some ⟨0, k * 2 + 1, none⟩)) rfl (by kernel_rfl) (fun v hW => (xo_fld 1 0 (k * 2) 1 (by kernel_rfl) rfl rfl)) ?_
     simp only [ptr, Act.put, zA]
     have C0_2 := zb B0 B1
     refine wpX_q (.int .i64 (Qu.maxN k : Int)) rfl (by kernel_rfl) (fun v hW => (xo_load1 ⟨0, k * 2 + 1, none⟩ _ (Gc.max ((HG.out.keep C0_2.out).keep hW) k (by omega)) Tryd.underlying3 rfl rfl rfl)) ?_
     simp only [ptr, Act.put, zA]
     refine wpX_q (.bool false) rfl (by kernel_rfl) (fun v hW => (xo_leqF .i64 hi ((Qu.maxN k : Nat) : Int) (by omega) rfl rfl rfl)) ?_
     simp only [ptr, Act.put, zA]
     refine wpX_q (.bool false) rfl (by kernel_rfl) (fun v hW => rfl) ?_
     simp only [ptr, Act.put, zA]
     refine wpX_q (.bool false) rfl (by kernel_rfl) (fun v hW => rfl) ?_
     simp only [ptr, Act.put, zA]
     refine wpX_nil ?_
     obtain rfl : b = false := by rw [← hb, hme] <;> simp <;> omega
     have hbf := C0_2.out
     go_wp2_with fail
     go_ret
     exact ⟨rfl, hbf⟩
   ·try simp only [List.append_eq, List.cons_append, List.nil_append]
    refine wp_ordX (.q 0 (.q 1 (.one 2 (.q 3 (.q 4 (.q 5 (.q 6 (.q 7 (.q 8 (.q 9 (.q 10 (.q 11 (.q 12 (.q 13 (.q 14 (.q 15 (.q 16 (.q 17 (.q 18 (.q 19 (.q 20 (.q 21 (.q 22 (.q 23 (.q 24 (.q 25 .nil)))))))))))))))))))))))))) (by kernel_rfl) (by kernel_rfl) (fun _ _ dt _ _ h => by first | exact h.elim | (cases dt <;> exact h)) (by kernel_rfl) (by kernel_rfl) (fun V2 hb => ?_)
    have B1 := zh hb
    clear hb
    refine wpX_q (.pointer (some ⟨w.heap.size, 0, none⟩)) rfl (by kernel_rfl) (fun v hW => (xo_fld0 0 w.heap.size 0 (by kernel_rfl) rfl rfl)) ?_
    simp only [ptr, Act.put, zA]
    refine wpX_q (.int .i64 (k : Int)) rfl (by kernel_rfl) (fun v hW => (xo_load1 ⟨w.heap.size, 0, none⟩ _ (cells_at (heap_keep (heap_keep Fv0_1.out B1.out) hW) 0 rfl) Tryd.underlying3 rfl rfl rfl)) ?_
    simp only [ptr, Act.put, zA]
    refine wpX_one rfl (by kernel_rfl) ?_
    refine hOp_call 35 Tryd.func35 (by kernel_rfl) (by kernel_rfl) _ _ #[.int .i64 (k : Int)] rfl (by kernel_rfl) ?_
    refine (isColumn_as (k : Int) true his V2).mono ?_
    rintro e W1 ⟨rfl, hw1⟩
    rw [hw1]
    clear hw1 W1
    refine ⟨_, rfl, (Below.refl V2.heap.size V2), ?_⟩
    simp only [ptr, Act.put, zA]
    refine wpX_q (.bool true) rfl (by kernel_rfl) (fun v hW => rfl) ?_
    simp only [ptr, Act.put, zA]
    refine wpX_q (.pointer (some ⟨w.heap.size, 1, none⟩)) rfl (by kernel_rfl) (fun v hW => (xo_fld0 1 w.heap.size 1 (by kernel_rfl) rfl rfl)) ?_
    simp only [ptr, Act.put, zA]
    refine wpX_q (.int .i64 lo) rfl (by kernel_rfl) (fun v hW => (xo_load1 ⟨w.heap.size, 1, none⟩ _ (cells_at (heap_keep (heap_keep Fv0_1.out B1.out) hW) 1 rfl) Tryd.underlying3 rfl rfl rfl)) ?_
    simp only [ptr, Act.put, zA]
    refine wpX_q (.bool true) rfl (by kernel_rfl) (fun v hW => (xo_geqT .i64 lo 0 (by omega) rfl rfl rfl)) ?_
    simp only [ptr, Act.put, zA]
    refine wpX_q (.bool true) rfl (by kernel_rfl) (fun v hW => rfl) ?_
    simp only [ptr, Act.put, zA]
    refine wpX_q (.bool true) rfl (by kernel_rfl) (fun v hW => rfl) ?_
    simp only [ptr, Act.put, zA]
    refine wpX_q (.pointer (some ⟨w.heap.size, 1, none⟩)) rfl (by kernel_rfl) (fun v hW => (xo_fld0 1 w.heap.size 1 (by kernel_rfl) rfl rfl)) ?_
    simp only [ptr, Act.put, zA]
    refine wpX_q (.int .i64 lo) rfl (by kernel_rfl) (fun v hW => (xo_load1 ⟨w.heap.size, 1, none⟩ _ (cells_at (heap_keep (heap_keep Fv0_1.out B1.out) hW) 1 rfl) Tryd.underlying3 rfl rfl rfl)) ?_
    simp only [ptr, Act.put, zA]
    refine wpX_q (.pointer (some ⟨w.heap.size, 2, none⟩)) rfl (by kernel_rfl) (fun v hW => (xo_fld0 2 w.heap.size 2 (by kernel_rfl) rfl rfl)) ?_
    simp only [ptr, Act.put, zA]
    refine wpX_q (.int .i64 hi) rfl (by kernel_rfl) (fun v hW => (xo_load1 ⟨w.heap.size, 2, none⟩ _ (cells_at (heap_keep (heap_keep Fv0_1.out B1.out) hW) 2 rfl) Tryd.underlying3 rfl rfl rfl)) ?_
    simp only [ptr, Act.put, zA]
    refine wpX_q (.bool false) rfl (by kernel_rfl) (fun v hW => (xo_leqF .i64 lo hi (by omega) rfl rfl rfl)) ?_
    simp only [ptr, Act.put, zA]
    refine wpX_q (.bool false) rfl (by kernel_rfl) (fun v hW => rfl) ?_
    simp only [ptr, Act.put, zA]
    refine wpX_q (.bool false) rfl (by kernel_rfl) (fun v hW => rfl) ?_
    simp only [ptr, Act.put, zA]
    refine wpX_skip rfl (by kernel_rfl) ?_
    try simp only [ptr, Act.put, zA]
    refine wpX_skip rfl (by kernel_rfl) ?_
    try simp only [ptr, Act.put, zA]
    refine wpX_skip rfl (by kernel_rfl) ?_
    try simp only [ptr, Act.put, zA]
    refine wpX_skip rfl (by kernel_rfl) ?_
    try simp only [ptr, Act.put, zA]
    refine wpX_skip rfl (by kernel_rfl) ?_
    try simp only [ptr, Act.put, zA]
    refine wpX_skip rfl (by kernel_rfl) ?_
    try simp only [ptr, Act.put, zA]
    refine wpX_skip rfl (by kernel_rfl) ?_
    try simp only [ptr, Act.put, zA]
    refine wpX_skip rfl (by kernel_rfl) ?_
    try simp only [ptr, Act.put, zA]
    refine wpX_q (.bool false) rfl (by kernel_rfl) (fun v hW => rfl) ?_
    simp only [ptr, Act.put, zA]
    refine wpX_q (.bool false) rfl (by kernel_rfl) (fun v hW => rfl) ?_
    simp only [ptr, Act.put, zA]
    refine wpX_nil ?_
    obtain rfl : b = false := by rw [← hb, hme] <;> simp <;> omega
    have C0_2 := zb B0 B1
    have hbf := C0_2.out
    go_wp2_with fail
    go_ret
    exact ⟨rfl, hbf⟩
  ·try simp only [List.append_eq, List.cons_append, List.nil_append]
   refine wp_ordX (.q 0 (.q 1 (.one 2 (.q 3 (.q 4 (.q 5 (.q 6 (.q 7 (.q 8 (.q 9 (.q 10 (.q 11 (.q 12 (.q 13 (.q 14 (.q 15 (.q 16 (.q 17 (.q 18 (.q 19 (.q 20 (.q 21 (.q 22 (.q 23 (.q 24 (.q 25 .nil)))))))))))))))))))))))))) (by kernel_rfl) (by kernel_rfl) (fun _ _ dt _ _ h => by first | exact h.elim | (cases dt <;> exact h)) (by kernel_rfl) (by kernel_rfl) (fun V2 hb => ?_)
   have B1 := zh hb
   clear hb
   refine wpX_q (.pointer (some ⟨w.heap.size, 0, none⟩)) rfl (by kernel_rfl) (fun v hW => (xo_fld0 0 w.heap.size 0 (by kernel_rfl) rfl rfl)) ?_
   simp only [ptr, Act.put, zA]
   refine wpX_q (.int .i64 (k : Int)) rfl (by kernel_rfl) (fun v hW => (xo_load1 ⟨w.heap.size, 0, none⟩ _ (cells_at (heap_keep (heap_keep Fv0_1.out B1.out) hW) 0 rfl) Tryd.underlying3 rfl rfl rfl)) ?_
   simp only [ptr, Act.put, zA]
   refine wpX_one rfl (by kernel_rfl) ?_
   refine hOp_call 35 Tryd.func35 (by kernel_rfl) (by kernel_rfl) _ _ #[.int .i64 (k : Int)] rfl (by kernel_rfl) ?_
   refine (isColumn_as (k : Int) true his V2).mono ?_
   rintro e W1 ⟨rfl, hw1⟩
   rw [hw1]
   clear hw1 W1
   refine ⟨_, rfl, (Below.refl V2.heap.size V2), ?_⟩
   simp only [ptr, Act.put, zA]
   refine wpX_q (.bool true) rfl (by kernel_rfl) (fun v hW => rfl) ?_
   simp only [ptr, Act.put, zA]
   refine wpX_q (.pointer (some ⟨w.heap.size, 1, none⟩)) rfl (by kernel_rfl) (fun v hW => (xo_fld0 1 w.heap.size 1 (by kernel_rfl) rfl rfl)) ?_
   simp only [ptr, Act.put, zA]
   refine wpX_q (.int .i64 lo) rfl (by kernel_rfl) (fun v hW => (xo_load1 ⟨w.heap.size, 1, none⟩ _ (cells_at (heap_keep (heap_keep Fv0_1.out B1.out) hW) 1 rfl) Tryd.underlying3 rfl rfl rfl)) ?_
   simp only [ptr, Act.put, zA]
   refine wpX_q (.bool false) rfl (by kernel_rfl) (fun v hW => (xo_geqF .i64 lo 0 (by omega) rfl rfl rfl)) ?_
   simp only [ptr, Act.put, zA]
   refine wpX_q (.bool false) rfl (by kernel_rfl) (fun v hW => rfl) ?_
   simp only [ptr, Act.put, zA]
   refine wpX_q (.bool false) rfl (by kernel_rfl) (fun v hW => rfl) ?_
   simp only [ptr, Act.put, zA]
   refine wpX_skip rfl (by kernel_rfl) ?_
   try simp only [ptr, Act.put, zA]
   refine wpX_skip rfl (by kernel_rfl) ?_
   try simp only [ptr, Act.put, zA]
   refine wpX_skip rfl (by kernel_rfl) ?_
   try simp only [ptr, Act.put, zA]
   refine wpX_skip rfl (by kernel_rfl) ?_
   try simp only [ptr, Act.put, zA]
   refine wpX_skip rfl (by kernel_rfl) ?_
   try simp only [ptr, Act.put, zA]
   refine wpX_q (.bool false) rfl (by kernel_rfl) (fun v hW => rfl) ?_
   simp only [ptr, Act.put, zA]
   refine wpX_q (.bool false) rfl (by kernel_rfl) (fun v hW => rfl) ?_
   simp only [ptr, Act.put, zA]
   refine wpX_skip rfl (by kernel_rfl) ?_
   try simp only [ptr, Act.put, zA]
   refine wpX_skip rfl (by kernel_rfl) ?_
   try simp only [ptr, Act.put, zA]
   refine wpX_skip rfl (by kernel_rfl) ?_
   try simp only [ptr, Act.put, zA]
   refine wpX_skip rfl (by kernel_rfl) ?_
   try simp only [ptr, Act.put, zA]
   refine wpX_skip rfl (by kernel_rfl) ?_
   try simp only [ptr, Act.put, zA]
   refine wpX_skip rfl (by kernel_rfl) ?_
   try simp only [ptr, Act.put, zA]
   refine wpX_skip rfl (by kernel_rfl) ?_
   try simp only [ptr, Act.put, zA]
   refine wpX_skip rfl (by kernel_rfl) ?_
   try simp only [ptr, Act.put, zA]
   refine wpX_q (.bool false) rfl (by kernel_rfl) (fun v hW => rfl) ?_
   simp only [ptr, Act.put, zA]
   refine wpX_q (.bool false) rfl (by kernel_rfl) (fun v hW => rfl) ?_
   simp only [ptr, Act.put, zA]
   refine wpX_nil ?_
   obtain rfl : b = false := by rw [← hb, hme] <;> simp <;> omega
   have C0_2 := zb B0 B1
   have hbf := C0_2.out
   go_wp2_with fail
   go_ret
   exact ⟨rfl, hbf⟩
set_option maxRecDepth 100000 in
set_option maxHeartbeats 32000000 in
theorem validFilter_as (A : Option Addr) (n c : Nat) (cs : List Qu.Ci) (b : Bool) (hb : Qu.vL cs = b) (w : World) (hG : Gc w) (hL : Sg ciC 3 w A n c cs) :
  Calls Tryd.prog 31 #[.slice A n c] w fun e w' => e = .returned (.bool b) ∧ Below w.heap.size w w' := by
 have HL := zh hL
 have hln := hL.len
 have hlc := hL.cap
 have hlt := hL.top
 have HG := zh hG
 clear hL hG
 go_enter Tryd.func31, Tryd.ntmps31
 go_upto_region 1 with fail
 refine wp_region_lit ?_
 refine zr (.slice A n c) w rfl ?_
 simp only [Act.put, zA]
 refine zr (.int .i64 (n : Int)) w (xo_len A n c Tryd.underlying28 rfl rfl) ?_
 simp only [Act.put, zA]
 refine zr (.int .i64 0) w rfl ?_
 simp only [Act.put, zA]
 refine wpList_nil ?_
 have O0 := (Below.refl w.heap.size w)
 have B0 := zh (Below.refl w.heap.size w)
 go_wp2_with fail
 go_loopw [7] (fun p wr => ∃ i : Nat, i ≤ n ∧ p = .int .i64 i ∧ (cs.take i).all Qu.vC = true ∧ Below w.heap.size w wr) (fun p _ => n - (intOf p).toNat)
 case atStart => exact ⟨0, Nat.zero_le _, rfl, (by simp), O0⟩
 case round =>
  clear O0
  obtain ⟨wo, rfl⟩ : ∃ wo : World, wo = wr := ⟨_, rfl⟩
  obtain ⟨i, hi, rfl, hHALL, hb0⟩ := hrel
  have hbr := hb0
  clear B0
  have B0 := zh hbr
  clear hbr
  have HALL := zh hHALL
  clear hb0 hHALL
  by_cases hlt2 : i < n
  ·have hci2 : ((i : Int) < (n : Int)) := by omega
   obtain ⟨e0, hx⟩ : ∃ e, cs[i]? = some e := ⟨_, List.getElem?_eq_getElem (by omega)⟩
   obtain ⟨col, lo, hi2⟩ := e0
   have HE := zh hx
   clear hx
   go_upto_region 2 with fail
   refine wp_region_lit ?_
   refine zr (.bool true) wo (xo_lssT .i64 (i : Int) (n : Int) (by omega) rfl rfl rfl) ?_
   simp only [Act.put, zA]
   refine wpList_nil ?_
   go_upto_region 3 with fail
   refine wp_region_lit ?_
   refine zr (.pointer (some (gad A (i * 3)))) wo (xg_idx .i64 (HL.out.keep B0.out) HE.out Tryd.underlying28 (by kernel_rfl) rfl rfl rfl) ?_
   simp only [Act.put, zA]
   refine zr (.agg #[.int .i64 col, .int .i64 lo, .int .i64 hi2]) wo (xg_loadE (E := ciC) (HL.out.keep B0.out) HE.out Tryd.underlying46 rfl (by kernel_rfl) rfl rfl) ?_
   simp only [Act.put, zA]
   refine wpList_new #[.int .i64 0, .int .i64 0, .int .i64 0] 46 (by kernel_rfl) (xo_alloc #[.int .i64 0, .int .i64 0, .int .i64 0] (by kernel_rfl) rfl) ?_
   intro b4 V2 hge h0 hb
   have Ge3 : Hid (wo.heap.size ≤ b4) := zh hge
   have B1 := zh hb
   have Fv4_4 : Hid (V2.heap[b4]? = some (.cells #[.int .i64 0, .int .i64 0, .int .i64 0] 46 (0, 0))) := zh (h0)
   have Lt5 : Hid (b4 < V2.heap.size) := zh (xp_lt Fv4_4.out)
   clear hge h0 hb
   simp only [ptr, Act.put, zA]
   refine wpList_storeW b4 #[.int .i64 0, .int .i64 0, .int .i64 0] #[.int .i64 col, .int .i64 lo, .int .i64 hi2] 46 (by kernel_rfl) Fv4_4.out (xo_storeW b4 #[.int .i64 0, .int .i64 0, .int .i64 0] #[.int .i64 col, .int .i64 lo, .int .i64 hi2] Fv4_4.out (by kernel_rfl) rfl (by simp [Value.oneCell']) rfl rfl rfl) ?_
   intro X2_6 h1 hfar hbel hsz
   have hbr := hbel _ _ Ge3.out B1.out
   clear B1
   have B1 := zh hbr
   clear hbr
   clear Fv4_4
   have Fv4_4 : Hid (X2_6.heap[b4]? = some (.cells #[.int .i64 col, .int .i64 lo, .int .i64 hi2] 46 (0, 0))) := zh (h1)
   have HszX2_6 := zh hsz
   clear h1 hfar hbel hsz
   simp only [ptr, Act.put, zA]
   refine wpList_nil ?_
   cases hm : Qu.vC ⟨col, lo, hi2⟩ with
   | false =>
    go_upto_region 4 with fail
    refine wp_region_lit ?_
    refine zr (.agg #[.int .i64 col, .int .i64 lo, .int .i64 hi2]) X2_6 (xo_loadW b4 _ Fv4_4.out Tryd.underlying46 rfl (by kernel_rfl) rfl rfl) ?_
    simp only [Act.put, zA]
    have C0_2 := zb B0 B1
    refine wpList_call (by kernel_rfl) 51 Tryd.func51 (by kernel_rfl) (by kernel_rfl) _ _ #[.agg #[.int .i64 col, .int .i64 lo, .int .i64 hi2]] rfl (by kernel_rfl) ?_
    refine (validCond_as col lo hi2 false hm X2_6 (HG.out.keep C0_2.out)).mono ?_
    rintro e V3 ⟨rfl, hb⟩
    have B2 := zh hb
    clear hb 
    refine ⟨_, rfl, ?_⟩
    simp only [Act.put, zA]
    refine zr (.bool true) V3 rfl ?_
    simp only [Act.put, zA]
    refine wpList_nil ?_
    go_upto_region 5 with fail
    refine wp_region_lit ?_
    refine zr (.bool false) V3 rfl ?_
    simp only [Act.put, zA]
    refine wpList_nil ?_
    obtain rfl : b = false := by rw [← hb, Qu.vL, all_false HE.out hm]; rfl
    have C0_3 := zb C0_2 B2
    have hbf := C0_3.out
    go_wp2_with fail
    go_ret
    exact ⟨rfl, hbf⟩
   | true =>
    go_upto_region 4 with fail
    refine wp_region_lit ?_
    refine zr (.agg #[.int .i64 col, .int .i64 lo, .int .i64 hi2]) X2_6 (xo_loadW b4 _ Fv4_4.out Tryd.underlying46 rfl (by kernel_rfl) rfl rfl) ?_
    simp only [Act.put, zA]
    have C0_2 := zb B0 B1
    refine wpList_call (by kernel_rfl) 51 Tryd.func51 (by kernel_rfl) (by kernel_rfl) _ _ #[.agg #[.int .i64 col, .int .i64 lo, .int .i64 hi2]] rfl (by kernel_rfl) ?_
    refine (validCond_as col lo hi2 true hm X2_6 (HG.out.keep C0_2.out)).mono ?_
    rintro e V3 ⟨rfl, hb⟩
    have B2 := zh hb
    clear hb 
    refine ⟨_, rfl, ?_⟩
    simp only [Act.put, zA]
    refine zr (.bool false) V3 rfl ?_
    simp only [Act.put, zA]
    refine wpList_nil ?_
    go_upto_region 6 with fail
    refine wp_region_lit ?_
    refine zr (.int .i64 ((i + 1 : Nat) : Int)) V3 (xo_addI (i : Int) 1 ((i + 1 : Nat) : Int) (by omega) (by omega) (by omega) rfl rfl rfl) ?_
    simp only [Act.put, zA]
    refine zr (.int .i64 ((i + 1 : Nat) : Int)) V3 rfl ?_
    simp only [Act.put, zA]
    refine wpList_nil ?_
    have hal := all_take HE.out HALL.out hm
    have C0_3 := zb C0_2 B2
    have hq7 := C0_3.out
    go_wp2_with fail
    go_roundw
    case rel => exact ⟨i + 1, by omega, by go_num, hal, hq7⟩
    case measure => simp [intOf]; omega
  ·have hci2 : ¬ ((i : Int) < (n : Int)) := by omega
   go_upto_region 2 with fail
   refine wp_region_lit ?_
   refine zr (.bool false) wo (xo_lssF .i64 (i : Int) (n : Int) (by omega) rfl rfl rfl) ?_
   simp only [Act.put, zA]
   refine wpList_nil ?_
   have hal : cs.all Qu.vC = true := by rw [← List.take_length (l := cs), show cs.length = i from by omega]; exact HALL.out
   by_cases h3 : n ≤ 3
   ·have hci3 : ((n : Int) ≤ 3) := by omega
    go_upto_region 7 with fail
    refine wp_region_lit ?_
    refine zr (.slice A n c) wo rfl ?_
    simp only [Act.put, zA]
    refine zr (.int .i64 (n : Int)) wo (xo_len A n c Tryd.underlying28 rfl rfl) ?_
    simp only [Act.put, zA]
    refine zr (.bool true) wo (xo_leqT .i64 (n : Int) 3 (by omega) rfl rfl rfl) ?_
    simp only [Act.put, zA]
    refine zr (.bool true) wo rfl ?_
    simp only [Act.put, zA]
    refine wpList_nil ?_
    obtain rfl : b = true := by rw [← hb, Qu.vL, hal]; simp <;> omega
    have hbf := B0.out
    go_wp2_with fail
    go_ret
    exact ⟨rfl, hbf⟩
   ·have hci3 : ¬ ((n : Int) ≤ 3) := by omega
    go_upto_region 7 with fail
    refine wp_region_lit ?_
    refine zr (.slice A n c) wo rfl ?_
    simp only [Act.put, zA]
    refine zr (.int .i64 (n : Int)) wo (xo_len A n c Tryd.underlying28 rfl rfl) ?_
    simp only [Act.put, zA]
    refine zr (.bool false) wo (xo_leqF .i64 (n : Int) 3 (by omega) rfl rfl rfl) ?_
    simp only [Act.put, zA]
    refine zr (.bool false) wo rfl ?_
    simp only [Act.put, zA]
    refine wpList_nil ?_
    obtain rfl : b = false := by rw [← hb, Qu.vL, hal]; simp <;> omega
    have hbf := B0.out
    go_wp2_with fail
    go_ret
    exact ⟨rfl, hbf⟩
end Go.Proofs.YtlicfidcfhbmpaaDoor

