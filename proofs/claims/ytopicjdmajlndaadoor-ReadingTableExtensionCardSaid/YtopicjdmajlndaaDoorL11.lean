/- Several texts in one: Qv. -/
import Derived.Test.YtopicjdmajlndaaDoorL10
namespace Go.Proofs.YtopicjdmajlndaaDoor
set_option linter.unusedVariables false
set_option linter.unusedSimpArgs false
set_option linter.unusedSectionVars false
set_option maxRecDepth 8000
open Go.RowKit Go.Proofs.YtopicjdmajlndaaDoor.K
attribute [local irreducible] wpList wpQuiet
theorem set_tabA {α : Type} {f : Nat → α} {m j : Nat} (v : α) : ((List.range m).map f).set j v = (List.range m).map fun q => if q = j then v else f q := by
  apply List.ext_getElem?
  intro i
  rw [List.getElem?_set]
  simp only [List.length_map, List.length_range, List.getElem?_map]
  by_cases e : j = i
  · subst e
    by_cases h : j < m
    · simp [h]
    · simp [h]
  · rw [if_neg e]
    by_cases h : i < m
    · simp [h, Ne.symm e]
    · simp [h]
theorem RowsU.lower {w : World} {t : TypeId} {base b2 : Nat} {bs : List Nat} {xss : List (List Nat)} (h : RowsU w t base bs xss) (hb : b2 ≤ base) : RowsU w t b2 bs xss := ⟨h.len, fun b hm => Nat.le_trans hb (h.ge b hm), h.nd, h.row⟩
/-- the columns when i readings are in, and j fields of the next -/
def colsQ (rs : List Rd) (gs : List Bool) (N i j : Nat) : List (List Nat) := (List.range 5).map fun q => fillP (colV rs gs q) N (if q < j then i + 1 else i)
theorem colsQ_get {rs : List Rd} {gs : List Bool} {N i j q : Nat} (h : q < 5) : (colsQ rs gs N i j)[q]? = some (fillP (colV rs gs q) N (if q < j then i + 1 else i)) := by
  unfold colsQ
  rw [List.getElem?_map, List.getElem?_range h]
  rfl
theorem colsQ_set {rs : List Rd} {gs : List Bool} {N i j : Nat} : (colsQ rs gs N i j).set j (fillP (colV rs gs j) N (i + 1)) = colsQ rs gs N i (j + 1) := by
  unfold colsQ
  rw [set_tabA]
  refine List.map_congr_left fun q hq => ?_
  by_cases e : q = j
  · subst e
    rw [if_pos rfl, if_pos (by omega)]
  · rw [if_neg e]
    by_cases h : q < j
    · rw [if_pos h, if_pos (by omega)]
    · rw [if_neg h, if_neg (by omega)]
theorem colsQ_five {rs : List Rd} {gs : List Bool} {N i : Nat} : colsQ rs gs N i 5 = colsQ rs gs N (i + 1) 0 := by
  unfold colsQ
  refine List.map_congr_left fun q hq => ?_
  rw [List.mem_range] at hq
  rw [if_pos hq, if_neg (by omega)]
theorem colsQ_gone {rs : List Rd} {gs : List Bool} {N i : Nat} (h : (colV rs gs 4)[i]? = some 0) (hN : i < N) : colsQ rs gs N i 4 = colsQ rs gs N i 5 := by
  unfold colsQ
  refine List.map_congr_left fun q hq => ?_
  rw [List.mem_range] at hq
  rw [if_pos hq]
  by_cases e : q < 4
  · rw [if_pos e]
  · obtain rfl : q = 4 := by omega
    rw [if_neg e]
    exact fillP_skip h hN
theorem colsQ_zero {rs : List Rd} {gs : List Bool} {N : Nat} : colsQ rs gs N 0 0 = List.replicate 5 (List.replicate N 0) := by
  unfold colsQ
  have : ∀ q, (if q < 0 then 0 + 1 else 0) = 0 := fun q => by rw [if_neg (by omega)]
  simp only [this, fillP_zero]
  rfl
theorem colsQ_all {rs : List Rd} {gs : List Bool} {n N : Nat} (h1 : rs.length = n) (h2 : gs.length = n) : colsQ rs gs N n 0 = colsN rs gs N := by
  unfold colsQ colsN
  refine List.map_congr_left fun q hq => ?_
  rw [if_neg (by omega), fillP_all h1 h2]
theorem fldN0 (r : Rd) (m : Nat) (hm : fldI r 0 = (m : Int)) (w : World) : Calls Tryd.prog 58 #[.agg #[.int .i64 r.who, .int .i64 r.when_, .int .i64 r.kind, .int .i64 r.value]] w fun e w' => e = .returned (.int .i64 (m : Int)) ∧ Below w.heap.size w w' := hm ▸ fld0_any r w
theorem fldN1 (r : Rd) (m : Nat) (hm : fldI r 1 = (m : Int)) (w : World) : Calls Tryd.prog 59 #[.agg #[.int .i64 r.who, .int .i64 r.when_, .int .i64 r.kind, .int .i64 r.value]] w fun e w' => e = .returned (.int .i64 (m : Int)) ∧ Below w.heap.size w w' := hm ▸ fld1_any r w
theorem fldN2 (r : Rd) (m : Nat) (hm : fldI r 2 = (m : Int)) (w : World) : Calls Tryd.prog 60 #[.agg #[.int .i64 r.who, .int .i64 r.when_, .int .i64 r.kind, .int .i64 r.value]] w fun e w' => e = .returned (.int .i64 (m : Int)) ∧ Below w.heap.size w w' := hm ▸ fld2_any r w
theorem fldN3 (r : Rd) (m : Nat) (hm : fldI r 3 = (m : Int)) (w : World) : Calls Tryd.prog 61 #[.agg #[.int .i64 r.who, .int .i64 r.when_, .int .i64 r.kind, .int .i64 r.value]] w fun e w' => e = .returned (.int .i64 (m : Int)) ∧ Below w.heap.size w w' := hm ▸ fld3_any r w
/-- what holds between two rounds of Columns -/
structure ColI (w : World) (N0 b b6 gh : Nat) (bs : List Nat) (N : Nat) (A : Option Addr) (n c : Nat) (rs : List Rd) (B : Option Addr) (d : Nat) (gs : List Bool) (i j : Nat) (W : World) : Prop where
  bel : Below w.heap.size w W
  sz : N0 ≤ W.heap.size
  str : W.heap[b]? = some (.cells #[.slice A n c, .slice B n d] 30 (0, 0))
  var : W.heap[b6]? = some (.cells #[.slice (some ⟨gh, 0, none⟩) 5 5] 38 (0, 0))
  hd : RowG hdC W gh 48 (bs.map (mkH N))
  row : RowsU W 50 w.heap.size bs (colsQ rs gs N i j)
section
variable {w : World} {N0 b b6 gh : Nat} {bs : List Nat} {N : Nat} {A : Option Addr} {n c : Nat} {rs : List Rd} {B : Option Addr} {d : Nat} {gs : List Bool} {i j : Nat} {W W2 : World}
theorem ColI.abide (h : ColI w N0 b b6 gh bs N A n c rs B d gs i j W) (hN : w.heap.size ≤ N0) (hb : Abide N0 W W2) : ColI w N0 b b6 gh bs N A n c rs B d gs i j W2 :=
  ⟨h.bel.trans (hb.below.mono hN), Nat.le_trans h.sz hb.below.size, hb.cells _ _ h.str rfl, hb.cells _ _ h.var rfl, hb.cells _ _ h.hd rfl, ⟨h.row.len, h.row.ge, h.row.nd, fun q e xs h1 h2 => hb.cells _ _ (h.row.row q e xs h1 h2) rfl⟩⟩
theorem ColI.keep (h : ColI w N0 b b6 gh bs N A n c rs B d gs i j W) (hb : Below W.heap.size W W2) : ColI w N0 b b6 gh bs N A n c rs B d gs i j W2 :=
  ⟨bel_step h.bel hb, Nat.le_trans h.sz hb.size, heap_keep h.str hb, heap_keep h.var hb, h.hd.keep hb, h.row.keep hb⟩
theorem ColI.store (h : ColI w N0 b b6 gh bs N A n c rs B d gs i j W) {q e j2 : Nat} {xs ys : List Nat} (hc : bs[q]? = some e) (hx : RowG wdC W e 50 xs) (hr : RowG wdC W2 e 50 ys) (hfar : ∀ k o, k ≠ e → W.heap[k]? = some o → W2.heap[k]? = some o) (hbel : ∀ B v0, B ≤ e → Below B v0 W → Below B v0 W2) (hsz : W2.heap.size = W.heap.size)
    (hq : (colsQ rs gs N i j).set q ys = colsQ rs gs N i j2) : ColI w N0 b b6 gh bs N A n c rs B d gs i j2 W2 :=
  ⟨hbel _ _ (h.row.ge e (List.mem_of_getElem? hc)) h.bel, by rw [hsz]; exact h.sz, hfar _ _ (ne_types h.str hx (by decide)) h.str, hfar _ _ (ne_types h.var hx (by decide)) h.var, hfar _ _ (ne_types h.hd hx (by decide)) h.hd, hq ▸ h.row.store hc hr hfar⟩
end
set_option maxRecDepth 100000 in
set_option maxHeartbeats 8000000 in
theorem cols_arg (A : Option Addr) (n c : Nat) (rs : List Rd) (B : Option Addr) (d : Nat) (gs : List Bool) (z : Int) (hz : z < 0 ∨ 16 < z) (w : World) (hL : Sg rdC 4 w A n c rs) (hG : Sg boC 1 w B n d gs) : Calls Tryd.prog 19 #[.agg #[.slice A n c, .slice B n d], .int .i64 z] w fun e w' => e = .returned (.tuple #[.slice none 0 0, .int .i64 1]) ∧ Below w.heap.size w w' := by
  have HL := Lib.hid hL
  have HG := Lib.hid hG
  have hln := hL.len
  have hgn := hG.len
  clear hL hG
  refine (callsIn_wide (n := 3)).1 ?_
  refine callsIn_of_wp_marks Tryd.func19 rfl trivial ?_ rfl
  simp only [Tryd.ntmps19, List.size_toArray, List.length_cons, List.length_nil, Nat.reduceAdd, Nat.reduceSub, Array.replicate_succ, Array.replicate_zero, List.push_toArray, List.append_toArray, List.nil_append, List.cons_append]
  refine wpIn_wide.2 ?_
  go_upto_region 1 with fail
  refine wp_named1 (fun V1 hb g0 hlt => ?_)
  have B0 := Lib.hid hb
  have Fv0_2 : Hid (V1.heap[w.heap.size]? = some (.cells #[.slice A n c, .slice B n d] 30 (0, 0))) := Lib.hid (g0)
  have Gb0 : Hid (w.heap.size ≤ w.heap.size) := Lib.hid (by omega)
  clear hb g0 hlt
  have Lt0 : Hid (w.heap.size < V1.heap.size) := Lib.hid (xp_lt Fv0_2.out)
  by_cases hneg : z < 0
  · refine wp_region_lit ?_
    refine wpList_run (by kernel_rfl) (.int .i64 z) V1 rfl ?_
    simp only [Act.put, List.setIfInBounds_toArray, List.set_cons_zero, List.set_cons_succ]
    refine wpList_run (by kernel_rfl) (.bool true) V1 (xo_lssT .i64 z 0 (by omega) rfl rfl rfl) ?_
    simp only [Act.put, List.setIfInBounds_toArray, List.set_cons_zero, List.set_cons_succ]
    refine wpList_run (by kernel_rfl) (.bool true) V1 rfl ?_
    simp only [Act.put, List.setIfInBounds_toArray, List.set_cons_zero, List.set_cons_succ]
    refine wpList_skip (by kernel_rfl) ?_
    try simp only [Act.put, List.setIfInBounds_toArray, List.set_cons_zero, List.set_cons_succ]
    refine wpList_skip (by kernel_rfl) ?_
    try simp only [Act.put, List.setIfInBounds_toArray, List.set_cons_zero, List.set_cons_succ]
    refine wpList_run (by kernel_rfl) (.bool true) V1 rfl ?_
    simp only [Act.put, List.setIfInBounds_toArray, List.set_cons_zero, List.set_cons_succ]
    refine wpList_nil ?_
    go_upto_region 2 with fail
    refine wp_region_lit ?_
    refine wpList_run (by kernel_rfl) (.slice none 0 0) V1 rfl ?_
    simp only [Act.put, List.setIfInBounds_toArray, List.set_cons_zero, List.set_cons_succ]
    refine wpList_run (by kernel_rfl) (.int .i64 1) V1 rfl ?_
    simp only [Act.put, List.setIfInBounds_toArray, List.set_cons_zero, List.set_cons_succ]
    refine wpList_nil ?_
    go_wp2_with fail
    (try simp only [Exit.inBlock, Exit.then])
    exact ⟨_, results_tmp2 rfl _ _ _, rfl, B0.out⟩
  · have hge : z > 16 := by omega
    refine wp_region_lit ?_
    refine wpList_run (by kernel_rfl) (.int .i64 z) V1 rfl ?_
    simp only [Act.put, List.setIfInBounds_toArray, List.set_cons_zero, List.set_cons_succ]
    refine wpList_run (by kernel_rfl) (.bool false) V1 (xo_lssF .i64 z 0 (by omega) rfl rfl rfl) ?_
    simp only [Act.put, List.setIfInBounds_toArray, List.set_cons_zero, List.set_cons_succ]
    refine wpList_run (by kernel_rfl) (.bool false) V1 rfl ?_
    simp only [Act.put, List.setIfInBounds_toArray, List.set_cons_zero, List.set_cons_succ]
    refine wpList_run (by kernel_rfl) (.int .i64 z) V1 rfl ?_
    simp only [Act.put, List.setIfInBounds_toArray, List.set_cons_zero, List.set_cons_succ]
    refine wpList_run (by kernel_rfl) (.bool true) V1 (xo_gtrT .i64 z 16 (by omega) rfl rfl rfl) ?_
    simp only [Act.put, List.setIfInBounds_toArray, List.set_cons_zero, List.set_cons_succ]
    refine wpList_run (by kernel_rfl) (.bool true) V1 rfl ?_
    simp only [Act.put, List.setIfInBounds_toArray, List.set_cons_zero, List.set_cons_succ]
    refine wpList_nil ?_
    go_upto_region 2 with fail
    refine wp_region_lit ?_
    refine wpList_run (by kernel_rfl) (.slice none 0 0) V1 rfl ?_
    simp only [Act.put, List.setIfInBounds_toArray, List.set_cons_zero, List.set_cons_succ]
    refine wpList_run (by kernel_rfl) (.int .i64 1) V1 rfl ?_
    simp only [Act.put, List.setIfInBounds_toArray, List.set_cons_zero, List.set_cons_succ]
    refine wpList_nil ?_
    go_wp2_with fail
    (try simp only [Exit.inBlock, Exit.then])
    exact ⟨_, results_tmp2 rfl _ _ _, rfl, B0.out⟩
set_option maxRecDepth 100000 in
set_option maxHeartbeats 8000000 in
theorem cols_big (A : Option Addr) (n c : Nat) (rs : List Rd) (B : Option Addr) (d : Nat) (gs : List Bool) (lg : Nat) (hlg : lg ≤ 16) (hnN : 2 ^ lg < n) (w : World) (hL : Sg rdC 4 w A n c rs) (hG : Sg boC 1 w B n d gs) : Calls Tryd.prog 19 #[.agg #[.slice A n c, .slice B n d], .int .i64 (lg : Int)] w fun e w' => e = .returned (.tuple #[.slice none 0 0, .int .i64 2]) ∧ Below w.heap.size w w' := by
  have HL := Lib.hid hL
  have HG := Lib.hid hG
  have hln := hL.len
  have hgn := hG.len
  clear hL hG
  refine (callsIn_wide (n := 3)).1 ?_
  refine callsIn_of_wp_marks Tryd.func19 rfl trivial ?_ rfl
  simp only [Tryd.ntmps19, List.size_toArray, List.length_cons, List.length_nil, Nat.reduceAdd, Nat.reduceSub, Array.replicate_succ, Array.replicate_zero, List.push_toArray, List.append_toArray, List.nil_append, List.cons_append]
  refine wpIn_wide.2 ?_
  go_upto_region 1 with fail
  refine wp_named1 (fun V1 hb g0 hlt => ?_)
  have B0 := Lib.hid hb
  have Fv0_2 : Hid (V1.heap[w.heap.size]? = some (.cells #[.slice A n c, .slice B n d] 30 (0, 0))) := Lib.hid (g0)
  have Gb0 : Hid (w.heap.size ≤ w.heap.size) := Lib.hid (by omega)
  clear hb g0 hlt
  have Lt0 : Hid (w.heap.size < V1.heap.size) := Lib.hid (xp_lt Fv0_2.out)
  have hz0 : ¬ (lg : Int) < 0 := by omega
  have hz1 : ¬ (lg : Int) > 16 := by omega
  obtain ⟨N, hN⟩ : ∃ N, 2 ^ lg = N := ⟨_, rfl⟩
  have hNt : 1 ≤ N ∧ N ≤ 65536 := by rw [← hN]; exact ⟨Nat.pow_pos (by omega), Nat.pow_le_pow_right (by omega) hlg⟩
  rw [hN] at hnN
  have h1N : 1 * 2 ^ lg = N := by rw [Nat.one_mul, hN]
  have HNN := Lib.hid hN
  clear hN
  have hci1 : ((n : Int) > (N : Int)) := by omega
  refine wp_region_lit ?_
  refine wpList_run (by kernel_rfl) (.int .i64 (lg : Int)) V1 rfl ?_
  simp only [Act.put, List.setIfInBounds_toArray, List.set_cons_zero, List.set_cons_succ]
  refine wpList_run (by kernel_rfl) (.bool false) V1 (xo_lssF .i64 (lg : Int) 0 (by omega) rfl rfl rfl) ?_
  simp only [Act.put, List.setIfInBounds_toArray, List.set_cons_zero, List.set_cons_succ]
  refine wpList_run (by kernel_rfl) (.bool false) V1 rfl ?_
  simp only [Act.put, List.setIfInBounds_toArray, List.set_cons_zero, List.set_cons_succ]
  refine wpList_run (by kernel_rfl) (.int .i64 (lg : Int)) V1 rfl ?_
  simp only [Act.put, List.setIfInBounds_toArray, List.set_cons_zero, List.set_cons_succ]
  refine wpList_run (by kernel_rfl) (.bool false) V1 (xo_gtrF .i64 (lg : Int) 16 (by omega) rfl rfl rfl) ?_
  simp only [Act.put, List.setIfInBounds_toArray, List.set_cons_zero, List.set_cons_succ]
  refine wpList_run (by kernel_rfl) (.bool false) V1 rfl ?_
  simp only [Act.put, List.setIfInBounds_toArray, List.set_cons_zero, List.set_cons_succ]
  refine wpList_nil ?_
  go_upto_region 3 with fail
  refine wp_later_lex (by kernel_rfl) (lexOK_of (by kernel_rfl) (by kernel_rfl)) ?_
  refine wpQuiet_val (by kernel_rfl) (.pointer (some ⟨w.heap.size, 0, none⟩)) (fun v hv => (xo_fld0 0 w.heap.size 0 (by kernel_rfl) rfl rfl)) ?_
  simp only [Act.put, List.setIfInBounds_toArray, List.set_cons_zero, List.set_cons_succ]
  refine wpQuiet_val (by kernel_rfl) (.slice A n c) (fun v hv => (xo_load1 ⟨w.heap.size, 0, none⟩ _ (cells_at (heap_keep Fv0_2.out (later_bel hv)) 0 rfl) Tryd.underlying27 rfl rfl rfl)) ?_
  simp only [Act.put, List.setIfInBounds_toArray, List.set_cons_zero, List.set_cons_succ]
  refine wpQuiet_val (by kernel_rfl) (.int .i64 (n : Int)) (fun v hv => (xo_len A n c Tryd.underlying27 rfl rfl)) ?_
  simp only [Act.put, List.setIfInBounds_toArray, List.set_cons_zero, List.set_cons_succ]
  refine wpQuiet_val (by kernel_rfl) (.int .i64 (lg : Int)) (fun v hv => rfl) ?_
  simp only [Act.put, List.setIfInBounds_toArray, List.set_cons_zero, List.set_cons_succ]
  refine wpQuiet_val (by kernel_rfl) (.int .i64 (N : Int)) (fun v hv => (xo_shlI .i64 1 lg N h1N (by omega) rfl rfl rfl)) ?_
  simp only [Act.put, List.setIfInBounds_toArray, List.set_cons_zero, List.set_cons_succ]
  refine wpQuiet_val (by kernel_rfl) (.bool true) (fun v hv => (xo_gtrT .i64 (n : Int) (N : Int) (by omega) rfl rfl rfl)) ?_
  simp only [Act.put, List.setIfInBounds_toArray, List.set_cons_zero, List.set_cons_succ]
  refine wpQuiet_nil ?_
  intro X1_2
  have hb := X1_2.below
  generalize X1_2.at = V2 at *
  have B1 := Lib.hid hb
  clear hb
  go_upto_region 4 with fail
  refine wp_region_lit ?_
  refine wpList_run (by kernel_rfl) (.slice none 0 0) V2 rfl ?_
  simp only [Act.put, List.setIfInBounds_toArray, List.set_cons_zero, List.set_cons_succ]
  refine wpList_run (by kernel_rfl) (.int .i64 2) V2 rfl ?_
  simp only [Act.put, List.setIfInBounds_toArray, List.set_cons_zero, List.set_cons_succ]
  refine wpList_nil ?_
  go_wp2_with fail
  (try simp only [Exit.inBlock, Exit.then])
  have C0_2 := Lib.hid (bel_step B0.out B1.out)
  exact ⟨_, results_tmp2 rfl _ _ _, rfl, C0_2.out⟩
set_option maxRecDepth 100000 in
set_option maxHeartbeats 16000000 in
theorem cols_yes (A : Option Addr) (n c : Nat) (rs : List Rd) (B : Option Addr) (d : Nat) (gs : List Bool) (lg : Nat) (hlg : lg ≤ 16) (hnN : n ≤ 2 ^ lg) (hv : ∀ r ∈ rs, vR r = true) (w : World) (hL : Sg rdC 4 w A n c rs) (hG : Sg boC 1 w B n d gs) : Calls Tryd.prog 19 #[.agg #[.slice A n c, .slice B n d], .int .i64 (lg : Int)] w fun e w' => ∃ g bs, e = .returned (.tuple #[.slice (some ⟨g, 0, none⟩) 5 5, .int .i64 0]) ∧ RowG hdC w' g 48 (bs.map (mkH (2 ^ lg))) ∧ RowsU w' 50 w.heap.size bs (colsN rs gs (2 ^ lg)) ∧ w.heap.size ≤ g ∧ Below w.heap.size w w' := by
  have HV := Lib.hid hv
  clear hv
  have HL := Lib.hid hL
  have HG := Lib.hid hG
  have hln := hL.len
  have hgn := hG.len
  clear hL hG
  refine (callsIn_wide (n := 3)).1 ?_
  refine callsIn_of_wp_marks Tryd.func19 rfl trivial ?_ rfl
  simp only [Tryd.ntmps19, List.size_toArray, List.length_cons, List.length_nil, Nat.reduceAdd, Nat.reduceSub, Array.replicate_succ, Array.replicate_zero, List.push_toArray, List.append_toArray, List.nil_append, List.cons_append]
  refine wpIn_wide.2 ?_
  go_upto_region 1 with fail
  refine wp_named1 (fun V1 hb g0 hlt => ?_)
  have B0 := Lib.hid hb
  have Fv0_2 : Hid (V1.heap[w.heap.size]? = some (.cells #[.slice A n c, .slice B n d] 30 (0, 0))) := Lib.hid (g0)
  have Gb0 : Hid (w.heap.size ≤ w.heap.size) := Lib.hid (by omega)
  clear hb g0 hlt
  have Lt0 : Hid (w.heap.size < V1.heap.size) := Lib.hid (xp_lt Fv0_2.out)
  have hz0 : ¬ (lg : Int) < 0 := by omega
  have hz1 : ¬ (lg : Int) > 16 := by omega
  obtain ⟨N, hN⟩ : ∃ N, 2 ^ lg = N := ⟨_, rfl⟩
  have hNt : 1 ≤ N ∧ N ≤ 65536 := by rw [← hN]; exact ⟨Nat.pow_pos (by omega), Nat.pow_le_pow_right (by omega) hlg⟩
  rw [hN] at hnN
  have h1N : 1 * 2 ^ lg = N := by rw [Nat.one_mul, hN]
  have HNN := Lib.hid hN
  clear hN
  have hci1 : ¬ ((n : Int) > (N : Int)) := by omega
  refine wp_region_lit ?_
  refine wpList_run (by kernel_rfl) (.int .i64 (lg : Int)) V1 rfl ?_
  simp only [Act.put, List.setIfInBounds_toArray, List.set_cons_zero, List.set_cons_succ]
  refine wpList_run (by kernel_rfl) (.bool false) V1 (xo_lssF .i64 (lg : Int) 0 (by omega) rfl rfl rfl) ?_
  simp only [Act.put, List.setIfInBounds_toArray, List.set_cons_zero, List.set_cons_succ]
  refine wpList_run (by kernel_rfl) (.bool false) V1 rfl ?_
  simp only [Act.put, List.setIfInBounds_toArray, List.set_cons_zero, List.set_cons_succ]
  refine wpList_run (by kernel_rfl) (.int .i64 (lg : Int)) V1 rfl ?_
  simp only [Act.put, List.setIfInBounds_toArray, List.set_cons_zero, List.set_cons_succ]
  refine wpList_run (by kernel_rfl) (.bool false) V1 (xo_gtrF .i64 (lg : Int) 16 (by omega) rfl rfl rfl) ?_
  simp only [Act.put, List.setIfInBounds_toArray, List.set_cons_zero, List.set_cons_succ]
  refine wpList_run (by kernel_rfl) (.bool false) V1 rfl ?_
  simp only [Act.put, List.setIfInBounds_toArray, List.set_cons_zero, List.set_cons_succ]
  refine wpList_nil ?_
  go_upto_region 3 with fail
  refine wp_later_lex (by kernel_rfl) (lexOK_of (by kernel_rfl) (by kernel_rfl)) ?_
  refine wpQuiet_val (by kernel_rfl) (.pointer (some ⟨w.heap.size, 0, none⟩)) (fun v hv => (xo_fld0 0 w.heap.size 0 (by kernel_rfl) rfl rfl)) ?_
  simp only [Act.put, List.setIfInBounds_toArray, List.set_cons_zero, List.set_cons_succ]
  refine wpQuiet_val (by kernel_rfl) (.slice A n c) (fun v hv => (xo_load1 ⟨w.heap.size, 0, none⟩ _ (cells_at (heap_keep Fv0_2.out (later_bel hv)) 0 rfl) Tryd.underlying27 rfl rfl rfl)) ?_
  simp only [Act.put, List.setIfInBounds_toArray, List.set_cons_zero, List.set_cons_succ]
  refine wpQuiet_val (by kernel_rfl) (.int .i64 (n : Int)) (fun v hv => (xo_len A n c Tryd.underlying27 rfl rfl)) ?_
  simp only [Act.put, List.setIfInBounds_toArray, List.set_cons_zero, List.set_cons_succ]
  refine wpQuiet_val (by kernel_rfl) (.int .i64 (lg : Int)) (fun v hv => rfl) ?_
  simp only [Act.put, List.setIfInBounds_toArray, List.set_cons_zero, List.set_cons_succ]
  refine wpQuiet_val (by kernel_rfl) (.int .i64 (N : Int)) (fun v hv => (xo_shlI .i64 1 lg N h1N (by omega) rfl rfl rfl)) ?_
  simp only [Act.put, List.setIfInBounds_toArray, List.set_cons_zero, List.set_cons_succ]
  refine wpQuiet_val (by kernel_rfl) (.bool false) (fun v hv => (xo_gtrF .i64 (n : Int) (N : Int) (by omega) rfl rfl rfl)) ?_
  simp only [Act.put, List.setIfInBounds_toArray, List.set_cons_zero, List.set_cons_succ]
  refine wpQuiet_nil ?_
  intro X1_2
  have hb := X1_2.below
  generalize X1_2.at = V2 at *
  have B1 := Lib.hid hb
  clear hb
  go_upto_region 5 with fail
  refine wp_region_lit ?_
  refine wpList_run (by kernel_rfl) (.int .i64 (lg : Int)) V2 rfl ?_
  simp only [Act.put, List.setIfInBounds_toArray, List.set_cons_zero, List.set_cons_succ]
  refine wpList_run (by kernel_rfl) (.int .i64 (N : Int)) V2 (xo_shlI .i64 1 lg N h1N (by omega) rfl rfl rfl) ?_
  simp only [Act.put, List.setIfInBounds_toArray, List.set_cons_zero, List.set_cons_succ]
  have C0_2 := Lib.hid (bel_step B0.out B1.out)
  refine wpList_call (by kernel_rfl) 45 Tryd.func45 (by kernel_rfl) (by kernel_rfl) _ _ #[.int .i64 5, .int .i64 (N : Int)] rfl (by kernel_rfl) ?_
  refine (zeros_any 5 N (by omega) (by omega) V2).mono ?_
  rintro e V3 ⟨gh, rfl, bs, hh, hu, hgh, hgn2, hb⟩
  have B2 := Lib.hid hb
  have hbl5 : bs.length = 5 := hu.len
  have HBL := Lib.hid hbl5
  have hu2 := RowsU.lower hu C0_2.out.size
  have hwg := Nat.le_trans C0_2.out.size hgh
  clear hu hgh hbl5
  have HH := Lib.hid hh
  have HU := Lib.hid hu2
  clear hb hh hu2
  refine ⟨_, rfl, ?_⟩
  simp only [Act.put, List.setIfInBounds_toArray, List.set_cons_zero, List.set_cons_succ]
  refine wpList_new #[.slice none 0 0] 38 (by kernel_rfl) (xo_alloc1 (.slice none 0 0) rfl (by kernel_rfl) rfl) ?_
  intro b6 V4 hge h0 hb
  have C1_3 := Lib.hid (bel_step B1.out B2.out)
  have N3_0 : Hid (w.heap.size ≠ b6) := Lib.hid (xp_lt0 (heap_keep Fv0_2.out C1_3.out) hge)
  have Ge4 : Hid (V3.heap.size ≤ b6) := Lib.hid hge
  have B3 := Lib.hid hb
  have Fv5_6 : Hid (V4.heap[b6]? = some (.cells #[.slice none 0 0] 38 (0, 0))) := Lib.hid (h0)
  have Lt6 : Hid (b6 < V4.heap.size) := Lib.hid (xp_lt Fv5_6.out)
  clear hge h0 hb
  simp only [ptr, Act.put, List.setIfInBounds_toArray, List.set_cons_zero, List.set_cons_succ]
  refine wpList_store1 b6 0 #[.slice none 0 0] (.slice (some ⟨gh, 0, none⟩) 5 5) 38 (by kernel_rfl) Fv5_6.out (xo_store1 b6 0 #[.slice none 0 0] _ (.slice (some ⟨gh, 0, none⟩) 5 5) Fv5_6.out rfl (by kernel_rfl) rfl rfl rfl rfl) ?_
  intro X4_7 h1 hfar hbel hsz
  have hbr := hbel _ _ Ge4.out B3.out
  clear B3
  have B3 := Lib.hid hbr
  clear hbr
  clear Fv5_6
  have Fv5_6 : Hid (X4_7.heap[b6]? = some (.cells #[.slice (some ⟨gh, 0, none⟩) 5 5] 38 (0, 0))) := Lib.hid (h1)
  have HszX4_7 := Lib.hid hsz
  clear h1 hfar hbel hsz
  simp only [ptr, Act.put, List.setIfInBounds_toArray, List.set_cons_zero, List.set_cons_succ]
  refine wpList_nil ?_
  go_upto_region 6 with fail
  refine wp_region_lit ?_
  have C1_4 := Lib.hid (bel_step C1_3.out B3.out)
  refine wpList_run (by kernel_rfl) (.agg #[.slice A n c, .slice B n d]) X4_7 (xo_loadW w.heap.size _ (heap_keep Fv0_2.out C1_4.out) Tryd.underlying30 rfl (by kernel_rfl) rfl rfl) ?_
  simp only [Act.put, List.setIfInBounds_toArray, List.set_cons_zero, List.set_cons_succ]
  refine wpList_call (by kernel_rfl) 46 Tryd.func46 (by kernel_rfl) (by kernel_rfl) _ _ #[.agg #[.slice A n c, .slice B n d]] rfl (by kernel_rfl) ?_
  refine (entries_any A n c B d X4_7).mono ?_
  rintro e V5 ⟨b, rfl, hb0, hbg, hb⟩
  have B4 := Lib.hid hb
  have HS := Lib.hid hb0
  clear hb hb0
  refine ⟨_, rfl, ?_⟩
  simp only [Act.put, List.setIfInBounds_toArray, List.set_cons_zero, List.set_cons_succ]
  refine wpList_nil ?_
  have C0_3 := Lib.hid (bel_step C0_2.out B2.out)
  have C0_4 := Lib.hid (bel_step C0_3.out B3.out)
  have C0_5 := Lib.hid (bel_step C0_4.out B4.out)
  have C3_5 := Lib.hid (bel_step B3.out B4.out)
  have HJ0 : Hid (ColI w V5.heap.size b b6 gh bs N A n c rs B d gs 0 0 V5) := Lib.hid ⟨C0_5.out, Nat.le_refl _, HS.out, (heap_keep Fv5_6.out B4.out), (HH.out.keep C3_5.out), by rw [colsQ_zero]; exact (HU.out.keep C3_5.out)⟩
  have hwN : w.heap.size ≤ V5.heap.size := C0_5.out.size
  clear HH
  clear HU
  clear HS
  clear Fv5_6
  generalize hNN : V5.heap.size = N0 at *
  go_wp2_with fail
  refine (wpIn_wide (n := 3)).1 ?_
  refine wpIn_rangeAll (gf := 62) (lb := #[.pointer (some ⟨b, 0, none⟩)]) rfl (enters_of Tryd.func62 (by kernel_rfl) rfl) entV (fun _ => rfl) (entL rs gs) (EntG b A n c rs B d gs) (entries_iter b A n c rs B d gs (by omega)) (fun i W => ColI w N0 b b6 gh bs N A n c rs B d gs i 0 W) ?jg ?jj HJ0.out 3 ?round ?fin
  case jg => exact fun i W h => ⟨h.str, HL.out.keep h.bel, HG.out.keep h.bel⟩
  case jj =>
    intro i W W2 h hb
    rw [hNN] at hb
    exact h.abide hwN hb
  case round =>
    intro l i x W hx hl2 hj
    obtain ⟨r, g, hr, hg, rfl⟩ := entL_of hx
    have HE := Lib.hid hr
    have HE2 := Lib.hid hg
    have hin := (List.getElem?_eq_some_iff.1 hr).1
    rw [hln] at hin
    have hvr := HV.out r (List.mem_of_getElem? hr)
    have HGV := Lib.hid (colV_live (rs := rs) (gs := gs) (i := 4) (by omega) hg)
    clear hx hr hg HJ0
    simp only [entV]
    rw [zip2]
    simp only [List.setIfInBounds_toArray, List.set_cons_zero, List.set_cons_succ]
    refine wpIn_seq ?_
    refine wpR_plain (by kernel_rfl) (by simp [LetsOut, Exit.then, Exit.inBlock, endAll]) ?_
    refine wpList_run (by kernel_rfl) (.int .i64 (i : Int)) W rfl ?_
    simp only [ptr, Act.put, List.setIfInBounds_toArray, List.set_cons_zero, List.set_cons_succ]
    refine wpList_nil ?_
    simp only [Exit.then]
    refine wpR_plain (by kernel_rfl) (by simp [LetsOut, Exit.then, Exit.inBlock, endAll]) ?_
    refine wpList_decl #[.int .i64 0, .int .i64 0, .int .i64 0, .int .i64 0, .bool false] #[.int .i64 r.who, .int .i64 r.when_, .int .i64 r.kind, .int .i64 r.value, .bool (!g)] 83 (by kernel_rfl) (xo_alloc _ (by kernel_rfl) rfl) (fun _ => by kernel_rfl) (fun b W h0 => xo_storeW b _ _ h0 (by kernel_rfl) rfl (by simp [Value.oneCell']) rfl rfl rfl) ?_
    intro b8 W1 hge h0 hb
    simp only [ptr, Act.put, List.setIfInBounds_toArray, List.set_cons_zero, List.set_cons_succ]
    refine wpList_nil ?_
    simp only [Exit.then]
    refine ⟨(Kin.of_below hb).keep _, fun Bq hB2 => ?_⟩
    rw [hNN] at hB2
    have E8 := Lib.hid (hB2.cells _ _ h0 rfl)
    have HI := Lib.hid ((hj.keep hb).abide hwN hB2)
    clear h0 hj hb hB2 hge
    refine wpIn_block ?_
    refine wpIn_seq ?_
    refine wpIn_seq ?_
    refine wpR_plain (by kernel_rfl) (by simp [LetsOut, Exit.then, Exit.inBlock, endAll]) ?_
    refine wpList_call (by kernel_rfl) 44 Tryd.func44 (by kernel_rfl) (by kernel_rfl) _ _ #[] rfl (by kernel_rfl) ?_
    refine (fields_any Bq).mono ?_
    rintro e V1 ⟨rfl, hb⟩
    have B0 := Lib.hid hb
    clear hb 
    refine ⟨_, rfl, ?_⟩
    simp only [Act.put, List.setIfInBounds_toArray, List.set_cons_zero, List.set_cons_succ]
    refine wpList_run (by kernel_rfl) (.int .i64 0) V1 rfl ?_
    simp only [Act.put, List.setIfInBounds_toArray, List.set_cons_zero, List.set_cons_succ]
    refine wpList_nil ?_
    simp only [Exit.then]
    have hk9 := (Kin.of_below B0.out)
    have hi9 := HI.out.keep B0.out
    have h89 := heap_keep E8.out B0.out
    clear HI
    refine wpIn_block ?_
    gi_loopw [31] (fun p wr => ∃ j : Nat, j ≤ 4 ∧ p = .int .i64 j ∧ Kin Bq wr ∧ ColI w N0 b b6 gh bs N A n c rs B d gs i j wr ∧ wr.heap[b8]? = some (.cells #[.int .i64 r.who, .int .i64 r.when_, .int .i64 r.kind, .int .i64 r.value, .bool (!g)] 83 (0, 0))) (fun p _ => 4 - (intOf p).toNat)
    case atStart => exact ⟨0, Nat.zero_le _, rfl, hk9, hi9, h89⟩
    case round =>
      clear hk9 hi9 h89
      obtain ⟨wq, rfl⟩ : ∃ wq : World, wq = wr := ⟨_, rfl⟩
      obtain ⟨j, hj4, rfl, hk, hi, h8⟩ := hrel
      have HK := Lib.hid hk
      have HI := Lib.hid hi
      have F8 := Lib.hid h8
      have F6 := Lib.hid hi.var
      have HH := Lib.hid hi.hd
      clear hk hi h8
      have hjc : j = 4 ∨ j = 0 ∨ j = 1 ∨ j = 2 ∨ j = 3 := by omega
      rcases hjc with rfl | rfl | rfl | rfl | rfl
      · refine wpIn_seq ?_
        refine wpR_plain (by kernel_rfl) (by simp [LetsOut, Exit.then, Exit.inBlock, endAll]) ?_
        refine wpList_run (by kernel_rfl) (.bool false) wq (xo_lssF .i64 4 4 (by omega) rfl rfl rfl) ?_
        simp only [Act.put, List.setIfInBounds_toArray, List.set_cons_zero, List.set_cons_succ]
        refine wpList_nil ?_
        simp only [Exit.then]
        refine wpIn_seq ?_
        refine wpIn_cond_false rfl (wpIn_exit ?_)
        simp only [Exit.then, Exit.inBlock, ↓reduceIte, Nat.reduceEqDiff]
        refine wpIn_seq ?_
        refine wpR_plain (by kernel_rfl) (by simp [LetsOut, Exit.then, Exit.inBlock, endAll]) ?_
        refine wpList_run (by kernel_rfl) (.pointer (some ⟨b8, 4, none⟩)) wq (xo_fld0 1 b8 4 (by kernel_rfl) rfl rfl) ?_
        simp only [Act.put, List.setIfInBounds_toArray, List.set_cons_zero, List.set_cons_succ]
        refine wpList_run (by kernel_rfl) (.bool (!g)) wq (xo_load1 ⟨b8, 4, none⟩ _ (cells_at F8.out 4 rfl) Tryd.underlying4 rfl rfl rfl) ?_
        simp only [Act.put, List.setIfInBounds_toArray, List.set_cons_zero, List.set_cons_succ]
        refine wpList_nil ?_
        simp only [Exit.then]
        cases g with
        | true =>
          have hgv := HGV.out
          simp only [Bool.false_eq_true, if_true, if_false] at hgv
          refine wpIn_cond_false rfl (wpIn_skip ?_)
          have hi5 := HI.out
          simp only [Exit.then, Exit.inBlock, endAll]
          exact ⟨HK.out.keep _, hi5.bel, hi5.sz, hi5.str, hi5.var, hi5.hd, by have h0 := hi5.row; rw [colsQ_gone hgv (by omega), colsQ_five] at h0; exact h0⟩
        | false =>
          have hgv := HGV.out
          simp only [Bool.false_eq_true, if_true, if_false] at hgv
          refine wpIn_cond_true rfl ?_
          obtain ⟨e, he⟩ : ∃ e, bs[4]? = some e := ⟨_, List.getElem?_eq_getElem (by have := HBL.out; omega)⟩
          have HEB := Lib.hid he
          have HEH : Hid ((bs.map (mkH N))[4]? = some (mkH N e)) := Lib.hid (by rw [List.getElem?_map, he]; rfl)
          have hro := HI.out.row.row 4 e _ he (colsQ_get (by omega))
          rw [if_neg (by omega)] at hro
          have HR := Lib.hid hro
          clear he hro
          have hxl : (fillP (colV rs gs 4) N i).length = N := fillP_length (by rw [colV_length hln hgn]; omega) (by omega)
          obtain ⟨y, hy⟩ : ∃ y, (fillP (colV rs gs 4) N i)[i]? = some y := ⟨_, List.getElem?_eq_getElem (by rw [hxl]; omega)⟩
          have HY := Lib.hid hy
          clear hy
          have hget := hgv
          refine wpR_plain (by kernel_rfl) (by simp [LetsOut, Exit.then, Exit.inBlock, endAll]) ?_
          refine wpList_run (by kernel_rfl) (.slice (some ⟨gh, 0, none⟩) 5 5) wq (xo_load1 ⟨b6, 0, none⟩ _ (cells_at F6.out 0 rfl) Tryd.underlying38 rfl rfl rfl) ?_
          simp only [Act.put, List.setIfInBounds_toArray, List.set_cons_zero, List.set_cons_succ]
          refine wpList_run (by kernel_rfl) (.pointer (some (gad (some ⟨gh, 0, none⟩) (4 * 1)))) wq (xg_idx .i64 (RowG.sg (n := 5) (c := 5) HH.out (by rw [List.length_map]; exact HBL.out) (Nat.le_refl _) (by omega)) HEH.out Tryd.underlying38 (by kernel_rfl) rfl rfl rfl) ?_
          simp only [Act.put, List.setIfInBounds_toArray, List.set_cons_zero, List.set_cons_succ]
          refine wpList_run (by kernel_rfl) (.slice (some ⟨e, 0, none⟩) N N) wq (xg_load1 (E := hdC) (i := 4) (j := 0) (RowG.sg (n := 5) (c := 5) HH.out (by rw [List.length_map]; exact HBL.out) (Nat.le_refl _) (by omega)) HEH.out rfl rfl Tryd.underlying48 rfl rfl rfl) ?_
          simp only [Act.put, List.setIfInBounds_toArray, List.set_cons_zero, List.set_cons_succ]
          refine wpList_run (by kernel_rfl) (.int .i64 (i : Int)) wq rfl ?_
          simp only [Act.put, List.setIfInBounds_toArray, List.set_cons_zero, List.set_cons_succ]
          refine wpList_run (by kernel_rfl) (.pointer (some (gad (some ⟨e, 0, none⟩) (i * 1)))) wq (xg_idx .i64 (RowG.sg HR.out hxl (Nat.le_refl _) (by omega)) HY.out Tryd.underlying48 (by kernel_rfl) rfl rfl rfl) ?_
          simp only [Act.put, List.setIfInBounds_toArray, List.set_cons_zero, List.set_cons_succ]
          refine wpList_storeW e _ _ 50 (by kernel_rfl) (RowG.h HR.out) (xg_store HR.out (List.getElem?_eq_some_iff.1 HY.out).1 1 (by kernel_rfl) rfl rfl rfl) ?_
          intro W5 q1 hfar hbel hsz
          have hro4 : RowG wdC wq e 50 (fillP (colV rs gs 4) N i) := HR.out
          have h84 := F8.out
          have hi4 := HI.out
          have q2 : RowG wdC W5 e 50 (fillP (colV rs gs 4) N (i + 1)) := by have h0 : RowG wdC W5 e 50 ((fillP (colV rs gs 4) N i).set i 1) := q1; rw [fillP_set hget (by omega)] at h0; exact h0
          have hi5 : ColI w N0 b b6 gh bs N A n c rs B d gs i (4 + 1) W5 := hi4.store HEB.out hro4 q2 hfar hbel hsz colsQ_set
          have hk5 : Kin Bq W5 := (HK.out.trans (Kin.refl _)).trans (Kin.far hro4 rfl (Nat.le_of_eq hsz.symm) hfar)
          have h85 : W5.heap[b8]? = some (.cells #[.int .i64 r.who, .int .i64 r.when_, .int .i64 r.kind, .int .i64 r.value, .bool (!false)] 83 (0, 0)) := hfar _ _ (ne_types h84 hro4 (by decide)) h84
          simp only [ptr, Act.put, List.setIfInBounds_toArray, List.set_cons_zero, List.set_cons_succ]
          refine wpList_nil ?_
          simp only [Exit.then, Exit.inBlock, endAll]
          exact ⟨hk5.keep _, hi5.bel, hi5.sz, hi5.str, hi5.var, hi5.hd, by have h0 := hi5.row; rw [colsQ_five] at h0; exact h0⟩
      · have hf := fok_of hvr 0 (by omega)
        simp only [fokB, decide_eq_true_eq] at hf
        have hw8 := widN_le 0
        obtain ⟨m, hm⟩ : ∃ m : Nat, fldI r 0 = (m : Int) := ⟨(fldI r 0).toNat, (Int.toNat_of_nonneg hf.1).symm⟩
        have hm256 : m < 256 := by have := hf.2; omega
        have hget : (colV rs gs 0)[i]? = some m := by have h0 := colV_lt (rs := rs) (gs := gs) (i := 0) (by omega) HE.out; rw [hm, Int.toNat_natCast] at h0; exact h0
        clear hf hw8
        have HM := Lib.hid hm
        clear hm
        obtain ⟨e, he⟩ : ∃ e, bs[0]? = some e := ⟨_, List.getElem?_eq_getElem (by have := HBL.out; omega)⟩
        have HEB := Lib.hid he
        have HEH : Hid ((bs.map (mkH N))[0]? = some (mkH N e)) := Lib.hid (by rw [List.getElem?_map, he]; rfl)
        have hro := HI.out.row.row 0 e _ he (colsQ_get (by omega))
        rw [if_neg (by omega)] at hro
        have HR := Lib.hid hro
        clear he hro
        have hxl : (fillP (colV rs gs 0) N i).length = N := fillP_length (by rw [colV_length hln hgn]; omega) (by omega)
        obtain ⟨y, hy⟩ : ∃ y, (fillP (colV rs gs 0) N i)[i]? = some y := ⟨_, List.getElem?_eq_getElem (by rw [hxl]; omega)⟩
        have HY := Lib.hid hy
        clear hy
        refine wpIn_seq ?_
        refine wpR_plain (by kernel_rfl) (by simp [LetsOut, Exit.then, Exit.inBlock, endAll]) ?_
        refine wpList_run (by kernel_rfl) (.bool true) wq (xo_lssT .i64 0 4 (by omega) rfl rfl rfl) ?_
        simp only [Act.put, List.setIfInBounds_toArray, List.set_cons_zero, List.set_cons_succ]
        refine wpList_nil ?_
        simp only [Exit.then]
        refine wpIn_seq ?_
        refine wpIn_cond_true rfl (wpIn_skip ?_)
        simp only [Exit.then, Exit.inBlock, ↓reduceIte, Nat.reduceEqDiff]
        refine wpIn_seq ?_
        refine wpIn_block ?_
        refine wpIn_seq ?_
        refine wpR_plain (by kernel_rfl) (by simp [LetsOut, Exit.then, Exit.inBlock, endAll]) ?_
        refine wpList_run (by kernel_rfl) (.int .i64 0) wq rfl ?_
        simp only [Act.put, List.setIfInBounds_toArray, List.set_cons_zero, List.set_cons_succ]
        refine wpList_run (by kernel_rfl) (.func (.func 58) #[] #[]) wq (xo_elt .i64 _ 0 4 _ (by decide) rfl Tryd.underlying76 (by kernel_rfl) Tryd.underlying75 rfl rfl rfl rfl) ?_
        simp only [Act.put, List.setIfInBounds_toArray, List.set_cons_zero, List.set_cons_succ]
        refine wpList_run (by kernel_rfl) (.int .i64 0) wq rfl ?_
        simp only [Act.put, List.setIfInBounds_toArray, List.set_cons_zero, List.set_cons_succ]
        refine wpList_run (by kernel_rfl) (.func (.func 58) #[] #[]) wq rfl ?_
        simp only [Act.put, List.setIfInBounds_toArray, List.set_cons_zero, List.set_cons_succ]
        refine wpList_nil ?_
        simp only [Exit.then]
        try simp only [List.append_eq, List.cons_append, List.nil_append]
        refine wpR_ordT (fun W => W.heap[b6]? = some (.cells #[.slice (some ⟨gh, 0, none⟩) 5 5] 38 (0, 0)) ∧ W.heap[b8]? = some (.cells #[.int .i64 r.who, .int .i64 r.when_, .int .i64 r.kind, .int .i64 r.value, .bool (!g)] 83 (0, 0)) ∧ RowG hdC W gh 48 (bs.map (mkH N))) (.q 0 (.q 1 (.q 2 (.q 3 (.q 4 (.q 5 (.q 6 (.q 7 (.one 8 (.one 9 (.one 10 (.one 11 .nil)))))))))))) (by kernel_rfl) (by kernel_rfl) (by simp [LetsOut, Exit.then, Exit.inBlock, endAll]) (by kernel_rfl) (fun _ _ dt _ _ h => by first | exact h.elim | (cases dt <;> exact h)) (by kernel_rfl) (by kernel_rfl) ⟨F6.out, F8.out, HH.out⟩ ?_
        have hb : Below wq.heap.size wq wq.drew := (Below.refl _ _).drew
        generalize wq.drew = V1 at hb ⊢
        have B0 := Lib.hid hb
        clear hb
        refine wpOT_q (.slice (some ⟨gh, 0, none⟩) 5 5) rfl (by kernel_rfl) (fun v hW => (xo_load1 ⟨b6, 0, none⟩ _ (cells_at hW.1 0 rfl) Tryd.underlying38 rfl rfl rfl)) ?_
        simp only [ptr, Act.put, List.setIfInBounds_toArray, List.set_cons_zero, List.set_cons_succ]
        refine wpOT_q (.int .i64 0) rfl (by kernel_rfl) (fun v hW => rfl) ?_
        simp only [ptr, Act.put, List.setIfInBounds_toArray, List.set_cons_zero, List.set_cons_succ]
        refine wpOT_q (.pointer (some (gad (some ⟨gh, 0, none⟩) (0 * 1)))) rfl (by kernel_rfl) (fun v hW => (xg_idx .i64 (RowG.sg (n := 5) (c := 5) hW.2.2 (by rw [List.length_map]; exact HBL.out) (Nat.le_refl _) (by omega)) HEH.out Tryd.underlying38 (by kernel_rfl) rfl rfl rfl)) ?_
        simp only [ptr, Act.put, List.setIfInBounds_toArray, List.set_cons_zero, List.set_cons_succ]
        refine wpOT_q (.slice (some ⟨e, 0, none⟩) N N) rfl (by kernel_rfl) (fun v hW => (xg_load1 (E := hdC) (i := 0) (j := 0) (RowG.sg (n := 5) (c := 5) hW.2.2 (by rw [List.length_map]; exact HBL.out) (Nat.le_refl _) (by omega)) HEH.out rfl rfl Tryd.underlying48 rfl rfl rfl)) ?_
        simp only [ptr, Act.put, List.setIfInBounds_toArray, List.set_cons_zero, List.set_cons_succ]
        refine wpOT_q (.int .i64 (i : Int)) rfl (by kernel_rfl) (fun v hW => rfl) ?_
        simp only [ptr, Act.put, List.setIfInBounds_toArray, List.set_cons_zero, List.set_cons_succ]
        refine wpOT_q (.func (.func 58) #[] #[]) rfl (by kernel_rfl) (fun v hW => rfl) ?_
        simp only [ptr, Act.put, List.setIfInBounds_toArray, List.set_cons_zero, List.set_cons_succ]
        refine wpOT_q (.pointer (some ⟨b8, 0, none⟩)) rfl (by kernel_rfl) (fun v hW => (xo_fld0 0 b8 0 (by kernel_rfl) rfl rfl)) ?_
        simp only [ptr, Act.put, List.setIfInBounds_toArray, List.set_cons_zero, List.set_cons_succ]
        refine wpOT_q (.agg #[.int .i64 r.who, .int .i64 r.when_, .int .i64 r.kind, .int .i64 r.value]) rfl (by kernel_rfl) (fun v hW => (xo_loadR b8 0 [.int .i64 r.who, .int .i64 r.when_, .int .i64 r.kind, .int .i64 r.value] (rng_of hW.2.1 0 _ (fun j v hv => by rcases j with _ | _ | _ | _ | j <;> first | exact hv | cases hv)) Tryd.underlying24 rfl (by kernel_rfl) rfl rfl)) ?_
        simp only [ptr, Act.put, List.setIfInBounds_toArray, List.set_cons_zero, List.set_cons_succ]
        refine wpOT_one rfl (by kernel_rfl) ?_
        refine hOp_callA 58 Tryd.func58 (by kernel_rfl) (by kernel_rfl) 40 _ #[] _ rfl rfl #[.agg #[.int .i64 r.who, .int .i64 r.when_, .int .i64 r.kind, .int .i64 r.value]] (by kernel_rfl) ?_
        try simp only [List.append_toArray, List.append_nil, List.nil_append, List.cons_append]
        refine (fldN0 r m HM.out V1).mono ?_
        rintro e V2 ⟨rfl, hb⟩
        have B1 := Lib.hid hb
        clear hb 
        have C0_2 := Lib.hid (bel_step B0.out B1.out)
        refine ⟨_, rfl, ⟨(heap_keep F6.out C0_2.out), (heap_keep F8.out C0_2.out), (HH.out.keep C0_2.out)⟩, ?_⟩
        simp only [ptr, Act.put, List.setIfInBounds_toArray, List.set_cons_zero, List.set_cons_succ]
        refine wpOT_one rfl (by kernel_rfl) ?_
        refine hOp_call 47 Tryd.func47 (by kernel_rfl) (by kernel_rfl) _ _ #[.int .i64 (m : Int)] rfl (by kernel_rfl) ?_
        refine (fromInt_any m (by omega) V2).mono ?_
        rintro e V3 ⟨rfl, hb⟩
        have B2 := Lib.hid hb
        clear hb 
        have C0_3 := Lib.hid (bel_step C0_2.out B2.out)
        refine ⟨_, rfl, ⟨(heap_keep F6.out C0_3.out), (heap_keep F8.out C0_3.out), (HH.out.keep C0_3.out)⟩, ?_⟩
        simp only [ptr, Act.put, List.setIfInBounds_toArray, List.set_cons_zero, List.set_cons_succ]
        refine wpOT_one rfl (by kernel_rfl) ?_
        refine hOp_val (.pointer (some (gad (some ⟨e, 0, none⟩) (i * 1)))) (xg_idx .i64 (RowG.sg (HR.out.keep C0_3.out) hxl (Nat.le_refl _) (by omega)) HY.out Tryd.underlying48 (by kernel_rfl) rfl rfl rfl) ⟨⟨(heap_keep F6.out C0_3.out), (heap_keep F8.out C0_3.out), (HH.out.keep C0_3.out)⟩, ?_⟩
        simp only [ptr, Act.put, List.setIfInBounds_toArray, List.set_cons_zero, List.set_cons_succ]
        refine wpOT_one rfl (by kernel_rfl) ?_
        refine hOp_storeW e _ _ 50 (RowG.h (HR.out.keep C0_3.out)) (xg_store (HR.out.keep C0_3.out) (List.getElem?_eq_some_iff.1 HY.out).1 m (by kernel_rfl) rfl rfl rfl) ?_
        intro W5 q1 hfar hbel hsz
        have hro4 : RowG wdC V3 e 50 (fillP (colV rs gs 0) N i) := (HR.out.keep C0_3.out)
        have h84 := (heap_keep F8.out C0_3.out)
        have hi4 := HI.out.keep C0_3.out
        have q2 : RowG wdC W5 e 50 (fillP (colV rs gs 0) N (i + 1)) := by have h0 : RowG wdC W5 e 50 ((fillP (colV rs gs 0) N i).set i m) := q1; rw [fillP_set hget (by omega)] at h0; exact h0
        have hi5 : ColI w N0 b b6 gh bs N A n c rs B d gs i (0 + 1) W5 := hi4.store HEB.out hro4 q2 hfar hbel hsz colsQ_set
        have hk5 : Kin Bq W5 := (HK.out.trans (Kin.of_below C0_3.out)).trans (Kin.far hro4 rfl (Nat.le_of_eq hsz.symm) hfar)
        have h85 : W5.heap[b8]? = some (.cells #[.int .i64 r.who, .int .i64 r.when_, .int .i64 r.kind, .int .i64 r.value, .bool (!g)] 83 (0, 0)) := hfar _ _ (ne_types h84 hro4 (by decide)) h84
        refine ⟨⟨hi5.var, h85, hi5.hd⟩, ?_⟩
        simp only [Act.put, List.setIfInBounds_toArray, List.set_cons_zero, List.set_cons_succ]
        refine wpOT_nil ?_
        simp only [Exit.then, Exit.inBlock]
        refine wpR_plain (by kernel_rfl) (by simp [LetsOut, Exit.then, Exit.inBlock, endAll]) ?_
        refine wpList_run (by kernel_rfl) (.int .i64 1) W5 (xo_addI 0 1 1 (by omega) (by omega) (by omega) rfl rfl rfl) ?_
        simp only [Act.put, List.setIfInBounds_toArray, List.set_cons_zero, List.set_cons_succ]
        refine wpList_run (by kernel_rfl) (.int .i64 1) W5 rfl ?_
        simp only [Act.put, List.setIfInBounds_toArray, List.set_cons_zero, List.set_cons_succ]
        refine wpList_nil ?_
        simp only [Exit.then]
        go_roundw
        case rel => exact ⟨1, by omega, by go_num, hk5, hi5, h85⟩
        case measure => simp [intOf]
      · have hf := fok_of hvr 1 (by omega)
        simp only [fokB, decide_eq_true_eq] at hf
        have hw8 := widN_le 1
        obtain ⟨m, hm⟩ : ∃ m : Nat, fldI r 1 = (m : Int) := ⟨(fldI r 1).toNat, (Int.toNat_of_nonneg hf.1).symm⟩
        have hm256 : m < 256 := by have := hf.2; omega
        have hget : (colV rs gs 1)[i]? = some m := by have h0 := colV_lt (rs := rs) (gs := gs) (i := 1) (by omega) HE.out; rw [hm, Int.toNat_natCast] at h0; exact h0
        clear hf hw8
        have HM := Lib.hid hm
        clear hm
        obtain ⟨e, he⟩ : ∃ e, bs[1]? = some e := ⟨_, List.getElem?_eq_getElem (by have := HBL.out; omega)⟩
        have HEB := Lib.hid he
        have HEH : Hid ((bs.map (mkH N))[1]? = some (mkH N e)) := Lib.hid (by rw [List.getElem?_map, he]; rfl)
        have hro := HI.out.row.row 1 e _ he (colsQ_get (by omega))
        rw [if_neg (by omega)] at hro
        have HR := Lib.hid hro
        clear he hro
        have hxl : (fillP (colV rs gs 1) N i).length = N := fillP_length (by rw [colV_length hln hgn]; omega) (by omega)
        obtain ⟨y, hy⟩ : ∃ y, (fillP (colV rs gs 1) N i)[i]? = some y := ⟨_, List.getElem?_eq_getElem (by rw [hxl]; omega)⟩
        have HY := Lib.hid hy
        clear hy
        refine wpIn_seq ?_
        refine wpR_plain (by kernel_rfl) (by simp [LetsOut, Exit.then, Exit.inBlock, endAll]) ?_
        refine wpList_run (by kernel_rfl) (.bool true) wq (xo_lssT .i64 1 4 (by omega) rfl rfl rfl) ?_
        simp only [Act.put, List.setIfInBounds_toArray, List.set_cons_zero, List.set_cons_succ]
        refine wpList_nil ?_
        simp only [Exit.then]
        refine wpIn_seq ?_
        refine wpIn_cond_true rfl (wpIn_skip ?_)
        simp only [Exit.then, Exit.inBlock, ↓reduceIte, Nat.reduceEqDiff]
        refine wpIn_seq ?_
        refine wpIn_block ?_
        refine wpIn_seq ?_
        refine wpR_plain (by kernel_rfl) (by simp [LetsOut, Exit.then, Exit.inBlock, endAll]) ?_
        refine wpList_run (by kernel_rfl) (.int .i64 1) wq rfl ?_
        simp only [Act.put, List.setIfInBounds_toArray, List.set_cons_zero, List.set_cons_succ]
        refine wpList_run (by kernel_rfl) (.func (.func 59) #[] #[]) wq (xo_elt .i64 _ 1 4 _ (by decide) rfl Tryd.underlying76 (by kernel_rfl) Tryd.underlying75 rfl rfl rfl rfl) ?_
        simp only [Act.put, List.setIfInBounds_toArray, List.set_cons_zero, List.set_cons_succ]
        refine wpList_run (by kernel_rfl) (.int .i64 1) wq rfl ?_
        simp only [Act.put, List.setIfInBounds_toArray, List.set_cons_zero, List.set_cons_succ]
        refine wpList_run (by kernel_rfl) (.func (.func 59) #[] #[]) wq rfl ?_
        simp only [Act.put, List.setIfInBounds_toArray, List.set_cons_zero, List.set_cons_succ]
        refine wpList_nil ?_
        simp only [Exit.then]
        try simp only [List.append_eq, List.cons_append, List.nil_append]
        refine wpR_ordT (fun W => W.heap[b6]? = some (.cells #[.slice (some ⟨gh, 0, none⟩) 5 5] 38 (0, 0)) ∧ W.heap[b8]? = some (.cells #[.int .i64 r.who, .int .i64 r.when_, .int .i64 r.kind, .int .i64 r.value, .bool (!g)] 83 (0, 0)) ∧ RowG hdC W gh 48 (bs.map (mkH N))) (.q 0 (.q 1 (.q 2 (.q 3 (.q 4 (.q 5 (.q 6 (.q 7 (.one 8 (.one 9 (.one 10 (.one 11 .nil)))))))))))) (by kernel_rfl) (by kernel_rfl) (by simp [LetsOut, Exit.then, Exit.inBlock, endAll]) (by kernel_rfl) (fun _ _ dt _ _ h => by first | exact h.elim | (cases dt <;> exact h)) (by kernel_rfl) (by kernel_rfl) ⟨F6.out, F8.out, HH.out⟩ ?_
        have hb : Below wq.heap.size wq wq.drew := (Below.refl _ _).drew
        generalize wq.drew = V1 at hb ⊢
        have B0 := Lib.hid hb
        clear hb
        refine wpOT_q (.slice (some ⟨gh, 0, none⟩) 5 5) rfl (by kernel_rfl) (fun v hW => (xo_load1 ⟨b6, 0, none⟩ _ (cells_at hW.1 0 rfl) Tryd.underlying38 rfl rfl rfl)) ?_
        simp only [ptr, Act.put, List.setIfInBounds_toArray, List.set_cons_zero, List.set_cons_succ]
        refine wpOT_q (.int .i64 1) rfl (by kernel_rfl) (fun v hW => rfl) ?_
        simp only [ptr, Act.put, List.setIfInBounds_toArray, List.set_cons_zero, List.set_cons_succ]
        refine wpOT_q (.pointer (some (gad (some ⟨gh, 0, none⟩) (1 * 1)))) rfl (by kernel_rfl) (fun v hW => (xg_idx .i64 (RowG.sg (n := 5) (c := 5) hW.2.2 (by rw [List.length_map]; exact HBL.out) (Nat.le_refl _) (by omega)) HEH.out Tryd.underlying38 (by kernel_rfl) rfl rfl rfl)) ?_
        simp only [ptr, Act.put, List.setIfInBounds_toArray, List.set_cons_zero, List.set_cons_succ]
        refine wpOT_q (.slice (some ⟨e, 0, none⟩) N N) rfl (by kernel_rfl) (fun v hW => (xg_load1 (E := hdC) (i := 1) (j := 0) (RowG.sg (n := 5) (c := 5) hW.2.2 (by rw [List.length_map]; exact HBL.out) (Nat.le_refl _) (by omega)) HEH.out rfl rfl Tryd.underlying48 rfl rfl rfl)) ?_
        simp only [ptr, Act.put, List.setIfInBounds_toArray, List.set_cons_zero, List.set_cons_succ]
        refine wpOT_q (.int .i64 (i : Int)) rfl (by kernel_rfl) (fun v hW => rfl) ?_
        simp only [ptr, Act.put, List.setIfInBounds_toArray, List.set_cons_zero, List.set_cons_succ]
        refine wpOT_q (.func (.func 59) #[] #[]) rfl (by kernel_rfl) (fun v hW => rfl) ?_
        simp only [ptr, Act.put, List.setIfInBounds_toArray, List.set_cons_zero, List.set_cons_succ]
        refine wpOT_q (.pointer (some ⟨b8, 0, none⟩)) rfl (by kernel_rfl) (fun v hW => (xo_fld0 0 b8 0 (by kernel_rfl) rfl rfl)) ?_
        simp only [ptr, Act.put, List.setIfInBounds_toArray, List.set_cons_zero, List.set_cons_succ]
        refine wpOT_q (.agg #[.int .i64 r.who, .int .i64 r.when_, .int .i64 r.kind, .int .i64 r.value]) rfl (by kernel_rfl) (fun v hW => (xo_loadR b8 0 [.int .i64 r.who, .int .i64 r.when_, .int .i64 r.kind, .int .i64 r.value] (rng_of hW.2.1 0 _ (fun j v hv => by rcases j with _ | _ | _ | _ | j <;> first | exact hv | cases hv)) Tryd.underlying24 rfl (by kernel_rfl) rfl rfl)) ?_
        simp only [ptr, Act.put, List.setIfInBounds_toArray, List.set_cons_zero, List.set_cons_succ]
        refine wpOT_one rfl (by kernel_rfl) ?_
        refine hOp_callA 59 Tryd.func59 (by kernel_rfl) (by kernel_rfl) 40 _ #[] _ rfl rfl #[.agg #[.int .i64 r.who, .int .i64 r.when_, .int .i64 r.kind, .int .i64 r.value]] (by kernel_rfl) ?_
        try simp only [List.append_toArray, List.append_nil, List.nil_append, List.cons_append]
        refine (fldN1 r m HM.out V1).mono ?_
        rintro e V2 ⟨rfl, hb⟩
        have B1 := Lib.hid hb
        clear hb 
        have C0_2 := Lib.hid (bel_step B0.out B1.out)
        refine ⟨_, rfl, ⟨(heap_keep F6.out C0_2.out), (heap_keep F8.out C0_2.out), (HH.out.keep C0_2.out)⟩, ?_⟩
        simp only [ptr, Act.put, List.setIfInBounds_toArray, List.set_cons_zero, List.set_cons_succ]
        refine wpOT_one rfl (by kernel_rfl) ?_
        refine hOp_call 47 Tryd.func47 (by kernel_rfl) (by kernel_rfl) _ _ #[.int .i64 (m : Int)] rfl (by kernel_rfl) ?_
        refine (fromInt_any m (by omega) V2).mono ?_
        rintro e V3 ⟨rfl, hb⟩
        have B2 := Lib.hid hb
        clear hb 
        have C0_3 := Lib.hid (bel_step C0_2.out B2.out)
        refine ⟨_, rfl, ⟨(heap_keep F6.out C0_3.out), (heap_keep F8.out C0_3.out), (HH.out.keep C0_3.out)⟩, ?_⟩
        simp only [ptr, Act.put, List.setIfInBounds_toArray, List.set_cons_zero, List.set_cons_succ]
        refine wpOT_one rfl (by kernel_rfl) ?_
        refine hOp_val (.pointer (some (gad (some ⟨e, 0, none⟩) (i * 1)))) (xg_idx .i64 (RowG.sg (HR.out.keep C0_3.out) hxl (Nat.le_refl _) (by omega)) HY.out Tryd.underlying48 (by kernel_rfl) rfl rfl rfl) ⟨⟨(heap_keep F6.out C0_3.out), (heap_keep F8.out C0_3.out), (HH.out.keep C0_3.out)⟩, ?_⟩
        simp only [ptr, Act.put, List.setIfInBounds_toArray, List.set_cons_zero, List.set_cons_succ]
        refine wpOT_one rfl (by kernel_rfl) ?_
        refine hOp_storeW e _ _ 50 (RowG.h (HR.out.keep C0_3.out)) (xg_store (HR.out.keep C0_3.out) (List.getElem?_eq_some_iff.1 HY.out).1 m (by kernel_rfl) rfl rfl rfl) ?_
        intro W5 q1 hfar hbel hsz
        have hro4 : RowG wdC V3 e 50 (fillP (colV rs gs 1) N i) := (HR.out.keep C0_3.out)
        have h84 := (heap_keep F8.out C0_3.out)
        have hi4 := HI.out.keep C0_3.out
        have q2 : RowG wdC W5 e 50 (fillP (colV rs gs 1) N (i + 1)) := by have h0 : RowG wdC W5 e 50 ((fillP (colV rs gs 1) N i).set i m) := q1; rw [fillP_set hget (by omega)] at h0; exact h0
        have hi5 : ColI w N0 b b6 gh bs N A n c rs B d gs i (1 + 1) W5 := hi4.store HEB.out hro4 q2 hfar hbel hsz colsQ_set
        have hk5 : Kin Bq W5 := (HK.out.trans (Kin.of_below C0_3.out)).trans (Kin.far hro4 rfl (Nat.le_of_eq hsz.symm) hfar)
        have h85 : W5.heap[b8]? = some (.cells #[.int .i64 r.who, .int .i64 r.when_, .int .i64 r.kind, .int .i64 r.value, .bool (!g)] 83 (0, 0)) := hfar _ _ (ne_types h84 hro4 (by decide)) h84
        refine ⟨⟨hi5.var, h85, hi5.hd⟩, ?_⟩
        simp only [Act.put, List.setIfInBounds_toArray, List.set_cons_zero, List.set_cons_succ]
        refine wpOT_nil ?_
        simp only [Exit.then, Exit.inBlock]
        refine wpR_plain (by kernel_rfl) (by simp [LetsOut, Exit.then, Exit.inBlock, endAll]) ?_
        refine wpList_run (by kernel_rfl) (.int .i64 2) W5 (xo_addI 1 1 2 (by omega) (by omega) (by omega) rfl rfl rfl) ?_
        simp only [Act.put, List.setIfInBounds_toArray, List.set_cons_zero, List.set_cons_succ]
        refine wpList_run (by kernel_rfl) (.int .i64 2) W5 rfl ?_
        simp only [Act.put, List.setIfInBounds_toArray, List.set_cons_zero, List.set_cons_succ]
        refine wpList_nil ?_
        simp only [Exit.then]
        go_roundw
        case rel => exact ⟨2, by omega, by go_num, hk5, hi5, h85⟩
        case measure => simp [intOf]
      · have hf := fok_of hvr 2 (by omega)
        simp only [fokB, decide_eq_true_eq] at hf
        have hw8 := widN_le 2
        obtain ⟨m, hm⟩ : ∃ m : Nat, fldI r 2 = (m : Int) := ⟨(fldI r 2).toNat, (Int.toNat_of_nonneg hf.1).symm⟩
        have hm256 : m < 256 := by have := hf.2; omega
        have hget : (colV rs gs 2)[i]? = some m := by have h0 := colV_lt (rs := rs) (gs := gs) (i := 2) (by omega) HE.out; rw [hm, Int.toNat_natCast] at h0; exact h0
        clear hf hw8
        have HM := Lib.hid hm
        clear hm
        obtain ⟨e, he⟩ : ∃ e, bs[2]? = some e := ⟨_, List.getElem?_eq_getElem (by have := HBL.out; omega)⟩
        have HEB := Lib.hid he
        have HEH : Hid ((bs.map (mkH N))[2]? = some (mkH N e)) := Lib.hid (by rw [List.getElem?_map, he]; rfl)
        have hro := HI.out.row.row 2 e _ he (colsQ_get (by omega))
        rw [if_neg (by omega)] at hro
        have HR := Lib.hid hro
        clear he hro
        have hxl : (fillP (colV rs gs 2) N i).length = N := fillP_length (by rw [colV_length hln hgn]; omega) (by omega)
        obtain ⟨y, hy⟩ : ∃ y, (fillP (colV rs gs 2) N i)[i]? = some y := ⟨_, List.getElem?_eq_getElem (by rw [hxl]; omega)⟩
        have HY := Lib.hid hy
        clear hy
        refine wpIn_seq ?_
        refine wpR_plain (by kernel_rfl) (by simp [LetsOut, Exit.then, Exit.inBlock, endAll]) ?_
        refine wpList_run (by kernel_rfl) (.bool true) wq (xo_lssT .i64 2 4 (by omega) rfl rfl rfl) ?_
        simp only [Act.put, List.setIfInBounds_toArray, List.set_cons_zero, List.set_cons_succ]
        refine wpList_nil ?_
        simp only [Exit.then]
        refine wpIn_seq ?_
        refine wpIn_cond_true rfl (wpIn_skip ?_)
        simp only [Exit.then, Exit.inBlock, ↓reduceIte, Nat.reduceEqDiff]
        refine wpIn_seq ?_
        refine wpIn_block ?_
        refine wpIn_seq ?_
        refine wpR_plain (by kernel_rfl) (by simp [LetsOut, Exit.then, Exit.inBlock, endAll]) ?_
        refine wpList_run (by kernel_rfl) (.int .i64 2) wq rfl ?_
        simp only [Act.put, List.setIfInBounds_toArray, List.set_cons_zero, List.set_cons_succ]
        refine wpList_run (by kernel_rfl) (.func (.func 60) #[] #[]) wq (xo_elt .i64 _ 2 4 _ (by decide) rfl Tryd.underlying76 (by kernel_rfl) Tryd.underlying75 rfl rfl rfl rfl) ?_
        simp only [Act.put, List.setIfInBounds_toArray, List.set_cons_zero, List.set_cons_succ]
        refine wpList_run (by kernel_rfl) (.int .i64 2) wq rfl ?_
        simp only [Act.put, List.setIfInBounds_toArray, List.set_cons_zero, List.set_cons_succ]
        refine wpList_run (by kernel_rfl) (.func (.func 60) #[] #[]) wq rfl ?_
        simp only [Act.put, List.setIfInBounds_toArray, List.set_cons_zero, List.set_cons_succ]
        refine wpList_nil ?_
        simp only [Exit.then]
        try simp only [List.append_eq, List.cons_append, List.nil_append]
        refine wpR_ordT (fun W => W.heap[b6]? = some (.cells #[.slice (some ⟨gh, 0, none⟩) 5 5] 38 (0, 0)) ∧ W.heap[b8]? = some (.cells #[.int .i64 r.who, .int .i64 r.when_, .int .i64 r.kind, .int .i64 r.value, .bool (!g)] 83 (0, 0)) ∧ RowG hdC W gh 48 (bs.map (mkH N))) (.q 0 (.q 1 (.q 2 (.q 3 (.q 4 (.q 5 (.q 6 (.q 7 (.one 8 (.one 9 (.one 10 (.one 11 .nil)))))))))))) (by kernel_rfl) (by kernel_rfl) (by simp [LetsOut, Exit.then, Exit.inBlock, endAll]) (by kernel_rfl) (fun _ _ dt _ _ h => by first | exact h.elim | (cases dt <;> exact h)) (by kernel_rfl) (by kernel_rfl) ⟨F6.out, F8.out, HH.out⟩ ?_
        have hb : Below wq.heap.size wq wq.drew := (Below.refl _ _).drew
        generalize wq.drew = V1 at hb ⊢
        have B0 := Lib.hid hb
        clear hb
        refine wpOT_q (.slice (some ⟨gh, 0, none⟩) 5 5) rfl (by kernel_rfl) (fun v hW => (xo_load1 ⟨b6, 0, none⟩ _ (cells_at hW.1 0 rfl) Tryd.underlying38 rfl rfl rfl)) ?_
        simp only [ptr, Act.put, List.setIfInBounds_toArray, List.set_cons_zero, List.set_cons_succ]
        refine wpOT_q (.int .i64 2) rfl (by kernel_rfl) (fun v hW => rfl) ?_
        simp only [ptr, Act.put, List.setIfInBounds_toArray, List.set_cons_zero, List.set_cons_succ]
        refine wpOT_q (.pointer (some (gad (some ⟨gh, 0, none⟩) (2 * 1)))) rfl (by kernel_rfl) (fun v hW => (xg_idx .i64 (RowG.sg (n := 5) (c := 5) hW.2.2 (by rw [List.length_map]; exact HBL.out) (Nat.le_refl _) (by omega)) HEH.out Tryd.underlying38 (by kernel_rfl) rfl rfl rfl)) ?_
        simp only [ptr, Act.put, List.setIfInBounds_toArray, List.set_cons_zero, List.set_cons_succ]
        refine wpOT_q (.slice (some ⟨e, 0, none⟩) N N) rfl (by kernel_rfl) (fun v hW => (xg_load1 (E := hdC) (i := 2) (j := 0) (RowG.sg (n := 5) (c := 5) hW.2.2 (by rw [List.length_map]; exact HBL.out) (Nat.le_refl _) (by omega)) HEH.out rfl rfl Tryd.underlying48 rfl rfl rfl)) ?_
        simp only [ptr, Act.put, List.setIfInBounds_toArray, List.set_cons_zero, List.set_cons_succ]
        refine wpOT_q (.int .i64 (i : Int)) rfl (by kernel_rfl) (fun v hW => rfl) ?_
        simp only [ptr, Act.put, List.setIfInBounds_toArray, List.set_cons_zero, List.set_cons_succ]
        refine wpOT_q (.func (.func 60) #[] #[]) rfl (by kernel_rfl) (fun v hW => rfl) ?_
        simp only [ptr, Act.put, List.setIfInBounds_toArray, List.set_cons_zero, List.set_cons_succ]
        refine wpOT_q (.pointer (some ⟨b8, 0, none⟩)) rfl (by kernel_rfl) (fun v hW => (xo_fld0 0 b8 0 (by kernel_rfl) rfl rfl)) ?_
        simp only [ptr, Act.put, List.setIfInBounds_toArray, List.set_cons_zero, List.set_cons_succ]
        refine wpOT_q (.agg #[.int .i64 r.who, .int .i64 r.when_, .int .i64 r.kind, .int .i64 r.value]) rfl (by kernel_rfl) (fun v hW => (xo_loadR b8 0 [.int .i64 r.who, .int .i64 r.when_, .int .i64 r.kind, .int .i64 r.value] (rng_of hW.2.1 0 _ (fun j v hv => by rcases j with _ | _ | _ | _ | j <;> first | exact hv | cases hv)) Tryd.underlying24 rfl (by kernel_rfl) rfl rfl)) ?_
        simp only [ptr, Act.put, List.setIfInBounds_toArray, List.set_cons_zero, List.set_cons_succ]
        refine wpOT_one rfl (by kernel_rfl) ?_
        refine hOp_callA 60 Tryd.func60 (by kernel_rfl) (by kernel_rfl) 40 _ #[] _ rfl rfl #[.agg #[.int .i64 r.who, .int .i64 r.when_, .int .i64 r.kind, .int .i64 r.value]] (by kernel_rfl) ?_
        try simp only [List.append_toArray, List.append_nil, List.nil_append, List.cons_append]
        refine (fldN2 r m HM.out V1).mono ?_
        rintro e V2 ⟨rfl, hb⟩
        have B1 := Lib.hid hb
        clear hb 
        have C0_2 := Lib.hid (bel_step B0.out B1.out)
        refine ⟨_, rfl, ⟨(heap_keep F6.out C0_2.out), (heap_keep F8.out C0_2.out), (HH.out.keep C0_2.out)⟩, ?_⟩
        simp only [ptr, Act.put, List.setIfInBounds_toArray, List.set_cons_zero, List.set_cons_succ]
        refine wpOT_one rfl (by kernel_rfl) ?_
        refine hOp_call 47 Tryd.func47 (by kernel_rfl) (by kernel_rfl) _ _ #[.int .i64 (m : Int)] rfl (by kernel_rfl) ?_
        refine (fromInt_any m (by omega) V2).mono ?_
        rintro e V3 ⟨rfl, hb⟩
        have B2 := Lib.hid hb
        clear hb 
        have C0_3 := Lib.hid (bel_step C0_2.out B2.out)
        refine ⟨_, rfl, ⟨(heap_keep F6.out C0_3.out), (heap_keep F8.out C0_3.out), (HH.out.keep C0_3.out)⟩, ?_⟩
        simp only [ptr, Act.put, List.setIfInBounds_toArray, List.set_cons_zero, List.set_cons_succ]
        refine wpOT_one rfl (by kernel_rfl) ?_
        refine hOp_val (.pointer (some (gad (some ⟨e, 0, none⟩) (i * 1)))) (xg_idx .i64 (RowG.sg (HR.out.keep C0_3.out) hxl (Nat.le_refl _) (by omega)) HY.out Tryd.underlying48 (by kernel_rfl) rfl rfl rfl) ⟨⟨(heap_keep F6.out C0_3.out), (heap_keep F8.out C0_3.out), (HH.out.keep C0_3.out)⟩, ?_⟩
        simp only [ptr, Act.put, List.setIfInBounds_toArray, List.set_cons_zero, List.set_cons_succ]
        refine wpOT_one rfl (by kernel_rfl) ?_
        refine hOp_storeW e _ _ 50 (RowG.h (HR.out.keep C0_3.out)) (xg_store (HR.out.keep C0_3.out) (List.getElem?_eq_some_iff.1 HY.out).1 m (by kernel_rfl) rfl rfl rfl) ?_
        intro W5 q1 hfar hbel hsz
        have hro4 : RowG wdC V3 e 50 (fillP (colV rs gs 2) N i) := (HR.out.keep C0_3.out)
        have h84 := (heap_keep F8.out C0_3.out)
        have hi4 := HI.out.keep C0_3.out
        have q2 : RowG wdC W5 e 50 (fillP (colV rs gs 2) N (i + 1)) := by have h0 : RowG wdC W5 e 50 ((fillP (colV rs gs 2) N i).set i m) := q1; rw [fillP_set hget (by omega)] at h0; exact h0
        have hi5 : ColI w N0 b b6 gh bs N A n c rs B d gs i (2 + 1) W5 := hi4.store HEB.out hro4 q2 hfar hbel hsz colsQ_set
        have hk5 : Kin Bq W5 := (HK.out.trans (Kin.of_below C0_3.out)).trans (Kin.far hro4 rfl (Nat.le_of_eq hsz.symm) hfar)
        have h85 : W5.heap[b8]? = some (.cells #[.int .i64 r.who, .int .i64 r.when_, .int .i64 r.kind, .int .i64 r.value, .bool (!g)] 83 (0, 0)) := hfar _ _ (ne_types h84 hro4 (by decide)) h84
        refine ⟨⟨hi5.var, h85, hi5.hd⟩, ?_⟩
        simp only [Act.put, List.setIfInBounds_toArray, List.set_cons_zero, List.set_cons_succ]
        refine wpOT_nil ?_
        simp only [Exit.then, Exit.inBlock]
        refine wpR_plain (by kernel_rfl) (by simp [LetsOut, Exit.then, Exit.inBlock, endAll]) ?_
        refine wpList_run (by kernel_rfl) (.int .i64 3) W5 (xo_addI 2 1 3 (by omega) (by omega) (by omega) rfl rfl rfl) ?_
        simp only [Act.put, List.setIfInBounds_toArray, List.set_cons_zero, List.set_cons_succ]
        refine wpList_run (by kernel_rfl) (.int .i64 3) W5 rfl ?_
        simp only [Act.put, List.setIfInBounds_toArray, List.set_cons_zero, List.set_cons_succ]
        refine wpList_nil ?_
        simp only [Exit.then]
        go_roundw
        case rel => exact ⟨3, by omega, by go_num, hk5, hi5, h85⟩
        case measure => simp [intOf]
      · have hf := fok_of hvr 3 (by omega)
        simp only [fokB, decide_eq_true_eq] at hf
        have hw8 := widN_le 3
        obtain ⟨m, hm⟩ : ∃ m : Nat, fldI r 3 = (m : Int) := ⟨(fldI r 3).toNat, (Int.toNat_of_nonneg hf.1).symm⟩
        have hm256 : m < 256 := by have := hf.2; omega
        have hget : (colV rs gs 3)[i]? = some m := by have h0 := colV_lt (rs := rs) (gs := gs) (i := 3) (by omega) HE.out; rw [hm, Int.toNat_natCast] at h0; exact h0
        clear hf hw8
        have HM := Lib.hid hm
        clear hm
        obtain ⟨e, he⟩ : ∃ e, bs[3]? = some e := ⟨_, List.getElem?_eq_getElem (by have := HBL.out; omega)⟩
        have HEB := Lib.hid he
        have HEH : Hid ((bs.map (mkH N))[3]? = some (mkH N e)) := Lib.hid (by rw [List.getElem?_map, he]; rfl)
        have hro := HI.out.row.row 3 e _ he (colsQ_get (by omega))
        rw [if_neg (by omega)] at hro
        have HR := Lib.hid hro
        clear he hro
        have hxl : (fillP (colV rs gs 3) N i).length = N := fillP_length (by rw [colV_length hln hgn]; omega) (by omega)
        obtain ⟨y, hy⟩ : ∃ y, (fillP (colV rs gs 3) N i)[i]? = some y := ⟨_, List.getElem?_eq_getElem (by rw [hxl]; omega)⟩
        have HY := Lib.hid hy
        clear hy
        refine wpIn_seq ?_
        refine wpR_plain (by kernel_rfl) (by simp [LetsOut, Exit.then, Exit.inBlock, endAll]) ?_
        refine wpList_run (by kernel_rfl) (.bool true) wq (xo_lssT .i64 3 4 (by omega) rfl rfl rfl) ?_
        simp only [Act.put, List.setIfInBounds_toArray, List.set_cons_zero, List.set_cons_succ]
        refine wpList_nil ?_
        simp only [Exit.then]
        refine wpIn_seq ?_
        refine wpIn_cond_true rfl (wpIn_skip ?_)
        simp only [Exit.then, Exit.inBlock, ↓reduceIte, Nat.reduceEqDiff]
        refine wpIn_seq ?_
        refine wpIn_block ?_
        refine wpIn_seq ?_
        refine wpR_plain (by kernel_rfl) (by simp [LetsOut, Exit.then, Exit.inBlock, endAll]) ?_
        refine wpList_run (by kernel_rfl) (.int .i64 3) wq rfl ?_
        simp only [Act.put, List.setIfInBounds_toArray, List.set_cons_zero, List.set_cons_succ]
        refine wpList_run (by kernel_rfl) (.func (.func 61) #[] #[]) wq (xo_elt .i64 _ 3 4 _ (by decide) rfl Tryd.underlying76 (by kernel_rfl) Tryd.underlying75 rfl rfl rfl rfl) ?_
        simp only [Act.put, List.setIfInBounds_toArray, List.set_cons_zero, List.set_cons_succ]
        refine wpList_run (by kernel_rfl) (.int .i64 3) wq rfl ?_
        simp only [Act.put, List.setIfInBounds_toArray, List.set_cons_zero, List.set_cons_succ]
        refine wpList_run (by kernel_rfl) (.func (.func 61) #[] #[]) wq rfl ?_
        simp only [Act.put, List.setIfInBounds_toArray, List.set_cons_zero, List.set_cons_succ]
        refine wpList_nil ?_
        simp only [Exit.then]
        try simp only [List.append_eq, List.cons_append, List.nil_append]
        refine wpR_ordT (fun W => W.heap[b6]? = some (.cells #[.slice (some ⟨gh, 0, none⟩) 5 5] 38 (0, 0)) ∧ W.heap[b8]? = some (.cells #[.int .i64 r.who, .int .i64 r.when_, .int .i64 r.kind, .int .i64 r.value, .bool (!g)] 83 (0, 0)) ∧ RowG hdC W gh 48 (bs.map (mkH N))) (.q 0 (.q 1 (.q 2 (.q 3 (.q 4 (.q 5 (.q 6 (.q 7 (.one 8 (.one 9 (.one 10 (.one 11 .nil)))))))))))) (by kernel_rfl) (by kernel_rfl) (by simp [LetsOut, Exit.then, Exit.inBlock, endAll]) (by kernel_rfl) (fun _ _ dt _ _ h => by first | exact h.elim | (cases dt <;> exact h)) (by kernel_rfl) (by kernel_rfl) ⟨F6.out, F8.out, HH.out⟩ ?_
        have hb : Below wq.heap.size wq wq.drew := (Below.refl _ _).drew
        generalize wq.drew = V1 at hb ⊢
        have B0 := Lib.hid hb
        clear hb
        refine wpOT_q (.slice (some ⟨gh, 0, none⟩) 5 5) rfl (by kernel_rfl) (fun v hW => (xo_load1 ⟨b6, 0, none⟩ _ (cells_at hW.1 0 rfl) Tryd.underlying38 rfl rfl rfl)) ?_
        simp only [ptr, Act.put, List.setIfInBounds_toArray, List.set_cons_zero, List.set_cons_succ]
        refine wpOT_q (.int .i64 3) rfl (by kernel_rfl) (fun v hW => rfl) ?_
        simp only [ptr, Act.put, List.setIfInBounds_toArray, List.set_cons_zero, List.set_cons_succ]
        refine wpOT_q (.pointer (some (gad (some ⟨gh, 0, none⟩) (3 * 1)))) rfl (by kernel_rfl) (fun v hW => (xg_idx .i64 (RowG.sg (n := 5) (c := 5) hW.2.2 (by rw [List.length_map]; exact HBL.out) (Nat.le_refl _) (by omega)) HEH.out Tryd.underlying38 (by kernel_rfl) rfl rfl rfl)) ?_
        simp only [ptr, Act.put, List.setIfInBounds_toArray, List.set_cons_zero, List.set_cons_succ]
        refine wpOT_q (.slice (some ⟨e, 0, none⟩) N N) rfl (by kernel_rfl) (fun v hW => (xg_load1 (E := hdC) (i := 3) (j := 0) (RowG.sg (n := 5) (c := 5) hW.2.2 (by rw [List.length_map]; exact HBL.out) (Nat.le_refl _) (by omega)) HEH.out rfl rfl Tryd.underlying48 rfl rfl rfl)) ?_
        simp only [ptr, Act.put, List.setIfInBounds_toArray, List.set_cons_zero, List.set_cons_succ]
        refine wpOT_q (.int .i64 (i : Int)) rfl (by kernel_rfl) (fun v hW => rfl) ?_
        simp only [ptr, Act.put, List.setIfInBounds_toArray, List.set_cons_zero, List.set_cons_succ]
        refine wpOT_q (.func (.func 61) #[] #[]) rfl (by kernel_rfl) (fun v hW => rfl) ?_
        simp only [ptr, Act.put, List.setIfInBounds_toArray, List.set_cons_zero, List.set_cons_succ]
        refine wpOT_q (.pointer (some ⟨b8, 0, none⟩)) rfl (by kernel_rfl) (fun v hW => (xo_fld0 0 b8 0 (by kernel_rfl) rfl rfl)) ?_
        simp only [ptr, Act.put, List.setIfInBounds_toArray, List.set_cons_zero, List.set_cons_succ]
        refine wpOT_q (.agg #[.int .i64 r.who, .int .i64 r.when_, .int .i64 r.kind, .int .i64 r.value]) rfl (by kernel_rfl) (fun v hW => (xo_loadR b8 0 [.int .i64 r.who, .int .i64 r.when_, .int .i64 r.kind, .int .i64 r.value] (rng_of hW.2.1 0 _ (fun j v hv => by rcases j with _ | _ | _ | _ | j <;> first | exact hv | cases hv)) Tryd.underlying24 rfl (by kernel_rfl) rfl rfl)) ?_
        simp only [ptr, Act.put, List.setIfInBounds_toArray, List.set_cons_zero, List.set_cons_succ]
        refine wpOT_one rfl (by kernel_rfl) ?_
        refine hOp_callA 61 Tryd.func61 (by kernel_rfl) (by kernel_rfl) 40 _ #[] _ rfl rfl #[.agg #[.int .i64 r.who, .int .i64 r.when_, .int .i64 r.kind, .int .i64 r.value]] (by kernel_rfl) ?_
        try simp only [List.append_toArray, List.append_nil, List.nil_append, List.cons_append]
        refine (fldN3 r m HM.out V1).mono ?_
        rintro e V2 ⟨rfl, hb⟩
        have B1 := Lib.hid hb
        clear hb 
        have C0_2 := Lib.hid (bel_step B0.out B1.out)
        refine ⟨_, rfl, ⟨(heap_keep F6.out C0_2.out), (heap_keep F8.out C0_2.out), (HH.out.keep C0_2.out)⟩, ?_⟩
        simp only [ptr, Act.put, List.setIfInBounds_toArray, List.set_cons_zero, List.set_cons_succ]
        refine wpOT_one rfl (by kernel_rfl) ?_
        refine hOp_call 47 Tryd.func47 (by kernel_rfl) (by kernel_rfl) _ _ #[.int .i64 (m : Int)] rfl (by kernel_rfl) ?_
        refine (fromInt_any m (by omega) V2).mono ?_
        rintro e V3 ⟨rfl, hb⟩
        have B2 := Lib.hid hb
        clear hb 
        have C0_3 := Lib.hid (bel_step C0_2.out B2.out)
        refine ⟨_, rfl, ⟨(heap_keep F6.out C0_3.out), (heap_keep F8.out C0_3.out), (HH.out.keep C0_3.out)⟩, ?_⟩
        simp only [ptr, Act.put, List.setIfInBounds_toArray, List.set_cons_zero, List.set_cons_succ]
        refine wpOT_one rfl (by kernel_rfl) ?_
        refine hOp_val (.pointer (some (gad (some ⟨e, 0, none⟩) (i * 1)))) (xg_idx .i64 (RowG.sg (HR.out.keep C0_3.out) hxl (Nat.le_refl _) (by omega)) HY.out Tryd.underlying48 (by kernel_rfl) rfl rfl rfl) ⟨⟨(heap_keep F6.out C0_3.out), (heap_keep F8.out C0_3.out), (HH.out.keep C0_3.out)⟩, ?_⟩
        simp only [ptr, Act.put, List.setIfInBounds_toArray, List.set_cons_zero, List.set_cons_succ]
        refine wpOT_one rfl (by kernel_rfl) ?_
        refine hOp_storeW e _ _ 50 (RowG.h (HR.out.keep C0_3.out)) (xg_store (HR.out.keep C0_3.out) (List.getElem?_eq_some_iff.1 HY.out).1 m (by kernel_rfl) rfl rfl rfl) ?_
        intro W5 q1 hfar hbel hsz
        have hro4 : RowG wdC V3 e 50 (fillP (colV rs gs 3) N i) := (HR.out.keep C0_3.out)
        have h84 := (heap_keep F8.out C0_3.out)
        have hi4 := HI.out.keep C0_3.out
        have q2 : RowG wdC W5 e 50 (fillP (colV rs gs 3) N (i + 1)) := by have h0 : RowG wdC W5 e 50 ((fillP (colV rs gs 3) N i).set i m) := q1; rw [fillP_set hget (by omega)] at h0; exact h0
        have hi5 : ColI w N0 b b6 gh bs N A n c rs B d gs i (3 + 1) W5 := hi4.store HEB.out hro4 q2 hfar hbel hsz colsQ_set
        have hk5 : Kin Bq W5 := (HK.out.trans (Kin.of_below C0_3.out)).trans (Kin.far hro4 rfl (Nat.le_of_eq hsz.symm) hfar)
        have h85 : W5.heap[b8]? = some (.cells #[.int .i64 r.who, .int .i64 r.when_, .int .i64 r.kind, .int .i64 r.value, .bool (!g)] 83 (0, 0)) := hfar _ _ (ne_types h84 hro4 (by decide)) h84
        refine ⟨⟨hi5.var, h85, hi5.hd⟩, ?_⟩
        simp only [Act.put, List.setIfInBounds_toArray, List.set_cons_zero, List.set_cons_succ]
        refine wpOT_nil ?_
        simp only [Exit.then, Exit.inBlock]
        refine wpR_plain (by kernel_rfl) (by simp [LetsOut, Exit.then, Exit.inBlock, endAll]) ?_
        refine wpList_run (by kernel_rfl) (.int .i64 4) W5 (xo_addI 3 1 4 (by omega) (by omega) (by omega) rfl rfl rfl) ?_
        simp only [Act.put, List.setIfInBounds_toArray, List.set_cons_zero, List.set_cons_succ]
        refine wpList_run (by kernel_rfl) (.int .i64 4) W5 rfl ?_
        simp only [Act.put, List.setIfInBounds_toArray, List.set_cons_zero, List.set_cons_succ]
        refine wpList_nil ?_
        simp only [Exit.then]
        go_roundw
        case rel => exact ⟨4, by omega, by go_num, hk5, hi5, h85⟩
        case measure => simp [intOf]
  case fin =>
    intro D W hD hj hd
    rw [entL_length (by omega), hln] at hj
    rw [hNN] at hD
    simp only [Exit.inBlock, Exit.then]
    go_upto_region 16 with fail
    refine wp_region_lit ?_
    have F6 := Lib.hid hj.var
    refine wpList_run (by kernel_rfl) (.slice (some ⟨gh, 0, none⟩) 5 5) W (xo_load1 ⟨b6, 0, none⟩ _ (cells_at F6.out 0 rfl) Tryd.underlying38 rfl rfl rfl) ?_
    simp only [Act.put, List.setIfInBounds_toArray, List.set_cons_zero, List.set_cons_succ]
    refine wpList_run (by kernel_rfl) (.slice (some ⟨gh, 0, none⟩) 5 5) W rfl ?_
    simp only [Act.put, List.setIfInBounds_toArray, List.set_cons_zero, List.set_cons_succ]
    refine wpList_run (by kernel_rfl) (.int .i64 0) W rfl ?_
    simp only [Act.put, List.setIfInBounds_toArray, List.set_cons_zero, List.set_cons_succ]
    refine wpList_nil ?_
    go_wp2_with fail
    refine ⟨by simp, .inl ⟨_, _, rfl, run_takeDeferred hd, ?_⟩⟩
    have hz := hj.abide hwN (Abide.putObj (N := N0) (.deferred none) hd rfl hD)
    refine ⟨_, results_tmp2 rfl _ _ _, gh, bs, rfl, ?_, ?_, hwg, hz.bel⟩
    · rw [HNN.out]; exact hz.hd
    · have h0 := hz.row; rw [colsQ_all hln hgn] at h0; rw [HNN.out]; exact h0
end Go.Proofs.YtopicjdmajlndaaDoor

