/- A law of stage 12: ReadingStreams. -/
import Derived.Test.YtopicjdmajlndaaDoorH18
namespace Go.Proofs.YtopicjdmajlndaaDoor
set_option linter.unusedVariables false
set_option linter.unusedSimpArgs false
set_option linter.unusedSectionVars false
set_option maxRecDepth 8000
open Go.RowKit Go.Proofs.YtopicjdmajlndaaDoor.K
attribute [local irreducible] wpList wpQuiet
theorem liveL_snoc {rs : List Rd} {r : Rd} : ∀ {gs : List Bool}, gs.length = rs.length → liveL (rs ++ [r]) (gs ++ [false]) = liveL rs gs ++ [r] := by
  induction rs with
  | nil =>
    intro gs h
    have : gs = [] := List.eq_nil_of_length_eq_zero h
    subst this
    rfl
  | cons a rs ih =>
    intro gs h
    cases gs with
    | nil => cases h
    | cons g gs =>
      have h2 : gs.length = rs.length := by simpa using h
      simp only [List.cons_append, liveL, ih h2]
      split <;> rfl
theorem liveL_set {rs : List Rd} : ∀ {gs : List Bool} {k : Nat}, gs.length = rs.length → gs[k]? = some false → (liveL rs (gs.set k true)).length + 1 = (liveL rs gs).length := by
  induction rs with
  | nil =>
    intro gs k h hg
    have : gs = [] := List.eq_nil_of_length_eq_zero h
    subst this
    simp at hg
  | cons a rs ih =>
    intro gs k h hg
    cases gs with
    | nil => cases h
    | cons g gs =>
      have h2 : gs.length = rs.length := by simpa using h
      cases k with
      | zero =>
        simp only [List.getElem?_cons_zero, Option.some.injEq] at hg
        subst hg
        simp [liveL]
      | succ k =>
        simp only [List.getElem?_cons_succ] at hg
        have := ih h2 hg
        simp only [List.set_cons_succ, liveL]
        split
        · exact this
        · simp only [List.length_cons]; omega
theorem get_snoc {α : Type} (l : List α) (x : α) : (l ++ [x])[l.length]? = some x := by simp
theorem hall_snoc {rs : List Rd} {r : Rd} (h : ∀ r ∈ rs, vR r = true) (hr : vR r = true) : ∀ q ∈ rs ++ [r], vR q = true := fun q hq => by
  rcases List.mem_append.1 hq with hq | hq
  · exact h q hq
  · rw [List.mem_singleton] at hq
    subst hq
    exact hr
theorem exec_eqBo {ev : Operand → Value} {o : Oper} {w : World} {x y : Operand} {t : TypeId} (u v : Bool) (ho : o.op = .binOp .eql 4 x y t) (hx : ev x = .bool u) (hy : ev y = .bool v) : (execOp ev o).run Tryd.prog w = .ok (.value (.bool (u == v))) w := by
  unfold execOp
  rw [ho]
  simp only [hx, hy]
  cases u <;> cases v <;> go_simp
theorem live_as (A : Option Addr) (n c : Nat) (rs : List Rd) (B : Option Addr) (d : Nat) (gs : List Bool) (hn : n ≤ 65536) (l : List Rd) (hl : liveL rs gs = l) (k : Nat) (hk : l.length = k) (w : World) (hL : Sg rdC 4 w A n c rs) (hG : Sg boC 1 w B n d gs) :
    Calls Tryd.prog 31 #[.agg #[.slice A n c, .slice B n d]] w fun e w' => ∃ A2 c2, e = .returned (.slice A2 k c2) ∧ Sg rdC 4 w' A2 k c2 l ∧ Below w.heap.size w w' := by
  subst hl hk
  exact live_any A n c rs B d gs hn w hL hG
set_option maxRecDepth 100000 in
set_option maxHeartbeats 16000000 in
theorem rStreams_any (A : Option Addr) (n c : Nat) (ops : List Opn) (hby : ∀ o ∈ ops, o.b0 < 256 ∧ o.b1 < 256 ∧ o.b2 < 256) (x y z : Nat) (hx : x < 256) (hy : y < 256) (hz : z < 256) (at_ : Nat) (hat : at_ < 256) (w : World) (hM : Sg opC 4 w A n c ops) (hW : Gw w) :
    Calls Tryd.prog 5 #[.slice A n c, .agg #[.int .u8 (x : Int), .int .u8 (y : Int), .int .u8 (z : Int)], .int .u8 (at_ : Int)] w fun e w' => e = .returned (.bool true) ∧ Below w.heap.size w w' := by
  have HW := Lib.hid hW
  have HM := Lib.hid hM
  have HBY := Lib.hid hby
  clear hW hM hby
  go_enter Tryd.func5, Tryd.ntmps5
  go_upto_region 1 with fail
  refine wp_named1 (fun V1 hb g0 hlt => ?_)
  have B0 := Lib.hid hb
  have Fv0_4 : Hid (V1.heap[w.heap.size]? = some (.cells #[.int .u8 (x : Int), .int .u8 (y : Int), .int .u8 (z : Int)] 44 (0, 0))) := Lib.hid (g0)
  have Gb0 : Hid (w.heap.size ≤ w.heap.size) := Lib.hid (by omega)
  clear hb g0 hlt
  have Lt0 : Hid (w.heap.size < V1.heap.size) := Lib.hid (xp_lt Fv0_4.out)
  refine wp_region_lit ?_
  refine wpList_call (by kernel_rfl) 10 Tryd.func10 (by kernel_rfl) (by kernel_rfl) _ _ #[] rfl (by kernel_rfl) ?_
  refine (sanity12_any V1 (HW.out.keep B0.out)).mono ?_
  rintro e V2 ⟨rfl, hb⟩
  have B1 := Lib.hid hb
  clear hb 
  refine ⟨_, rfl, ?_⟩
  simp only [Act.put, List.setIfInBounds_toArray, List.set_cons_zero, List.set_cons_succ]
  refine wpList_run (by kernel_rfl) (.bool true) V2 rfl ?_
  simp only [Act.put, List.setIfInBounds_toArray, List.set_cons_zero, List.set_cons_succ]
  refine wpList_nil ?_
  go_upto_region 2 with fail
  refine wp_region_lit ?_
  refine wpList_run (by kernel_rfl) (.slice A n c) V2 rfl ?_
  simp only [Act.put, List.setIfInBounds_toArray, List.set_cons_zero, List.set_cons_succ]
  have C0_2 := Lib.hid (bel_step B0.out B1.out)
  refine wpList_call (by kernel_rfl) 11 Tryd.func11 (by kernel_rfl) (by kernel_rfl) _ _ #[.slice A n c, .int .i64 30] rfl (by kernel_rfl) ?_
  refine (rmade_any A n c ops 30 (by omega) HBY.out V2 (HM.out.keep C0_2.out)).mono ?_
  rintro e V3 ⟨rs, gs, m, A2, c2, E2, d2, rfl, hmd, hst, hs1, hs2, hb⟩
  have B2 := Lib.hid hb
  have HL := Lib.hid hs1
  have HG := Lib.hid hs2
  clear hb hs1 hs2
  refine ⟨_, rfl, ?_⟩
  simp only [Act.put, List.setIfInBounds_toArray, List.set_cons_zero, List.set_cons_succ]
  refine wpList_new #[.slice none 0 0, .slice none 0 0] 30 (by kernel_rfl) (xo_alloc #[.slice none 0 0, .slice none 0 0] (by kernel_rfl) rfl) ?_
  intro b8 V4 hge h0 hb
  have C1_3 := Lib.hid (bel_step B1.out B2.out)
  have N1_0 : Hid (w.heap.size ≠ b8) := Lib.hid (xp_lt0 (heap_keep Fv0_4.out C1_3.out) hge)
  have Ge2 : Hid (V3.heap.size ≤ b8) := Lib.hid hge
  have B3 := Lib.hid hb
  have Fv3_8 : Hid (V4.heap[b8]? = some (.cells #[.slice none 0 0, .slice none 0 0] 30 (0, 0))) := Lib.hid (h0)
  have Lt4 : Hid (b8 < V4.heap.size) := Lib.hid (xp_lt Fv3_8.out)
  clear hge h0 hb
  simp only [ptr, Act.put, List.setIfInBounds_toArray, List.set_cons_zero, List.set_cons_succ]
  refine wpList_storeW b8 #[.slice none 0 0, .slice none 0 0] #[.slice A2 m c2, .slice E2 m d2] 30 (by kernel_rfl) Fv3_8.out (xo_storeW b8 #[.slice none 0 0, .slice none 0 0] #[.slice A2 m c2, .slice E2 m d2] Fv3_8.out (by kernel_rfl) rfl (by simp [Value.oneCell']) rfl rfl rfl) ?_
  intro X4_5 h1 hfar hbel hsz
  have hbr := hbel _ _ Ge2.out B3.out
  clear B3
  have B3 := Lib.hid hbr
  clear hbr
  clear Fv3_8
  have Fv3_8 : Hid (X4_5.heap[b8]? = some (.cells #[.slice A2 m c2, .slice E2 m d2] 30 (0, 0))) := Lib.hid (h1)
  have HszX4_5 := Lib.hid hsz
  clear h1 hfar hbel hsz
  simp only [ptr, Act.put, List.setIfInBounds_toArray, List.set_cons_zero, List.set_cons_succ]
  refine wpList_nil ?_
  have hmr := HL.out.len
  have hmg := HG.out.len
  have hmm := hst.most
  have HST := Lib.hid hst
  clear hmd hst
  go_upto_region 3 with fail
  refine wp_floatP [0, 1, 2, 3, 4, 5, 6, 7, 8, 9, 10] (l' := [_, _, _, _, _, _, _, _, _, _, _]) (by kernel_rfl) (lexOK_of (by kernel_rfl) (by kernel_rfl)) (ordOK_of (by kernel_rfl) (by kernel_rfl)) rfl rfl ?_
  simp only [List.getElem_toArray, List.getElem_cons_succ, List.getElem_cons_zero]
  intro V5 hb hSW
  have B4 := Lib.hid hb
  have HF5 := Lib.hid hSW
  clear hb hSW
  refine wpF_make (.cells #[] 24, fun b => .slice (some ⟨b, 0, none⟩) 0 0) (by kernel_rfl) (by kernel_rfl) (by kernel_rfl) (fun V => xo_empty (size := 4) Tryd.underlying27 (by kernel_rfl) rfl V) (fun g22 V6 hb h0 hbz => ?_)
  have B5 := Lib.hid hb
  have HF6 := Lib.hid (HF5.out.ext hb)
  clear hb h0 hbz
  simp only [ptr, Act.put, List.setIfInBounds_toArray, List.set_cons_zero, List.set_cons_succ]
  refine wpF_seg 2 (by kernel_rfl) ?_
  simp only [List.take_succ_cons, List.take_zero, List.drop_succ_cons, List.drop_zero]
  refine wpQuiet_val (by kernel_rfl) (.pointer (some ⟨b8, 0, none⟩)) (fun v hv => (xo_fld0 0 b8 0 (by kernel_rfl) rfl rfl)) ?_
  simp only [Act.put, List.setIfInBounds_toArray, List.set_cons_zero, List.set_cons_succ]
  refine wpQuiet_val (by kernel_rfl) (.slice A2 m c2) (fun v hv => (xo_load1 ⟨b8, 0, none⟩ _ (cells_at (heap_keep Fv3_8.out (laterF hv)) 0 rfl) Tryd.underlying27 rfl rfl rfl)) ?_
  simp only [Act.put, List.setIfInBounds_toArray, List.set_cons_zero, List.set_cons_succ]
  refine wpQuiet_nil ?_
  refine wpF_hop (by kernel_rfl) (by kernel_rfl) (by kernel_rfl) HF6.out (fun V7 hb => ?_)
  have B6 := Lib.hid hb
  have HF7 := Lib.hid (HF6.out.ext hb)
  clear hb
  have C3_5 := Lib.hid (bel_step B3.out B4.out)
  have C3_6 := Lib.hid (bel_step C3_5.out B5.out)
  have C3_7 := Lib.hid (bel_step C3_6.out B6.out)
  refine hOp_appE (.tmp 22) (.tmp 24) 27 rfl (.agg #[.int .i64 0, .int .i64 0, .int .i64 0, .int .i64 0]) 32 Tryd.underlying27 (by kernel_rfl) rfl rfl rfl (HL.out.keep C3_7.out) (by unfold maxLen; omega) (by omega) ?_
  intro A25n c25n V8 hb hs
  have B7 := Lib.hid hb
  have HF8 := Lib.hid (HF7.out.ext hb)
  have Sn25 := Lib.hid hs
  refine ⟨hb, ?_⟩
  clear hb hs
  simp only [ptr, Act.put, List.setIfInBounds_toArray, List.set_cons_zero, List.set_cons_succ]
  refine wpF_make (.cells #[] 4, fun b => .slice (some ⟨b, 0, none⟩) 0 0) (by kernel_rfl) (by kernel_rfl) (by kernel_rfl) (fun V => xo_empty (size := 1) Tryd.underlying28 (by kernel_rfl) rfl V) (fun g26 V9 hb h0 hbz => ?_)
  have B8 := Lib.hid hb
  have HF9 := Lib.hid (HF8.out.ext hb)
  clear hb h0 hbz
  simp only [ptr, Act.put, List.setIfInBounds_toArray, List.set_cons_zero, List.set_cons_succ]
  refine wpF_seg 2 (by kernel_rfl) ?_
  simp only [List.take_succ_cons, List.take_zero, List.drop_succ_cons, List.drop_zero]
  refine wpQuiet_val (by kernel_rfl) (.pointer (some ⟨b8, 1, none⟩)) (fun v hv => (xo_fld0 1 b8 1 (by kernel_rfl) rfl rfl)) ?_
  simp only [Act.put, List.setIfInBounds_toArray, List.set_cons_zero, List.set_cons_succ]
  refine wpQuiet_val (by kernel_rfl) (.slice E2 m d2) (fun v hv => (xo_load1 ⟨b8, 1, none⟩ _ (cells_at (heap_keep Fv3_8.out (laterF hv)) 1 rfl) Tryd.underlying28 rfl rfl rfl)) ?_
  simp only [Act.put, List.setIfInBounds_toArray, List.set_cons_zero, List.set_cons_succ]
  refine wpQuiet_nil ?_
  refine wpF_hop (by kernel_rfl) (by kernel_rfl) (by kernel_rfl) HF9.out (fun V10 hb => ?_)
  have B9 := Lib.hid hb
  have HF10 := Lib.hid (HF9.out.ext hb)
  clear hb
  have C3_8 := Lib.hid (bel_step C3_7.out B7.out)
  have C3_9 := Lib.hid (bel_step C3_8.out B8.out)
  have C3_10 := Lib.hid (bel_step C3_9.out B9.out)
  refine hOp_appE (.tmp 26) (.tmp 28) 28 rfl (.bool false) 1 Tryd.underlying28 (by kernel_rfl) rfl rfl rfl (HG.out.keep C3_10.out) (by unfold maxLen; omega) (by omega) ?_
  intro A29n c29n V11 hb hs
  have B10 := Lib.hid hb
  have HF11 := Lib.hid (HF10.out.ext hb)
  have Sn29 := Lib.hid hs
  refine ⟨hb, ?_⟩
  clear hb hs
  simp only [ptr, Act.put, List.setIfInBounds_toArray, List.set_cons_zero, List.set_cons_succ]
  refine wpF_seg 1 (by kernel_rfl) ?_
  simp only [List.take_succ_cons, List.take_zero, List.drop_succ_cons, List.drop_zero]
  refine wpQuiet_val (by kernel_rfl) (.agg #[.slice A25n m c25n, .slice A29n m c29n]) (fun v hv => (by unfold execOp; go_simp)) ?_
  simp only [Act.put, List.setIfInBounds_toArray, List.set_cons_zero, List.set_cons_succ]
  refine wpQuiet_nil ?_
  refine wpF_make (.cells #[.slice none 0 0, .slice none 0 0] 30, fun b => ptr b) (by kernel_rfl) (by kernel_rfl) (by kernel_rfl) (fun V => xo_alloc #[.slice none 0 0, .slice none 0 0] (by kernel_rfl) rfl) (fun b9 V12 hb h0 hbz => ?_)
  have Ge6 : Hid (X4_5.heap.size ≤ b9) := Lib.hid hbz
  have B11 := Lib.hid hb
  have HF12 := Lib.hid (HF11.out.ext hb)
  have Fv7_9 : Hid (V12.heap[b9]? = some (.cells #[.slice none 0 0, .slice none 0 0] 30 (0, 0))) := Lib.hid (h0)
  have C1_4 := Lib.hid (bel_step C1_3.out B3.out)
  have N8 : Hid (w.heap.size ≠ b9) := Lib.hid (Nat.ne_of_lt (Nat.lt_of_lt_of_le (xp_lt (heap_keep Fv0_4.out C1_4.out)) hbz))
  have N9 : Hid (b8 ≠ b9) := Lib.hid (Nat.ne_of_lt (Nat.lt_of_lt_of_le (xp_lt Fv3_8.out) hbz))
  clear hb h0
  simp only [ptr, Act.put, List.setIfInBounds_toArray, List.set_cons_zero, List.set_cons_succ]
  refine wpF_last (fun V => V.setRow b9 #[.slice A25n m c25n, .slice A29n m c29n]) (by kernel_rfl) (by kernel_rfl) (by kernel_rfl) (fun V hV => xo_storeW (x := .tmp 9) (y := .tmp 30) b9 #[.slice none 0 0, .slice none 0 0] #[.slice A25n m c25n, .slice A29n m c29n] (heap_keep Fv7_9.out hV) (by kernel_rfl) rfl (by simp [Value.oneCell']) rfl rfl rfl) (fun V hV => ⟨⟨_, bel_setRow (HF12.out.ext hV).below hbz _⟩, rfl⟩) (fun V hV X12 hX => ?_)
  have hU : Below X4_5.heap.size X4_5 X12 := (bel_setRow (HF12.out.ext hV).below hbz _).trans (hX.mono (bel_setRow (HF12.out.ext hV).below hbz #[.slice A25n m c25n, .slice A29n m c29n]).size)
  have YFv7_9 : X12.heap[b9]? = some (.cells #[.slice A25n m c25n, .slice A29n m c29n] 30 (0, 0)) := heap_keep (setRow_heap V b9 _ #[.slice A25n m c25n, .slice A29n m c29n] _ _ (heap_keep Fv7_9.out hV)) hX
  have C8_10 := Lib.hid (bel_step B8.out B9.out)
  have C8_11 := Lib.hid (bel_step C8_10.out B10.out)
  have C8_12 := Lib.hid (bel_step C8_11.out B11.out)
  have YSn25 : Sg rdC 4 X12 A25n m c25n rs := (Sg.farSl ((Sn25.out.keep C8_12.out).keep hV) rd_nosl (heap_keep Fv7_9.out hV) (by simp [isSl]) (fun q o hq h0 => heap_farRow h0 hq _)).keep hX
  have YSn29 : Sg boC 1 X12 A29n m c29n gs := (Sg.farSl ((Sn29.out.keep B11.out).keep hV) bo_nosl (heap_keep Fv7_9.out hV) (by simp [isSl]) (fun q o hq h0 => heap_farRow h0 hq _)).keep hX
  clear hV hX hbz
  clear HF5
  clear HF6
  clear HF7
  clear HF8
  clear HF9
  clear HF10
  clear HF11
  clear HF12
  have hbr := hU
  clear B4
  have B4 := Lib.hid hbr
  clear hbr
  clear hU
  clear Fv7_9
  have Fv7_9 : Hid (X12.heap[b9]? = some (.cells #[.slice A25n m c25n, .slice A29n m c29n] 30 (0, 0))) := Lib.hid YFv7_9
  clear YFv7_9
  clear Sn25
  have Sn25 := Lib.hid YSn25
  clear YSn25
  clear Sn29
  have Sn29 := Lib.hid YSn29
  clear YSn29
  simp only [Act.put, List.setIfInBounds_toArray, List.set_cons_zero, List.set_cons_succ]
  obtain ⟨lv, hlv⟩ : ∃ lv, liveL rs gs = lv := ⟨_, rfl⟩
  obtain ⟨nb, hnb⟩ : ∃ nb, lv.length = nb := ⟨_, rfl⟩
  have HLV := Lib.hid hlv
  have HNB := Lib.hid hnb
  have hnbm : nb ≤ m := by have := liveL_le rs gs; rw [hlv, hnb, hmr] at this; exact this
  clear hlv hnb
  go_upto_region 4 with fail
  refine wp_region_lit ?_
  refine wpList_run (by kernel_rfl) (.agg #[.slice A2 m c2, .slice E2 m d2]) X12 (xo_loadW b8 _ (heap_keep Fv3_8.out B4.out) Tryd.underlying30 rfl (by kernel_rfl) rfl rfl) ?_
  simp only [Act.put, List.setIfInBounds_toArray, List.set_cons_zero, List.set_cons_succ]
  have C3_5 := Lib.hid (bel_step B3.out B4.out)
  refine wpList_call (by kernel_rfl) 31 Tryd.func31 (by kernel_rfl) (by kernel_rfl) _ _ #[.agg #[.slice A2 m c2, .slice E2 m d2]] rfl (by kernel_rfl) ?_
  refine (live_as A2 m c2 rs E2 d2 gs (by omega) lv HLV.out nb HNB.out X12 (HL.out.keep C3_5.out) (HG.out.keep C3_5.out)).mono ?_
  rintro e V6 ⟨Ab, cb, rfl, hs, hb⟩
  have B5 := Lib.hid hb
  have HLb := Lib.hid hs
  clear hb hs
  refine ⟨_, rfl, ?_⟩
  simp only [Act.put, List.setIfInBounds_toArray, List.set_cons_zero, List.set_cons_succ]
  refine wpList_run (by kernel_rfl) (.slice Ab nb cb) V6 rfl ?_
  simp only [Act.put, List.setIfInBounds_toArray, List.set_cons_zero, List.set_cons_succ]
  refine wpList_nil ?_
  have hvr : vR (decR x y z) = true := vR_dec hx hy hz
  go_upto_region 5 with fail
  refine wp_cutP (α := Option Addr × Nat × Option Addr × Nat × Nat) (fun ⟨At, ct, Bt, dt, b11⟩ => [(34, .agg #[.slice A2 m c2, .slice E2 m d2]), (35, .agg #[.int .u8 (x : Int), .int .u8 (y : Int), .int .u8 (z : Int)]), (36, .agg #[.int .i64 ((decR x y z).who), .int .i64 ((decR x y z).when_), .int .i64 ((decR x y z).kind), .int .i64 ((decR x y z).value)]), (37, .tuple #[.agg #[.slice At (m + 1) ct, .slice Bt (m + 1) dt], .int .i64 0]), (33, .tuple #[.agg #[.slice At (m + 1) ct, .slice Bt (m + 1) dt], .int .i64 0]), (38, .agg #[.slice At (m + 1) ct, .slice Bt (m + 1) dt]), (39, .int .i64 0), (11, .pointer (some ⟨b11, 0, none⟩)), (12, .int .i64 0)]) (fun ⟨At, ct, Bt, dt, b11⟩ W => Below V6.heap.size V6 W ∧ V6.heap.size ≤ b11 ∧ W.heap[b11]? = some (.cells #[.slice At (m + 1) ct, .slice Bt (m + 1) dt] 30 (0, 0)) ∧ Sg rdC 4 W At (m + 1) ct (rs ++ [(decR x y z)]) ∧ Sg boC 1 W Bt (m + 1) dt (gs ++ [false])) ?_ ?_
  · have C4_6 := Lib.hid (bel_step B4.out B5.out)
    have C1_5 := Lib.hid (bel_step C1_4.out B4.out)
    have C1_6 := Lib.hid (bel_step C1_5.out B5.out)
    try simp only [List.append_eq, List.cons_append, List.nil_append]
    refine wp_ordT (fun W => Below V6.heap.size V6 W) (.q 0 (.q 1 (.fork 2 (.fork 3 (.q 4 (.q 5 (.q 6 (.one 7 (.one 8 (.q 9 .nil)))))) 7 (.one 3 (.q 4 (.q 5 (.q 6 (.one 8 (.q 9 .nil))))))) 7 (.one 2 (.one 3 (.q 4 (.q 5 (.q 6 (.one 8 (.q 9 .nil)))))))))) (by kernel_rfl) (by kernel_rfl) (fun _ _ dt _ _ h => by first | exact h.elim | (cases dt <;> exact h)) (by kernel_rfl) (by kernel_rfl) (Below.refl _ _).drew ?_
    have hb : Below V6.heap.size V6 V6.drew := (Below.refl _ _).drew
    generalize V6.drew = V7 at hb ⊢
    have B6 := Lib.hid hb
    clear hb
    refine wpOT_q (.agg #[.slice A2 m c2, .slice E2 m d2]) rfl (by kernel_rfl) (fun v hW => (xo_loadW b8 _ (heap_keep (heap_keep Fv3_8.out C4_6.out) hW) Tryd.underlying30 rfl (by kernel_rfl) rfl rfl)) ?_
    simp only [ptr, Act.put, List.setIfInBounds_toArray, List.set_cons_zero, List.set_cons_succ]
    refine wpOT_q (.agg #[.int .u8 (x : Int), .int .u8 (y : Int), .int .u8 (z : Int)]) rfl (by kernel_rfl) (fun v hW => (xo_loadW w.heap.size _ (heap_keep (heap_keep Fv0_4.out C1_6.out) hW) Tryd.underlying44 rfl (by kernel_rfl) rfl rfl)) ?_
    simp only [ptr, Act.put, List.setIfInBounds_toArray, List.set_cons_zero, List.set_cons_succ]
    refine wpOT_fork ?_ ?_
    · refine wpOT_one rfl (by kernel_rfl) ?_
      refine hOp_call 25 Tryd.func25 (by kernel_rfl) (by kernel_rfl) _ _ #[.agg #[.int .u8 (x : Int), .int .u8 (y : Int), .int .u8 (z : Int)]] rfl (by kernel_rfl) ?_
      refine (rreading_any x y z hx hy hz V7).mono ?_
      rintro e V8 ⟨rfl, hb⟩
      have B7 := Lib.hid hb
      clear hb 
      have C6_8 := Lib.hid (bel_step B6.out B7.out)
      refine ⟨_, rfl, C6_8.out, ?_⟩
      simp only [ptr, Act.put, List.setIfInBounds_toArray, List.set_cons_zero, List.set_cons_succ]
      refine wpOT_fork ?_ ?_
      · refine wpOT_one rfl (by kernel_rfl) ?_
        have C3_6 := Lib.hid (bel_step C3_5.out B5.out)
        have C3_7 := Lib.hid (bel_step C3_6.out B6.out)
        have C3_8 := Lib.hid (bel_step C3_7.out B7.out)
        have C0_3 := Lib.hid (bel_step C0_2.out B2.out)
        have C0_4 := Lib.hid (bel_step C0_3.out B3.out)
        have C0_5 := Lib.hid (bel_step C0_4.out B4.out)
        have C0_6 := Lib.hid (bel_step C0_5.out B5.out)
        have C0_7 := Lib.hid (bel_step C0_6.out B6.out)
        have C0_8 := Lib.hid (bel_step C0_7.out B7.out)
        refine hOp_call 12 Tryd.func12 (by kernel_rfl) (by kernel_rfl) _ _ #[.agg #[.slice A2 m c2, .slice E2 m d2], .agg #[.int .i64 ((decR x y z).who), .int .i64 ((decR x y z).when_), .int .i64 ((decR x y z).kind), .int .i64 ((decR x y z).value)]] rfl (by kernel_rfl) ?_
        refine (take_yes A2 m c2 rs E2 d2 gs (decR x y z) hvr (by omega) V8 (HL.out.keep C3_8.out) (HG.out.keep C3_8.out) (HW.out.keep C0_8.out)).mono ?_
        rintro e V9 ⟨At, ct, Bt, dt, rfl, hs1, hs2, hb⟩
        have B8 := Lib.hid hb
        have HLt := Lib.hid hs1
        have HGt := Lib.hid hs2
        clear hb hs1 hs2
        have C6_9 := Lib.hid (bel_step C6_8.out B8.out)
        refine ⟨_, rfl, C6_9.out, ?_⟩
        simp only [ptr, Act.put, List.setIfInBounds_toArray, List.set_cons_zero, List.set_cons_succ]
        refine wpOT_q (.tuple #[.agg #[.slice At (m + 1) ct, .slice Bt (m + 1) dt], .int .i64 0]) rfl (by kernel_rfl) (fun v hW => rfl) ?_
        simp only [ptr, Act.put, List.setIfInBounds_toArray, List.set_cons_zero, List.set_cons_succ]
        refine wpOT_q (.agg #[.slice At (m + 1) ct, .slice Bt (m + 1) dt]) rfl (by kernel_rfl) (fun v hW => rfl) ?_
        simp only [ptr, Act.put, List.setIfInBounds_toArray, List.set_cons_zero, List.set_cons_succ]
        refine wpOT_q (.int .i64 0) rfl (by kernel_rfl) (fun v hW => rfl) ?_
        simp only [ptr, Act.put, List.setIfInBounds_toArray, List.set_cons_zero, List.set_cons_succ]
        refine wpOT_one rfl (by kernel_rfl) ?_
        refine hOp_new #[.slice none 0 0, .slice none 0 0] 30 (xo_alloc #[.slice none 0 0, .slice none 0 0] (by kernel_rfl) rfl) ?_
        intro b11 V10 hge h0 hb
        have C1_7 := Lib.hid (bel_step C1_6.out B6.out)
        have C1_8 := Lib.hid (bel_step C1_7.out B7.out)
        have C1_9 := Lib.hid (bel_step C1_8.out B8.out)
        have N10_0 : Hid (w.heap.size ≠ b11) := Lib.hid (xp_lt0 (heap_keep Fv0_4.out C1_9.out) hge)
        have C4_7 := Lib.hid (bel_step C4_6.out B6.out)
        have C4_8 := Lib.hid (bel_step C4_7.out B7.out)
        have C4_9 := Lib.hid (bel_step C4_8.out B8.out)
        have N11_1 : Hid (b8 ≠ b11) := Lib.hid (xp_lt0 (heap_keep Fv3_8.out C4_9.out) hge)
        have C5_7 := Lib.hid (bel_step B5.out B6.out)
        have C5_8 := Lib.hid (bel_step C5_7.out B7.out)
        have C5_9 := Lib.hid (bel_step C5_8.out B8.out)
        have N12_2 : Hid (b9 ≠ b11) := Lib.hid (xp_lt0 (heap_keep Fv7_9.out C5_9.out) hge)
        have Ge13 : Hid (V9.heap.size ≤ b11) := Lib.hid hge
        have B9 := Lib.hid hb
        have Fv14_11 : Hid (V10.heap[b11]? = some (.cells #[.slice none 0 0, .slice none 0 0] 30 (0, 0))) := Lib.hid (h0)
        have Lt15 : Hid (b11 < V10.heap.size) := Lib.hid (xp_lt Fv14_11.out)
        clear hge h0 hb
        have C6_10 := Lib.hid (bel_step C6_9.out B9.out)
        refine ⟨C6_10.out, ?_⟩
        try simp only [ptr, Act.put, List.setIfInBounds_toArray, List.set_cons_zero, List.set_cons_succ]
        refine wpOT_one rfl (by kernel_rfl) ?_
        refine hOp_storeW b11 #[.slice none 0 0, .slice none 0 0] #[.slice At (m + 1) ct, .slice Bt (m + 1) dt] 30 Fv14_11.out (xo_storeW b11 #[.slice none 0 0, .slice none 0 0] #[.slice At (m + 1) ct, .slice Bt (m + 1) dt] Fv14_11.out (by kernel_rfl) rfl (by simp [Value.oneCell']) rfl rfl rfl) ?_
        intro X10_16 h1 hfar hbel hsz
        have YHLt : Sg rdC 4 X10_16 At (m + 1) ct (rs ++ [(decR x y z)]) := Sg.farSl (HLt.out.keep B9.out) rd_nosl Fv14_11.out (by simp [isSl]) hfar
        have YHGt : Sg boC 1 X10_16 Bt (m + 1) dt (gs ++ [false]) := Sg.farSl (HGt.out.keep B9.out) bo_nosl Fv14_11.out (by simp [isSl]) hfar
        have hbr := hbel _ _ Ge13.out B9.out
        clear B9
        have B9 := Lib.hid hbr
        clear hbr
        clear HLt
        have HLt := Lib.hid YHLt
        clear YHLt
        clear HGt
        have HGt := Lib.hid YHGt
        clear YHGt
        clear Fv14_11
        have Fv14_11 : Hid (X10_16.heap[b11]? = some (.cells #[.slice At (m + 1) ct, .slice Bt (m + 1) dt] 30 (0, 0))) := Lib.hid (h1)
        have HszX10_16 := Lib.hid hsz
        clear h1 hfar hbel hsz
        simp only [ptr, Act.put, List.setIfInBounds_toArray, List.set_cons_zero, List.set_cons_succ]
        have C6_10 := Lib.hid (bel_step C6_9.out B9.out)
        refine ⟨C6_10.out, ?_⟩
        try simp only [ptr, Act.put, List.setIfInBounds_toArray, List.set_cons_zero, List.set_cons_succ]
        refine wpOT_q (.int .i64 0) rfl (by kernel_rfl) (fun v hW => rfl) ?_
        simp only [ptr, Act.put, List.setIfInBounds_toArray, List.set_cons_zero, List.set_cons_succ]
        refine wpOT_nil ?_
        refine ⟨(At, ct, Bt, dt, b11), ?_, C6_10.out, (Nat.le_trans C6_9.out.size Ge13.out), Fv14_11.out, HLt.out, HGt.out⟩
        simp only [putL, ptr, Act.put, List.setIfInBounds_toArray, List.set_cons_zero, List.set_cons_succ] <;> rfl
      · refine wpOT_one rfl (by kernel_rfl) ?_
        refine hOp_new #[.slice none 0 0, .slice none 0 0] 30 (xo_alloc #[.slice none 0 0, .slice none 0 0] (by kernel_rfl) rfl) ?_
        intro b11 V9 hge h0 hb
        have C1_7 := Lib.hid (bel_step C1_6.out B6.out)
        have C1_8 := Lib.hid (bel_step C1_7.out B7.out)
        have N10_0 : Hid (w.heap.size ≠ b11) := Lib.hid (xp_lt0 (heap_keep Fv0_4.out C1_8.out) hge)
        have C4_7 := Lib.hid (bel_step C4_6.out B6.out)
        have C4_8 := Lib.hid (bel_step C4_7.out B7.out)
        have N11_1 : Hid (b8 ≠ b11) := Lib.hid (xp_lt0 (heap_keep Fv3_8.out C4_8.out) hge)
        have C5_7 := Lib.hid (bel_step B5.out B6.out)
        have C5_8 := Lib.hid (bel_step C5_7.out B7.out)
        have N12_2 : Hid (b9 ≠ b11) := Lib.hid (xp_lt0 (heap_keep Fv7_9.out C5_8.out) hge)
        have Ge13 : Hid (V8.heap.size ≤ b11) := Lib.hid hge
        have B8 := Lib.hid hb
        have Fv14_11 : Hid (V9.heap[b11]? = some (.cells #[.slice none 0 0, .slice none 0 0] 30 (0, 0))) := Lib.hid (h0)
        have Lt15 : Hid (b11 < V9.heap.size) := Lib.hid (xp_lt Fv14_11.out)
        clear hge h0 hb
        have C6_9 := Lib.hid (bel_step C6_8.out B8.out)
        refine ⟨C6_9.out, ?_⟩
        try simp only [ptr, Act.put, List.setIfInBounds_toArray, List.set_cons_zero, List.set_cons_succ]
        refine wpOT_one rfl (by kernel_rfl) ?_
        have C3_6 := Lib.hid (bel_step C3_5.out B5.out)
        have C3_7 := Lib.hid (bel_step C3_6.out B6.out)
        have C3_8 := Lib.hid (bel_step C3_7.out B7.out)
        have C3_9 := Lib.hid (bel_step C3_8.out B8.out)
        have C0_3 := Lib.hid (bel_step C0_2.out B2.out)
        have C0_4 := Lib.hid (bel_step C0_3.out B3.out)
        have C0_5 := Lib.hid (bel_step C0_4.out B4.out)
        have C0_6 := Lib.hid (bel_step C0_5.out B5.out)
        have C0_7 := Lib.hid (bel_step C0_6.out B6.out)
        have C0_8 := Lib.hid (bel_step C0_7.out B7.out)
        have C0_9 := Lib.hid (bel_step C0_8.out B8.out)
        refine hOp_call 12 Tryd.func12 (by kernel_rfl) (by kernel_rfl) _ _ #[.agg #[.slice A2 m c2, .slice E2 m d2], .agg #[.int .i64 ((decR x y z).who), .int .i64 ((decR x y z).when_), .int .i64 ((decR x y z).kind), .int .i64 ((decR x y z).value)]] rfl (by kernel_rfl) ?_
        refine (take_yes A2 m c2 rs E2 d2 gs (decR x y z) hvr (by omega) V9 (HL.out.keep C3_9.out) (HG.out.keep C3_9.out) (HW.out.keep C0_9.out)).mono ?_
        rintro e V10 ⟨At, ct, Bt, dt, rfl, hs1, hs2, hb⟩
        have B9 := Lib.hid hb
        have HLt := Lib.hid hs1
        have HGt := Lib.hid hs2
        clear hb hs1 hs2
        have C6_10 := Lib.hid (bel_step C6_9.out B9.out)
        refine ⟨_, rfl, C6_10.out, ?_⟩
        simp only [ptr, Act.put, List.setIfInBounds_toArray, List.set_cons_zero, List.set_cons_succ]
        refine wpOT_q (.tuple #[.agg #[.slice At (m + 1) ct, .slice Bt (m + 1) dt], .int .i64 0]) rfl (by kernel_rfl) (fun v hW => rfl) ?_
        simp only [ptr, Act.put, List.setIfInBounds_toArray, List.set_cons_zero, List.set_cons_succ]
        refine wpOT_q (.agg #[.slice At (m + 1) ct, .slice Bt (m + 1) dt]) rfl (by kernel_rfl) (fun v hW => rfl) ?_
        simp only [ptr, Act.put, List.setIfInBounds_toArray, List.set_cons_zero, List.set_cons_succ]
        refine wpOT_q (.int .i64 0) rfl (by kernel_rfl) (fun v hW => rfl) ?_
        simp only [ptr, Act.put, List.setIfInBounds_toArray, List.set_cons_zero, List.set_cons_succ]
        refine wpOT_one rfl (by kernel_rfl) ?_
        refine hOp_storeW b11 #[.slice none 0 0, .slice none 0 0] #[.slice At (m + 1) ct, .slice Bt (m + 1) dt] 30 (heap_keep Fv14_11.out B9.out) (xo_storeW b11 #[.slice none 0 0, .slice none 0 0] #[.slice At (m + 1) ct, .slice Bt (m + 1) dt] (heap_keep Fv14_11.out B9.out) (by kernel_rfl) rfl (by simp [Value.oneCell']) rfl rfl rfl) ?_
        intro X10_16 h1 hfar hbel hsz
        have YHLt : Sg rdC 4 X10_16 At (m + 1) ct (rs ++ [(decR x y z)]) := Sg.farSl HLt.out rd_nosl (heap_keep Fv14_11.out B9.out) (by simp [isSl]) hfar
        have YHGt : Sg boC 1 X10_16 Bt (m + 1) dt (gs ++ [false]) := Sg.farSl HGt.out bo_nosl (heap_keep Fv14_11.out B9.out) (by simp [isSl]) hfar
        have C8_10 := Lib.hid (bel_step B8.out B9.out)
        have hbr := hbel _ _ Ge13.out C8_10.out
        clear B8
        have B8 := Lib.hid hbr
        clear hbr
        clear HLt
        have HLt := Lib.hid YHLt
        clear YHLt
        clear HGt
        have HGt := Lib.hid YHGt
        clear YHGt
        clear Fv14_11
        have Fv14_11 : Hid (X10_16.heap[b11]? = some (.cells #[.slice At (m + 1) ct, .slice Bt (m + 1) dt] 30 (0, 0))) := Lib.hid (h1)
        have HszX10_16 := Lib.hid hsz
        clear h1 hfar hbel hsz
        simp only [ptr, Act.put, List.setIfInBounds_toArray, List.set_cons_zero, List.set_cons_succ]
        have C6_9 := Lib.hid (bel_step C6_8.out B8.out)
        refine ⟨C6_9.out, ?_⟩
        try simp only [ptr, Act.put, List.setIfInBounds_toArray, List.set_cons_zero, List.set_cons_succ]
        refine wpOT_q (.int .i64 0) rfl (by kernel_rfl) (fun v hW => rfl) ?_
        simp only [ptr, Act.put, List.setIfInBounds_toArray, List.set_cons_zero, List.set_cons_succ]
        refine wpOT_nil ?_
        refine ⟨(At, ct, Bt, dt, b11), ?_, C6_9.out, (Nat.le_trans C6_8.out.size Ge13.out), Fv14_11.out, HLt.out, HGt.out⟩
        simp only [putL, ptr, Act.put, List.setIfInBounds_toArray, List.set_cons_zero, List.set_cons_succ] <;> rfl
    · refine wpOT_one rfl (by kernel_rfl) ?_
      refine hOp_new #[.slice none 0 0, .slice none 0 0] 30 (xo_alloc #[.slice none 0 0, .slice none 0 0] (by kernel_rfl) rfl) ?_
      intro b11 V8 hge h0 hb
      have C1_7 := Lib.hid (bel_step C1_6.out B6.out)
      have N10_0 : Hid (w.heap.size ≠ b11) := Lib.hid (xp_lt0 (heap_keep Fv0_4.out C1_7.out) hge)
      have C4_7 := Lib.hid (bel_step C4_6.out B6.out)
      have N11_1 : Hid (b8 ≠ b11) := Lib.hid (xp_lt0 (heap_keep Fv3_8.out C4_7.out) hge)
      have C5_7 := Lib.hid (bel_step B5.out B6.out)
      have N12_2 : Hid (b9 ≠ b11) := Lib.hid (xp_lt0 (heap_keep Fv7_9.out C5_7.out) hge)
      have Ge13 : Hid (V7.heap.size ≤ b11) := Lib.hid hge
      have B7 := Lib.hid hb
      have Fv14_11 : Hid (V8.heap[b11]? = some (.cells #[.slice none 0 0, .slice none 0 0] 30 (0, 0))) := Lib.hid (h0)
      have Lt15 : Hid (b11 < V8.heap.size) := Lib.hid (xp_lt Fv14_11.out)
      clear hge h0 hb
      have C6_8 := Lib.hid (bel_step B6.out B7.out)
      refine ⟨C6_8.out, ?_⟩
      try simp only [ptr, Act.put, List.setIfInBounds_toArray, List.set_cons_zero, List.set_cons_succ]
      refine wpOT_one rfl (by kernel_rfl) ?_
      refine hOp_call 25 Tryd.func25 (by kernel_rfl) (by kernel_rfl) _ _ #[.agg #[.int .u8 (x : Int), .int .u8 (y : Int), .int .u8 (z : Int)]] rfl (by kernel_rfl) ?_
      refine (rreading_any x y z hx hy hz V8).mono ?_
      rintro e V9 ⟨rfl, hb⟩
      have B8 := Lib.hid hb
      clear hb 
      have C6_9 := Lib.hid (bel_step C6_8.out B8.out)
      refine ⟨_, rfl, C6_9.out, ?_⟩
      simp only [ptr, Act.put, List.setIfInBounds_toArray, List.set_cons_zero, List.set_cons_succ]
      refine wpOT_one rfl (by kernel_rfl) ?_
      have C3_6 := Lib.hid (bel_step C3_5.out B5.out)
      have C3_7 := Lib.hid (bel_step C3_6.out B6.out)
      have C3_8 := Lib.hid (bel_step C3_7.out B7.out)
      have C3_9 := Lib.hid (bel_step C3_8.out B8.out)
      have C0_3 := Lib.hid (bel_step C0_2.out B2.out)
      have C0_4 := Lib.hid (bel_step C0_3.out B3.out)
      have C0_5 := Lib.hid (bel_step C0_4.out B4.out)
      have C0_6 := Lib.hid (bel_step C0_5.out B5.out)
      have C0_7 := Lib.hid (bel_step C0_6.out B6.out)
      have C0_8 := Lib.hid (bel_step C0_7.out B7.out)
      have C0_9 := Lib.hid (bel_step C0_8.out B8.out)
      refine hOp_call 12 Tryd.func12 (by kernel_rfl) (by kernel_rfl) _ _ #[.agg #[.slice A2 m c2, .slice E2 m d2], .agg #[.int .i64 ((decR x y z).who), .int .i64 ((decR x y z).when_), .int .i64 ((decR x y z).kind), .int .i64 ((decR x y z).value)]] rfl (by kernel_rfl) ?_
      refine (take_yes A2 m c2 rs E2 d2 gs (decR x y z) hvr (by omega) V9 (HL.out.keep C3_9.out) (HG.out.keep C3_9.out) (HW.out.keep C0_9.out)).mono ?_
      rintro e V10 ⟨At, ct, Bt, dt, rfl, hs1, hs2, hb⟩
      have B9 := Lib.hid hb
      have HLt := Lib.hid hs1
      have HGt := Lib.hid hs2
      clear hb hs1 hs2
      have C6_10 := Lib.hid (bel_step C6_9.out B9.out)
      refine ⟨_, rfl, C6_10.out, ?_⟩
      simp only [ptr, Act.put, List.setIfInBounds_toArray, List.set_cons_zero, List.set_cons_succ]
      refine wpOT_q (.tuple #[.agg #[.slice At (m + 1) ct, .slice Bt (m + 1) dt], .int .i64 0]) rfl (by kernel_rfl) (fun v hW => rfl) ?_
      simp only [ptr, Act.put, List.setIfInBounds_toArray, List.set_cons_zero, List.set_cons_succ]
      refine wpOT_q (.agg #[.slice At (m + 1) ct, .slice Bt (m + 1) dt]) rfl (by kernel_rfl) (fun v hW => rfl) ?_
      simp only [ptr, Act.put, List.setIfInBounds_toArray, List.set_cons_zero, List.set_cons_succ]
      refine wpOT_q (.int .i64 0) rfl (by kernel_rfl) (fun v hW => rfl) ?_
      simp only [ptr, Act.put, List.setIfInBounds_toArray, List.set_cons_zero, List.set_cons_succ]
      refine wpOT_one rfl (by kernel_rfl) ?_
      have C8_10 := Lib.hid (bel_step B8.out B9.out)
      refine hOp_storeW b11 #[.slice none 0 0, .slice none 0 0] #[.slice At (m + 1) ct, .slice Bt (m + 1) dt] 30 (heap_keep Fv14_11.out C8_10.out) (xo_storeW b11 #[.slice none 0 0, .slice none 0 0] #[.slice At (m + 1) ct, .slice Bt (m + 1) dt] (heap_keep Fv14_11.out C8_10.out) (by kernel_rfl) rfl (by simp [Value.oneCell']) rfl rfl rfl) ?_
      intro X10_16 h1 hfar hbel hsz
      have YHLt : Sg rdC 4 X10_16 At (m + 1) ct (rs ++ [(decR x y z)]) := Sg.farSl HLt.out rd_nosl (heap_keep Fv14_11.out C8_10.out) (by simp [isSl]) hfar
      have YHGt : Sg boC 1 X10_16 Bt (m + 1) dt (gs ++ [false]) := Sg.farSl HGt.out bo_nosl (heap_keep Fv14_11.out C8_10.out) (by simp [isSl]) hfar
      have C7_9 := Lib.hid (bel_step B7.out B8.out)
      have C7_10 := Lib.hid (bel_step C7_9.out B9.out)
      have hbr := hbel _ _ Ge13.out C7_10.out
      clear B7
      have B7 := Lib.hid hbr
      clear hbr
      clear HLt
      have HLt := Lib.hid YHLt
      clear YHLt
      clear HGt
      have HGt := Lib.hid YHGt
      clear YHGt
      clear Fv14_11
      have Fv14_11 : Hid (X10_16.heap[b11]? = some (.cells #[.slice At (m + 1) ct, .slice Bt (m + 1) dt] 30 (0, 0))) := Lib.hid (h1)
      have HszX10_16 := Lib.hid hsz
      clear h1 hfar hbel hsz
      simp only [ptr, Act.put, List.setIfInBounds_toArray, List.set_cons_zero, List.set_cons_succ]
      have C6_8 := Lib.hid (bel_step B6.out B7.out)
      refine ⟨C6_8.out, ?_⟩
      try simp only [ptr, Act.put, List.setIfInBounds_toArray, List.set_cons_zero, List.set_cons_succ]
      refine wpOT_q (.int .i64 0) rfl (by kernel_rfl) (fun v hW => rfl) ?_
      simp only [ptr, Act.put, List.setIfInBounds_toArray, List.set_cons_zero, List.set_cons_succ]
      refine wpOT_nil ?_
      refine ⟨(At, ct, Bt, dt, b11), ?_, C6_8.out, (Nat.le_trans B6.out.size Ge13.out), Fv14_11.out, HLt.out, HGt.out⟩
      simp only [putL, ptr, Act.put, List.setIfInBounds_toArray, List.set_cons_zero, List.set_cons_succ] <;> rfl
  rintro ⟨At, ct, Bt, dt, b11⟩ V7 ⟨hb, hge, h0, hf0, hf1⟩
  simp only [putL, ptr, Act.put, List.setIfInBounds_toArray, List.set_cons_zero, List.set_cons_succ]
  have C1_5 := Lib.hid (bel_step C1_4.out B4.out)
  have C1_6 := Lib.hid (bel_step C1_5.out B5.out)
  have N17_0 : Hid (w.heap.size ≠ b11) := Lib.hid (xp_lt0 (heap_keep Fv0_4.out C1_6.out) hge)
  have C4_6 := Lib.hid (bel_step B4.out B5.out)
  have N18_1 : Hid (b8 ≠ b11) := Lib.hid (xp_lt0 (heap_keep Fv3_8.out C4_6.out) hge)
  have N19_2 : Hid (b9 ≠ b11) := Lib.hid (xp_lt0 (heap_keep Fv7_9.out B5.out) hge)
  have Ge20 : Hid (V6.heap.size ≤ b11) := Lib.hid hge
  have B6 := Lib.hid hb
  have Fv21_11 : Hid (V7.heap[b11]? = some (.cells #[.slice At (m + 1) ct, .slice Bt (m + 1) dt] 30 (0, 0))) := Lib.hid (h0)
  have Lt22 : Hid (b11 < V7.heap.size) := Lib.hid (xp_lt Fv21_11.out)
  clear hge h0 hb
  have HLt := Lib.hid hf0
  clear hf0
  have HGt := Lib.hid hf1
  clear hf1
  go_upto_region 6 with fail
  refine wp_region_lit ?_
  refine wpList_run (by kernel_rfl) (.int .i64 0) V7 rfl ?_
  simp only [Act.put, List.setIfInBounds_toArray, List.set_cons_zero, List.set_cons_succ]
  refine wpList_run (by kernel_rfl) (.bool false) V7 (xo_neqF .i64 0 0 (by omega) rfl rfl rfl) ?_
  simp only [Act.put, List.setIfInBounds_toArray, List.set_cons_zero, List.set_cons_succ]
  refine wpList_run (by kernel_rfl) (.bool false) V7 rfl ?_
  simp only [Act.put, List.setIfInBounds_toArray, List.set_cons_zero, List.set_cons_succ]
  refine wpList_run (by kernel_rfl) (.agg #[.slice At (m + 1) ct, .slice Bt (m + 1) dt]) V7 (xo_loadW b11 _ Fv21_11.out Tryd.underlying30 rfl (by kernel_rfl) rfl rfl) ?_
  simp only [Act.put, List.setIfInBounds_toArray, List.set_cons_zero, List.set_cons_succ]
  refine wpList_call (by kernel_rfl) 32 Tryd.func32 (by kernel_rfl) (by kernel_rfl) _ _ #[.agg #[.slice At (m + 1) ct, .slice Bt (m + 1) dt]] rfl (by kernel_rfl) ?_
  refine (validStream_yes At (m + 1) ct (rs ++ [(decR x y z)]) Bt dt (gs ++ [false]) (by omega) (hall_snoc HST.out.ok hvr) V7 HLt.out HGt.out).mono ?_
  rintro e V8 ⟨rfl, hb⟩
  have B7 := Lib.hid hb
  clear hb 
  refine ⟨_, rfl, ?_⟩
  simp only [Act.put, List.setIfInBounds_toArray, List.set_cons_zero, List.set_cons_succ]
  refine wpList_run (by kernel_rfl) (.bool false) V8 rfl ?_
  simp only [Act.put, List.setIfInBounds_toArray, List.set_cons_zero, List.set_cons_succ]
  refine wpList_run (by kernel_rfl) (.bool false) V8 rfl ?_
  simp only [Act.put, List.setIfInBounds_toArray, List.set_cons_zero, List.set_cons_succ]
  refine wpList_run (by kernel_rfl) (.bool false) V8 rfl ?_
  simp only [Act.put, List.setIfInBounds_toArray, List.set_cons_zero, List.set_cons_succ]
  refine wpList_run (by kernel_rfl) (.pointer (some ⟨b11, 0, none⟩)) V8 (xo_fld0 0 b11 0 (by kernel_rfl) rfl rfl) ?_
  simp only [Act.put, List.setIfInBounds_toArray, List.set_cons_zero, List.set_cons_succ]
  refine wpList_run (by kernel_rfl) (.slice At (m + 1) ct) V8 (xo_load1 ⟨b11, 0, none⟩ _ (cells_at (heap_keep Fv21_11.out B7.out) 0 rfl) Tryd.underlying27 rfl rfl rfl) ?_
  simp only [Act.put, List.setIfInBounds_toArray, List.set_cons_zero, List.set_cons_succ]
  refine wpList_run (by kernel_rfl) (.int .i64 ((m + 1 : Nat) : Int)) V8 (xo_len At (m + 1) ct Tryd.underlying27 rfl rfl) ?_
  simp only [Act.put, List.setIfInBounds_toArray, List.set_cons_zero, List.set_cons_succ]
  refine wpList_run (by kernel_rfl) (.pointer (some ⟨b8, 0, none⟩)) V8 (xo_fld0 0 b8 0 (by kernel_rfl) rfl rfl) ?_
  simp only [Act.put, List.setIfInBounds_toArray, List.set_cons_zero, List.set_cons_succ]
  have C4_7 := Lib.hid (bel_step C4_6.out B6.out)
  have C4_8 := Lib.hid (bel_step C4_7.out B7.out)
  refine wpList_run (by kernel_rfl) (.slice A2 m c2) V8 (xo_load1 ⟨b8, 0, none⟩ _ (cells_at (heap_keep Fv3_8.out C4_8.out) 0 rfl) Tryd.underlying27 rfl rfl rfl) ?_
  simp only [Act.put, List.setIfInBounds_toArray, List.set_cons_zero, List.set_cons_succ]
  refine wpList_run (by kernel_rfl) (.int .i64 (m : Int)) V8 (xo_len A2 m c2 Tryd.underlying27 rfl rfl) ?_
  simp only [Act.put, List.setIfInBounds_toArray, List.set_cons_zero, List.set_cons_succ]
  refine wpList_run (by kernel_rfl) (.int .i64 ((m + 1 : Nat) : Int)) V8 (xo_addI (m : Int) 1 ((m + 1 : Nat) : Int) (by omega) (by omega) (by omega) rfl rfl rfl) ?_
  simp only [Act.put, List.setIfInBounds_toArray, List.set_cons_zero, List.set_cons_succ]
  refine wpList_run (by kernel_rfl) (.bool false) V8 (xo_neqF .i64 ((m + 1 : Nat) : Int) ((m + 1 : Nat) : Int) (by omega) rfl rfl rfl) ?_
  simp only [Act.put, List.setIfInBounds_toArray, List.set_cons_zero, List.set_cons_succ]
  refine wpList_run (by kernel_rfl) (.bool false) V8 rfl ?_
  simp only [Act.put, List.setIfInBounds_toArray, List.set_cons_zero, List.set_cons_succ]
  refine wpList_nil ?_
  have HLW : Hid (liveL (rs ++ [(decR x y z)]) (gs ++ [false]) = lv ++ [(decR x y z)]) := Lib.hid (by rw [liveL_snoc (by omega), HLV.out])
  go_upto_region 8 with fail
  refine wp_region_lit ?_
  refine wpList_run (by kernel_rfl) (.agg #[.slice At (m + 1) ct, .slice Bt (m + 1) dt]) V8 (xo_loadW b11 _ (heap_keep Fv21_11.out B7.out) Tryd.underlying30 rfl (by kernel_rfl) rfl rfl) ?_
  simp only [Act.put, List.setIfInBounds_toArray, List.set_cons_zero, List.set_cons_succ]
  refine wpList_call (by kernel_rfl) 31 Tryd.func31 (by kernel_rfl) (by kernel_rfl) _ _ #[.agg #[.slice At (m + 1) ct, .slice Bt (m + 1) dt]] rfl (by kernel_rfl) ?_
  refine (live_as At (m + 1) ct (rs ++ [(decR x y z)]) Bt dt (gs ++ [false]) (by omega) (lv ++ [(decR x y z)]) HLW.out (nb + 1) (by rw [List.length_append, HNB.out]; rfl) V8 (HLt.out.keep B7.out) (HGt.out.keep B7.out)).mono ?_
  rintro e V9 ⟨Aa, ca, rfl, hs, hb⟩
  have B8 := Lib.hid hb
  have HLa := Lib.hid hs
  clear hb hs
  refine ⟨_, rfl, ?_⟩
  simp only [Act.put, List.setIfInBounds_toArray, List.set_cons_zero, List.set_cons_succ]
  refine wpList_run (by kernel_rfl) (.slice Aa (nb + 1) ca) V9 rfl ?_
  simp only [Act.put, List.setIfInBounds_toArray, List.set_cons_zero, List.set_cons_succ]
  refine wpList_nil ?_
  go_upto_region 9 with fail
  try simp only [List.append_eq, List.cons_append, List.nil_append]
  refine wp_ordX (.q 0 (.q 1 (.q 2 (.q 3 (.q 4 (.q 5 (.q 6 (.q 7 (.q 8 (.q 9 (.q 10 (.q 11 (.q 12 (.one 13 (.q 14 (.q 15 .nil)))))))))))))))) (by kernel_rfl) (by kernel_rfl) (fun _ _ dt _ _ h => by first | exact h.elim | (cases dt <;> exact h)) (by kernel_rfl) (by kernel_rfl) (fun V10 hb => ?_)
  have B9 := Lib.hid hb
  clear hb
  refine wpX_q (.slice Aa (nb + 1) ca) rfl (by kernel_rfl) (fun v hW => rfl) ?_
  simp only [ptr, Act.put, List.setIfInBounds_toArray, List.set_cons_zero, List.set_cons_succ]
  refine wpX_q (.int .i64 ((nb + 1 : Nat) : Int)) rfl (by kernel_rfl) (fun v hW => (xo_len Aa (nb + 1) ca Tryd.underlying27 rfl rfl)) ?_
  simp only [ptr, Act.put, List.setIfInBounds_toArray, List.set_cons_zero, List.set_cons_succ]
  refine wpX_q (.slice Ab nb cb) rfl (by kernel_rfl) (fun v hW => rfl) ?_
  simp only [ptr, Act.put, List.setIfInBounds_toArray, List.set_cons_zero, List.set_cons_succ]
  refine wpX_q (.int .i64 (nb : Int)) rfl (by kernel_rfl) (fun v hW => (xo_len Ab nb cb Tryd.underlying27 rfl rfl)) ?_
  simp only [ptr, Act.put, List.setIfInBounds_toArray, List.set_cons_zero, List.set_cons_succ]
  refine wpX_q (.int .i64 ((nb + 1 : Nat) : Int)) rfl (by kernel_rfl) (fun v hW => (xo_addI (nb : Int) 1 ((nb + 1 : Nat) : Int) (by omega) (by omega) (by omega) rfl rfl rfl)) ?_
  simp only [ptr, Act.put, List.setIfInBounds_toArray, List.set_cons_zero, List.set_cons_succ]
  refine wpX_q (.bool false) rfl (by kernel_rfl) (fun v hW => (xo_neqF .i64 ((nb + 1 : Nat) : Int) ((nb + 1 : Nat) : Int) (by omega) rfl rfl rfl)) ?_
  simp only [ptr, Act.put, List.setIfInBounds_toArray, List.set_cons_zero, List.set_cons_succ]
  refine wpX_q (.bool false) rfl (by kernel_rfl) (fun v hW => rfl) ?_
  simp only [ptr, Act.put, List.setIfInBounds_toArray, List.set_cons_zero, List.set_cons_succ]
  refine wpX_q (.slice Aa (nb + 1) ca) rfl (by kernel_rfl) (fun v hW => rfl) ?_
  simp only [ptr, Act.put, List.setIfInBounds_toArray, List.set_cons_zero, List.set_cons_succ]
  refine wpX_q (.slice Ab nb cb) rfl (by kernel_rfl) (fun v hW => rfl) ?_
  simp only [ptr, Act.put, List.setIfInBounds_toArray, List.set_cons_zero, List.set_cons_succ]
  refine wpX_q (.int .i64 (nb : Int)) rfl (by kernel_rfl) (fun v hW => (xo_len Ab nb cb Tryd.underlying27 rfl rfl)) ?_
  simp only [ptr, Act.put, List.setIfInBounds_toArray, List.set_cons_zero, List.set_cons_succ]
  refine wpX_q (.pointer (some (gad Aa (nb * 4)))) rfl (by kernel_rfl) (fun v hW => (xg_idx .i64 ((HLa.out.keep B9.out).keep hW) (HNB.out ▸ get_snoc lv (decR x y z)) Tryd.underlying27 (by kernel_rfl) rfl rfl rfl)) ?_
  simp only [ptr, Act.put, List.setIfInBounds_toArray, List.set_cons_zero, List.set_cons_succ]
  refine wpX_q (.agg #[.int .i64 ((decR x y z).who), .int .i64 ((decR x y z).when_), .int .i64 ((decR x y z).kind), .int .i64 ((decR x y z).value)]) rfl (by kernel_rfl) (fun v hW => (xg_loadE (E := rdC) ((HLa.out.keep B9.out).keep hW) (HNB.out ▸ get_snoc lv (decR x y z)) Tryd.underlying24 rfl (by kernel_rfl) rfl rfl)) ?_
  simp only [ptr, Act.put, List.setIfInBounds_toArray, List.set_cons_zero, List.set_cons_succ]
  have C1_7 := Lib.hid (bel_step C1_6.out B6.out)
  have C1_8 := Lib.hid (bel_step C1_7.out B7.out)
  have C1_9 := Lib.hid (bel_step C1_8.out B8.out)
  have C1_10 := Lib.hid (bel_step C1_9.out B9.out)
  refine wpX_q (.agg #[.int .u8 (x : Int), .int .u8 (y : Int), .int .u8 (z : Int)]) rfl (by kernel_rfl) (fun v hW => (xo_loadW w.heap.size _ (heap_keep (heap_keep Fv0_4.out C1_10.out) hW) Tryd.underlying44 rfl (by kernel_rfl) rfl rfl)) ?_
  simp only [ptr, Act.put, List.setIfInBounds_toArray, List.set_cons_zero, List.set_cons_succ]
  refine wpX_one rfl (by kernel_rfl) ?_
  refine hOp_call 25 Tryd.func25 (by kernel_rfl) (by kernel_rfl) _ _ #[.agg #[.int .u8 (x : Int), .int .u8 (y : Int), .int .u8 (z : Int)]] rfl (by kernel_rfl) ?_
  refine (rreading_any x y z hx hy hz V10).mono ?_
  rintro e V11 ⟨rfl, hb⟩
  have B10 := Lib.hid hb
  clear hb 
  refine ⟨_, rfl, B10.out, ?_⟩
  simp only [ptr, Act.put, List.setIfInBounds_toArray, List.set_cons_zero, List.set_cons_succ]
  refine wpX_q (.bool false) rfl (by kernel_rfl) (fun v hW => (exec_neRd (Rd.mk ((decR x y z).who) ((decR x y z).when_) ((decR x y z).kind) ((decR x y z).value)) rfl rfl rfl)) ?_
  simp only [ptr, Act.put, List.setIfInBounds_toArray, List.set_cons_zero, List.set_cons_succ]
  refine wpX_q (.bool false) rfl (by kernel_rfl) (fun v hW => rfl) ?_
  simp only [ptr, Act.put, List.setIfInBounds_toArray, List.set_cons_zero, List.set_cons_succ]
  refine wpX_nil ?_
  obtain ⟨kk, hkk⟩ : ∃ kk, at_ % (m + 1) = kk := ⟨_, rfl⟩
  have hkm : kk < m + 1 := by rw [← hkk]; exact Nat.mod_lt _ (by omega)
  go_upto_region 11 with fail
  refine wp_region_lit ?_
  refine wpList_run (by kernel_rfl) (.int .u8 (at_ : Int)) V11 rfl ?_
  simp only [Act.put, List.setIfInBounds_toArray, List.set_cons_zero, List.set_cons_succ]
  refine wpList_run (by kernel_rfl) (.int .i64 (at_ : Int)) V11 (xo_cvt .u8 .i64 (at_ : Int) (at_ : Int) (by rw [IntKind.wrap_i64]; omega) Tryd.underlying3 Tryd.underlying5 rfl rfl) ?_
  simp only [Act.put, List.setIfInBounds_toArray, List.set_cons_zero, List.set_cons_succ]
  refine wpList_run (by kernel_rfl) (.pointer (some ⟨b11, 0, none⟩)) V11 (xo_fld0 0 b11 0 (by kernel_rfl) rfl rfl) ?_
  simp only [Act.put, List.setIfInBounds_toArray, List.set_cons_zero, List.set_cons_succ]
  have C7_9 := Lib.hid (bel_step B7.out B8.out)
  have C7_10 := Lib.hid (bel_step C7_9.out B9.out)
  have C7_11 := Lib.hid (bel_step C7_10.out B10.out)
  refine wpList_run (by kernel_rfl) (.slice At (m + 1) ct) V11 (xo_load1 ⟨b11, 0, none⟩ _ (cells_at (heap_keep Fv21_11.out C7_11.out) 0 rfl) Tryd.underlying27 rfl rfl rfl) ?_
  simp only [Act.put, List.setIfInBounds_toArray, List.set_cons_zero, List.set_cons_succ]
  refine wpList_run (by kernel_rfl) (.int .i64 ((m + 1 : Nat) : Int)) V11 (xo_len At (m + 1) ct Tryd.underlying27 rfl rfl) ?_
  simp only [Act.put, List.setIfInBounds_toArray, List.set_cons_zero, List.set_cons_succ]
  refine wpList_run (by kernel_rfl) (.int .i64 (kk : Int)) V11 (xo_remN .i64 at_ (m + 1) kk (by omega) hkk rfl rfl rfl) ?_
  simp only [Act.put, List.setIfInBounds_toArray, List.set_cons_zero, List.set_cons_succ]
  refine wpList_run (by kernel_rfl) (.int .i64 (kk : Int)) V11 rfl ?_
  simp only [Act.put, List.setIfInBounds_toArray, List.set_cons_zero, List.set_cons_succ]
  refine wpList_nil ?_
  obtain ⟨g, hg⟩ : ∃ g, (gs ++ [false])[kk]? = some g := ⟨_, List.getElem?_eq_getElem (by rw [List.length_append, hmg]; exact hkm)⟩
  have HGK := Lib.hid hg
  clear hg
  cases g with
  | false =>
    go_upto_region 12 with fail
    refine wp_region_lit ?_
    refine wpList_run (by kernel_rfl) (.agg #[.slice At (m + 1) ct, .slice Bt (m + 1) dt]) V11 (xo_loadW b11 _ (heap_keep Fv21_11.out C7_11.out) Tryd.underlying30 rfl (by kernel_rfl) rfl rfl) ?_
    simp only [Act.put, List.setIfInBounds_toArray, List.set_cons_zero, List.set_cons_succ]
    refine wpList_run (by kernel_rfl) (.int .i64 (kk : Int)) V11 rfl ?_
    simp only [Act.put, List.setIfInBounds_toArray, List.set_cons_zero, List.set_cons_succ]
    refine wpList_call (by kernel_rfl) 14 Tryd.func14 (by kernel_rfl) (by kernel_rfl) _ _ #[.agg #[.slice At (m + 1) ct, .slice Bt (m + 1) dt], .int .i64 (kk : Int)] rfl (by kernel_rfl) ?_
    refine (retract_ok At (m + 1) ct (rs ++ [(decR x y z)]) Bt dt (gs ++ [false]) kk HGK.out (by omega) V11 (HLt.out.keep C7_11.out) (HGt.out.keep C7_11.out)).mono ?_
    rintro e V12 ⟨Au, cu, Bu, du, rfl, hs1, hs2, hb⟩
    have B11 := Lib.hid hb
    have HLu := Lib.hid hs1
    have HGu := Lib.hid hs2
    clear hb hs1 hs2
    refine ⟨_, rfl, ?_⟩
    simp only [Act.put, List.setIfInBounds_toArray, List.set_cons_zero, List.set_cons_succ]
    refine wpList_run (by kernel_rfl) (.tuple #[.agg #[.slice Au (m + 1) cu, .slice Bu (m + 1) du], .int .i64 0]) V12 rfl ?_
    simp only [Act.put, List.setIfInBounds_toArray, List.set_cons_zero, List.set_cons_succ]
    refine wpList_run (by kernel_rfl) (.agg #[.slice Au (m + 1) cu, .slice Bu (m + 1) du]) V12 rfl ?_
    simp only [Act.put, List.setIfInBounds_toArray, List.set_cons_zero, List.set_cons_succ]
    refine wpList_run (by kernel_rfl) (.int .i64 0) V12 rfl ?_
    simp only [Act.put, List.setIfInBounds_toArray, List.set_cons_zero, List.set_cons_succ]
    refine wpList_new #[.slice none 0 0, .slice none 0 0] 30 (by kernel_rfl) (xo_alloc #[.slice none 0 0, .slice none 0 0] (by kernel_rfl) rfl) ?_
    intro b15 V13 hge h0 hb
    have C1_11 := Lib.hid (bel_step C1_10.out B10.out)
    have C1_12 := Lib.hid (bel_step C1_11.out B11.out)
    have N23_0 : Hid (w.heap.size ≠ b15) := Lib.hid (xp_lt0 (heap_keep Fv0_4.out C1_12.out) hge)
    have C4_9 := Lib.hid (bel_step C4_8.out B8.out)
    have C4_10 := Lib.hid (bel_step C4_9.out B9.out)
    have C4_11 := Lib.hid (bel_step C4_10.out B10.out)
    have C4_12 := Lib.hid (bel_step C4_11.out B11.out)
    have N24_1 : Hid (b8 ≠ b15) := Lib.hid (xp_lt0 (heap_keep Fv3_8.out C4_12.out) hge)
    have C5_7 := Lib.hid (bel_step B5.out B6.out)
    have C5_8 := Lib.hid (bel_step C5_7.out B7.out)
    have C5_9 := Lib.hid (bel_step C5_8.out B8.out)
    have C5_10 := Lib.hid (bel_step C5_9.out B9.out)
    have C5_11 := Lib.hid (bel_step C5_10.out B10.out)
    have C5_12 := Lib.hid (bel_step C5_11.out B11.out)
    have N25_2 : Hid (b9 ≠ b15) := Lib.hid (xp_lt0 (heap_keep Fv7_9.out C5_12.out) hge)
    have C7_12 := Lib.hid (bel_step C7_11.out B11.out)
    have N26_3 : Hid (b11 ≠ b15) := Lib.hid (xp_lt0 (heap_keep Fv21_11.out C7_12.out) hge)
    have Ge27 : Hid (V12.heap.size ≤ b15) := Lib.hid hge
    have B12 := Lib.hid hb
    have Fv28_15 : Hid (V13.heap[b15]? = some (.cells #[.slice none 0 0, .slice none 0 0] 30 (0, 0))) := Lib.hid (h0)
    have Lt29 : Hid (b15 < V13.heap.size) := Lib.hid (xp_lt Fv28_15.out)
    clear hge h0 hb
    simp only [ptr, Act.put, List.setIfInBounds_toArray, List.set_cons_zero, List.set_cons_succ]
    refine wpList_storeW b15 #[.slice none 0 0, .slice none 0 0] #[.slice Au (m + 1) cu, .slice Bu (m + 1) du] 30 (by kernel_rfl) Fv28_15.out (xo_storeW b15 #[.slice none 0 0, .slice none 0 0] #[.slice Au (m + 1) cu, .slice Bu (m + 1) du] Fv28_15.out (by kernel_rfl) rfl (by simp [Value.oneCell']) rfl rfl rfl) ?_
    intro X13_30 h1 hfar hbel hsz
    have hbr := hbel _ _ Ge27.out B12.out
    clear B12
    have B12 := Lib.hid hbr
    clear hbr
    clear Fv28_15
    have Fv28_15 : Hid (X13_30.heap[b15]? = some (.cells #[.slice Au (m + 1) cu, .slice Bu (m + 1) du] 30 (0, 0))) := Lib.hid (h1)
    have HszX13_30 := Lib.hid hsz
    clear h1 hfar hbel hsz
    simp only [ptr, Act.put, List.setIfInBounds_toArray, List.set_cons_zero, List.set_cons_succ]
    refine wpList_run (by kernel_rfl) (.int .i64 0) X13_30 rfl ?_
    simp only [Act.put, List.setIfInBounds_toArray, List.set_cons_zero, List.set_cons_succ]
    refine wpList_nil ?_
    go_upto_region 13 with fail
    refine wp_region_lit ?_
    refine wpList_run (by kernel_rfl) (.int .i64 0) X13_30 rfl ?_
    simp only [Act.put, List.setIfInBounds_toArray, List.set_cons_zero, List.set_cons_succ]
    refine wpList_run (by kernel_rfl) (.bool true) X13_30 (xo_eqlT .i64 0 0 (by omega) rfl rfl rfl) ?_
    simp only [Act.put, List.setIfInBounds_toArray, List.set_cons_zero, List.set_cons_succ]
    refine wpList_run (by kernel_rfl) (.pointer (some ⟨b11, 1, none⟩)) X13_30 (xo_fld0 1 b11 1 (by kernel_rfl) rfl rfl) ?_
    simp only [Act.put, List.setIfInBounds_toArray, List.set_cons_zero, List.set_cons_succ]
    have C7_13 := Lib.hid (bel_step C7_12.out B12.out)
    refine wpList_run (by kernel_rfl) (.slice Bt (m + 1) dt) X13_30 (xo_load1 ⟨b11, 1, none⟩ _ (cells_at (heap_keep Fv21_11.out C7_13.out) 1 rfl) Tryd.underlying28 rfl rfl rfl) ?_
    simp only [Act.put, List.setIfInBounds_toArray, List.set_cons_zero, List.set_cons_succ]
    refine wpList_run (by kernel_rfl) (.int .i64 (kk : Int)) X13_30 rfl ?_
    simp only [Act.put, List.setIfInBounds_toArray, List.set_cons_zero, List.set_cons_succ]
    refine wpList_run (by kernel_rfl) (.pointer (some (gad Bt (kk * 1)))) X13_30 (xg_idx .i64 (HGt.out.keep C7_13.out) HGK.out Tryd.underlying28 (by kernel_rfl) rfl rfl rfl) ?_
    simp only [Act.put, List.setIfInBounds_toArray, List.set_cons_zero, List.set_cons_succ]
    refine wpList_run (by kernel_rfl) (.bool false) X13_30 (xg_load1 (E := boC) (i := kk) (j := 0) (HGt.out.keep C7_13.out) HGK.out rfl rfl Tryd.underlying4 rfl rfl rfl) ?_
    simp only [Act.put, List.setIfInBounds_toArray, List.set_cons_zero, List.set_cons_succ]
    refine wpList_run (by kernel_rfl) (.bool false) X13_30 (exec_eqBo true false rfl rfl rfl) ?_
    simp only [Act.put, List.setIfInBounds_toArray, List.set_cons_zero, List.set_cons_succ]
    refine wpList_run (by kernel_rfl) (.bool false) X13_30 rfl ?_
    simp only [Act.put, List.setIfInBounds_toArray, List.set_cons_zero, List.set_cons_succ]
    refine wpList_run (by kernel_rfl) (.int .i64 0) X13_30 rfl ?_
    simp only [Act.put, List.setIfInBounds_toArray, List.set_cons_zero, List.set_cons_succ]
    refine wpList_run (by kernel_rfl) (.bool false) X13_30 (xo_neqF .i64 0 0 (by omega) rfl rfl rfl) ?_
    simp only [Act.put, List.setIfInBounds_toArray, List.set_cons_zero, List.set_cons_succ]
    refine wpList_run (by kernel_rfl) (.bool false) X13_30 rfl ?_
    simp only [Act.put, List.setIfInBounds_toArray, List.set_cons_zero, List.set_cons_succ]
    refine wpList_skip (by kernel_rfl) ?_
    try simp only [Act.put, List.setIfInBounds_toArray, List.set_cons_zero, List.set_cons_succ]
    refine wpList_skip (by kernel_rfl) ?_
    try simp only [Act.put, List.setIfInBounds_toArray, List.set_cons_zero, List.set_cons_succ]
    refine wpList_skip (by kernel_rfl) ?_
    try simp only [Act.put, List.setIfInBounds_toArray, List.set_cons_zero, List.set_cons_succ]
    refine wpList_skip (by kernel_rfl) ?_
    try simp only [Act.put, List.setIfInBounds_toArray, List.set_cons_zero, List.set_cons_succ]
    refine wpList_skip (by kernel_rfl) ?_
    try simp only [Act.put, List.setIfInBounds_toArray, List.set_cons_zero, List.set_cons_succ]
    refine wpList_skip (by kernel_rfl) ?_
    try simp only [Act.put, List.setIfInBounds_toArray, List.set_cons_zero, List.set_cons_succ]
    refine wpList_skip (by kernel_rfl) ?_
    try simp only [Act.put, List.setIfInBounds_toArray, List.set_cons_zero, List.set_cons_succ]
    refine wpList_skip (by kernel_rfl) ?_
    try simp only [Act.put, List.setIfInBounds_toArray, List.set_cons_zero, List.set_cons_succ]
    refine wpList_run (by kernel_rfl) (.bool false) X13_30 rfl ?_
    simp only [Act.put, List.setIfInBounds_toArray, List.set_cons_zero, List.set_cons_succ]
    refine wpList_run (by kernel_rfl) (.bool false) X13_30 rfl ?_
    simp only [Act.put, List.setIfInBounds_toArray, List.set_cons_zero, List.set_cons_succ]
    refine wpList_run (by kernel_rfl) (.bool false) X13_30 rfl ?_
    simp only [Act.put, List.setIfInBounds_toArray, List.set_cons_zero, List.set_cons_succ]
    have C4_13 := Lib.hid (bel_step C4_12.out B12.out)
    refine wpList_run (by kernel_rfl) (.agg #[.slice A2 m c2, .slice E2 m d2]) X13_30 (xo_loadW b8 _ (heap_keep Fv3_8.out C4_13.out) Tryd.underlying30 rfl (by kernel_rfl) rfl rfl) ?_
    simp only [Act.put, List.setIfInBounds_toArray, List.set_cons_zero, List.set_cons_succ]
    have C5_13 := Lib.hid (bel_step C5_12.out B12.out)
    refine wpList_run (by kernel_rfl) (.agg #[.slice A25n m c25n, .slice A29n m c29n]) X13_30 (xo_loadW b9 _ (heap_keep Fv7_9.out C5_13.out) Tryd.underlying30 rfl (by kernel_rfl) rfl rfl) ?_
    simp only [Act.put, List.setIfInBounds_toArray, List.set_cons_zero, List.set_cons_succ]
    have C3_6 := Lib.hid (bel_step C3_5.out B5.out)
    have C3_7 := Lib.hid (bel_step C3_6.out B6.out)
    have C3_8 := Lib.hid (bel_step C3_7.out B7.out)
    have C3_9 := Lib.hid (bel_step C3_8.out B8.out)
    have C3_10 := Lib.hid (bel_step C3_9.out B9.out)
    have C3_11 := Lib.hid (bel_step C3_10.out B10.out)
    have C3_12 := Lib.hid (bel_step C3_11.out B11.out)
    have C3_13 := Lib.hid (bel_step C3_12.out B12.out)
    refine wpList_call (by kernel_rfl) 16 Tryd.func16 (by kernel_rfl) (by kernel_rfl) _ _ #[.agg #[.slice A2 m c2, .slice E2 m d2], .agg #[.slice A25n m c25n, .slice A29n m c29n]] rfl (by kernel_rfl) ?_
    refine (same_yes A2 m c2 rs E2 m d2 gs A25n c25n A29n c29n X13_30 (HL.out.keep C3_13.out) (HG.out.keep C3_13.out) (Sn25.out.keep C5_13.out) (Sn29.out.keep C5_13.out)).mono ?_
    rintro e V14 ⟨rfl, hb⟩
    have B13 := Lib.hid hb
    clear hb 
    refine ⟨_, rfl, ?_⟩
    simp only [Act.put, List.setIfInBounds_toArray, List.set_cons_zero, List.set_cons_succ]
    refine wpList_run (by kernel_rfl) (.bool false) V14 rfl ?_
    simp only [Act.put, List.setIfInBounds_toArray, List.set_cons_zero, List.set_cons_succ]
    refine wpList_run (by kernel_rfl) (.bool false) V14 rfl ?_
    simp only [Act.put, List.setIfInBounds_toArray, List.set_cons_zero, List.set_cons_succ]
    refine wpList_nil ?_
    go_upto_region 15 with fail
    refine wp_region_lit ?_
    refine wpList_run (by kernel_rfl) (.int .i64 0) V14 rfl ?_
    simp only [Act.put, List.setIfInBounds_toArray, List.set_cons_zero, List.set_cons_succ]
    refine wpList_run (by kernel_rfl) (.bool false) V14 (xo_neqF .i64 0 0 (by omega) rfl rfl rfl) ?_
    simp only [Act.put, List.setIfInBounds_toArray, List.set_cons_zero, List.set_cons_succ]
    refine wpList_nil ?_
    have HGS : Hid (((gs ++ [false]).set kk true)[kk]? = some true) := Lib.hid (by rw [List.getElem?_set_self (by rw [List.length_append, hmg]; exact hkm)])
    go_upto_region 17 with fail
    refine wp_region_lit ?_
    refine wpList_run (by kernel_rfl) (.agg #[.slice Au (m + 1) cu, .slice Bu (m + 1) du]) V14 (xo_loadW b15 _ (heap_keep Fv28_15.out B13.out) Tryd.underlying30 rfl (by kernel_rfl) rfl rfl) ?_
    simp only [Act.put, List.setIfInBounds_toArray, List.set_cons_zero, List.set_cons_succ]
    refine wpList_run (by kernel_rfl) (.int .i64 (kk : Int)) V14 rfl ?_
    simp only [Act.put, List.setIfInBounds_toArray, List.set_cons_zero, List.set_cons_succ]
    have C12_14 := Lib.hid (bel_step B12.out B13.out)
    refine wpList_call (by kernel_rfl) 14 Tryd.func14 (by kernel_rfl) (by kernel_rfl) _ _ #[.agg #[.slice Au (m + 1) cu, .slice Bu (m + 1) du], .int .i64 (kk : Int)] rfl (by kernel_rfl) ?_
    refine (retract_spent Au (m + 1) cu (rs ++ [(decR x y z)]) Bu du ((gs ++ [false]).set kk true) kk HGS.out (by omega) V14 (HLu.out.keep C12_14.out) (HGu.out.keep C12_14.out)).mono ?_
    rintro e V15 ⟨rfl, hb⟩
    have B14 := Lib.hid hb
    clear hb 
    refine ⟨_, rfl, ?_⟩
    simp only [Act.put, List.setIfInBounds_toArray, List.set_cons_zero, List.set_cons_succ]
    refine wpList_run (by kernel_rfl) (.tuple #[.agg #[.slice none 0 0, .slice none 0 0], .int .i64 120]) V15 rfl ?_
    simp only [Act.put, List.setIfInBounds_toArray, List.set_cons_zero, List.set_cons_succ]
    refine wpList_run (by kernel_rfl) (.agg #[.slice none 0 0, .slice none 0 0]) V15 rfl ?_
    simp only [Act.put, List.setIfInBounds_toArray, List.set_cons_zero, List.set_cons_succ]
    refine wpList_run (by kernel_rfl) (.int .i64 120) V15 rfl ?_
    simp only [Act.put, List.setIfInBounds_toArray, List.set_cons_zero, List.set_cons_succ]
    refine wpList_new #[.slice none 0 0, .slice none 0 0] 30 (by kernel_rfl) (xo_alloc #[.slice none 0 0, .slice none 0 0] (by kernel_rfl) rfl) ?_
    intro b17 V16 hge h0 hb
    have C1_13 := Lib.hid (bel_step C1_12.out B12.out)
    have C1_14 := Lib.hid (bel_step C1_13.out B13.out)
    have C1_15 := Lib.hid (bel_step C1_14.out B14.out)
    have N31_0 : Hid (w.heap.size ≠ b17) := Lib.hid (xp_lt0 (heap_keep Fv0_4.out C1_15.out) hge)
    have C4_14 := Lib.hid (bel_step C4_13.out B13.out)
    have C4_15 := Lib.hid (bel_step C4_14.out B14.out)
    have N32_1 : Hid (b8 ≠ b17) := Lib.hid (xp_lt0 (heap_keep Fv3_8.out C4_15.out) hge)
    have C5_14 := Lib.hid (bel_step C5_13.out B13.out)
    have C5_15 := Lib.hid (bel_step C5_14.out B14.out)
    have N33_2 : Hid (b9 ≠ b17) := Lib.hid (xp_lt0 (heap_keep Fv7_9.out C5_15.out) hge)
    have C7_14 := Lib.hid (bel_step C7_13.out B13.out)
    have C7_15 := Lib.hid (bel_step C7_14.out B14.out)
    have N34_3 : Hid (b11 ≠ b17) := Lib.hid (xp_lt0 (heap_keep Fv21_11.out C7_15.out) hge)
    have C13_15 := Lib.hid (bel_step B13.out B14.out)
    have N35_4 : Hid (b15 ≠ b17) := Lib.hid (xp_lt0 (heap_keep Fv28_15.out C13_15.out) hge)
    have Ge36 : Hid (V15.heap.size ≤ b17) := Lib.hid hge
    have B15 := Lib.hid hb
    have Fv37_17 : Hid (V16.heap[b17]? = some (.cells #[.slice none 0 0, .slice none 0 0] 30 (0, 0))) := Lib.hid (h0)
    have Lt38 : Hid (b17 < V16.heap.size) := Lib.hid (xp_lt Fv37_17.out)
    clear hge h0 hb
    simp only [ptr, Act.put, List.setIfInBounds_toArray, List.set_cons_zero, List.set_cons_succ]
    refine wpList_storeW b17 #[.slice none 0 0, .slice none 0 0] #[.slice none 0 0, .slice none 0 0] 30 (by kernel_rfl) Fv37_17.out (xo_storeW b17 #[.slice none 0 0, .slice none 0 0] #[.slice none 0 0, .slice none 0 0] Fv37_17.out (by kernel_rfl) rfl (by simp [Value.oneCell']) rfl rfl rfl) ?_
    intro X16_39 h1 hfar hbel hsz
    have hbr := hbel _ _ Ge36.out B15.out
    clear B15
    have B15 := Lib.hid hbr
    clear hbr
    clear Fv37_17
    have Fv37_17 : Hid (X16_39.heap[b17]? = some (.cells #[.slice none 0 0, .slice none 0 0] 30 (0, 0))) := Lib.hid (h1)
    have HszX16_39 := Lib.hid hsz
    clear h1 hfar hbel hsz
    simp only [ptr, Act.put, List.setIfInBounds_toArray, List.set_cons_zero, List.set_cons_succ]
    refine wpList_run (by kernel_rfl) (.int .i64 120) X16_39 rfl ?_
    simp only [Act.put, List.setIfInBounds_toArray, List.set_cons_zero, List.set_cons_succ]
    refine wpList_nil ?_
    obtain ⟨lu, hlu⟩ : ∃ lu, (liveL (rs ++ [(decR x y z)]) ((gs ++ [false]).set kk true)) = lu := ⟨_, rfl⟩
    have hls : lu.length = nb := by have h1 := liveL_set (rs := rs ++ [(decR x y z)]) (gs := gs ++ [false]) (k := kk) (by rw [List.length_append, List.length_append, hmg, hmr]; rfl) HGK.out; rw [hlu, HLW.out, List.length_append, HNB.out] at h1; simpa using h1
    have HLU := Lib.hid hlu
    have HLS := Lib.hid hls
    clear hlu hls
    have hsub : ((nb + 1 : Nat) : Int) - 1 = (nb : Int) := by omega
    go_upto_region 18 with fail
    refine wp_region_lit ?_
    refine wpList_run (by kernel_rfl) (.bool true) X16_39 rfl ?_
    simp only [Act.put, List.setIfInBounds_toArray, List.set_cons_zero, List.set_cons_succ]
    refine wpList_run (by kernel_rfl) (.bool true) X16_39 rfl ?_
    simp only [Act.put, List.setIfInBounds_toArray, List.set_cons_zero, List.set_cons_succ]
    refine wpList_run (by kernel_rfl) (.int .i64 120) X16_39 rfl ?_
    simp only [Act.put, List.setIfInBounds_toArray, List.set_cons_zero, List.set_cons_succ]
    refine wpList_run (by kernel_rfl) (.bool true) X16_39 (xo_eqlT .i64 120 120 (by omega) rfl rfl rfl) ?_
    simp only [Act.put, List.setIfInBounds_toArray, List.set_cons_zero, List.set_cons_succ]
    refine wpList_run (by kernel_rfl) (.bool true) X16_39 rfl ?_
    simp only [Act.put, List.setIfInBounds_toArray, List.set_cons_zero, List.set_cons_succ]
    refine wpList_run (by kernel_rfl) (.bool true) X16_39 rfl ?_
    simp only [Act.put, List.setIfInBounds_toArray, List.set_cons_zero, List.set_cons_succ]
    have C13_16 := Lib.hid (bel_step C13_15.out B15.out)
    refine wpList_run (by kernel_rfl) (.agg #[.slice Au (m + 1) cu, .slice Bu (m + 1) du]) X16_39 (xo_loadW b15 _ (heap_keep Fv28_15.out C13_16.out) Tryd.underlying30 rfl (by kernel_rfl) rfl rfl) ?_
    simp only [Act.put, List.setIfInBounds_toArray, List.set_cons_zero, List.set_cons_succ]
    have C12_15 := Lib.hid (bel_step C12_14.out B14.out)
    have C12_16 := Lib.hid (bel_step C12_15.out B15.out)
    refine wpList_call (by kernel_rfl) 31 Tryd.func31 (by kernel_rfl) (by kernel_rfl) _ _ #[.agg #[.slice Au (m + 1) cu, .slice Bu (m + 1) du]] rfl (by kernel_rfl) ?_
    refine (live_as Au (m + 1) cu (rs ++ [(decR x y z)]) Bu du ((gs ++ [false]).set kk true) (by omega) lu HLU.out nb HLS.out X16_39 (HLu.out.keep C12_16.out) (HGu.out.keep C12_16.out)).mono ?_
    rintro e V17 ⟨Av, cv, rfl, hs, hb⟩
    have B16 := Lib.hid hb
    have HLv := Lib.hid hs
    clear hb hs
    refine ⟨_, rfl, ?_⟩
    simp only [Act.put, List.setIfInBounds_toArray, List.set_cons_zero, List.set_cons_succ]
    refine wpList_run (by kernel_rfl) (.int .i64 (nb : Int)) V17 (xo_len Av nb cv Tryd.underlying27 rfl rfl) ?_
    simp only [Act.put, List.setIfInBounds_toArray, List.set_cons_zero, List.set_cons_succ]
    refine wpList_run (by kernel_rfl) (.slice Aa (nb + 1) ca) V17 rfl ?_
    simp only [Act.put, List.setIfInBounds_toArray, List.set_cons_zero, List.set_cons_succ]
    refine wpList_run (by kernel_rfl) (.int .i64 ((nb + 1 : Nat) : Int)) V17 (xo_len Aa (nb + 1) ca Tryd.underlying27 rfl rfl) ?_
    simp only [Act.put, List.setIfInBounds_toArray, List.set_cons_zero, List.set_cons_succ]
    refine wpList_run (by kernel_rfl) (.int .i64 (nb : Int)) V17 (xo_subI ((nb + 1 : Nat) : Int) 1 (nb : Int) hsub (by omega) (by omega) rfl rfl rfl) ?_
    simp only [Act.put, List.setIfInBounds_toArray, List.set_cons_zero, List.set_cons_succ]
    refine wpList_run (by kernel_rfl) (.bool true) V17 (xo_eqlT .i64 (nb : Int) (nb : Int) (by omega) rfl rfl rfl) ?_
    simp only [Act.put, List.setIfInBounds_toArray, List.set_cons_zero, List.set_cons_succ]
    refine wpList_run (by kernel_rfl) (.bool true) V17 rfl ?_
    simp only [Act.put, List.setIfInBounds_toArray, List.set_cons_zero, List.set_cons_succ]
    refine wpList_run (by kernel_rfl) (.bool true) V17 rfl ?_
    simp only [Act.put, List.setIfInBounds_toArray, List.set_cons_zero, List.set_cons_succ]
    refine wpList_run (by kernel_rfl) (.pointer (some ⟨b15, 0, none⟩)) V17 (xo_fld0 0 b15 0 (by kernel_rfl) rfl rfl) ?_
    simp only [Act.put, List.setIfInBounds_toArray, List.set_cons_zero, List.set_cons_succ]
    have C13_17 := Lib.hid (bel_step C13_16.out B16.out)
    refine wpList_run (by kernel_rfl) (.slice Au (m + 1) cu) V17 (xo_load1 ⟨b15, 0, none⟩ _ (cells_at (heap_keep Fv28_15.out C13_17.out) 0 rfl) Tryd.underlying27 rfl rfl rfl) ?_
    simp only [Act.put, List.setIfInBounds_toArray, List.set_cons_zero, List.set_cons_succ]
    refine wpList_run (by kernel_rfl) (.int .i64 ((m + 1 : Nat) : Int)) V17 (xo_len Au (m + 1) cu Tryd.underlying27 rfl rfl) ?_
    simp only [Act.put, List.setIfInBounds_toArray, List.set_cons_zero, List.set_cons_succ]
    refine wpList_run (by kernel_rfl) (.pointer (some ⟨b11, 0, none⟩)) V17 (xo_fld0 0 b11 0 (by kernel_rfl) rfl rfl) ?_
    simp only [Act.put, List.setIfInBounds_toArray, List.set_cons_zero, List.set_cons_succ]
    have C7_16 := Lib.hid (bel_step C7_15.out B15.out)
    have C7_17 := Lib.hid (bel_step C7_16.out B16.out)
    refine wpList_run (by kernel_rfl) (.slice At (m + 1) ct) V17 (xo_load1 ⟨b11, 0, none⟩ _ (cells_at (heap_keep Fv21_11.out C7_17.out) 0 rfl) Tryd.underlying27 rfl rfl rfl) ?_
    simp only [Act.put, List.setIfInBounds_toArray, List.set_cons_zero, List.set_cons_succ]
    refine wpList_run (by kernel_rfl) (.int .i64 ((m + 1 : Nat) : Int)) V17 (xo_len At (m + 1) ct Tryd.underlying27 rfl rfl) ?_
    simp only [Act.put, List.setIfInBounds_toArray, List.set_cons_zero, List.set_cons_succ]
    refine wpList_run (by kernel_rfl) (.bool true) V17 (xo_eqlT .i64 ((m + 1 : Nat) : Int) ((m + 1 : Nat) : Int) (by omega) rfl rfl rfl) ?_
    simp only [Act.put, List.setIfInBounds_toArray, List.set_cons_zero, List.set_cons_succ]
    refine wpList_run (by kernel_rfl) (.bool true) V17 rfl ?_
    simp only [Act.put, List.setIfInBounds_toArray, List.set_cons_zero, List.set_cons_succ]
    refine wpList_run (by kernel_rfl) (.bool true) V17 rfl ?_
    simp only [Act.put, List.setIfInBounds_toArray, List.set_cons_zero, List.set_cons_succ]
    refine wpList_run (by kernel_rfl) (.pointer (some ⟨b15, 1, none⟩)) V17 (xo_fld0 1 b15 1 (by kernel_rfl) rfl rfl) ?_
    simp only [Act.put, List.setIfInBounds_toArray, List.set_cons_zero, List.set_cons_succ]
    refine wpList_run (by kernel_rfl) (.slice Bu (m + 1) du) V17 (xo_load1 ⟨b15, 1, none⟩ _ (cells_at (heap_keep Fv28_15.out C13_17.out) 1 rfl) Tryd.underlying28 rfl rfl rfl) ?_
    simp only [Act.put, List.setIfInBounds_toArray, List.set_cons_zero, List.set_cons_succ]
    refine wpList_run (by kernel_rfl) (.int .i64 (kk : Int)) V17 rfl ?_
    simp only [Act.put, List.setIfInBounds_toArray, List.set_cons_zero, List.set_cons_succ]
    have C12_17 := Lib.hid (bel_step C12_16.out B16.out)
    refine wpList_run (by kernel_rfl) (.pointer (some (gad Bu (kk * 1)))) V17 (xg_idx .i64 (HGu.out.keep C12_17.out) HGS.out Tryd.underlying28 (by kernel_rfl) rfl rfl rfl) ?_
    simp only [Act.put, List.setIfInBounds_toArray, List.set_cons_zero, List.set_cons_succ]
    refine wpList_run (by kernel_rfl) (.bool true) V17 (xg_load1 (E := boC) (i := kk) (j := 0) (HGu.out.keep C12_17.out) HGS.out rfl rfl Tryd.underlying4 rfl rfl rfl) ?_
    simp only [Act.put, List.setIfInBounds_toArray, List.set_cons_zero, List.set_cons_succ]
    refine wpList_run (by kernel_rfl) (.bool true) V17 rfl ?_
    simp only [Act.put, List.setIfInBounds_toArray, List.set_cons_zero, List.set_cons_succ]
    refine wpList_run (by kernel_rfl) (.bool true) V17 rfl ?_
    simp only [Act.put, List.setIfInBounds_toArray, List.set_cons_zero, List.set_cons_succ]
    refine wpList_run (by kernel_rfl) (.pointer (some ⟨b11, 1, none⟩)) V17 (xo_fld0 1 b11 1 (by kernel_rfl) rfl rfl) ?_
    simp only [Act.put, List.setIfInBounds_toArray, List.set_cons_zero, List.set_cons_succ]
    refine wpList_run (by kernel_rfl) (.slice Bt (m + 1) dt) V17 (xo_load1 ⟨b11, 1, none⟩ _ (cells_at (heap_keep Fv21_11.out C7_17.out) 1 rfl) Tryd.underlying28 rfl rfl rfl) ?_
    simp only [Act.put, List.setIfInBounds_toArray, List.set_cons_zero, List.set_cons_succ]
    refine wpList_run (by kernel_rfl) (.int .i64 (kk : Int)) V17 rfl ?_
    simp only [Act.put, List.setIfInBounds_toArray, List.set_cons_zero, List.set_cons_succ]
    refine wpList_run (by kernel_rfl) (.pointer (some (gad Bt (kk * 1)))) V17 (xg_idx .i64 (HGt.out.keep C7_17.out) HGK.out Tryd.underlying28 (by kernel_rfl) rfl rfl rfl) ?_
    simp only [Act.put, List.setIfInBounds_toArray, List.set_cons_zero, List.set_cons_succ]
    refine wpList_run (by kernel_rfl) (.bool false) V17 (xg_load1 (E := boC) (i := kk) (j := 0) (HGt.out.keep C7_17.out) HGK.out rfl rfl Tryd.underlying4 rfl rfl rfl) ?_
    simp only [Act.put, List.setIfInBounds_toArray, List.set_cons_zero, List.set_cons_succ]
    refine wpList_run (by kernel_rfl) (.bool true) V17 rfl ?_
    simp only [Act.put, List.setIfInBounds_toArray, List.set_cons_zero, List.set_cons_succ]
    refine wpList_run (by kernel_rfl) (.bool true) V17 rfl ?_
    simp only [Act.put, List.setIfInBounds_toArray, List.set_cons_zero, List.set_cons_succ]
    refine wpList_run (by kernel_rfl) (.bool true) V17 rfl ?_
    simp only [Act.put, List.setIfInBounds_toArray, List.set_cons_zero, List.set_cons_succ]
    refine wpList_nil ?_
    go_wp2_with fail
    go_ret
    have C0_3 := Lib.hid (bel_step C0_2.out B2.out)
    have C0_4 := Lib.hid (bel_step C0_3.out B3.out)
    have C0_5 := Lib.hid (bel_step C0_4.out B4.out)
    have C0_6 := Lib.hid (bel_step C0_5.out B5.out)
    have C0_7 := Lib.hid (bel_step C0_6.out B6.out)
    have C0_8 := Lib.hid (bel_step C0_7.out B7.out)
    have C0_9 := Lib.hid (bel_step C0_8.out B8.out)
    have C0_10 := Lib.hid (bel_step C0_9.out B9.out)
    have C0_11 := Lib.hid (bel_step C0_10.out B10.out)
    have C0_12 := Lib.hid (bel_step C0_11.out B11.out)
    have C0_13 := Lib.hid (bel_step C0_12.out B12.out)
    have C0_14 := Lib.hid (bel_step C0_13.out B13.out)
    have C0_15 := Lib.hid (bel_step C0_14.out B14.out)
    have C0_16 := Lib.hid (bel_step C0_15.out B15.out)
    have C0_17 := Lib.hid (bel_step C0_16.out B16.out)
    exact ⟨rfl, C0_17.out⟩
  | true =>
    go_upto_region 12 with fail
    refine wp_region_lit ?_
    refine wpList_run (by kernel_rfl) (.agg #[.slice At (m + 1) ct, .slice Bt (m + 1) dt]) V11 (xo_loadW b11 _ (heap_keep Fv21_11.out C7_11.out) Tryd.underlying30 rfl (by kernel_rfl) rfl rfl) ?_
    simp only [Act.put, List.setIfInBounds_toArray, List.set_cons_zero, List.set_cons_succ]
    refine wpList_run (by kernel_rfl) (.int .i64 (kk : Int)) V11 rfl ?_
    simp only [Act.put, List.setIfInBounds_toArray, List.set_cons_zero, List.set_cons_succ]
    refine wpList_call (by kernel_rfl) 14 Tryd.func14 (by kernel_rfl) (by kernel_rfl) _ _ #[.agg #[.slice At (m + 1) ct, .slice Bt (m + 1) dt], .int .i64 (kk : Int)] rfl (by kernel_rfl) ?_
    refine (retract_spent At (m + 1) ct (rs ++ [(decR x y z)]) Bt dt (gs ++ [false]) kk HGK.out (by omega) V11 (HLt.out.keep C7_11.out) (HGt.out.keep C7_11.out)).mono ?_
    rintro e V12 ⟨rfl, hb⟩
    have B11 := Lib.hid hb
    clear hb 
    refine ⟨_, rfl, ?_⟩
    simp only [Act.put, List.setIfInBounds_toArray, List.set_cons_zero, List.set_cons_succ]
    refine wpList_run (by kernel_rfl) (.tuple #[.agg #[.slice none 0 0, .slice none 0 0], .int .i64 120]) V12 rfl ?_
    simp only [Act.put, List.setIfInBounds_toArray, List.set_cons_zero, List.set_cons_succ]
    refine wpList_run (by kernel_rfl) (.agg #[.slice none 0 0, .slice none 0 0]) V12 rfl ?_
    simp only [Act.put, List.setIfInBounds_toArray, List.set_cons_zero, List.set_cons_succ]
    refine wpList_run (by kernel_rfl) (.int .i64 120) V12 rfl ?_
    simp only [Act.put, List.setIfInBounds_toArray, List.set_cons_zero, List.set_cons_succ]
    refine wpList_new #[.slice none 0 0, .slice none 0 0] 30 (by kernel_rfl) (xo_alloc #[.slice none 0 0, .slice none 0 0] (by kernel_rfl) rfl) ?_
    intro b15 V13 hge h0 hb
    have C1_11 := Lib.hid (bel_step C1_10.out B10.out)
    have C1_12 := Lib.hid (bel_step C1_11.out B11.out)
    have N23_0 : Hid (w.heap.size ≠ b15) := Lib.hid (xp_lt0 (heap_keep Fv0_4.out C1_12.out) hge)
    have C4_9 := Lib.hid (bel_step C4_8.out B8.out)
    have C4_10 := Lib.hid (bel_step C4_9.out B9.out)
    have C4_11 := Lib.hid (bel_step C4_10.out B10.out)
    have C4_12 := Lib.hid (bel_step C4_11.out B11.out)
    have N24_1 : Hid (b8 ≠ b15) := Lib.hid (xp_lt0 (heap_keep Fv3_8.out C4_12.out) hge)
    have C5_7 := Lib.hid (bel_step B5.out B6.out)
    have C5_8 := Lib.hid (bel_step C5_7.out B7.out)
    have C5_9 := Lib.hid (bel_step C5_8.out B8.out)
    have C5_10 := Lib.hid (bel_step C5_9.out B9.out)
    have C5_11 := Lib.hid (bel_step C5_10.out B10.out)
    have C5_12 := Lib.hid (bel_step C5_11.out B11.out)
    have N25_2 : Hid (b9 ≠ b15) := Lib.hid (xp_lt0 (heap_keep Fv7_9.out C5_12.out) hge)
    have C7_12 := Lib.hid (bel_step C7_11.out B11.out)
    have N26_3 : Hid (b11 ≠ b15) := Lib.hid (xp_lt0 (heap_keep Fv21_11.out C7_12.out) hge)
    have Ge27 : Hid (V12.heap.size ≤ b15) := Lib.hid hge
    have B12 := Lib.hid hb
    have Fv28_15 : Hid (V13.heap[b15]? = some (.cells #[.slice none 0 0, .slice none 0 0] 30 (0, 0))) := Lib.hid (h0)
    have Lt29 : Hid (b15 < V13.heap.size) := Lib.hid (xp_lt Fv28_15.out)
    clear hge h0 hb
    simp only [ptr, Act.put, List.setIfInBounds_toArray, List.set_cons_zero, List.set_cons_succ]
    refine wpList_storeW b15 #[.slice none 0 0, .slice none 0 0] #[.slice none 0 0, .slice none 0 0] 30 (by kernel_rfl) Fv28_15.out (xo_storeW b15 #[.slice none 0 0, .slice none 0 0] #[.slice none 0 0, .slice none 0 0] Fv28_15.out (by kernel_rfl) rfl (by simp [Value.oneCell']) rfl rfl rfl) ?_
    intro X13_30 h1 hfar hbel hsz
    have hbr := hbel _ _ Ge27.out B12.out
    clear B12
    have B12 := Lib.hid hbr
    clear hbr
    clear Fv28_15
    have Fv28_15 : Hid (X13_30.heap[b15]? = some (.cells #[.slice none 0 0, .slice none 0 0] 30 (0, 0))) := Lib.hid (h1)
    have HszX13_30 := Lib.hid hsz
    clear h1 hfar hbel hsz
    simp only [ptr, Act.put, List.setIfInBounds_toArray, List.set_cons_zero, List.set_cons_succ]
    refine wpList_run (by kernel_rfl) (.int .i64 120) X13_30 rfl ?_
    simp only [Act.put, List.setIfInBounds_toArray, List.set_cons_zero, List.set_cons_succ]
    refine wpList_nil ?_
    go_upto_region 13 with fail
    refine wp_region_lit ?_
    refine wpList_run (by kernel_rfl) (.int .i64 120) X13_30 rfl ?_
    simp only [Act.put, List.setIfInBounds_toArray, List.set_cons_zero, List.set_cons_succ]
    refine wpList_run (by kernel_rfl) (.bool false) X13_30 (xo_eqlF .i64 120 0 (by omega) rfl rfl rfl) ?_
    simp only [Act.put, List.setIfInBounds_toArray, List.set_cons_zero, List.set_cons_succ]
    refine wpList_run (by kernel_rfl) (.pointer (some ⟨b11, 1, none⟩)) X13_30 (xo_fld0 1 b11 1 (by kernel_rfl) rfl rfl) ?_
    simp only [Act.put, List.setIfInBounds_toArray, List.set_cons_zero, List.set_cons_succ]
    have C7_13 := Lib.hid (bel_step C7_12.out B12.out)
    refine wpList_run (by kernel_rfl) (.slice Bt (m + 1) dt) X13_30 (xo_load1 ⟨b11, 1, none⟩ _ (cells_at (heap_keep Fv21_11.out C7_13.out) 1 rfl) Tryd.underlying28 rfl rfl rfl) ?_
    simp only [Act.put, List.setIfInBounds_toArray, List.set_cons_zero, List.set_cons_succ]
    refine wpList_run (by kernel_rfl) (.int .i64 (kk : Int)) X13_30 rfl ?_
    simp only [Act.put, List.setIfInBounds_toArray, List.set_cons_zero, List.set_cons_succ]
    refine wpList_run (by kernel_rfl) (.pointer (some (gad Bt (kk * 1)))) X13_30 (xg_idx .i64 (HGt.out.keep C7_13.out) HGK.out Tryd.underlying28 (by kernel_rfl) rfl rfl rfl) ?_
    simp only [Act.put, List.setIfInBounds_toArray, List.set_cons_zero, List.set_cons_succ]
    refine wpList_run (by kernel_rfl) (.bool true) X13_30 (xg_load1 (E := boC) (i := kk) (j := 0) (HGt.out.keep C7_13.out) HGK.out rfl rfl Tryd.underlying4 rfl rfl rfl) ?_
    simp only [Act.put, List.setIfInBounds_toArray, List.set_cons_zero, List.set_cons_succ]
    refine wpList_run (by kernel_rfl) (.bool false) X13_30 (exec_eqBo false true rfl rfl rfl) ?_
    simp only [Act.put, List.setIfInBounds_toArray, List.set_cons_zero, List.set_cons_succ]
    refine wpList_run (by kernel_rfl) (.bool false) X13_30 rfl ?_
    simp only [Act.put, List.setIfInBounds_toArray, List.set_cons_zero, List.set_cons_succ]
    refine wpList_run (by kernel_rfl) (.int .i64 120) X13_30 rfl ?_
    simp only [Act.put, List.setIfInBounds_toArray, List.set_cons_zero, List.set_cons_succ]
    refine wpList_run (by kernel_rfl) (.bool true) X13_30 (xo_neqT .i64 120 0 (by omega) rfl rfl rfl) ?_
    simp only [Act.put, List.setIfInBounds_toArray, List.set_cons_zero, List.set_cons_succ]
    refine wpList_run (by kernel_rfl) (.bool true) X13_30 rfl ?_
    simp only [Act.put, List.setIfInBounds_toArray, List.set_cons_zero, List.set_cons_succ]
    refine wpList_run (by kernel_rfl) (.int .i64 120) X13_30 rfl ?_
    simp only [Act.put, List.setIfInBounds_toArray, List.set_cons_zero, List.set_cons_succ]
    refine wpList_run (by kernel_rfl) (.bool false) X13_30 (xo_neqF .i64 120 120 (by omega) rfl rfl rfl) ?_
    simp only [Act.put, List.setIfInBounds_toArray, List.set_cons_zero, List.set_cons_succ]
    refine wpList_run (by kernel_rfl) (.bool false) X13_30 rfl ?_
    simp only [Act.put, List.setIfInBounds_toArray, List.set_cons_zero, List.set_cons_succ]
    refine wpList_run (by kernel_rfl) (.pointer (some ⟨b15, 0, none⟩)) X13_30 (xo_fld0 0 b15 0 (by kernel_rfl) rfl rfl) ?_
    simp only [Act.put, List.setIfInBounds_toArray, List.set_cons_zero, List.set_cons_succ]
    refine wpList_run (by kernel_rfl) (.slice none 0 0) X13_30 (xo_load1 ⟨b15, 0, none⟩ _ (cells_at Fv28_15.out 0 rfl) Tryd.underlying27 rfl rfl rfl) ?_
    simp only [Act.put, List.setIfInBounds_toArray, List.set_cons_zero, List.set_cons_succ]
    refine wpList_run (by kernel_rfl) (.int .i64 0) X13_30 (xo_len none 0 0 Tryd.underlying27 rfl rfl) ?_
    simp only [Act.put, List.setIfInBounds_toArray, List.set_cons_zero, List.set_cons_succ]
    refine wpList_run (by kernel_rfl) (.bool false) X13_30 (xo_gtrF .i64 0 0 (by omega) rfl rfl rfl) ?_
    simp only [Act.put, List.setIfInBounds_toArray, List.set_cons_zero, List.set_cons_succ]
    refine wpList_run (by kernel_rfl) (.bool false) X13_30 rfl ?_
    simp only [Act.put, List.setIfInBounds_toArray, List.set_cons_zero, List.set_cons_succ]
    refine wpList_run (by kernel_rfl) (.bool false) X13_30 rfl ?_
    simp only [Act.put, List.setIfInBounds_toArray, List.set_cons_zero, List.set_cons_succ]
    refine wpList_run (by kernel_rfl) (.bool false) X13_30 rfl ?_
    simp only [Act.put, List.setIfInBounds_toArray, List.set_cons_zero, List.set_cons_succ]
    refine wpList_run (by kernel_rfl) (.bool false) X13_30 rfl ?_
    simp only [Act.put, List.setIfInBounds_toArray, List.set_cons_zero, List.set_cons_succ]
    have C4_13 := Lib.hid (bel_step C4_12.out B12.out)
    refine wpList_run (by kernel_rfl) (.agg #[.slice A2 m c2, .slice E2 m d2]) X13_30 (xo_loadW b8 _ (heap_keep Fv3_8.out C4_13.out) Tryd.underlying30 rfl (by kernel_rfl) rfl rfl) ?_
    simp only [Act.put, List.setIfInBounds_toArray, List.set_cons_zero, List.set_cons_succ]
    have C5_13 := Lib.hid (bel_step C5_12.out B12.out)
    refine wpList_run (by kernel_rfl) (.agg #[.slice A25n m c25n, .slice A29n m c29n]) X13_30 (xo_loadW b9 _ (heap_keep Fv7_9.out C5_13.out) Tryd.underlying30 rfl (by kernel_rfl) rfl rfl) ?_
    simp only [Act.put, List.setIfInBounds_toArray, List.set_cons_zero, List.set_cons_succ]
    have C3_6 := Lib.hid (bel_step C3_5.out B5.out)
    have C3_7 := Lib.hid (bel_step C3_6.out B6.out)
    have C3_8 := Lib.hid (bel_step C3_7.out B7.out)
    have C3_9 := Lib.hid (bel_step C3_8.out B8.out)
    have C3_10 := Lib.hid (bel_step C3_9.out B9.out)
    have C3_11 := Lib.hid (bel_step C3_10.out B10.out)
    have C3_12 := Lib.hid (bel_step C3_11.out B11.out)
    have C3_13 := Lib.hid (bel_step C3_12.out B12.out)
    refine wpList_call (by kernel_rfl) 16 Tryd.func16 (by kernel_rfl) (by kernel_rfl) _ _ #[.agg #[.slice A2 m c2, .slice E2 m d2], .agg #[.slice A25n m c25n, .slice A29n m c29n]] rfl (by kernel_rfl) ?_
    refine (same_yes A2 m c2 rs E2 m d2 gs A25n c25n A29n c29n X13_30 (HL.out.keep C3_13.out) (HG.out.keep C3_13.out) (Sn25.out.keep C5_13.out) (Sn29.out.keep C5_13.out)).mono ?_
    rintro e V14 ⟨rfl, hb⟩
    have B13 := Lib.hid hb
    clear hb 
    refine ⟨_, rfl, ?_⟩
    simp only [Act.put, List.setIfInBounds_toArray, List.set_cons_zero, List.set_cons_succ]
    refine wpList_run (by kernel_rfl) (.bool false) V14 rfl ?_
    simp only [Act.put, List.setIfInBounds_toArray, List.set_cons_zero, List.set_cons_succ]
    refine wpList_run (by kernel_rfl) (.bool false) V14 rfl ?_
    simp only [Act.put, List.setIfInBounds_toArray, List.set_cons_zero, List.set_cons_succ]
    refine wpList_nil ?_
    go_upto_region 15 with fail
    refine wp_region_lit ?_
    refine wpList_run (by kernel_rfl) (.int .i64 120) V14 rfl ?_
    simp only [Act.put, List.setIfInBounds_toArray, List.set_cons_zero, List.set_cons_succ]
    refine wpList_run (by kernel_rfl) (.bool true) V14 (xo_neqT .i64 120 0 (by omega) rfl rfl rfl) ?_
    simp only [Act.put, List.setIfInBounds_toArray, List.set_cons_zero, List.set_cons_succ]
    refine wpList_nil ?_
    go_upto_region 16 with fail
    refine wp_region_lit ?_
    refine wpList_run (by kernel_rfl) (.bool true) V14 rfl ?_
    simp only [Act.put, List.setIfInBounds_toArray, List.set_cons_zero, List.set_cons_succ]
    refine wpList_run (by kernel_rfl) (.bool true) V14 rfl ?_
    simp only [Act.put, List.setIfInBounds_toArray, List.set_cons_zero, List.set_cons_succ]
    refine wpList_nil ?_
    go_wp2_with fail
    go_ret
    have C0_3 := Lib.hid (bel_step C0_2.out B2.out)
    have C0_4 := Lib.hid (bel_step C0_3.out B3.out)
    have C0_5 := Lib.hid (bel_step C0_4.out B4.out)
    have C0_6 := Lib.hid (bel_step C0_5.out B5.out)
    have C0_7 := Lib.hid (bel_step C0_6.out B6.out)
    have C0_8 := Lib.hid (bel_step C0_7.out B7.out)
    have C0_9 := Lib.hid (bel_step C0_8.out B8.out)
    have C0_10 := Lib.hid (bel_step C0_9.out B9.out)
    have C0_11 := Lib.hid (bel_step C0_10.out B10.out)
    have C0_12 := Lib.hid (bel_step C0_11.out B11.out)
    have C0_13 := Lib.hid (bel_step C0_12.out B12.out)
    have C0_14 := Lib.hid (bel_step C0_13.out B13.out)
    exact ⟨rfl, C0_14.out⟩
end Go.Proofs.YtopicjdmajlndaaDoor
