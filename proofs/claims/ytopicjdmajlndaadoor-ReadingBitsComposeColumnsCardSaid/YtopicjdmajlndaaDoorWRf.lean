/- A law of stage 12: ReadingBitsComposeColumns. -/
import Derived.Test.YtopicjdmajlndaaDoorH18
namespace Go.Proofs.YtopicjdmajlndaaDoor
set_option linter.unusedVariables false
set_option linter.unusedSimpArgs false
set_option linter.unusedSectionVars false
set_option maxRecDepth 8000
open Go.RowKit Go.Proofs.YtopicjdmajlndaaDoor.K
attribute [local irreducible] wpList wpQuiet
theorem xo_shlU {P : Program} {ev : Operand → Value} {o : Oper} {w : World} {x y : Operand} {ty t : TypeId} (kk : IntKind) (u n r : Nat) (h : u * 2 ^ n = r) (hr : r < 18446744073709551616) (ho : o.op = .binOp .shl ty x y t) (hx : ev x = .int .u64 (u : Int)) (hy : ev y = .int kk (n : Int)) (hn : n < 63 := by omega) :
    (execOp ev o).run P w = .ok (.value (.int .u64 (r : Int))) w := by
  have hm : min (n : Int).toNat IntKind.u64.bits = n := by rw [Int.toNat_natCast]; show min n 64 = n; omega
  have e : (u : Int) * 2 ^ n = (r : Int) := by rw [← h]; simp
  have e0 : IntKind.u64.wrap ((u : Int) * 2 ^ n) = (r : Int) := by rw [e, IntKind.wrap_u64]; omega
  unfold execOp
  simp [ho, hx, hy, eqGuard, binOp, Sem.run_bind, hm]
  exact e0
/-- the place of a column's first bit -/
def frN : Nat → Nat
  | 0 => 0
  | k + 1 => frN k + widN k
theorem frN_le (k : Nat) (h : k < 4) : frN k + widN k ≤ 24 := by
  have : k = 0 ∨ k = 1 ∨ k = 2 ∨ k = 3 := by omega
  rcases this with rfl | rfl | rfl | rfl <;> decide
theorem bitsN_length (cols : List (List Nat)) : ∀ j, (bitsN cols j).length = frN j
  | 0 => rfl
  | j + 1 => by simp [bitsN, frN, bitsN_length cols j]
theorem bitsN_get {cols : List (List Nat)} {k q : Nat} : ∀ {j : Nat}, k < j → q < widN k → (bitsN cols j)[frN k + q]? = some (bitN (cols.getD k []) q)
  | 0, h, _ => by omega
  | j + 1, h, hq => by
    unfold bitsN
    by_cases e : k = j
    · subst e
      rw [List.getElem?_append_right (by rw [bitsN_length]; omega), bitsN_length, Nat.add_sub_cancel_left, List.getElem?_map, List.getElem?_range hq]
      rfl
    · have h2 := bitsN_get (cols := cols) (k := k) (q := q) (j := j) (by omega) hq
      rw [List.getElem?_append_left (List.getElem?_eq_some_iff.1 h2).1]
      exact h2
theorem colsN_small {rs : List Rd} {gs : List Bool} {n N : Nat} (h1 : rs.length = n) (h2 : gs.length = n) (hN : n ≤ N) (hv : ∀ r ∈ rs, vR r = true) {k : Nat} {xs : List Nat} (h : (colsN rs gs N)[k]? = some xs) : xs.length = N ∧ (k < 4 → ∀ x ∈ xs, x < 2 ^ widN k) := by
  have hm := List.mem_of_getElem? h
  refine ⟨(colsN_ok h1 h2 hN hv xs hm).1, fun hk x hx => ?_⟩
  unfold colsN at h
  rw [List.getElem?_map] at h
  rw [List.getElem?_range (by omega)] at h
  simp only [Option.map_some, Option.some.injEq] at h
  subst h
  unfold colN at hx
  rw [if_pos hk] at hx
  have hp : 0 < 2 ^ widN k := Nat.pow_pos (by decide)
  rcases List.mem_append.1 hx with hx | hx
  · obtain ⟨r, hr, rfl⟩ := List.mem_map.1 hx
    have hf := fok_of (hv r hr) k hk
    simp only [fokB, decide_eq_true_eq] at hf
    have h3 := hf.2
    omega
  · rw [List.mem_replicate] at hx
    omega
set_option maxRecDepth 100000 in
set_option maxHeartbeats 16000000 in
theorem rBits_any (A : Option Addr) (n c : Nat) (ops : List Opn) (hby : ∀ o ∈ ops, o.b0 < 256 ∧ o.b1 < 256 ∧ o.b2 < 256) (w : World) (hM : Sg opC 4 w A n c ops) (hW : Gw w) :
    Calls Tryd.prog 7 #[.slice A n c] w fun e w' => e = .returned (.bool true) ∧ Below w.heap.size w w' := by
  have HW := Lib.hid hW
  have HM := Lib.hid hM
  have HBY := Lib.hid hby
  clear hW hM hby
  go_enter Tryd.func7, Tryd.ntmps7
  go_upto_region 1 with fail
  refine wp_region_lit ?_
  refine wpList_call (by kernel_rfl) 10 Tryd.func10 (by kernel_rfl) (by kernel_rfl) _ _ #[] rfl (by kernel_rfl) ?_
  refine (sanity12_any w HW.out).mono ?_
  rintro e V1 ⟨rfl, hb⟩
  have B0 := Lib.hid hb
  clear hb 
  refine ⟨_, rfl, ?_⟩
  simp only [Act.put, List.setIfInBounds_toArray, List.set_cons_zero, List.set_cons_succ]
  refine wpList_run (by kernel_rfl) (.bool true) V1 rfl ?_
  simp only [Act.put, List.setIfInBounds_toArray, List.set_cons_zero, List.set_cons_succ]
  refine wpList_nil ?_
  go_upto_region 2 with fail
  refine wp_region_lit ?_
  refine wpList_run (by kernel_rfl) (.slice A n c) V1 rfl ?_
  simp only [Act.put, List.setIfInBounds_toArray, List.set_cons_zero, List.set_cons_succ]
  refine wpList_call (by kernel_rfl) 11 Tryd.func11 (by kernel_rfl) (by kernel_rfl) _ _ #[.slice A n c, .int .i64 16] rfl (by kernel_rfl) ?_
  refine (rmade_any A n c ops 16 (by omega) HBY.out V1 (HM.out.keep B0.out)).mono ?_
  rintro e V2 ⟨rs, gs, m, A2, c2, E2, d2, rfl, hmd, hst, hs1, hs2, hb⟩
  have B1 := Lib.hid hb
  have HL := Lib.hid hs1
  have HG := Lib.hid hs2
  clear hb hs1 hs2
  refine ⟨_, rfl, ?_⟩
  simp only [Act.put, List.setIfInBounds_toArray, List.set_cons_zero, List.set_cons_succ]
  refine wpList_new #[.slice none 0 0, .slice none 0 0] 30 (by kernel_rfl) (xo_alloc #[.slice none 0 0, .slice none 0 0] (by kernel_rfl) rfl) ?_
  intro b4 V3 hge h0 hb
  have Ge0 : Hid (V2.heap.size ≤ b4) := Lib.hid hge
  have B2 := Lib.hid hb
  have Fv1_4 : Hid (V3.heap[b4]? = some (.cells #[.slice none 0 0, .slice none 0 0] 30 (0, 0))) := Lib.hid (h0)
  have Lt2 : Hid (b4 < V3.heap.size) := Lib.hid (xp_lt Fv1_4.out)
  clear hge h0 hb
  simp only [ptr, Act.put, List.setIfInBounds_toArray, List.set_cons_zero, List.set_cons_succ]
  refine wpList_storeW b4 #[.slice none 0 0, .slice none 0 0] #[.slice A2 m c2, .slice E2 m d2] 30 (by kernel_rfl) Fv1_4.out (xo_storeW b4 #[.slice none 0 0, .slice none 0 0] #[.slice A2 m c2, .slice E2 m d2] Fv1_4.out (by kernel_rfl) rfl (by simp [Value.oneCell']) rfl rfl rfl) ?_
  intro X3_3 h1 hfar hbel hsz
  have hbr := hbel _ _ Ge0.out B2.out
  clear B2
  have B2 := Lib.hid hbr
  clear hbr
  clear Fv1_4
  have Fv1_4 : Hid (X3_3.heap[b4]? = some (.cells #[.slice A2 m c2, .slice E2 m d2] 30 (0, 0))) := Lib.hid (h1)
  have HszX3_3 := Lib.hid hsz
  clear h1 hfar hbel hsz
  simp only [ptr, Act.put, List.setIfInBounds_toArray, List.set_cons_zero, List.set_cons_succ]
  refine wpList_nil ?_
  have hmr := HL.out.len
  have hmg := HG.out.len
  have hmm := hst.most
  have HST := Lib.hid hst
  clear hmd hst
  obtain ⟨cols, hcols⟩ : ∃ x, colsN rs gs (2 ^ 4) = x := ⟨_, rfl⟩
  have hm24 : m ≤ 2 ^ 4 := by omega
  have HSM := Lib.hid (show ∀ k xs, cols[k]? = some xs → xs.length = 16 ∧ (k < 4 → ∀ x ∈ xs, x < 2 ^ widN k) by rw [← hcols]; exact fun k xs h => colsN_small hmr hmg hm24 HST.out.ok h)
  have hcl5 : cols.length = 5 := by rw [← hcols]; simp [colsN]
  have HCO := Lib.hid hcols
  clear hcols
  go_upto_region 3 with fail
  refine wp_region_lit ?_
  refine wpList_run (by kernel_rfl) (.agg #[.slice A2 m c2, .slice E2 m d2]) X3_3 (xo_loadW b4 _ Fv1_4.out Tryd.underlying30 rfl (by kernel_rfl) rfl rfl) ?_
  simp only [Act.put, List.setIfInBounds_toArray, List.set_cons_zero, List.set_cons_succ]
  refine wpList_call (by kernel_rfl) 19 Tryd.func19 (by kernel_rfl) (by kernel_rfl) _ _ #[.agg #[.slice A2 m c2, .slice E2 m d2], .int .i64 4] rfl (by kernel_rfl) ?_
  refine (cols_yesC A2 m c2 rs E2 d2 gs 4 (by omega) hm24 HST.out.ok X3_3 (HL.out.keep B2.out) (HG.out.keep B2.out)).mono ?_
  rintro e V4 ⟨A5, c5, rfl, ⟨hs5, hc0⟩, hb⟩
  have B3 := Lib.hid hb
  rw [HCO.out] at hc0
  have HC := Lib.hid hc0
  clear hb hc0
  refine ⟨_, rfl, ?_⟩
  simp only [Act.put, List.setIfInBounds_toArray, List.set_cons_zero, List.set_cons_succ]
  refine wpList_run (by kernel_rfl) (.tuple #[.slice A5 5 c5, .int .i64 0]) V4 rfl ?_
  simp only [Act.put, List.setIfInBounds_toArray, List.set_cons_zero, List.set_cons_succ]
  refine wpList_run (by kernel_rfl) (.slice A5 5 c5) V4 rfl ?_
  simp only [Act.put, List.setIfInBounds_toArray, List.set_cons_zero, List.set_cons_succ]
  refine wpList_run (by kernel_rfl) (.int .i64 0) V4 rfl ?_
  simp only [Act.put, List.setIfInBounds_toArray, List.set_cons_zero, List.set_cons_succ]
  refine wpList_run (by kernel_rfl) (.slice A5 5 c5) V4 rfl ?_
  simp only [Act.put, List.setIfInBounds_toArray, List.set_cons_zero, List.set_cons_succ]
  refine wpList_run (by kernel_rfl) (.int .i64 0) V4 rfl ?_
  simp only [Act.put, List.setIfInBounds_toArray, List.set_cons_zero, List.set_cons_succ]
  refine wpList_nil ?_
  go_upto_region 4 with fail
  refine wp_region_lit ?_
  refine wpList_run (by kernel_rfl) (.agg #[.slice A2 m c2, .slice E2 m d2]) V4 (xo_loadW b4 _ (heap_keep Fv1_4.out B3.out) Tryd.underlying30 rfl (by kernel_rfl) rfl rfl) ?_
  simp only [Act.put, List.setIfInBounds_toArray, List.set_cons_zero, List.set_cons_succ]
  have C2_4 := Lib.hid (bel_step B2.out B3.out)
  have C0_2 := Lib.hid (bel_step B0.out B1.out)
  have C0_3 := Lib.hid (bel_step C0_2.out B2.out)
  have C0_4 := Lib.hid (bel_step C0_3.out B3.out)
  refine wpList_call (by kernel_rfl) 21 Tryd.func21 (by kernel_rfl) (by kernel_rfl) _ _ #[.agg #[.slice A2 m c2, .slice E2 m d2], .int .i64 4] rfl (by kernel_rfl) ?_
  refine (bits_yes A2 m c2 rs E2 d2 gs 4 (by omega) hm24 HST.out.ok V4 (HL.out.keep C2_4.out) (HG.out.keep C2_4.out) (HW.out.keep C0_4.out)).mono ?_
  rintro e V5 ⟨Ab, cb, rfl, ⟨hsb, hc0⟩, hb⟩
  have B4 := Lib.hid hb
  rw [HCO.out] at hc0
  have HBt := Lib.hid hc0
  clear hb hc0
  refine ⟨_, rfl, ?_⟩
  simp only [Act.put, List.setIfInBounds_toArray, List.set_cons_zero, List.set_cons_succ]
  refine wpList_run (by kernel_rfl) (.tuple #[.slice Ab 24 cb, .int .i64 0]) V5 rfl ?_
  simp only [Act.put, List.setIfInBounds_toArray, List.set_cons_zero, List.set_cons_succ]
  refine wpList_run (by kernel_rfl) (.slice Ab 24 cb) V5 rfl ?_
  simp only [Act.put, List.setIfInBounds_toArray, List.set_cons_zero, List.set_cons_succ]
  refine wpList_run (by kernel_rfl) (.int .i64 0) V5 rfl ?_
  simp only [Act.put, List.setIfInBounds_toArray, List.set_cons_zero, List.set_cons_succ]
  refine wpList_run (by kernel_rfl) (.slice Ab 24 cb) V5 rfl ?_
  simp only [Act.put, List.setIfInBounds_toArray, List.set_cons_zero, List.set_cons_succ]
  refine wpList_run (by kernel_rfl) (.int .i64 0) V5 rfl ?_
  simp only [Act.put, List.setIfInBounds_toArray, List.set_cons_zero, List.set_cons_succ]
  refine wpList_nil ?_
  go_upto_region 5 with fail
  refine wp_region_lit ?_
  refine wpList_run (by kernel_rfl) (.int .i64 0) V5 rfl ?_
  simp only [Act.put, List.setIfInBounds_toArray, List.set_cons_zero, List.set_cons_succ]
  refine wpList_run (by kernel_rfl) (.bool false) V5 (xo_neqF .i64 0 0 (by omega) rfl rfl rfl) ?_
  simp only [Act.put, List.setIfInBounds_toArray, List.set_cons_zero, List.set_cons_succ]
  refine wpList_run (by kernel_rfl) (.bool false) V5 rfl ?_
  simp only [Act.put, List.setIfInBounds_toArray, List.set_cons_zero, List.set_cons_succ]
  refine wpList_run (by kernel_rfl) (.int .i64 0) V5 rfl ?_
  simp only [Act.put, List.setIfInBounds_toArray, List.set_cons_zero, List.set_cons_succ]
  refine wpList_run (by kernel_rfl) (.bool false) V5 (xo_neqF .i64 0 0 (by omega) rfl rfl rfl) ?_
  simp only [Act.put, List.setIfInBounds_toArray, List.set_cons_zero, List.set_cons_succ]
  refine wpList_run (by kernel_rfl) (.bool false) V5 rfl ?_
  simp only [Act.put, List.setIfInBounds_toArray, List.set_cons_zero, List.set_cons_succ]
  refine wpList_run (by kernel_rfl) (.bool false) V5 rfl ?_
  simp only [Act.put, List.setIfInBounds_toArray, List.set_cons_zero, List.set_cons_succ]
  refine wpList_run (by kernel_rfl) (.slice A5 5 c5) V5 rfl ?_
  simp only [Act.put, List.setIfInBounds_toArray, List.set_cons_zero, List.set_cons_succ]
  refine wpList_run (by kernel_rfl) (.int .i64 5) V5 (xo_len A5 5 c5 Tryd.underlying38 rfl rfl) ?_
  simp only [Act.put, List.setIfInBounds_toArray, List.set_cons_zero, List.set_cons_succ]
  refine wpList_run (by kernel_rfl) (.bool false) V5 (xo_neqF .i64 5 5 (by omega) rfl rfl rfl) ?_
  simp only [Act.put, List.setIfInBounds_toArray, List.set_cons_zero, List.set_cons_succ]
  refine wpList_run (by kernel_rfl) (.bool false) V5 rfl ?_
  simp only [Act.put, List.setIfInBounds_toArray, List.set_cons_zero, List.set_cons_succ]
  refine wpList_run (by kernel_rfl) (.bool false) V5 rfl ?_
  simp only [Act.put, List.setIfInBounds_toArray, List.set_cons_zero, List.set_cons_succ]
  refine wpList_run (by kernel_rfl) (.slice Ab 24 cb) V5 rfl ?_
  simp only [Act.put, List.setIfInBounds_toArray, List.set_cons_zero, List.set_cons_succ]
  refine wpList_run (by kernel_rfl) (.int .i64 24) V5 (xo_len Ab 24 cb Tryd.underlying38 rfl rfl) ?_
  simp only [Act.put, List.setIfInBounds_toArray, List.set_cons_zero, List.set_cons_succ]
  refine wpList_run (by kernel_rfl) (.bool false) V5 (xo_neqF .i64 24 24 (by omega) rfl rfl rfl) ?_
  simp only [Act.put, List.setIfInBounds_toArray, List.set_cons_zero, List.set_cons_succ]
  refine wpList_run (by kernel_rfl) (.bool false) V5 rfl ?_
  simp only [Act.put, List.setIfInBounds_toArray, List.set_cons_zero, List.set_cons_succ]
  refine wpList_nil ?_
  go_upto_region 7 with fail
  refine wp_region_lit ?_
  refine wpList_run (by kernel_rfl) (.int .i64 0) V5 rfl ?_
  simp only [Act.put, List.setIfInBounds_toArray, List.set_cons_zero, List.set_cons_succ]
  refine wpList_nil ?_
  have C0_5 := Lib.hid (bel_step C0_4.out B4.out)
  have HBV4 := Lib.hid C0_5.out
  have YHC := (HC.out.keep B4.out)
  have YHBt := HBt.out
  clear HC
  have HC := Lib.hid YHC
  clear YHC
  clear HBt
  have HBt := Lib.hid YHBt
  clear YHBt
  obtain ⟨VB4, rfl⟩ : ∃ VB4 : World, VB4 = V5 := ⟨_, rfl⟩
  have h5c := HC.out.head.cap
  have h24c := HBt.out.head.cap
  go_upto_region 8 with fail
  refine wp_region_lit ?_
  refine wpList_run (by kernel_rfl) (.int .i64 0) VB4 rfl ?_
  simp only [Act.put, List.setIfInBounds_toArray, List.set_cons_zero, List.set_cons_succ]
  refine wpList_nil ?_
  have O5 := (Below.refl VB4.heap.size VB4)
  have B0 := Lib.hid (Below.refl VB4.heap.size VB4)
  go_wp2_with fail
  go_loopw [9, 10] (fun fv p wr => ∃ k : Nat, k ≤ 4 ∧ p = .int .i64 k ∧ fv = .int .i64 ((frN k : Nat) : Int) ∧ Below VB4.heap.size VB4 wr) (fun _ p _ => 4 - (intOf p).toNat)
  case atStart => exact ⟨0, Nat.zero_le _, rfl, rfl, O5⟩
  case round =>
    clear O5
    obtain ⟨wo, rfl⟩ : ∃ wo : World, wo = wr := ⟨_, rfl⟩
    obtain ⟨k, hi, rfl, hhfv, hb0⟩ := hrel
    have hbr := hb0
    clear B0
    have B0 := Lib.hid hbr
    clear hbr
    have hfv := Lib.hid hhfv
    clear hb0 hhfv
    have hfe := hfv.out
    subst hfe
    by_cases hk4 : k < 4
    · have hci7 : ((k : Int) < 4) := by omega
      go_upto_region 9 with fail
      refine wp_region_lit ?_
      refine wpList_run (by kernel_rfl) (.int .i64 (k : Int)) wo rfl ?_
      simp only [Act.put, List.setIfInBounds_toArray, List.set_cons_zero, List.set_cons_succ]
      refine wpList_run (by kernel_rfl) (.bool true) wo (xo_lssT .i64 (k : Int) 4 (by omega) rfl rfl rfl) ?_
      simp only [Act.put, List.setIfInBounds_toArray, List.set_cons_zero, List.set_cons_succ]
      refine wpList_nil ?_
      go_upto_region 11 with fail
      refine wp_region_lit ?_
      refine wpList_run (by kernel_rfl) (.int .i64 0) wo rfl ?_
      simp only [Act.put, List.setIfInBounds_toArray, List.set_cons_zero, List.set_cons_succ]
      refine wpList_nil ?_
      obtain ⟨xs, hx⟩ : ∃ xs, cols[k]? = some xs := ⟨_, List.getElem?_eq_getElem (by omega)⟩
      have hxl := (HSM.out k xs hx).1
      have HXB := Lib.hid ((HSM.out k xs hx).2 hk4)
      have hgD : cols.getD k [] = xs := by simp [List.getD_eq_getElem?_getD, hx]
      have HGD := Lib.hid hgD
      have HX := Lib.hid hx
      clear hx hgD
      obtain ⟨⟨A3, m3, c3⟩, hh3⟩ : ∃ h, hs5[k]? = some h := ⟨_, List.getElem?_eq_getElem (by have := HC.out.len; have := (List.getElem?_eq_some_iff.1 HX.out).1; omega)⟩
      have hrw3 := HC.out.row k _ _ hh3 HX.out
      simp only at hrw3
      have hml3 : m3 = 16 := hrw3.len.symm.trans hxl
      rw [hml3] at hh3 hrw3
      have HE3 := Lib.hid hh3
      have HR3 := Lib.hid hrw3
      have hcp3 := hrw3.cap
      have htp3 := hrw3.top
      clear hh3 hrw3 hml3
      have hwk : widN k ≤ 8 := by unfold widN; split <;> omega
      have hfr := frN_le k hk4
      have O8 := B0.out
      go_wp2_with fail
      go_loopw [11] (fun p wr => ∃ i : Nat, i ≤ 16 ∧ p = .int .i64 i ∧ Below VB4.heap.size VB4 wr) (fun p _ => 16 - (intOf p).toNat)
      case atStart => exact ⟨0, Nat.zero_le _, rfl, O8⟩
      case round =>
        clear O8
        obtain ⟨wi, rfl⟩ : ∃ wi : World, wi = wr := ⟨_, rfl⟩
        obtain ⟨i, hi, rfl, hb0⟩ := hrel
        have hbr := hb0
        clear B0
        have B0 := Lib.hid hbr
        clear hbr
        clear hb0 
        by_cases hi16 : i < 16
        · have hci10 : ((i : Int) < 16) := by omega
          obtain ⟨x, hxx⟩ : ∃ x, xs[i]? = some x := ⟨_, List.getElem?_eq_getElem (by omega)⟩
          have hxb := HXB.out x (List.mem_of_getElem? hxx)
          have HXX := Lib.hid hxx
          have HXL := Lib.hid hxb
          have hx256 : x < 256 := Nat.lt_of_lt_of_le hxb (widN_le k)
          clear hxx hxb
          go_upto_region 12 with fail
          refine wp_region_lit ?_
          refine wpList_run (by kernel_rfl) (.int .i64 (i : Int)) wi rfl ?_
          simp only [Act.put, List.setIfInBounds_toArray, List.set_cons_zero, List.set_cons_succ]
          refine wpList_run (by kernel_rfl) (.bool true) wi (xo_lssT .i64 (i : Int) 16 (by omega) rfl rfl rfl) ?_
          simp only [Act.put, List.setIfInBounds_toArray, List.set_cons_zero, List.set_cons_succ]
          refine wpList_nil ?_
          go_upto_region 14 with fail
          refine wp_region_lit ?_
          refine wpList_run (by kernel_rfl) (.int .u64 0) wi rfl ?_
          simp only [Act.put, List.setIfInBounds_toArray, List.set_cons_zero, List.set_cons_succ]
          refine wpList_nil ?_
          go_upto_region 15 with fail
          refine wp_region_lit ?_
          refine wpList_run (by kernel_rfl) (.int .i64 0) wi rfl ?_
          simp only [Act.put, List.setIfInBounds_toArray, List.set_cons_zero, List.set_cons_succ]
          refine wpList_nil ?_
          have O11 := B0.out
          go_wp2_with fail
          go_loopw [12, 13] (fun sv p wr => ∃ q : Nat, ∃ s0 : Nat, q ≤ (widN k) ∧ p = .int .i64 q ∧ (x % 2 ^ q = s0) ∧ sv = .int .u64 (s0 : Int) ∧ Below VB4.heap.size VB4 wr) (fun _ p _ => (widN k) - (intOf p).toNat)
          case atStart => exact ⟨0, 0, Nat.zero_le _, rfl, (by rw [Nat.pow_zero, Nat.mod_one]), rfl, O11⟩
          case round =>
            clear O11
            obtain ⟨wq, rfl⟩ : ∃ wq : World, wq = wr := ⟨_, rfl⟩
            obtain ⟨q, s0, hi, rfl, hhs0, hhsv, hb0⟩ := hrel
            have hbr := hb0
            clear B0
            have B0 := Lib.hid hbr
            clear hbr
            have hs0 := Lib.hid hhs0
            have hsv := Lib.hid hhsv
            clear hb0 hhs0 hhsv
            have hse := hsv.out
            subst hse
            have hs0x : s0 ≤ x := by rw [← hs0.out]; exact Nat.mod_le _ _
            by_cases hqw : q < widN k
            · have hci13 : ((q : Int) < ((widN k : Nat) : Int)) := by omega
              obtain ⟨J, hJ⟩ : ∃ J, frN k + q = J := ⟨_, rfl⟩
              have hbg : (bitsN cols 4)[J]? = some (bitN xs q) := by rw [← hJ, ← HGD.out]; exact bitsN_get hk4 hqw
              have HBG := Lib.hid hbg
              clear hbg
              obtain ⟨bt, hbt⟩ : ∃ bt, x / 2 ^ q % 2 = bt := ⟨_, rfl⟩
              have hbt1 : bt ≤ 1 := by rw [← hbt]; exact Nat.le_of_lt_succ (Nat.mod_lt _ (by decide))
              obtain ⟨sh, hsh⟩ : ∃ sh, bt * 2 ^ q = sh := ⟨_, rfl⟩
              have hshx : s0 + sh = x % 2 ^ (q + 1) := by rw [← hs0.out, ← hsh, ← hbt, Nat.mod_pow_succ, Nat.mul_comm]
              have hshl : s0 + sh ≤ x := by rw [hshx]; exact Nat.mod_le _ _
              have hbi : (bitN xs q)[i]? = some bt := by rw [← hbt]; simp only [bitN, List.getElem?_map, HXX.out, Option.map_some]
              have HBI := Lib.hid hbi
              have HSHX := Lib.hid hshx
              have HSH := Lib.hid hsh
              clear hbi hshx hsh hbt
              obtain ⟨⟨A4, m4, c4⟩, hh4⟩ : ∃ h, hsb[J]? = some h := ⟨_, List.getElem?_eq_getElem (by have := HBt.out.len; have := (List.getElem?_eq_some_iff.1 HBG.out).1; omega)⟩
              have hrw4 := HBt.out.row J _ _ hh4 HBG.out
              simp only at hrw4
              have hml4 : m4 = 16 := hrw4.len.symm.trans (by unfold bitN; rw [List.length_map, hxl])
              rw [hml4] at hh4 hrw4
              have HE4 := Lib.hid hh4
              have HR4 := Lib.hid hrw4
              have hcp4 := hrw4.cap
              have htp4 := hrw4.top
              clear hh4 hrw4 hml4
              have hci14 : ¬ ((bt : Int) > 1) := by omega
              go_upto_region 16 with fail
              refine wp_region_lit ?_
              refine wpList_run (by kernel_rfl) (.int .i64 (q : Int)) wq rfl ?_
              simp only [Act.put, List.setIfInBounds_toArray, List.set_cons_zero, List.set_cons_succ]
              refine wpList_run (by kernel_rfl) (.int .i64 (k : Int)) wq rfl ?_
              simp only [Act.put, List.setIfInBounds_toArray, List.set_cons_zero, List.set_cons_succ]
              refine wpList_call (by kernel_rfl) 34 Tryd.func34 (by kernel_rfl) (by kernel_rfl) _ _ #[.int .i64 (k : Int)] rfl (by kernel_rfl) ?_
              refine (width_any k hk4 wq).mono ?_
              rintro e V2 ⟨rfl, hb⟩
              have B1 := Lib.hid hb
              clear hb 
              refine ⟨_, rfl, ?_⟩
              simp only [Act.put, List.setIfInBounds_toArray, List.set_cons_zero, List.set_cons_succ]
              refine wpList_run (by kernel_rfl) (.bool true) V2 (xo_lssT .i64 (q : Int) ((widN k : Nat) : Int) (by omega) rfl rfl rfl) ?_
              simp only [Act.put, List.setIfInBounds_toArray, List.set_cons_zero, List.set_cons_succ]
              refine wpList_nil ?_
              go_upto_region 18 with fail
              refine wp_region_lit ?_
              refine wpList_run (by kernel_rfl) (.slice Ab 24 cb) V2 rfl ?_
              simp only [Act.put, List.setIfInBounds_toArray, List.set_cons_zero, List.set_cons_succ]
              refine wpList_run (by kernel_rfl) (.int .i64 ((frN k : Nat) : Int)) V2 rfl ?_
              simp only [Act.put, List.setIfInBounds_toArray, List.set_cons_zero, List.set_cons_succ]
              refine wpList_run (by kernel_rfl) (.int .i64 (q : Int)) V2 rfl ?_
              simp only [Act.put, List.setIfInBounds_toArray, List.set_cons_zero, List.set_cons_succ]
              refine wpList_run (by kernel_rfl) (.int .i64 (J : Int)) V2 (xo_addI ((frN k : Nat) : Int) (q : Int) (J : Int) (by omega) (by omega) (by omega) rfl rfl rfl) ?_
              simp only [Act.put, List.setIfInBounds_toArray, List.set_cons_zero, List.set_cons_succ]
              have C0_2 := Lib.hid (bel_step B0.out B1.out)
              refine wpList_run (by kernel_rfl) (.pointer (some (gad Ab (J * 1)))) V2 (xg_idx .i64 (Cols.head (HBt.out.keep C0_2.out)) HE4.out Tryd.underlying38 (by kernel_rfl) rfl rfl rfl) ?_
              simp only [Act.put, List.setIfInBounds_toArray, List.set_cons_zero, List.set_cons_succ]
              refine wpList_run (by kernel_rfl) (.slice A4 16 c4) V2 (xg_load1 (E := hdC) (i := J) (j := 0) (Cols.head (HBt.out.keep C0_2.out)) HE4.out rfl rfl Tryd.underlying48 rfl rfl rfl) ?_
              simp only [Act.put, List.setIfInBounds_toArray, List.set_cons_zero, List.set_cons_succ]
              refine wpList_run (by kernel_rfl) (.int .i64 16) V2 (xo_len A4 16 c4 Tryd.underlying48 rfl rfl) ?_
              simp only [Act.put, List.setIfInBounds_toArray, List.set_cons_zero, List.set_cons_succ]
              refine wpList_run (by kernel_rfl) (.bool false) V2 (xo_neqF .i64 16 16 (by omega) rfl rfl rfl) ?_
              simp only [Act.put, List.setIfInBounds_toArray, List.set_cons_zero, List.set_cons_succ]
              refine wpList_run (by kernel_rfl) (.bool false) V2 rfl ?_
              simp only [Act.put, List.setIfInBounds_toArray, List.set_cons_zero, List.set_cons_succ]
              refine wpList_run (by kernel_rfl) (.slice Ab 24 cb) V2 rfl ?_
              simp only [Act.put, List.setIfInBounds_toArray, List.set_cons_zero, List.set_cons_succ]
              refine wpList_run (by kernel_rfl) (.int .i64 ((frN k : Nat) : Int)) V2 rfl ?_
              simp only [Act.put, List.setIfInBounds_toArray, List.set_cons_zero, List.set_cons_succ]
              refine wpList_run (by kernel_rfl) (.int .i64 (q : Int)) V2 rfl ?_
              simp only [Act.put, List.setIfInBounds_toArray, List.set_cons_zero, List.set_cons_succ]
              refine wpList_run (by kernel_rfl) (.int .i64 (J : Int)) V2 (xo_addI ((frN k : Nat) : Int) (q : Int) (J : Int) (by omega) (by omega) (by omega) rfl rfl rfl) ?_
              simp only [Act.put, List.setIfInBounds_toArray, List.set_cons_zero, List.set_cons_succ]
              refine wpList_run (by kernel_rfl) (.pointer (some (gad Ab (J * 1)))) V2 (xg_idx .i64 (Cols.head (HBt.out.keep C0_2.out)) HE4.out Tryd.underlying38 (by kernel_rfl) rfl rfl rfl) ?_
              simp only [Act.put, List.setIfInBounds_toArray, List.set_cons_zero, List.set_cons_succ]
              refine wpList_run (by kernel_rfl) (.slice A4 16 c4) V2 (xg_load1 (E := hdC) (i := J) (j := 0) (Cols.head (HBt.out.keep C0_2.out)) HE4.out rfl rfl Tryd.underlying48 rfl rfl rfl) ?_
              simp only [Act.put, List.setIfInBounds_toArray, List.set_cons_zero, List.set_cons_succ]
              refine wpList_run (by kernel_rfl) (.int .i64 (i : Int)) V2 rfl ?_
              simp only [Act.put, List.setIfInBounds_toArray, List.set_cons_zero, List.set_cons_succ]
              refine wpList_run (by kernel_rfl) (.pointer (some (gad A4 (i * 1)))) V2 (xg_idx .i64 (HR4.out.keep C0_2.out) HBI.out Tryd.underlying48 (by kernel_rfl) rfl rfl rfl) ?_
              simp only [Act.put, List.setIfInBounds_toArray, List.set_cons_zero, List.set_cons_succ]
              refine wpList_run (by kernel_rfl) (.int .u64 (bt : Int)) V2 (xg_load1 (E := wdC) (i := i) (j := 0) (HR4.out.keep C0_2.out) HBI.out rfl rfl Tryd.underlying50 rfl rfl rfl) ?_
              simp only [Act.put, List.setIfInBounds_toArray, List.set_cons_zero, List.set_cons_succ]
              refine wpList_run (by kernel_rfl) (.bool false) V2 (xo_gtrF .u64 (bt : Int) 1 (by omega) rfl rfl rfl) ?_
              simp only [Act.put, List.setIfInBounds_toArray, List.set_cons_zero, List.set_cons_succ]
              refine wpList_run (by kernel_rfl) (.bool false) V2 rfl ?_
              simp only [Act.put, List.setIfInBounds_toArray, List.set_cons_zero, List.set_cons_succ]
              refine wpList_nil ?_
              go_upto_region 20 with fail
              refine wp_region_lit ?_
              refine wpList_run (by kernel_rfl) (.int .u64 (s0 : Int)) V2 rfl ?_
              simp only [Act.put, List.setIfInBounds_toArray, List.set_cons_zero, List.set_cons_succ]
              refine wpList_run (by kernel_rfl) (.slice Ab 24 cb) V2 rfl ?_
              simp only [Act.put, List.setIfInBounds_toArray, List.set_cons_zero, List.set_cons_succ]
              refine wpList_run (by kernel_rfl) (.int .i64 ((frN k : Nat) : Int)) V2 rfl ?_
              simp only [Act.put, List.setIfInBounds_toArray, List.set_cons_zero, List.set_cons_succ]
              refine wpList_run (by kernel_rfl) (.int .i64 (q : Int)) V2 rfl ?_
              simp only [Act.put, List.setIfInBounds_toArray, List.set_cons_zero, List.set_cons_succ]
              refine wpList_run (by kernel_rfl) (.int .i64 (J : Int)) V2 (xo_addI ((frN k : Nat) : Int) (q : Int) (J : Int) (by omega) (by omega) (by omega) rfl rfl rfl) ?_
              simp only [Act.put, List.setIfInBounds_toArray, List.set_cons_zero, List.set_cons_succ]
              refine wpList_run (by kernel_rfl) (.pointer (some (gad Ab (J * 1)))) V2 (xg_idx .i64 (Cols.head (HBt.out.keep C0_2.out)) HE4.out Tryd.underlying38 (by kernel_rfl) rfl rfl rfl) ?_
              simp only [Act.put, List.setIfInBounds_toArray, List.set_cons_zero, List.set_cons_succ]
              refine wpList_run (by kernel_rfl) (.slice A4 16 c4) V2 (xg_load1 (E := hdC) (i := J) (j := 0) (Cols.head (HBt.out.keep C0_2.out)) HE4.out rfl rfl Tryd.underlying48 rfl rfl rfl) ?_
              simp only [Act.put, List.setIfInBounds_toArray, List.set_cons_zero, List.set_cons_succ]
              refine wpList_run (by kernel_rfl) (.int .i64 (i : Int)) V2 rfl ?_
              simp only [Act.put, List.setIfInBounds_toArray, List.set_cons_zero, List.set_cons_succ]
              refine wpList_run (by kernel_rfl) (.pointer (some (gad A4 (i * 1)))) V2 (xg_idx .i64 (HR4.out.keep C0_2.out) HBI.out Tryd.underlying48 (by kernel_rfl) rfl rfl rfl) ?_
              simp only [Act.put, List.setIfInBounds_toArray, List.set_cons_zero, List.set_cons_succ]
              refine wpList_run (by kernel_rfl) (.int .u64 (bt : Int)) V2 (xg_load1 (E := wdC) (i := i) (j := 0) (HR4.out.keep C0_2.out) HBI.out rfl rfl Tryd.underlying50 rfl rfl rfl) ?_
              simp only [Act.put, List.setIfInBounds_toArray, List.set_cons_zero, List.set_cons_succ]
              refine wpList_run (by kernel_rfl) (.int .i64 (q : Int)) V2 rfl ?_
              simp only [Act.put, List.setIfInBounds_toArray, List.set_cons_zero, List.set_cons_succ]
              refine wpList_run (by kernel_rfl) (.int .u64 (sh : Int)) V2 (xo_shlU .i64 bt q sh HSH.out (by omega) rfl rfl rfl) ?_
              simp only [Act.put, List.setIfInBounds_toArray, List.set_cons_zero, List.set_cons_succ]
              refine wpList_run (by kernel_rfl) (.int .u64 ((s0 + sh : Nat) : Int)) V2 (xo_addU s0 sh (s0 + sh) (by omega) rfl rfl rfl) ?_
              simp only [Act.put, List.setIfInBounds_toArray, List.set_cons_zero, List.set_cons_succ]
              refine wpList_run (by kernel_rfl) (.int .u64 ((s0 + sh : Nat) : Int)) V2 rfl ?_
              simp only [Act.put, List.setIfInBounds_toArray, List.set_cons_zero, List.set_cons_succ]
              refine wpList_nil ?_
              go_upto_region 17 with fail
              refine wp_region_lit ?_
              refine wpList_run (by kernel_rfl) (.int .i64 (q : Int)) V2 rfl ?_
              simp only [Act.put, List.setIfInBounds_toArray, List.set_cons_zero, List.set_cons_succ]
              refine wpList_run (by kernel_rfl) (.int .i64 ((q + 1 : Nat) : Int)) V2 (xo_addI (q : Int) 1 ((q + 1 : Nat) : Int) (by omega) (by omega) (by omega) rfl rfl rfl) ?_
              simp only [Act.put, List.setIfInBounds_toArray, List.set_cons_zero, List.set_cons_succ]
              refine wpList_run (by kernel_rfl) (.int .i64 ((q + 1 : Nat) : Int)) V2 rfl ?_
              simp only [Act.put, List.setIfInBounds_toArray, List.set_cons_zero, List.set_cons_succ]
              refine wpList_nil ?_
              have hq15 := C0_2.out
              go_wp2_with fail
              go_roundw
              case rel => exact ⟨q + 1, s0 + sh, by omega, by go_num, HSHX.out.symm, rfl, hq15⟩
              case measure => simp [intOf]; omega
            · have hci13 : ¬ ((q : Int) < ((widN k : Nat) : Int)) := by omega
              have hqe : q = widN k := by omega
              have hxs : x = s0 := by rw [← hs0.out, hqe]; exact (Nat.mod_eq_of_lt HXL.out).symm
              have hci14 : ¬ ((x : Int) ≠ (s0 : Int)) := by omega
              go_upto_region 16 with fail
              refine wp_region_lit ?_
              refine wpList_run (by kernel_rfl) (.int .i64 (q : Int)) wq rfl ?_
              simp only [Act.put, List.setIfInBounds_toArray, List.set_cons_zero, List.set_cons_succ]
              refine wpList_run (by kernel_rfl) (.int .i64 (k : Int)) wq rfl ?_
              simp only [Act.put, List.setIfInBounds_toArray, List.set_cons_zero, List.set_cons_succ]
              refine wpList_call (by kernel_rfl) 34 Tryd.func34 (by kernel_rfl) (by kernel_rfl) _ _ #[.int .i64 (k : Int)] rfl (by kernel_rfl) ?_
              refine (width_any k hk4 wq).mono ?_
              rintro e V2 ⟨rfl, hb⟩
              have B1 := Lib.hid hb
              clear hb 
              refine ⟨_, rfl, ?_⟩
              simp only [Act.put, List.setIfInBounds_toArray, List.set_cons_zero, List.set_cons_succ]
              refine wpList_run (by kernel_rfl) (.bool false) V2 (xo_lssF .i64 (q : Int) ((widN k : Nat) : Int) (by omega) rfl rfl rfl) ?_
              simp only [Act.put, List.setIfInBounds_toArray, List.set_cons_zero, List.set_cons_succ]
              refine wpList_nil ?_
              go_upto_region 21 with fail
              refine wp_region_lit ?_
              refine wpList_run (by kernel_rfl) (.slice A5 5 c5) V2 rfl ?_
              simp only [Act.put, List.setIfInBounds_toArray, List.set_cons_zero, List.set_cons_succ]
              refine wpList_run (by kernel_rfl) (.int .i64 (k : Int)) V2 rfl ?_
              simp only [Act.put, List.setIfInBounds_toArray, List.set_cons_zero, List.set_cons_succ]
              have C0_2 := Lib.hid (bel_step B0.out B1.out)
              refine wpList_run (by kernel_rfl) (.pointer (some (gad A5 (k * 1)))) V2 (xg_idx .i64 (Cols.head (HC.out.keep C0_2.out)) HE3.out Tryd.underlying38 (by kernel_rfl) rfl rfl rfl) ?_
              simp only [Act.put, List.setIfInBounds_toArray, List.set_cons_zero, List.set_cons_succ]
              refine wpList_run (by kernel_rfl) (.slice A3 16 c3) V2 (xg_load1 (E := hdC) (i := k) (j := 0) (Cols.head (HC.out.keep C0_2.out)) HE3.out rfl rfl Tryd.underlying48 rfl rfl rfl) ?_
              simp only [Act.put, List.setIfInBounds_toArray, List.set_cons_zero, List.set_cons_succ]
              refine wpList_run (by kernel_rfl) (.int .i64 16) V2 (xo_len A3 16 c3 Tryd.underlying48 rfl rfl) ?_
              simp only [Act.put, List.setIfInBounds_toArray, List.set_cons_zero, List.set_cons_succ]
              refine wpList_run (by kernel_rfl) (.bool false) V2 (xo_neqF .i64 16 16 (by omega) rfl rfl rfl) ?_
              simp only [Act.put, List.setIfInBounds_toArray, List.set_cons_zero, List.set_cons_succ]
              refine wpList_run (by kernel_rfl) (.bool false) V2 rfl ?_
              simp only [Act.put, List.setIfInBounds_toArray, List.set_cons_zero, List.set_cons_succ]
              refine wpList_run (by kernel_rfl) (.slice A5 5 c5) V2 rfl ?_
              simp only [Act.put, List.setIfInBounds_toArray, List.set_cons_zero, List.set_cons_succ]
              refine wpList_run (by kernel_rfl) (.int .i64 (k : Int)) V2 rfl ?_
              simp only [Act.put, List.setIfInBounds_toArray, List.set_cons_zero, List.set_cons_succ]
              refine wpList_run (by kernel_rfl) (.pointer (some (gad A5 (k * 1)))) V2 (xg_idx .i64 (Cols.head (HC.out.keep C0_2.out)) HE3.out Tryd.underlying38 (by kernel_rfl) rfl rfl rfl) ?_
              simp only [Act.put, List.setIfInBounds_toArray, List.set_cons_zero, List.set_cons_succ]
              refine wpList_run (by kernel_rfl) (.slice A3 16 c3) V2 (xg_load1 (E := hdC) (i := k) (j := 0) (Cols.head (HC.out.keep C0_2.out)) HE3.out rfl rfl Tryd.underlying48 rfl rfl rfl) ?_
              simp only [Act.put, List.setIfInBounds_toArray, List.set_cons_zero, List.set_cons_succ]
              refine wpList_run (by kernel_rfl) (.int .i64 (i : Int)) V2 rfl ?_
              simp only [Act.put, List.setIfInBounds_toArray, List.set_cons_zero, List.set_cons_succ]
              refine wpList_run (by kernel_rfl) (.pointer (some (gad A3 (i * 1)))) V2 (xg_idx .i64 (HR3.out.keep C0_2.out) HXX.out Tryd.underlying48 (by kernel_rfl) rfl rfl rfl) ?_
              simp only [Act.put, List.setIfInBounds_toArray, List.set_cons_zero, List.set_cons_succ]
              refine wpList_run (by kernel_rfl) (.int .u64 (x : Int)) V2 (xg_load1 (E := wdC) (i := i) (j := 0) (HR3.out.keep C0_2.out) HXX.out rfl rfl Tryd.underlying50 rfl rfl rfl) ?_
              simp only [Act.put, List.setIfInBounds_toArray, List.set_cons_zero, List.set_cons_succ]
              refine wpList_run (by kernel_rfl) (.int .u64 (s0 : Int)) V2 rfl ?_
              simp only [Act.put, List.setIfInBounds_toArray, List.set_cons_zero, List.set_cons_succ]
              refine wpList_run (by kernel_rfl) (.bool false) V2 (xo_neqF .u64 (x : Int) (s0 : Int) (by omega) rfl rfl rfl) ?_
              simp only [Act.put, List.setIfInBounds_toArray, List.set_cons_zero, List.set_cons_succ]
              refine wpList_run (by kernel_rfl) (.bool false) V2 rfl ?_
              simp only [Act.put, List.setIfInBounds_toArray, List.set_cons_zero, List.set_cons_succ]
              refine wpList_nil ?_
              go_upto_region 13 with fail
              refine wp_region_lit ?_
              refine wpList_run (by kernel_rfl) (.int .i64 (i : Int)) V2 rfl ?_
              simp only [Act.put, List.setIfInBounds_toArray, List.set_cons_zero, List.set_cons_succ]
              refine wpList_run (by kernel_rfl) (.int .i64 ((i + 1 : Nat) : Int)) V2 (xo_addI (i : Int) 1 ((i + 1 : Nat) : Int) (by omega) (by omega) (by omega) rfl rfl rfl) ?_
              simp only [Act.put, List.setIfInBounds_toArray, List.set_cons_zero, List.set_cons_succ]
              refine wpList_run (by kernel_rfl) (.int .i64 ((i + 1 : Nat) : Int)) V2 rfl ?_
              simp only [Act.put, List.setIfInBounds_toArray, List.set_cons_zero, List.set_cons_succ]
              refine wpList_nil ?_
              have hq15 := C0_2.out
              go_wp2_with fail
              go_roundw
              case rel => exact ⟨i + 1, by omega, by go_num, hq15⟩
              case measure => simp [intOf]; omega
        · have hci10 : ¬ ((i : Int) < 16) := by omega
          go_upto_region 12 with fail
          refine wp_region_lit ?_
          refine wpList_run (by kernel_rfl) (.int .i64 (i : Int)) wi rfl ?_
          simp only [Act.put, List.setIfInBounds_toArray, List.set_cons_zero, List.set_cons_succ]
          refine wpList_run (by kernel_rfl) (.bool false) wi (xo_lssF .i64 (i : Int) 16 (by omega) rfl rfl rfl) ?_
          simp only [Act.put, List.setIfInBounds_toArray, List.set_cons_zero, List.set_cons_succ]
          refine wpList_nil ?_
          go_upto_region 23 with fail
          refine wp_region_lit ?_
          refine wpList_run (by kernel_rfl) (.int .i64 ((frN k : Nat) : Int)) wi rfl ?_
          simp only [Act.put, List.setIfInBounds_toArray, List.set_cons_zero, List.set_cons_succ]
          refine wpList_run (by kernel_rfl) (.int .i64 (k : Int)) wi rfl ?_
          simp only [Act.put, List.setIfInBounds_toArray, List.set_cons_zero, List.set_cons_succ]
          refine wpList_call (by kernel_rfl) 34 Tryd.func34 (by kernel_rfl) (by kernel_rfl) _ _ #[.int .i64 (k : Int)] rfl (by kernel_rfl) ?_
          refine (width_any k hk4 wi).mono ?_
          rintro e V2 ⟨rfl, hb⟩
          have B1 := Lib.hid hb
          clear hb 
          refine ⟨_, rfl, ?_⟩
          simp only [Act.put, List.setIfInBounds_toArray, List.set_cons_zero, List.set_cons_succ]
          refine wpList_run (by kernel_rfl) (.int .i64 ((frN k + widN k : Nat) : Int)) V2 (xo_addI ((frN k : Nat) : Int) ((widN k : Nat) : Int) ((frN k + widN k : Nat) : Int) (by omega) (by omega) (by omega) rfl rfl rfl) ?_
          simp only [Act.put, List.setIfInBounds_toArray, List.set_cons_zero, List.set_cons_succ]
          refine wpList_run (by kernel_rfl) (.int .i64 ((frN k + widN k : Nat) : Int)) V2 rfl ?_
          simp only [Act.put, List.setIfInBounds_toArray, List.set_cons_zero, List.set_cons_succ]
          refine wpList_nil ?_
          go_upto_region 10 with fail
          refine wp_region_lit ?_
          refine wpList_run (by kernel_rfl) (.int .i64 (k : Int)) V2 rfl ?_
          simp only [Act.put, List.setIfInBounds_toArray, List.set_cons_zero, List.set_cons_succ]
          refine wpList_run (by kernel_rfl) (.int .i64 ((k + 1 : Nat) : Int)) V2 (xo_addI (k : Int) 1 ((k + 1 : Nat) : Int) (by omega) (by omega) (by omega) rfl rfl rfl) ?_
          simp only [Act.put, List.setIfInBounds_toArray, List.set_cons_zero, List.set_cons_succ]
          refine wpList_run (by kernel_rfl) (.int .i64 ((k + 1 : Nat) : Int)) V2 rfl ?_
          simp only [Act.put, List.setIfInBounds_toArray, List.set_cons_zero, List.set_cons_succ]
          refine wpList_nil ?_
          have C0_2 := Lib.hid (bel_step B0.out B1.out)
          have hq11 := C0_2.out
          go_wp2_with fail
          go_roundw
          case rel => exact ⟨k + 1, by omega, by go_num, rfl, hq11⟩
          case measure => simp [intOf]; omega
    · have hci7 : ¬ ((k : Int) < 4) := by omega
      go_upto_region 9 with fail
      refine wp_region_lit ?_
      refine wpList_run (by kernel_rfl) (.int .i64 (k : Int)) wo rfl ?_
      simp only [Act.put, List.setIfInBounds_toArray, List.set_cons_zero, List.set_cons_succ]
      refine wpList_run (by kernel_rfl) (.bool false) wo (xo_lssF .i64 (k : Int) 4 (by omega) rfl rfl rfl) ?_
      simp only [Act.put, List.setIfInBounds_toArray, List.set_cons_zero, List.set_cons_succ]
      refine wpList_nil ?_
      go_upto_region 24 with fail
      refine wp_region_lit ?_
      refine wpList_run (by kernel_rfl) (.bool true) wo rfl ?_
      simp only [Act.put, List.setIfInBounds_toArray, List.set_cons_zero, List.set_cons_succ]
      refine wpList_run (by kernel_rfl) (.bool true) wo rfl ?_
      simp only [Act.put, List.setIfInBounds_toArray, List.set_cons_zero, List.set_cons_succ]
      refine wpList_nil ?_
      go_wp2_with fail
      go_ret
      exact ⟨rfl, HBV4.out.trans (B0.out.mono HBV4.out.size)⟩
end Go.Proofs.YtopicjdmajlndaaDoor
