/- Several texts in one: Mng, Mnh, Seq, Mni, Mnj. -/
import Derived.Test.YtgkojdbepgonkaaDoorH19
import Derived.Test.YtgkojdbepgonkaaDoorH15
import Derived.Test.YtgkojdbepgonkaaDoorH17
/- The reference's Bag. -/
namespace Go.Proofs.YtgkojdbepgonkaaDoor
set_option maxRecDepth 8000
set_option linter.unusedVariables false
set_option linter.unusedSimpArgs false
open Go.RowKit
attribute [local simp] z32_ne z32_run
attribute [-simp] Tryd.zeroValue34 Tryd.isAgg34 Tryd.sizeOf34
set_option maxHeartbeats 4000000 in
theorem rbag_any (A : Option Addr) (n c : Nat) (Ds : List (List Nat)) (w : World) (h : Db w A n c Ds) (hn : n ≤ 100000) (R : List Nat) (hR : bagN Ds = R) :
    Calls Tryd.prog 66 #[.slice A n c] w fun e w' => e = .returned (.agg (celB R).toArray) ∧ Below w.heap.size w w' := by
  obtain ⟨hr32, _⟩ := bagN_size Ds h.dig
  rw [hR] at hr32
  have hlen := h.len
  have hcap := h.cap
  have htop := h.top
  have HD := Lib.hid h
  have HR := Lib.hid hR
  have HLN := Lib.hid hlen
  have HDw := Lib.hid h
  clear h hR hlen
  go_enter Tryd.func66, Tryd.ntmps66
  go_upto_region 1 with fail
  refine wp_named1 (fun w1 hb1 g0 hlt1 => ?_)
  have H0 : Hid (RowB w1 34 w.heap.size (List.replicate 32 0)) := Lib.hid g0
  have HB1 := Lib.hid hb1
  have HD1 := Lib.hid (HD.out.keep hb1)
  clear g0 hb1 HD
  by_cases hn0 : n = 0
  · subst hn0
    obtain rfl : Ds = [] := List.length_eq_zero_iff.1 HLN.out.symm
    obtain rfl : List.replicate 32 0 = R := HR.out
    go_upto_region 2 with fail
    refine wp_region_lit ?_
    refine wpList_val rfl _ w1 (exec_buildZ w1 rfl) ?_
    simp only [Act.put, List.setIfInBounds_toArray, List.set_cons_zero, List.set_cons_succ]
    refine wpList_skip0 rfl _ (exec_storeD List.length_replicate List.length_replicate H0.out rfl rfl rfl) ?_
    refine wpList_nil ?_
    simp only [Act.put]
    go_wp2_with fail
    refine bodyPost_ret (v := .agg (celB (List.replicate 32 0)).toArray) ?_ rfl ⟨rfl, bel_setRow HB1.out (Nat.le_refl _) _⟩
    exact results_cell_row rfl _ _ w.heap.size 34 _ (0, 0) _ rfl (H0.out.row (List.replicate 32 0)) Tryd.underlying34 rfl (dig_size List.length_replicate)
  · have hni : ¬ ((n : Int) = 0) := by omega
    obtain ⟨g, o, rfl⟩ := HD1.out.some_ (by omega)
    have hw : IntKind.i64.wrap ((n : Int) - 1) = ((n - 1 : Nat) : Int) := by rw [IntKind.wrap_i64]; omega
    have hlt : n - 1 < Ds.length := by have := HLN.out; omega
    obtain ⟨d, hd⟩ : ∃ d, Ds[n - 1]? = some d := ⟨_, List.getElem?_eq_getElem hlt⟩
    obtain ⟨hd32, hdb⟩ := HD1.out.dig d (List.mem_of_getElem? hd)
    obtain ⟨g', o', e, hr⟩ := HD1.out.cells _ _ hd
    injection e with e
    injection e with e1 e2
    subst e1 e2
    have hdr : Ds.drop (n - 1) = [d] := by
      rw [List.drop_eq_getElem_cons hlt, List.drop_of_length_le (by have := HLN.out; omega)]
      rw [List.getElem?_eq_getElem hlt] at hd
      injection hd with hd
      rw [hd]
    have HRG := Lib.hid hr
    clear hr hd
    go_upto_region 3 with fail
    refine wp_region_lit ?_
    refine wpList_val rfl (.slice (some ⟨g, o, none⟩) n c) w1 rfl ?_
    simp only [Act.put, List.setIfInBounds_toArray, List.set_cons_zero, List.set_cons_succ]
    refine wpList_val rfl (.slice (some ⟨g, o, none⟩) n c) w1 rfl ?_
    simp only [Act.put, List.setIfInBounds_toArray, List.set_cons_zero, List.set_cons_succ]
    refine wpList_val rfl (.int .i64 (n : Int)) w1 (by first | rfl | (unfold execOp; go_simp)) ?_
    simp only [Act.put, List.setIfInBounds_toArray, List.set_cons_zero, List.set_cons_succ]
    refine wpList_val rfl (.int .i64 ((n - 1 : Nat) : Int)) w1 (by first | rfl | (unfold execOp; go_simp; rw [hw]) | (unfold execOp; go_simp)) ?_
    simp only [Act.put, List.setIfInBounds_toArray, List.set_cons_zero, List.set_cons_succ]
    refine wpList_val rfl (.pointer (some ⟨g, o + 32 * (n - 1), none⟩)) w1 (exec_idxM w1 g o n c (n - 1) (by omega) rfl rfl rfl) ?_
    simp only [Act.put, List.setIfInBounds_toArray, List.set_cons_zero, List.set_cons_succ]
    refine wpList_val rfl (.agg (celB d).toArray) w1 (exec_loadM g (o + 32 * (n - 1)) hd32 HRG.out rfl rfl) ?_
    simp only [Act.put, List.setIfInBounds_toArray, List.set_cons_zero, List.set_cons_succ]
    refine wpList_val rfl (ptr w1.heap.size) (w1.alloc (.cells z32 34)) (run_allocD _ _ w1 rfl) ?_
    simp only [Act.put, List.setIfInBounds_toArray, List.set_cons_zero, List.set_cons_succ]
    have H1 : Hid (RowB (w1.alloc (.cells z32 34)) 34 w1.heap.size (List.replicate 32 0)) := Lib.hid (heap_new w1 _)
    have hb2 : Below w1.heap.size w1 (w1.alloc (.cells z32 34)) := (Below.refl _ _).alloc (Nat.le_refl _) _
    refine wpList_skip0 rfl _ (exec_storeD hd32 List.length_replicate H1.out rfl rfl rfl) ?_
    refine wpList_nil ?_
    simp only [Act.put, ptr]
    have HB3 := Lib.hid (bel_setRow hb2 (Nat.le_refl _) (celB d).toArray)
    have H13 := Lib.hid (H1.out.row d)
    clear H1 hb2
    obtain ⟨w3, hw3⟩ : ∃ w3, (w1.alloc (.cells z32 34)).setRow w1.heap.size (celB d).toArray = w3 := ⟨_, rfl⟩
    rw [hw3] at HB3 H13 ⊢
    clear hw3
    have H03 := Lib.hid (H0.out.keep HB3.out)
    have HD3 := Lib.hid (HD1.out.keep HB3.out)
    have HBw3 := Lib.hid (bel_step HB1.out HB3.out)
    obtain ⟨bd, hbd⟩ : ∃ bd, w1.heap.size = bd := ⟨_, rfl⟩
    rw [hbd] at H13 hlt1 ⊢
    clear H0 HD1 HB1 HB3 HRG hbd
    have HI : Hid (RowB w3 34 bd (bagN (Ds.drop (n - 1)))) := Lib.hid (by rw [hdr]; exact H13.out)
    clear H13 hdr
    have hcast : IntKind.i64.wrap ((n : Int) - 2) = ((n - 1 : Nat) : Int) - 1 := by rw [IntKind.wrap_i64]; omega
    go_wp2_with fail
    clear hcast hw
    go_loopw [4] (fun s wr => ∃ p : Nat, p ≤ n - 1 ∧ s = .int .i64 ((p : Int) - 1) ∧ Below w.heap.size w wr ∧ RowB wr 34 w.heap.size (List.replicate 32 0) ∧ RowB wr 34 bd (bagN (Ds.drop p))) (fun s _ => ((intOf s) + 1).toNat)
    case atStart => exact ⟨n - 1, Nat.le_refl _, rfl, HBw3.out, H03.out, HI.out⟩
    case round =>
      clear HBw3 H03 HD3 HI
      obtain ⟨p, hp, rfl, h1, h2, h4⟩ := hrel
      have h3 := HDw.out.keep h1
      have HB := Lib.hid h1
      have H0 := Lib.hid h2
      have HD := Lib.hid h3
      obtain ⟨acc, hacc⟩ : ∃ acc, bagN (Ds.drop p) = acc := ⟨_, rfl⟩
      obtain ⟨ha32, hab⟩ := bagN_size (Ds.drop p) (fun d hd => h3.dig d (List.mem_of_mem_drop hd))
      rw [hacc] at h4 ha32 hab
      have HACC := Lib.hid hacc
      have HI := Lib.hid h4
      clear h1 h2 h3 h4 hacc
      by_cases hp0 : p = 0
      · subst hp0
        obtain rfl : acc = R := by have := HACC.out; rw [List.drop_zero, HR.out] at this; exact this.symm
        go_upto_region 8 with fail
        refine wp_region_lit ?_
        refine wpList_val rfl (.agg (celB acc).toArray) wr (exec_loadD ha32 HI.out rfl rfl) ?_
        simp only [Act.put, List.setIfInBounds_toArray, List.set_cons_zero, List.set_cons_succ]
        refine wpList_skip0 rfl _ (exec_storeD ha32 List.length_replicate H0.out rfl rfl rfl) ?_
        refine wpList_nil ?_
        simp only [Act.put]
        go_wp2_with fail
        refine bodyPost_ret (v := .agg (celB acc).toArray) ?_ rfl ⟨rfl, bel_setRow HB.out (Nat.le_refl _) _⟩
        exact results_cell_row rfl _ _ w.heap.size 34 _ (0, 0) _ rfl (H0.out.row acc) Tryd.underlying34 rfl (dig_size ha32)
      · obtain ⟨p, rfl⟩ : ∃ j, p = j + 1 := ⟨p - 1, by omega⟩
        have hge : (0 : Int) ≤ ((p + 1 : Nat) : Int) - 1 := by omega
        have hpl : p < Ds.length := by have := HLN.out; omega
        obtain ⟨d2, hd2⟩ : ∃ d, Ds[p]? = some d := ⟨_, List.getElem?_eq_getElem hpl⟩
        obtain ⟨hd232, hd2b⟩ := HD.out.dig d2 (List.mem_of_getElem? hd2)
        obtain ⟨g', o', e, hr⟩ := HD.out.cells _ _ hd2
        injection e with e
        injection e with e1 e2
        subst e1 e2
        obtain ⟨z, hz⟩ : ∃ z, prN d2 acc = z := ⟨_, rfl⟩
        have HST := Lib.hid (show bagN (Ds.drop p) = z by
          rw [List.drop_eq_getElem_cons hpl, bagN_cons (fun e => by have := congrArg List.length e; rw [List.length_drop] at this; simp at this; have := HLN.out; omega), HACC.out]
          rw [List.getElem?_eq_getElem hpl] at hd2
          injection hd2 with hd2
          rw [hd2]
          exact hz)
        have hz32 : z.length = 32 := by rw [← hz]; exact prN_length _ _
        have HZ := Lib.hid (show shaN (1 :: (d2 ++ acc)) = z from hz)
        have HRG := Lib.hid hr
        clear hz hr hd2
        go_upto_region 7 with fail
        refine Tl.wp_held_tailB 6 wr.heap.size (by kernel_rfl) (lexOK_of (by kernel_rfl) (by kernel_rfl)) (Tl.chainW_of (by kernel_rfl)) rfl (by kernel_rfl) (by kernel_rfl) (fun W0 hbW hSW => ?_)
        have HSW := Lib.hid hSW
        have HB0 := Lib.hid (bel_step HB.out hbW)
        have HI0 := Lib.hid (HI.out.keep hbW)
        have H00 := Lib.hid (H0.out.keep hbW)
        have HD0 := Lib.hid (HD.out.keep hbW)
        have hzz := hbW.size
        clear hSW hbW
        refine wpHeld_seg 5 HSW.out (by kernel_rfl) ?_
        simp only [List.take_succ_cons, List.take_zero, List.drop_succ_cons, List.drop_zero]
        iterate 2 (go_big_quiet_step (fail))
        refine wpQuiet_val (by kernel_rfl) (.pointer (some ⟨g, o + 32 * p, none⟩)) (fun v hv => exec_idxM v g o n c p (by omega) rfl rfl (by show Value.int .i64 (((p + 1 : Nat) : Int) - 1) = _; rw [show ((p + 1 : Nat) : Int) - 1 = (p : Int) by omega])) ?_
        simp only [Act.put, List.setIfInBounds_toArray, List.set_cons_zero, List.set_cons_succ]
        refine wpQuiet_val (by kernel_rfl) (.agg (celB d2).toArray) (fun v hv => exec_loadM g (o + 32 * p) hd232 (rangeAt_keep HRG.out (LaterB.of hv)) rfl rfl) ?_
        simp only [Act.put, List.setIfInBounds_toArray, List.set_cons_zero, List.set_cons_succ]
        refine wpQuiet_val (by kernel_rfl) (.agg (celB acc).toArray) (fun v hv => exec_loadD ha32 (HI.out.keep (LaterB.of hv)) rfl rfl) ?_
        simp only [Act.put, List.setIfInBounds_toArray, List.set_cons_zero, List.set_cons_succ]
        refine wpQuiet_nil ?_
        refine wpHeld_call 44 Tryd.func44 (by kernel_rfl) (by kernel_rfl) _ _ #[.agg (celB d2).toArray, .agg (celB acc).toArray] rfl (by kernel_rfl) (by kernel_rfl) ?_
        refine (rpair_any d2 acc W0 hd232 ha32 hd2b hab z HZ.out).mono ?_
        rintro e3 W6 ⟨rfl, hb6⟩
        have HI6 := Lib.hid (HI0.out.keep hb6)
        have H06 := Lib.hid (H00.out.keep hb6)
        have HD6 := Lib.hid (HD0.out.keep hb6)
        have HB6 := Lib.hid (bel_step HB0.out hb6)
        refine ⟨_, rfl, LaterB.step HSW.out (hb6.mono (by omega)), ?_⟩
        simp only [Act.put, List.setIfInBounds_toArray, List.set_cons_zero, List.set_cons_succ]
        refine wpHeld_nil ?_
        refine mOp_run0 _ rfl rfl (exec_storeD hz32 ha32 HI6.out rfl rfl rfl) ?_
        have hw2 : IntKind.i64.wrap (((p + 1 : Nat) : Int) - 1 - 1) = (p : Int) - 1 := by rw [IntKind.wrap_i64]; omega
        go_wp2_with fail
        go_roundw
        case rel => exact ⟨p, by omega, by first | rfl | go_num, bel_setRow HB6.out (by omega) _, (row_far (by omega) _).trans H06.out, by rw [HST.out]; exact HI6.out.row z⟩
        case measure => simp [intOf]
end Go.Proofs.YtgkojdbepgonkaaDoor

/- The path of a leaf, in the reference's words: shifts and parts. No program. -/
namespace Go.Proofs.YtgkojdbepgonkaaDoor
set_option linter.unusedVariables false
set_option linter.unusedSimpArgs false
set_option maxRecDepth 8000
open Go.RowKit
theorem sibN_shift (t : Nat) : ∀ (s : Nat), 1 ≤ s → ∀ (f : Nat) (i : Int), sibN (f + t) s (i + (t : Int)) = (sibN f s i).map fun x => (x.1 + t, x.2) := by
  refine tree_ind ?_ ?_
  · intro f i
    rw [sibN_one, sibN_one]
    rfl
  · intro s hs hp hl ihl ihr f i
    by_cases h : i < ((f + leftN s : Nat) : Int)
    · rw [sibN_left f hs h, sibN_left (f + t) hs (by omega), ihl, List.map_append]
      show _ ++ [_] = _ ++ [_]
      rw [show f + t + leftN s = f + leftN s + t by omega]
    · rw [sibN_right f hs h, sibN_right (f + t) hs (by omega), show f + t + leftN s = f + leftN s + t by omega, ihr, List.map_append]
      rfl
theorem digsN_take {Ls : List (List Nat)} {xs : List (Nat × Nat)} {k : Nat} (h : ∀ x ∈ xs, x.1 + x.2 ≤ k) : digsN (Ls.take k) xs = digsN Ls xs := by
  unfold digsN
  refine List.map_congr_left fun x hx => ?_
  have := h x hx
  rw [List.drop_take, List.take_take, Nat.min_eq_left (by omega)]
theorem digsN_drop {Ls : List (List Nat)} {xs : List (Nat × Nat)} {k : Nat} : digsN (Ls.drop k) xs = digsN Ls (xs.map fun x => (x.1 + k, x.2)) := by
  unfold digsN
  rw [List.map_map]
  refine List.map_congr_left fun x _ => ?_
  show rootN (((Ls.drop k).drop x.1).take x.2) = rootN ((Ls.drop (x.1 + k)).take x.2)
  rw [List.drop_drop, Nat.add_comm]
/-- the path of a leaf of a tree with one leaf -/
theorem path_one (Ls : List (List Nat)) (i : Int) : digsN Ls (sibN 0 1 i) = [] := by rw [sibN_one]; rfl
/-- .. of a leaf in the left part -/
theorem path_left {Ls : List (List Nat)} {n : Nat} {i : Int} (hn : 2 ≤ n) (hl : Ls.length = n) (h : i < ((leftN n : Nat) : Int)) :
    digsN Ls (sibN 0 n i) = digsN (Ls.take (leftN n)) (sibN 0 (leftN n) i) ++ [rootN (Ls.drop (leftN n))] := by
  have hp : 1 ≤ leftN n := leftN_pos n
  rw [sibN_left 0 hn (by omega), digsN_take (fun x hx => by have := sibN_in (leftN n) hp 0 i x hx; omega)]
  unfold digsN
  rw [List.map_append]
  show _ ++ [rootN ((Ls.drop (0 + leftN n)).take (n - leftN n))] = _
  rw [Nat.zero_add, List.take_of_length_le (by rw [List.length_drop]; omega)]
/-- .. of a leaf in the right part -/
theorem path_right {Ls : List (List Nat)} {n : Nat} {i : Int} (hn : 2 ≤ n) (h : ¬ i < ((leftN n : Nat) : Int)) :
    digsN Ls (sibN 0 n i) = digsN (Ls.drop (leftN n)) (sibN 0 (n - leftN n) (i - ((leftN n : Nat) : Int))) ++ [rootN (Ls.take (leftN n))] := by
  have hk := leftN_lt hn
  have e := sibN_shift (leftN n) (n - leftN n) (by omega) 0 (i - ((leftN n : Nat) : Int))
  rw [show i - ((leftN n : Nat) : Int) + ((leftN n : Nat) : Int) = i by omega] at e
  rw [digsN_drop, ← e, sibN_right 0 hn (by omega)]
  unfold digsN
  rw [List.map_append]
  rfl
end Go.Proofs.YtgkojdbepgonkaaDoor

/- Moves of a plain region's list, one operation each, guarded or not. No program, no conditions. -/
namespace Go.Proofs.YtgkojdbepgonkaaDoor
set_option linter.unusedVariables false
set_option linter.unusedSimpArgs false
set_option maxRecDepth 8000
open Go.RowKit
section
variable {P : Program} {Q : Exit → Act → World → Prop} {ops : Array Oper}
/-- an operation that is carried out -/
theorem wpList_op {rest : List Oper} {o : Oper} {a : Act} {w : World} (hw : Region.wanted o (yielded ops a.tmps) = true) (h : hOp P o (fun v w' => wpList P ops Q rest (a.put o.dst v) w') a w) : wpList P ops Q (o :: rest) a w := by
  unfold wpList
  rw [if_pos hw]
  refine .inl ?_
  unfold hOp at h
  unfold Oper.wp
  generalize (execOp a.eval o).run P w = r at *
  cases r with
  | ok n w' =>
    cases n <;> simp only [heldUpon] at h <;> simp only [Oper.upon]
    case value u => exact h
    case skip => exact h
    case enter f args => exact h.mono fun e w'' ⟨v, he, h2⟩ => by subst he; exact h2
  | halt x w' => exact h.elim
/-- by its run -/
theorem wpList_run {rest : List Oper} {o : Oper} {a : Act} {w : World} (hw : Region.wanted o (yielded ops a.tmps) = true) (v : Value) (w' : World) (hr : (execOp a.eval o).run P w = .ok (.value v) w') (h : wpList P ops Q rest (a.put o.dst v) w') : wpList P ops Q (o :: rest) a w :=
  wpList_op hw (by unfold hOp; rw [hr]; exact h)
theorem wpList_run0 {rest : List Oper} {o : Oper} {a : Act} {w : World} (hw : Region.wanted o (yielded ops a.tmps) = true) (w' : World) (hr : (execOp a.eval o).run P w = .ok .skip w') (h : wpList P ops Q rest (a.put o.dst undef) w') : wpList P ops Q (o :: rest) a w :=
  wpList_op hw (by unfold hOp; rw [hr]; exact h)
end
end Go.Proofs.YtgkojdbepgonkaaDoor

/- The reference's Witness. -/
namespace Go.Proofs.YtgkojdbepgonkaaDoor
set_option linter.unusedVariables false
set_option linter.unusedSimpArgs false
set_option maxRecDepth 8000
open Go.RowKit
attribute [local simp] z32_ne z32_run
attribute [-simp] Tryd.zeroValue34 Tryd.isAgg34 Tryd.sizeOf34
theorem exec_takeP {ev : Operand → Value} {o : Oper} {x y : Operand} (w : World) (ad : Addr) (n c k : Nat) (hk : k ≤ n) (hc : n ≤ c) (ho : o.op = .slice 23 x none (some y) none) (hx : ev x = .slice (some ad) n c) (hy : ev y = .int .i64 ((k : Nat) : Int)) :
    (execOp ev o).run Tryd.prog w = .ok (.value (.slice (some ad) k c)) w := by
  have h0 : (0 : Int) ≤ (k : Int) := by omega
  have h1 : (k : Int) ≤ (c : Int) := by omega
  unfold execOp
  simp only [ho, hx]
  go_simp
theorem exec_dropP {ev : Operand → Value} {o : Oper} {x y : Operand} (w : World) (ad : Addr) (n c k : Nat) (hk : k < n) (hc : n ≤ c) (ho : o.op = .slice 23 x (some y) none none) (hx : ev x = .slice (some ad) n c) (hy : ev y = .int .i64 ((k : Nat) : Int)) :
    (execOp ev o).run Tryd.prog w = .ok (.value (.slice (some (ad.add k)) (n - k) (c - k))) w := by
  have h0 : (0 : Int) ≤ (k : Int) := by omega
  have h1 : (k : Int) ≤ (c : Int) := by omega
  have h2 : (n : Int) ≤ (c : Int) := by omega
  have h3 : (k : Int) ≤ (n : Int) := by omega
  have h4 : ¬ c = k := by omega
  unfold execOp
  simp only [ho, hx]
  go_simp
theorem exec_box0 {ev : Operand → Value} {o : Oper} (w : World) (ho : o.op = .buildSlice 26 0 #[]) : (execOp ev o).run Tryd.prog w = .ok (.value (.slice (some ⟨w.heap.size, 0, none⟩) 0 0)) (w.alloc (.cells #[] 34)) := by
  unfold execOp
  rw [ho]
  go_simp
  simp only [Tryd.sizeOf34, Result.andThen]
end Go.Proofs.YtgkojdbepgonkaaDoor

/- The reference's Push. -/
namespace Go.Proofs.YtgkojdbepgonkaaDoor
set_option linter.unusedVariables false
set_option linter.unusedSimpArgs false
set_option maxRecDepth 8000
open Go.RowKit
attribute [local simp] z32_ne z32_run
attribute [-simp] Tryd.zeroValue34 Tryd.isAgg34 Tryd.sizeOf34
theorem celD_app (Ds Es : List (List Nat)) : celD (Ds ++ Es) = celD Ds ++ celD Es := by unfold celD celB; simp
theorem celD_len {Ds : List (List Nat)} (h : ∀ d ∈ Ds, d.length = 32) : (celD Ds).length = Ds.length * 32 := by
  unfold celD
  rw [celB_length, List.length_flatten, List.map_congr_left (g := fun _ => 32) (fun d hd => h d hd), List.map_const', List.sum_replicate_nat]
/-- an own slice is cut -/
theorem OwD.cutTo {w : World} {base g n c p : Nat} {Ds : List (List Nat)} (h : OwD w base (.slice (some ⟨g, 0, none⟩) n c) n Ds) (hp : p ≤ n) (hl : Ds.length = n) : OwD w base (.slice (some ⟨g, 0, none⟩) p c) p (Ds.take p) := by
  have hd : ∀ d ∈ Ds.take p, d.length = 32 := fun d hd => h.2 d (List.mem_of_mem_take hd)
  have hlen : (celD (Ds.take p)).length = p * 32 := by rw [celD_len hd, List.length_take, hl, Nat.min_eq_left hp]
  refine ⟨⟨hlen, ?_⟩, hd⟩
  rcases h.1.2 with ⟨e, _⟩ | ⟨g', cap, cur, e, hbs, hgg, h1, h2, h3, h4⟩
  · cases e
  · injection e with e1 e2 e3
    injection e1 with e1
    injection e1 with e1
    subst e1 e3
    refine .inr ⟨g, c, cur, rfl, hbs, hgg, by omega, h2, h3, ?_⟩
    have h5 := congrArg (List.take (p * 32)) h4
    rw [List.take_take, Nat.min_eq_left (by omega)] at h5
    rw [h5]
    have e6 : celD Ds = celD (Ds.take p) ++ celD (Ds.drop p) := by rw [← celD_app, List.take_append_drop]
    rw [e6, List.take_left' hlen]
theorem hOp_appendDs {o : Oper} {a : Act} {w : World} {K : Value → World → Prop} (s x : Operand)
    (ho : o.op = .call { callee := .builtin .append, args := #[s, x], argTypes := #[26, 26] }) (base : Nat) (v : Value) (hv : v ≠ .slice none 0 0) (hs : a.eval s = v) (hown : OwD w base v 0 [])
    (ad : Addr) (m c : Nat) (Es : List (List Nat)) (hx : a.eval x = .slice (some ad) m c) (hE : Db w (some ad) m c Es) (hn : m ≤ 65536) (hbase : base ≤ w.heap.size)
    (h : ∀ g c' w', OwD w' base (.slice (some ⟨g, 0, none⟩) m c') m Es → w.grownBy w' v.ownBlock → K (.slice (some ⟨g, 0, none⟩) m c') w') : hOp Tryd.prog o K a w := by
  obtain ⟨i, hi, hz, hs2, hb⟩ := info_parts dig_info
  have hcl : (celD Es).length = m * 32 := by rw [celD_len (fun d hd => (hE.dig d hd).1), hE.len]
  have hcs : ∀ j u, (celD Es)[j]? = some u → w.cell? (ad.add j) = some u := by
    intro j u hj
    by_cases h0 : m = 0
    · obtain rfl : Es = [] := List.length_eq_zero_iff.1 (by have := hE.len; omega)
      cases hj
    · obtain ⟨g', o', e⟩ := hE.some_ (by omega)
      injection e with e
      subst e
      exact hE.flat j u hj
  obtain ⟨v', w', hrun, hown', hg, hnil⟩ := run_append_own (P := Tryd.prog) w base 26 o.type 34 i (.agg z32) 32 32 Tryd.underlying26 hi hz hs2 hb rfl (by omega) v 0 (celD []) hown.1 ad m c (celD Es) hcl hcs (fun u hu => celB_one' hu) (by unfold maxLen; omega) (by omega) hbase
  unfold hOp
  simp [execOp, ho, resolve, invoke, builtin, hs, hx, hrun, Result.andThen]
  rw [Nat.zero_add] at hown'
  have ho2 : OwD w' base v' m Es := ⟨hown', fun d hd => (hE.dig d hd).1⟩
  rcases hown'.2 with ⟨e, _⟩ | ⟨g, cap, cur, e, _⟩
  · exact absurd (hnil.1 e).1 hv
  · subst e
    exact h g cap w' ho2 hg
end Go.Proofs.YtgkojdbepgonkaaDoor
