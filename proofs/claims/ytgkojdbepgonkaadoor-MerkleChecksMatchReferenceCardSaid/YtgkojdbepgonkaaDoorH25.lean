/- Several texts in one: Mvt, Mvu. -/
import Derived.Test.YtgkojdbepgonkaaDoorH24
/- The reference's climb. -/
namespace Go.Proofs.YtgkojdbepgonkaaDoor
set_option maxRecDepth 8000
set_option linter.unusedVariables false
set_option linter.unusedSimpArgs false
open Go.RowKit
attribute [local simp] z32_ne z32_run
attribute [-simp] Tryd.zeroValue34 Tryd.isAgg34 Tryd.sizeOf34
section
variable {ev : Operand → Value} {o : Oper}
theorem exec_fMb {x : Operand} (j b k kk : Nat) (hj : j < 4) (hk : k + j = kk) (ho : o.op = .fieldAddr 31 x j) (hx : ev x = .pointer (some ⟨b, k, none⟩)) (w : World) : (execOp ev o).run Tryd.prog w = .ok (.value (.pointer (some ⟨b, kk, none⟩))) w := by
  subst hk
  unfold execOp
  simp only [ho, hx]
  rcases (by omega : j = 0 ∨ j = 1 ∨ j = 2 ∨ j = 3) with rfl | rfl | rfl | rfl <;> go_simp
theorem exec_eqB {x y : Operand} {t : TypeId} (a b : Int) (r : Bool) (h : decide (a = b) = r) (ho : o.op = .binOp .eql 3 x y t) (hx : ev x = .int .i64 a) (hy : ev y = .int .i64 b) (w : World) : (execOp ev o).run Tryd.prog w = .ok (.value (.bool r)) w := by
  subst h
  by_cases h : a = b
  · rw [exec_eqT a b h ho hx hy w, decide_eq_true h]
  · rw [exec_eqF a b h ho hx hy w, decide_eq_false h]
theorem exec_subI {x y : Operand} {t : TypeId} (a b c : Int) (hc : a - b = c) (h1 : -1000000 ≤ c ∧ c ≤ 1000000) (ho : o.op = .binOp .sub 3 x y t) (hx : ev x = .int .i64 a) (hy : ev y = .int .i64 b) (w : World) :
    (execOp ev o).run Tryd.prog w = .ok (.value (.int .i64 c)) w := by
  have h2 : IntKind.i64.wrap (a - b) = c := by rw [IntKind.wrap_i64]; omega
  unfold execOp
  simp only [ho, hx, hy]
  go_simp
  first | done | (rw [IntKind.wrap_i64]; omega)
theorem exec_lenD {x : Operand} (A : Option Addr) (n c : Nat) (ho : o.op = .call { callee := .builtin .len, args := #[x], argTypes := #[26] }) (hx : ev x = .slice A n c) (w : World) :
    (execOp ev o).run Tryd.prog w = .ok (.value (.int .i64 (n : Int))) w := by
  unfold execOp
  simp only [ho]
  go_simp
end
def RcP (R : Nat → List Nat × Bool → Prop) (w : World) (e2 : Ending) (w' : World) : Prop := ∃ q t, e2 = .returned (.tuple #[.agg (celB q).toArray, .bool t]) ∧ R 0 (q, t) ∧ (q.length = 32 ∧ ∀ x ∈ q, x < 256) ∧ Below w.heap.size w w'
theorem RcP.mk {R : Nat → List Nat × Bool → Prop} {w w' : World} (q : List Nat) (t : Bool) (h : R 0 (q, t)) (hs : q.length = 32 ∧ ∀ x ∈ q, x < 256) (hb : Below w.heap.size w w') : RcP R w (.returned (.tuple #[.agg (celB q).toArray, .bool t])) w' := ⟨q, t, rfl, h, hs, hb⟩
attribute [local irreducible] wpList
set_option maxHeartbeats 4000000 in
theorem rclimb_any : ∀ (K cnt : Nat) (i : Int) (B : Option Addr) (nb cb : Nat) (b : List Nat) (R : Option Addr) (r e : Nat) (P : List (List Nat)) (w : World) (_ : Sb w B nb cb b) (_ : nb ≤ 140737488351232) (_ : Db w R r e P) (_ : r ≤ 100000) (_ : cnt ≤ K) (_ : 1 ≤ cnt) (_ : cnt ≤ 65536) (_ : 0 ≤ i ∧ i < (cnt : Int)),
    Calls Tryd.prog 65 #[.agg #[.int .i64 (cnt : Int), .int .i64 i, .slice B nb cb, .slice R r e]] w fun e2 w' => RcP (fun _ x => climbR K cnt i P (lfN b) = x) w e2 w' := by
  intro K
  induction K with
  | zero => intros; omega
  | succ K ih =>
    intro cnt i B nb cb b R r e P w hS hnb hD hr hK hc1 hc2 hi
    have HS := Lib.hid hS
    have HD := Lib.hid hD
    have HRL := Lib.hid hD.len
    have IH := Lib.hid ih
    obtain ⟨d, hd⟩ : ∃ d, lfN b = d := ⟨_, rfl⟩
    have hd32 : d.length = 32 := by rw [← hd]; exact lfN_length b
    have hdb : ∀ z ∈ d, z < 256 := by rw [← hd]; exact lfN_lt b
    have HDD := Lib.hid (show shaN (0 :: b) = d from hd)
    have HDE := Lib.hid hd
    rw [hd]
    clear hS hD ih hd
    obtain ⟨i0, hi0⟩ := hi
    go_enter Tryd.func65, Tryd.ntmps65
    go_upto_region 1 with fail
    refine wp_named2 (fun W1 hb1 g1 g2 hlt1 => ?_)
    have H1 := Lib.hid g1
    have H2 : Hid (RowB W1 34 (w.heap.size + 1) (List.replicate 32 0)) := Lib.hid g2
    have HB1 := Lib.hid hb1
    clear g1 g2 hb1
    obtain ⟨b1, hb1⟩ : ∃ b, w.heap.size = b := ⟨_, rfl⟩
    have HWB := Lib.hid hb1
    rw [hb1] at H1 H2 hlt1 ⊢
    clear hb1
    have c0 := cells_at H1.out 0 (v := .int .i64 (cnt : Int)) rfl
    have c1 := cells_at H1.out 1 (v := .int .i64 i) rfl
    have c2 := cells_at H1.out 2 (v := .slice B nb cb) rfl
    have c3 := cells_at H1.out 3 (v := .slice R r e) rfl
    by_cases h1 : cnt = 1
    · subst h1
      have h11 : (((1 : Nat) : Int) = 1) := rfl
      obtain ⟨t, ht⟩ : ∃ t, decide ((r : Int) = 0) = t := ⟨_, rfl⟩
      have HT := Lib.hid ht
      have HCL := Lib.hid (show climbR (K + 1) 1 i P d = (d, t) by
        show (if (1 : Nat) = 1 then _ else _) = _
        rw [if_pos rfl, ← ht]
        have hl := HRL.out
        congr 1
        refine decide_eq_decide.2 ⟨fun h => by rw [h] at hl; simp at hl; omega, fun h => List.length_eq_zero_iff.1 (by omega)⟩)
      clear ht
      go_upto_region 2 with fail
      refine Tl.wp_held_tailB 8 (b1 + 1) (by kernel_rfl) (lexOK_of (by kernel_rfl) (by kernel_rfl)) (Tl.chainW_of (by kernel_rfl)) rfl (by kernel_rfl) (by kernel_rfl) (fun W2 hb2 hSW => ?_)
      simp only [List.take_succ_cons, List.take_zero]
      have HS2 := Lib.hid hSW
      have HB2 := Lib.hid hb2
      clear hSW hb2
      refine wpHeld_seg 2 HS2.out (by kernel_rfl) ?_
      simp only [List.take_succ_cons, List.take_zero, List.drop_succ_cons, List.drop_zero]
      refine wpQuiet_val (by kernel_rfl) (.pointer (some ⟨b1, 2, none⟩)) (fun v hv => exec_fMb 2 b1 0 2 (by omega) rfl rfl rfl _) ?_
      simp only [Act.put, List.setIfInBounds_toArray, List.set_cons_zero, List.set_cons_succ]
      refine wpQuiet_val (by kernel_rfl) (.slice B nb cb) (fun v hv => exec_loadS _ _ _ _ (((LaterB.of hv).cell (show b1 < b1 + 1 by omega)).trans c2) rfl rfl) ?_
      simp only [Act.put, List.setIfInBounds_toArray, List.set_cons_zero, List.set_cons_succ]
      refine wpQuiet_nil ?_
      refine wpHeld_call 43 Tryd.func43 (by kernel_rfl) (by kernel_rfl) _ _ #[.slice B nb cb] rfl (by kernel_rfl) (by kernel_rfl) ?_
      refine (rleaf_any B nb cb b W2 ((HS.out.keep HB1.out).keep HB2.out) hnb d HDD.out).mono ?_
      rintro e2 W3 ⟨rfl, hb3⟩
      have HB3 := Lib.hid (bel_step HB2.out hb3)
      have hz1 := HB2.out.size
      have HS3 := Lib.hid (LaterB.step HS2.out (hb3.mono (by omega)))
      clear hb3
      refine ⟨_, rfl, HS3.out, ?_⟩
      simp only [Act.put, List.setIfInBounds_toArray, List.set_cons_zero, List.set_cons_succ]
      refine wpHeld_seg 4 HS3.out (by kernel_rfl) ?_
      simp only [List.take_succ_cons, List.take_zero, List.drop_succ_cons, List.drop_zero]
      refine wpQuiet_val (by kernel_rfl) (.pointer (some ⟨b1, 3, none⟩)) (fun v hv => exec_fMb 3 b1 0 3 (by omega) rfl rfl rfl _) ?_
      simp only [Act.put, List.setIfInBounds_toArray, List.set_cons_zero, List.set_cons_succ]
      refine wpQuiet_val (by kernel_rfl) (.slice R r e) (fun v hv => exec_loadSD _ _ _ _ (((LaterB.of hv).cell (show b1 < b1 + 1 by omega)).trans c3) rfl rfl) ?_
      simp only [Act.put, List.setIfInBounds_toArray, List.set_cons_zero, List.set_cons_succ]
      refine wpQuiet_val (by kernel_rfl) (.int .i64 (r : Int)) (fun v hv => exec_lenD R r e rfl rfl _) ?_
      simp only [Act.put, List.setIfInBounds_toArray, List.set_cons_zero, List.set_cons_succ]
      refine wpQuiet_val (by kernel_rfl) (.bool t) (fun v hv => exec_eqB _ _ t HT.out rfl rfl rfl _) ?_
      simp only [Act.put, List.setIfInBounds_toArray, List.set_cons_zero, List.set_cons_succ]
      refine wpQuiet_nil ?_
      have H23 := Lib.hid (H2.out.keep HB3.out)
      refine wpHeld_run0 _ (by kernel_rfl) (by kernel_rfl) (exec_storeD hd32 List.length_replicate H23.out rfl rfl rfl) (LaterB.step HS3.out (bel_setRow (Below.refl _ _) (Nat.le_refl _) _)) ?_
      try simp only [Act.put, List.setIfInBounds_toArray, List.set_cons_zero, List.set_cons_succ]
      refine wpHeld_nil ?_
      refine mOp_val (.bool t) rfl rfl rfl ?_
      go_wp2_with fail
      refine bodyPost_ret (v := .tuple #[.agg (celB d).toArray, .bool t]) ?_ rfl (RcP.mk d t HCL.out ⟨hd32, hdb⟩ (bel_setRow (bel_step HB1.out HB3.out) (by have := HWB.out; omega) _))
      exact results_row_tmp rfl _ _ (b1 + 1) 34 _ (0, 0) _ _ rfl rfl (H23.out.row d) Tryd.underlying34 rfl (dig_size hd32)
    · have h1' : ¬ ((cnt : Int) = 1) := by omega
      by_cases hr0 : r = 0
      · subst hr0
        have h00 : (((0 : Nat) : Int) = 0) := rfl
        have hP : P = [] := List.length_eq_zero_iff.1 HRL.out.symm
        have HCL := Lib.hid (show climbR (K + 1) cnt i P d = (List.replicate 32 0, false) by
          show (if cnt = 1 then _ else if P = [] then _ else _) = _
          rw [if_neg h1, if_pos hP])
        go_upto_region 4 with fail
        refine wp_region_lit ?_
        refine wpList_run (by kernel_rfl) (.agg (celB (List.replicate 32 0)).toArray) W1 (exec_buildZ _ rfl) ?_
        simp only [Act.put, List.setIfInBounds_toArray, List.set_cons_zero, List.set_cons_succ]
        refine wpList_skip0 rfl _ (exec_storeD List.length_replicate List.length_replicate H2.out rfl rfl rfl) ?_
        refine wpList_val rfl (.bool false) _ rfl ?_
        simp only [Act.put, List.setIfInBounds_toArray, List.set_cons_zero, List.set_cons_succ]
        refine wpList_nil ?_
        go_wp2_with fail
        refine bodyPost_ret (v := .tuple #[.agg (celB (List.replicate 32 0)).toArray, .bool false]) ?_ rfl (RcP.mk _ false HCL.out ⟨List.length_replicate, rep_lt8⟩ (bel_setRow HB1.out (by have := HWB.out; omega) _))
        exact results_row_tmp rfl _ _ (b1 + 1) 34 _ (0, 0) _ _ rfl rfl (H2.out.row (List.replicate 32 0)) Tryd.underlying34 rfl (dig_size List.length_replicate)
      · have hr0' : ¬ ((r : Int) = 0) := by omega
        obtain ⟨s, rfl⟩ : ∃ s, r = s + 1 := ⟨r - 1, by omega⟩
        obtain ⟨gR, oR, rfl⟩ := HD.out.some_ (by omega)
        have hPne : P ≠ [] := fun e0 => by have := HRL.out; rw [e0] at this; simp at this
        obtain ⟨la, hla⟩ : ∃ la, P[s]? = some la := ⟨_, List.getElem?_eq_getElem (by have := HRL.out; omega)⟩
        have HLA := Lib.hid (show P.getLastD [] = la by
          rw [List.getLastD_eq_getLast?, List.getLast?_eq_getElem?, show P.length - 1 = s by have := HRL.out; omega, hla]
          rfl)
        have HED := Lib.hid ((HD.out.keep HB1.out).ed hla)
        obtain ⟨hla32, hlab⟩ := HED.out.dig
        have HDL : Hid (Db w (some ⟨gR, oR, none⟩) s e P.dropLast) := Lib.hid (by rw [List.dropLast_eq_take, show P.length - 1 = s by have := HRL.out; omega]; exact HD.out.take (by omega))
        obtain ⟨m, hm⟩ : ∃ m, leftN cnt = m := ⟨_, rfl⟩
        have hm1 : 1 ≤ m := by rw [← hm]; exact leftN_pos cnt
        have hmc : m < cnt := by rw [← hm]; exact leftN_lt (by omega)
        have HM := Lib.hid hm
        have HCR := Lib.hid (show climbR (K + 1) cnt i P d = if i < (m : Int) then (prN (climbR K m i P.dropLast d).1 la, (climbR K m i P.dropLast d).2) else (prN la (climbR K (cnt - m) (i - (m : Int)) P.dropLast d).1, (climbR K (cnt - m) (i - (m : Int)) P.dropLast d).2) by
          rw [← HLA.out, ← hm]
          show (if cnt = 1 then _ else if P = [] then _ else _) = _
          rw [if_neg h1, if_neg hPne])
        clear hm hla
        go_upto_region 5 with fail
        refine wp_floatP [0, 1, 2, 3, 4, 5, 6, 7, 8, 9, 10, 11, 12, 13] (l' := [_, _, _, _, _, _, _, _, _, _, _, _, _, _]) (by kernel_rfl) (lexOK_of (by kernel_rfl) (by kernel_rfl)) (ordOK_of (by kernel_rfl) (by kernel_rfl)) rfl rfl ?_
        simp only [List.getElem_toArray, List.getElem_cons_succ, List.getElem_cons_zero]
        intro Z0 hbW hSW
        have HZ0 := Lib.hid hbW
        have HSZ := Lib.hid hSW
        clear hbW hSW
        refine wpF_seg 2 (by kernel_rfl) ?_
        simp only [List.take_succ_cons, List.take_zero, List.drop_succ_cons, List.drop_zero]
        refine wpQuiet_val (by kernel_rfl) (.pointer (some ⟨b1, 0, none⟩)) (fun v hv => by obtain ⟨x, rfl⟩ := hv; exact exec_fMb 0 b1 0 0 (by omega) rfl rfl rfl _) ?_
        simp only [Act.put, List.setIfInBounds_toArray, List.set_cons_zero, List.set_cons_succ]
        refine wpQuiet_val (by kernel_rfl) (.int .i64 (cnt : Int)) (fun v hv => by obtain ⟨x, rfl⟩ := hv; exact exec_loadI8 _ _ (cell_keep c0 x.below) rfl rfl) ?_
        simp only [Act.put, List.setIfInBounds_toArray, List.set_cons_zero, List.set_cons_succ]
        refine wpQuiet_nil ?_
        refine wpF_call 98 Tryd.func98 (by kernel_rfl) (by kernel_rfl) _ _ #[.int .i64 (cnt : Int)] rfl (by kernel_rfl) (by kernel_rfl) HSZ.out (fun V hV => ?_)
        have HZ1 := Lib.hid (bel_step HZ0.out hV)
        clear hV HZ0
        refine (split_any cnt V (by omega) (by omega)).mono ?_
        rintro e2 Z1 ⟨rfl, rfl⟩
        rw [HM.out]
        refine ⟨_, rfl, Below.refl _ _, ?_⟩
        simp only [Act.put, List.setIfInBounds_toArray, List.set_cons_zero, List.set_cons_succ]
        refine wpF_seg 8 (by kernel_rfl) ?_
        simp only [List.take_succ_cons, List.take_zero, List.drop_succ_cons, List.drop_zero]
        refine wpQuiet_val (by kernel_rfl) (.pointer (some ⟨b1, 3, none⟩)) (fun v hv => by obtain ⟨x, rfl⟩ := hv; exact exec_fMb 3 b1 0 3 (by omega) rfl rfl rfl _) ?_
        simp only [Act.put, List.setIfInBounds_toArray, List.set_cons_zero, List.set_cons_succ]
        refine wpQuiet_val (by kernel_rfl) (.slice (some ⟨gR, oR, none⟩) (s + 1) e) (fun v hv => by obtain ⟨x, rfl⟩ := hv; exact exec_loadSD _ _ _ _ (cell_keep c3 x.below) rfl rfl) ?_
        simp only [Act.put, List.setIfInBounds_toArray, List.set_cons_zero, List.set_cons_succ]
        refine wpQuiet_val (by kernel_rfl) (.pointer (some ⟨b1, 3, none⟩)) (fun v hv => by obtain ⟨x, rfl⟩ := hv; exact exec_fMb 3 b1 0 3 (by omega) rfl rfl rfl _) ?_
        simp only [Act.put, List.setIfInBounds_toArray, List.set_cons_zero, List.set_cons_succ]
        refine wpQuiet_val (by kernel_rfl) (.slice (some ⟨gR, oR, none⟩) (s + 1) e) (fun v hv => by obtain ⟨x, rfl⟩ := hv; exact exec_loadSD _ _ _ _ (cell_keep c3 x.below) rfl rfl) ?_
        simp only [Act.put, List.setIfInBounds_toArray, List.set_cons_zero, List.set_cons_succ]
        refine wpQuiet_val (by kernel_rfl) (.int .i64 ((s + 1 : Nat) : Int)) (fun v hv => by obtain ⟨x, rfl⟩ := hv; exact exec_lenD _ _ _ rfl rfl _) ?_
        simp only [Act.put, List.setIfInBounds_toArray, List.set_cons_zero, List.set_cons_succ]
        refine wpQuiet_val (by kernel_rfl) (.int .i64 ((s : Nat) : Int)) (fun v hv => by obtain ⟨x, rfl⟩ := hv; exact exec_subI _ 1 _ (by omega) (by omega) rfl rfl rfl _) ?_
        simp only [Act.put, List.setIfInBounds_toArray, List.set_cons_zero, List.set_cons_succ]
        refine wpQuiet_val (by kernel_rfl) (.pointer (some ⟨gR, oR + 32 * s, none⟩)) (fun v hv => by obtain ⟨x, rfl⟩ := hv; exact exec_idxM _ gR oR (s + 1) e s (by omega) rfl rfl rfl) ?_
        simp only [Act.put, List.setIfInBounds_toArray, List.set_cons_zero, List.set_cons_succ]
        refine wpQuiet_val (by kernel_rfl) (.agg (celB la).toArray) (fun v hv => by obtain ⟨x, rfl⟩ := hv; exact exec_loadM gR (oR + 32 * s) hla32 (HED.out.keep x.below).at_ rfl rfl) ?_
        simp only [Act.put, List.setIfInBounds_toArray, List.set_cons_zero, List.set_cons_succ]
        refine wpQuiet_nil ?_
        refine wpF_make (.cells z32 34, fun b => ptr b) (by kernel_rfl) (by kernel_rfl) (by kernel_rfl) (fun W => run_allocD _ _ W rfl) ?_
        intro b5 V4 hb4 h5 hg5
        have HZ4 := Lib.hid (bel_step HZ1.out hb4)
        clear hb4 HZ1
        simp only [ptr, Act.put, List.setIfInBounds_toArray, List.set_cons_zero, List.set_cons_succ]
        refine wpF_seg 1 (by kernel_rfl) ?_
        simp only [List.take_succ_cons, List.take_zero, List.drop_succ_cons, List.drop_zero]
        refine wpQuiet_val (by kernel_rfl) (.int .i64 (m : Int)) (fun v hv => rfl) ?_
        simp only [Act.put, List.setIfInBounds_toArray, List.set_cons_zero, List.set_cons_succ]
        refine wpQuiet_nil ?_
        refine wpF_last (fun W => W.setRow b5 (celB la).toArray) (by kernel_rfl) (by kernel_rfl) (by kernel_rfl) (fun W hW => exec_storeD hla32 List.length_replicate ((show RowB V4 34 b5 (List.replicate 32 0) from h5).keep hW) rfl rfl rfl) (fun W hW => ⟨⟨_, bel_setRow (bel_step HZ4.out hW) hg5 _⟩, rfl⟩) ?_
        intro W hW V5 hV5
        have F5 := Lib.hid ((((show RowB V4 34 b5 (List.replicate 32 0) from h5).keep hW).row la).keep hV5)
        have HB5 := Lib.hid (bel_step (bel_setRow (bel_step HZ4.out hW) hg5 (celB la).toArray) hV5)
        clear HZ4 hW hV5 h5 HSZ
        try simp only [ptr, Act.put, List.setIfInBounds_toArray, List.set_cons_zero, List.set_cons_succ]
        have d1 := cell_keep c1 HB5.out
        have d2 := cell_keep c2 HB5.out
        have d3 := cell_keep c3 HB5.out
        go_upto_region 6 with fail
        refine wp_decl (l2 := [_]) (l3 := [_]) (zs := [.cells #[.int .i64 0, .int .i64 0, .slice none 0 0, .slice none 0 0] 31]) 13 (by kernel_rfl) (lexOK_of (by kernel_rfl) (by kernel_rfl)) rfl (Nat.le_of_ble_eq_true rfl) (by simp) (by kernel_rfl) (by kernel_rfl) rfl
          (all_cons rfl all_nil) (mk_same 31 _ (fun ev o w h => exec_allocMb w h) (all_cons rfl all_nil) (all_cons rfl all_nil)) ?_
        simp only [List.take_succ_cons, List.take_zero]
        refine wpCalm_val (.int .i64 (m : Int)) (by kernel_rfl) (fun x => rfl) ?_
        simp only [Act.put, List.setIfInBounds_toArray, List.set_cons_zero, List.set_cons_succ]
        refine wpCalm_val (.pointer (some ⟨b1, 1, none⟩)) (by kernel_rfl) (fun x => exec_fMb 1 b1 0 1 (by omega) rfl rfl rfl _) ?_
        simp only [Act.put, List.setIfInBounds_toArray, List.set_cons_zero, List.set_cons_succ]
        refine wpCalm_val (.int .i64 i) (by kernel_rfl) (fun x => exec_loadI8 _ _ (cell_keep d1 x.below) rfl rfl) ?_
        simp only [Act.put, List.setIfInBounds_toArray, List.set_cons_zero, List.set_cons_succ]
        refine wpCalm_val (.pointer (some ⟨b1, 2, none⟩)) (by kernel_rfl) (fun x => exec_fMb 2 b1 0 2 (by omega) rfl rfl rfl _) ?_
        simp only [Act.put, List.setIfInBounds_toArray, List.set_cons_zero, List.set_cons_succ]
        refine wpCalm_val (.slice B nb cb) (by kernel_rfl) (fun x => exec_loadS _ _ _ _ (cell_keep d2 x.below) rfl rfl) ?_
        simp only [Act.put, List.setIfInBounds_toArray, List.set_cons_zero, List.set_cons_succ]
        refine wpCalm_val (.pointer (some ⟨b1, 3, none⟩)) (by kernel_rfl) (fun x => exec_fMb 3 b1 0 3 (by omega) rfl rfl rfl _) ?_
        simp only [Act.put, List.setIfInBounds_toArray, List.set_cons_zero, List.set_cons_succ]
        refine wpCalm_val (.slice (some ⟨gR, oR, none⟩) (s + 1) e) (by kernel_rfl) (fun x => exec_loadSD _ _ _ _ (cell_keep d3 x.below) rfl rfl) ?_
        simp only [Act.put, List.setIfInBounds_toArray, List.set_cons_zero, List.set_cons_succ]
        refine wpCalm_val (.pointer (some ⟨b1, 3, none⟩)) (by kernel_rfl) (fun x => exec_fMb 3 b1 0 3 (by omega) rfl rfl rfl _) ?_
        simp only [Act.put, List.setIfInBounds_toArray, List.set_cons_zero, List.set_cons_succ]
        refine wpCalm_val (.slice (some ⟨gR, oR, none⟩) (s + 1) e) (by kernel_rfl) (fun x => exec_loadSD _ _ _ _ (cell_keep d3 x.below) rfl rfl) ?_
        simp only [Act.put, List.setIfInBounds_toArray, List.set_cons_zero, List.set_cons_succ]
        refine wpCalm_val (.int .i64 ((s + 1 : Nat) : Int)) (by kernel_rfl) (fun x => exec_lenD _ _ _ rfl rfl _) ?_
        simp only [Act.put, List.setIfInBounds_toArray, List.set_cons_zero, List.set_cons_succ]
        refine wpCalm_val (.int .i64 ((s : Nat) : Int)) (by kernel_rfl) (fun x => exec_subI _ 1 _ (by omega) (by omega) rfl rfl rfl _) ?_
        simp only [Act.put, List.setIfInBounds_toArray, List.set_cons_zero, List.set_cons_succ]
        refine wpCalm_val (.slice (some ⟨gR, oR, none⟩) s e) (by kernel_rfl) (fun x => exec_cut2 _ _ (s + 1) e s (by have := HD.out.cap; omega) rfl rfl rfl) ?_
        simp only [Act.put, List.setIfInBounds_toArray, List.set_cons_zero, List.set_cons_succ]
        refine wpCalm_val (.agg #[.int .i64 (m : Int), .int .i64 i, .slice B nb cb, .slice (some ⟨gR, oR, none⟩) s e]) (by kernel_rfl) (fun x => by unfold execOp; go_simp) ?_
        simp only [Act.put, List.setIfInBounds_toArray, List.set_cons_zero, List.set_cons_succ]
        refine wpCalm_nil ?_
        refine fun b6 X hX => ?_
        have p6 := hX.get 13 b6 _ rfl rfl
        have hb := hX.below
        have h60 := p6.1
        have hg6 : V5.heap.size ≤ b6 := p6.2
        have HX0 := Lib.hid hb
        clear p6 hb hX
        simp only [ptr, Act.put, List.setIfInBounds_toArray, List.set_cons_zero, List.set_cons_succ]
        have hrow : (X.setRow b6 #[.int .i64 (m : Int), .int .i64 i, .slice B nb cb, .slice (some ⟨gR, oR, none⟩) s e]).heap[b6]? = some (.cells #[.int .i64 (m : Int), .int .i64 i, .slice B nb cb, .slice (some ⟨gR, oR, none⟩) s e] 31 (0, 0)) := by
          obtain ⟨hlt, hk⟩ := Array.getElem?_eq_some_iff.1 h60
          show (X.heap.modify b6 _)[b6]? = _
          rw [Array.getElem?_eq_getElem (by rw [Array.size_modify]; exact hlt), Array.getElem_modify_self, hk]
        refine wpList_skip0 rfl (X.setRow b6 #[.int .i64 (m : Int), .int .i64 i, .slice B nb cb, .slice (some ⟨gR, oR, none⟩) s e]) (exec_storeMb (x := .tmp 6) (y := .tmp 49) b6 _ _ _ _ _ _ _ _ _ _ _ _ rfl rfl rfl h60) ?_
        have F6 := Lib.hid hrow
        have HX6 := Lib.hid (bel_setRow HX0.out hg6 #[.int .i64 (m : Int), .int .i64 i, .slice B nb cb, .slice (some ⟨gR, oR, none⟩) s e])
        clear HX0 h60 hrow
        generalize X.setRow b6 #[.int .i64 (m : Int), .int .i64 i, .slice B nb cb, .slice (some ⟨gR, oR, none⟩) s e] = V6 at *
        refine wpList_nil ?_
        try simp only [ptr, Act.put, List.setIfInBounds_toArray, List.set_cons_zero, List.set_cons_succ]
        have HB6 := Lib.hid (bel_step HB5.out HX6.out)
        have e1 := cell_keep c1 HB6.out
        have e0 := cell_keep c0 HB6.out
        clear d1 d2 d3
        by_cases hlt : i < (m : Int)
        · skip
          go_upto_region 8 with fail
          refine wp_region_lit ?_
          refine wpList_run (by kernel_rfl) (.agg #[.int .i64 (m : Int), .int .i64 (i), .slice B nb cb, .slice (some ⟨gR, oR, none⟩) s e]) V6 (exec_loadMb _ _ _ _ _ rfl rfl F6.out) ?_
          simp only [Act.put, List.setIfInBounds_toArray, List.set_cons_zero, List.set_cons_succ]
          refine wpList_call (by kernel_rfl) 65 Tryd.func65 (by kernel_rfl) (by kernel_rfl) _ _ #[.agg #[.int .i64 (m : Int), .int .i64 (i), .slice B nb cb, .slice (some ⟨gR, oR, none⟩) s e]] rfl (by kernel_rfl) ?_
          refine (IH.out m (i) B nb cb b (some ⟨gR, oR, none⟩) s e P.dropLast V6 (HS.out.keep (bel_step HB1.out HB6.out)) hnb (HDL.out.keep (bel_step HB1.out HB6.out)) (by omega) (by omega) (by omega) (by omega) (by omega)).mono ?_
          rintro e2 V8 ⟨q1, t1, rfl, hq1, hsz1, hb⟩
          have hq1 : climbR K m (i) P.dropLast (lfN b) = (q1, t1) := hq1
          rw [HDE.out] at hq1
          have HQ1 := Lib.hid hq1
          have HB8 := Lib.hid (bel_step HB6.out hb)
          have HX8 := Lib.hid (bel_step HX6.out hb)
          clear hq1 hb
          refine ⟨_, rfl, ?_⟩
          simp only [Act.put, List.setIfInBounds_toArray, List.set_cons_zero, List.set_cons_succ]
          refine wpList_run (by kernel_rfl) (.tuple #[.agg (celB q1).toArray, .bool t1]) V8 (rfl) ?_
          simp only [Act.put, List.setIfInBounds_toArray, List.set_cons_zero, List.set_cons_succ]
          refine wpList_run (by kernel_rfl) (.agg (celB q1).toArray) V8 (rfl) ?_
          simp only [Act.put, List.setIfInBounds_toArray, List.set_cons_zero, List.set_cons_succ]
          refine wpList_run (by kernel_rfl) (.bool t1) V8 (rfl) ?_
          simp only [Act.put, List.setIfInBounds_toArray, List.set_cons_zero, List.set_cons_succ]
          refine wpList_decl z32 (celB q1).toArray 34 (by kernel_rfl) (run_allocD _ _ _ rfl) (fun _ => by kernel_rfl) (fun b W h0 => exec_storeD hsz1.1 List.length_replicate (show RowB W 34 b (List.replicate 32 0) from h0) rfl rfl rfl) ?_
          intro b7 V9 hge h7 hb
          have F7 := Lib.hid (show RowB V9 34 b7 q1 from h7)
          have HB9 := Lib.hid (bel_step HB8.out hb)
          have HX9 := Lib.hid (bel_step HX8.out hb)
          clear hge h7 hb
          simp only [ptr, Act.put, List.setIfInBounds_toArray, List.set_cons_zero, List.set_cons_succ]
          refine wpList_run (by kernel_rfl) (.bool t1) V9 (rfl) ?_
          simp only [Act.put, List.setIfInBounds_toArray, List.set_cons_zero, List.set_cons_succ]
          refine wpList_nil ?_
          have F59 := Lib.hid (F5.out.keep HX9.out)
          obtain ⟨z, hz⟩ : ∃ z, prN q1 la = z := ⟨_, rfl⟩
          have hz32 : z.length = 32 := by rw [← hz]; exact prN_length _ _
          have hzb : ∀ x ∈ z, x < 256 := by rw [← hz]; exact prN_lt _ _
          have HZ := Lib.hid (show shaN (1 :: (q1 ++ la)) = z from hz)
          have HCZ := Lib.hid (show climbR (K + 1) cnt i P d = (z, t1) by rw [HCR.out, if_pos hlt, HQ1.out]; exact congrArg (fun y => (y, t1)) hz)
          clear hz
          go_upto_region 9 with fail
          refine wp_region_lit ?_
          refine wpList_run (by kernel_rfl) (.agg (celB q1).toArray) V9 (exec_loadD hsz1.1 F7.out rfl rfl) ?_
          simp only [Act.put, List.setIfInBounds_toArray, List.set_cons_zero, List.set_cons_succ]
          refine wpList_run (by kernel_rfl) (.agg (celB la).toArray) V9 (exec_loadD hla32 F59.out rfl rfl) ?_
          simp only [Act.put, List.setIfInBounds_toArray, List.set_cons_zero, List.set_cons_succ]
          refine wpList_call (by kernel_rfl) 44 Tryd.func44 (by kernel_rfl) (by kernel_rfl) _ _ #[.agg (celB q1).toArray, .agg (celB la).toArray] rfl (by kernel_rfl) ?_
          refine (rpair_any q1 la V9 hsz1.1 hla32 hsz1.2 hlab z HZ.out).mono ?_
          rintro e2 V10 ⟨rfl, hb⟩
          have HB10 := Lib.hid (bel_step HB9.out hb)
          clear hb
          refine ⟨_, rfl, ?_⟩
          simp only [Act.put, List.setIfInBounds_toArray, List.set_cons_zero, List.set_cons_succ]
          refine wpList_run (by kernel_rfl) (.bool t1) V10 (rfl) ?_
          simp only [Act.put, List.setIfInBounds_toArray, List.set_cons_zero, List.set_cons_succ]
          have H2T := Lib.hid (H2.out.keep HB10.out)
          refine wpList_skip0 rfl _ (exec_storeD hz32 List.length_replicate H2T.out rfl rfl rfl) ?_
          refine wpList_val rfl (.bool t1) _ rfl ?_
          simp only [Act.put, List.setIfInBounds_toArray, List.set_cons_zero, List.set_cons_succ]
          refine wpList_nil ?_
          go_wp2_with fail
          refine bodyPost_ret (v := .tuple #[.agg (celB z).toArray, .bool t1]) ?_ rfl (RcP.mk z t1 HCZ.out ⟨hz32, hzb⟩ (bel_setRow (bel_step HB1.out HB10.out) (by have := HWB.out; omega) _))
          exact results_row_tmp rfl _ _ (b1 + 1) 34 _ (0, 0) _ _ rfl rfl (H2T.out.row z) Tryd.underlying34 rfl (dig_size hz32)
        · skip
          go_upto_region 10 with fail
          refine wp_region_lit ?_
          refine wpList_run (by kernel_rfl) (.pointer (some ⟨b1, 0, none⟩)) V6 (exec_fMb 0 b1 0 0 (by omega) rfl rfl rfl _) ?_
          simp only [Act.put, List.setIfInBounds_toArray, List.set_cons_zero, List.set_cons_succ]
          refine wpList_run (by kernel_rfl) (.int .i64 (cnt : Int)) V6 (exec_loadI8 _ _ e0 rfl rfl) ?_
          simp only [Act.put, List.setIfInBounds_toArray, List.set_cons_zero, List.set_cons_succ]
          refine wpList_run (by kernel_rfl) (.int .i64 (m : Int)) V6 (rfl) ?_
          simp only [Act.put, List.setIfInBounds_toArray, List.set_cons_zero, List.set_cons_succ]
          refine wpList_run (by kernel_rfl) (.int .i64 ((cnt - m : Nat) : Int)) V6 (exec_subI _ _ _ (by omega) (by omega) rfl rfl rfl _) ?_
          simp only [Act.put, List.setIfInBounds_toArray, List.set_cons_zero, List.set_cons_succ]
          refine wpList_run (by kernel_rfl) (.pointer (some ⟨b6, 0, none⟩)) V6 (exec_fMb 0 b6 0 0 (by omega) rfl rfl rfl _) ?_
          simp only [Act.put, List.setIfInBounds_toArray, List.set_cons_zero, List.set_cons_succ]
          refine wpList_run0 (by kernel_rfl) _ (exec_storeI b6 0 _ _ ((cnt - m : Nat) : Int) F6.out rfl rfl rfl rfl) ?_
          have G6 := Lib.hid (heap_setCell_at F6.out (i := 0) (.int .i64 ((cnt - m : Nat) : Int)))
          have HY6 := Lib.hid (Below.setCell HX6.out (p := ⟨b6, 0, none⟩) hg6 (.int .i64 ((cnt - m : Nat) : Int)))
          clear HX6 HB6 F6 e0 e1
          generalize V6.setCell ⟨b6, 0, none⟩ (.int .i64 ((cnt - m : Nat) : Int)) = V7 at *
          try simp only [Act.put, List.setIfInBounds_toArray, List.set_cons_zero, List.set_cons_succ]
          refine wpList_nil ?_
          have HB7 := Lib.hid (bel_step HB5.out HY6.out)
          have e1 := cell_keep c1 HB7.out
          go_upto_region 11 with fail
          refine wp_region_lit ?_
          refine wpList_run (by kernel_rfl) (.pointer (some ⟨b1, 1, none⟩)) V7 (exec_fMb 1 b1 0 1 (by omega) rfl rfl rfl _) ?_
          simp only [Act.put, List.setIfInBounds_toArray, List.set_cons_zero, List.set_cons_succ]
          refine wpList_run (by kernel_rfl) (.int .i64 i) V7 (exec_loadI8 _ _ e1 rfl rfl) ?_
          simp only [Act.put, List.setIfInBounds_toArray, List.set_cons_zero, List.set_cons_succ]
          refine wpList_run (by kernel_rfl) (.int .i64 (m : Int)) V7 (rfl) ?_
          simp only [Act.put, List.setIfInBounds_toArray, List.set_cons_zero, List.set_cons_succ]
          refine wpList_run (by kernel_rfl) (.int .i64 (i - (m : Int))) V7 (exec_subI _ _ _ rfl (by omega) rfl rfl rfl _) ?_
          simp only [Act.put, List.setIfInBounds_toArray, List.set_cons_zero, List.set_cons_succ]
          refine wpList_run (by kernel_rfl) (.pointer (some ⟨b6, 1, none⟩)) V7 (exec_fMb 1 b6 0 1 (by omega) rfl rfl rfl _) ?_
          simp only [Act.put, List.setIfInBounds_toArray, List.set_cons_zero, List.set_cons_succ]
          refine wpList_run0 (by kernel_rfl) _ (exec_storeI b6 1 _ _ (i - (m : Int)) G6.out rfl rfl rfl rfl) ?_
          have G7 := heap_setCell_at G6.out (i := 1) (.int .i64 (i - (m : Int)))
          have HY7 := Lib.hid (Below.setCell HY6.out (p := ⟨b6, 1, none⟩) hg6 (.int .i64 (i - (m : Int))))
          clear HY6 HB7 G6 e1
          generalize V7.setCell ⟨b6, 1, none⟩ (.int .i64 (i - (m : Int))) = V71 at *
          have F61 : Hid (V71.heap[b6]? = some (.cells #[.int .i64 ((cnt - m : Nat) : Int), .int .i64 (i - (m : Int)), .slice B nb cb, .slice (some ⟨gR, oR, none⟩) s e] 31 (0, 0))) := Lib.hid G7
          have HB71 := Lib.hid (bel_step HB5.out HY7.out)
          clear G7
          try simp only [Act.put, List.setIfInBounds_toArray, List.set_cons_zero, List.set_cons_succ]
          refine wpList_nil ?_
          go_upto_region 12 with fail
          refine wp_region_lit ?_
          refine wpList_run (by kernel_rfl) (.agg #[.int .i64 ((cnt - m : Nat) : Int), .int .i64 (i - (m : Int)), .slice B nb cb, .slice (some ⟨gR, oR, none⟩) s e]) V71 (exec_loadMb _ _ _ _ _ rfl rfl F61.out) ?_
          simp only [Act.put, List.setIfInBounds_toArray, List.set_cons_zero, List.set_cons_succ]
          refine wpList_call (by kernel_rfl) 65 Tryd.func65 (by kernel_rfl) (by kernel_rfl) _ _ #[.agg #[.int .i64 ((cnt - m : Nat) : Int), .int .i64 (i - (m : Int)), .slice B nb cb, .slice (some ⟨gR, oR, none⟩) s e]] rfl (by kernel_rfl) ?_
          refine (IH.out (cnt - m) (i - (m : Int)) B nb cb b (some ⟨gR, oR, none⟩) s e P.dropLast V71 (HS.out.keep (bel_step HB1.out HB71.out)) hnb (HDL.out.keep (bel_step HB1.out HB71.out)) (by omega) (by omega) (by omega) (by omega) (by omega)).mono ?_
          rintro e2 V8 ⟨q1, t1, rfl, hq1, hsz1, hb⟩
          have hq1 : climbR K (cnt - m) (i - (m : Int)) P.dropLast (lfN b) = (q1, t1) := hq1
          rw [HDE.out] at hq1
          have HQ1 := Lib.hid hq1
          have HB8 := Lib.hid (bel_step HB71.out hb)
          have HX8 := Lib.hid (bel_step HY7.out hb)
          clear hq1 hb
          refine ⟨_, rfl, ?_⟩
          simp only [Act.put, List.setIfInBounds_toArray, List.set_cons_zero, List.set_cons_succ]
          refine wpList_run (by kernel_rfl) (.tuple #[.agg (celB q1).toArray, .bool t1]) V8 (rfl) ?_
          simp only [Act.put, List.setIfInBounds_toArray, List.set_cons_zero, List.set_cons_succ]
          refine wpList_run (by kernel_rfl) (.agg (celB q1).toArray) V8 (rfl) ?_
          simp only [Act.put, List.setIfInBounds_toArray, List.set_cons_zero, List.set_cons_succ]
          refine wpList_run (by kernel_rfl) (.bool t1) V8 (rfl) ?_
          simp only [Act.put, List.setIfInBounds_toArray, List.set_cons_zero, List.set_cons_succ]
          refine wpList_decl z32 (celB q1).toArray 34 (by kernel_rfl) (run_allocD _ _ _ rfl) (fun _ => by kernel_rfl) (fun b W h0 => exec_storeD hsz1.1 List.length_replicate (show RowB W 34 b (List.replicate 32 0) from h0) rfl rfl rfl) ?_
          intro b7 V9 hge h7 hb
          have F7 := Lib.hid (show RowB V9 34 b7 q1 from h7)
          have HB9 := Lib.hid (bel_step HB8.out hb)
          have HX9 := Lib.hid (bel_step HX8.out hb)
          clear hge h7 hb
          simp only [ptr, Act.put, List.setIfInBounds_toArray, List.set_cons_zero, List.set_cons_succ]
          refine wpList_run (by kernel_rfl) (.bool t1) V9 (rfl) ?_
          simp only [Act.put, List.setIfInBounds_toArray, List.set_cons_zero, List.set_cons_succ]
          refine wpList_nil ?_
          have F59 := Lib.hid (F5.out.keep HX9.out)
          obtain ⟨z, hz⟩ : ∃ z, prN la q1 = z := ⟨_, rfl⟩
          have hz32 : z.length = 32 := by rw [← hz]; exact prN_length _ _
          have hzb : ∀ x ∈ z, x < 256 := by rw [← hz]; exact prN_lt _ _
          have HZ := Lib.hid (show shaN (1 :: (la ++ q1)) = z from hz)
          have HCZ := Lib.hid (show climbR (K + 1) cnt i P d = (z, t1) by rw [HCR.out, if_neg hlt, HQ1.out]; exact congrArg (fun y => (y, t1)) hz)
          clear hz
          go_upto_region 13 with fail
          refine wp_region_lit ?_
          refine wpList_run (by kernel_rfl) (.agg (celB la).toArray) V9 (exec_loadD hla32 F59.out rfl rfl) ?_
          simp only [Act.put, List.setIfInBounds_toArray, List.set_cons_zero, List.set_cons_succ]
          refine wpList_run (by kernel_rfl) (.agg (celB q1).toArray) V9 (exec_loadD hsz1.1 F7.out rfl rfl) ?_
          simp only [Act.put, List.setIfInBounds_toArray, List.set_cons_zero, List.set_cons_succ]
          refine wpList_call (by kernel_rfl) 44 Tryd.func44 (by kernel_rfl) (by kernel_rfl) _ _ #[.agg (celB la).toArray, .agg (celB q1).toArray] rfl (by kernel_rfl) ?_
          refine (rpair_any la q1 V9 hla32 hsz1.1 hlab hsz1.2 z HZ.out).mono ?_
          rintro e2 V10 ⟨rfl, hb⟩
          have HB10 := Lib.hid (bel_step HB9.out hb)
          clear hb
          refine ⟨_, rfl, ?_⟩
          simp only [Act.put, List.setIfInBounds_toArray, List.set_cons_zero, List.set_cons_succ]
          refine wpList_run (by kernel_rfl) (.bool t1) V10 (rfl) ?_
          simp only [Act.put, List.setIfInBounds_toArray, List.set_cons_zero, List.set_cons_succ]
          have H2T := Lib.hid (H2.out.keep HB10.out)
          refine wpList_skip0 rfl _ (exec_storeD hz32 List.length_replicate H2T.out rfl rfl rfl) ?_
          refine wpList_val rfl (.bool t1) _ rfl ?_
          simp only [Act.put, List.setIfInBounds_toArray, List.set_cons_zero, List.set_cons_succ]
          refine wpList_nil ?_
          go_wp2_with fail
          refine bodyPost_ret (v := .tuple #[.agg (celB z).toArray, .bool t1]) ?_ rfl (RcP.mk z t1 HCZ.out ⟨hz32, hzb⟩ (bel_setRow (bel_step HB1.out HB10.out) (by have := HWB.out; omega) _))
          exact results_row_tmp rfl _ _ (b1 + 1) 34 _ (0, 0) _ _ rfl rfl (H2T.out.row z) Tryd.underlying34 rfl (dig_size hz32)
end Go.Proofs.YtgkojdbepgonkaaDoor

/- The reference's Contains. -/
namespace Go.Proofs.YtgkojdbepgonkaaDoor
set_option linter.unusedVariables false
set_option linter.unusedSimpArgs false
set_option maxRecDepth 8000
open Go.RowKit
attribute [local simp] z32_ne z32_run
attribute [-simp] Tryd.zeroValue34 Tryd.isAgg34 Tryd.sizeOf34
theorem contains_climb {Ds ns : List (List Nat)} {N : Nat} {i : Int} {b q : List Nat} {t : Bool} (hN1 : 1 ≤ N) (h : climbR N N i ns (lfN b) = (q, t)) :
    (if ns.length ≠ (sibN 0 N i).length then false else decide (climbN i (sibN 0 N i) ns (lfN b) = bagN Ds)) = (t && decide (q = bagN Ds)) := by
  obtain ⟨h1, h2⟩ := climbR_climbN (lfN b) N hN1 N 0 i ns (Nat.le_refl _)
  rw [h] at h1 h2
  have e : (((0 : Nat) : Int) + i) = i := by omega
  rw [e] at h1 h2
  by_cases hl : ns.length = (sibN 0 N i).length
  · rw [if_neg (by simpa using hl)]
    have h3 := h2 hl
    simp only [] at h1 h3
    rw [h1, decide_eq_true hl, ← h3, Bool.true_and]
  · rw [if_pos hl]
    simp only [] at h1
    rw [h1, decide_eq_false hl, Bool.false_and]
attribute [local irreducible] wpList
set_option maxHeartbeats 4000000 in
theorem rcontains_any (A : Option Addr) (n c : Nat) (Ds : List (List Nat)) (cnt i : Int) (B : Option Addr) (nb cb : Nat) (b : List Nat) (R : Option Addr) (r e : Nat) (ns : List (List Nat)) (w : World) (hP : Db w A n c Ds) (hB : Sb w B nb cb b) (hD : Db w R r e ns) (hnb : nb ≤ 140737488351232) (hn : n ≤ 100000) (hr : r ≤ 100000) (V : Bool) (hV : containsN Ds cnt i b ns = V) :
    Calls Tryd.prog 16 #[.slice A n c, .agg #[.int .i64 cnt, .int .i64 i, .slice B nb cb, .slice R r e]] w fun e2 w' => e2 = .returned (.bool V) ∧ Below w.heap.size w w' := by
  have HP := Lib.hid hP
  have HB := Lib.hid hB
  have HD := Lib.hid hD
  have HV := Lib.hid hV
  have HK := Lib.hid (show n = Ds.length ∧ r = ns.length from ⟨hP.len, hD.len⟩)
  clear hP hB hD hV
  go_enter Tryd.func16, Tryd.ntmps16
  go_upto_region 1 with fail
  refine wp_named1 (fun w1 hb1 g0 hlt1 => ?_)
  have HB1 := Lib.hid hb1
  have H1 := Lib.hid g0
  have c0 := cells_at g0 0 (v := .int .i64 cnt) rfl
  have c1 := cells_at g0 1 (v := .int .i64 i) rfl
  clear hb1 g0
  by_cases h1 : cnt < 1
  · obtain rfl : V = false := by rw [← HV.out]; unfold containsN; rw [if_pos h1]
    go_wp2_with fail
    go_ret
    exact ⟨rfl, HB1.out⟩
  · by_cases h2 : 65536 < cnt
    · obtain rfl : V = false := by rw [← HV.out]; unfold containsN; rw [if_neg h1, if_pos h2]
      go_wp2_with fail
      go_ret
      exact ⟨rfl, HB1.out⟩
    · by_cases h3 : i < 0
      · obtain rfl : V = false := by rw [← HV.out]; unfold containsN; rw [if_neg h1, if_neg h2, if_pos h3]
        go_wp2_with fail
        go_ret
        exact ⟨rfl, HB1.out⟩
      · by_cases h4 : cnt ≤ i
        · obtain rfl : V = false := by rw [← HV.out]; unfold containsN; rw [if_neg h1, if_neg h2, if_neg h3, if_pos h4]
          go_wp2_with fail
          go_ret
          exact ⟨rfl, HB1.out⟩
        · obtain ⟨N, rfl⟩ : ∃ N : Nat, cnt = (N : Int) := ⟨cnt.toNat, by omega⟩
          have hN1 : 1 ≤ N := by omega
          have hN : N ≤ 65536 := by omega
          have hi0 : 0 ≤ i := by omega
          have hiN : i < (N : Int) := by omega
          have hV2 := HV.out
          unfold containsN at hV2
          rw [if_neg h1, if_neg h2, if_neg h3, if_neg h4, Int.toNat_natCast] at hV2
          obtain ⟨O, hO⟩ : ∃ O, onesN N = O := ⟨_, rfl⟩
          rw [hO, ← HK.out.1] at hV2
          have HO := Lib.hid hO
          have HV2 := Lib.hid hV2
          clear hO hV2 HV
          go_wp2_with fail
          refine (rones_any N w1 (by omega)).mono ?_
          rintro e2 W2 ⟨rfl, rfl⟩
          rw [HO.out]
          by_cases hon : O = n
          · subst hon
            have hV3 := HV2.out
            rw [if_neg (by simp)] at hV3
            have HV3 := Lib.hid hV3
            clear hV3
            go_upto_region 3 with fail
            refine wp_region_lit ?_
            refine wpList_run (by kernel_rfl) (.agg #[.int .i64 (N : Int), .int .i64 i, .slice B nb cb, .slice R r e]) W2 (exec_loadMb _ _ _ _ _ rfl rfl H1.out) ?_
            simp only [Act.put, List.setIfInBounds_toArray, List.set_cons_zero, List.set_cons_succ]
            refine wpList_call (by kernel_rfl) 65 Tryd.func65 (by kernel_rfl) (by kernel_rfl) _ _ #[.agg #[.int .i64 (N : Int), .int .i64 i, .slice B nb cb, .slice R r e]] rfl (by kernel_rfl) ?_
            refine (rclimb_any N N i B nb cb b R r e ns W2 (HB.out.keep HB1.out) hnb (HD.out.keep HB1.out) hr (Nat.le_refl _) hN1 hN ⟨hi0, hiN⟩).mono ?_
            rintro e2 V3 ⟨q, t, rfl, hq, hsz, hb⟩
            have hq : climbR N N i ns (lfN b) = (q, t) := hq
            have HVV := Lib.hid (show (t && decide (q = bagN Ds)) = V by rw [← contains_climb hN1 hq]; exact HV3.out)
            have HB3 := Lib.hid (bel_step HB1.out hb)
            clear hq hb HV3
            refine ⟨_, rfl, ?_⟩
            simp only [Act.put, List.setIfInBounds_toArray, List.set_cons_zero, List.set_cons_succ]
            refine wpList_run (by kernel_rfl) (.tuple #[.agg (celB q).toArray, .bool t]) V3 rfl ?_
            simp only [Act.put, List.setIfInBounds_toArray, List.set_cons_zero, List.set_cons_succ]
            refine wpList_run (by kernel_rfl) (.agg (celB q).toArray) V3 rfl ?_
            simp only [Act.put, List.setIfInBounds_toArray, List.set_cons_zero, List.set_cons_succ]
            refine wpList_run (by kernel_rfl) (.bool t) V3 rfl ?_
            simp only [Act.put, List.setIfInBounds_toArray, List.set_cons_zero, List.set_cons_succ]
            refine wpList_decl z32 (celB q).toArray 34 (by kernel_rfl) (run_allocD _ _ _ rfl) (fun _ => by kernel_rfl) (fun b W h0 => exec_storeD hsz.1 List.length_replicate (show RowB W 34 b (List.replicate 32 0) from h0) rfl rfl rfl) ?_
            intro b5 V4 hge h5 hb
            have F5 := Lib.hid (show RowB V4 34 b5 q from h5)
            have HB4 := Lib.hid (bel_step HB3.out hb)
            clear hge h5 hb
            simp only [ptr, Act.put, List.setIfInBounds_toArray, List.set_cons_zero, List.set_cons_succ]
            refine wpList_run (by kernel_rfl) (.bool t) V4 rfl ?_
            simp only [Act.put, List.setIfInBounds_toArray, List.set_cons_zero, List.set_cons_succ]
            refine wpList_nil ?_
            obtain ⟨bg, hbg⟩ : ∃ x, bagN Ds = x := ⟨_, rfl⟩
            have hbgs := bagN_size Ds HP.out.dig
            rw [hbg] at hbgs
            have HBG := Lib.hid hbg
            cases t with
            | false =>
              have hVf : V = false := by rw [← HVV.out]; rfl
              subst hVf
              go_upto_region 4 with fail
              refine Tl.wp_held_tailB 7 V4.heap.size (by kernel_rfl) (lexOK_of (by kernel_rfl) (by kernel_rfl)) (Tl.chainW_of (by kernel_rfl)) rfl (by kernel_rfl) (by kernel_rfl) (fun V5 hb hSW => ?_)
              simp only [List.take_succ_cons, List.take_zero]
              have HS5 := Lib.hid hSW
              have HB5 := Lib.hid (bel_step HB4.out hb)
              clear hb hSW
              refine wpHeld_seg 4 HS5.out (by kernel_rfl) ?_
              simp only [List.take_succ_cons, List.take_zero, List.drop_succ_cons, List.drop_zero]
              refine wpQuiet_val (by kernel_rfl) (.bool false) (fun v hv => rfl) ?_
              simp only [Act.put, List.setIfInBounds_toArray, List.set_cons_zero, List.set_cons_succ]
              refine wpQuiet_val (by kernel_rfl) (.bool false) (fun v hv => rfl) ?_
              simp only [Act.put, List.setIfInBounds_toArray, List.set_cons_zero, List.set_cons_succ]
              refine BigFrame.wpQuiet_skip (by kernel_rfl) ?_
              try simp only [Act.put, List.setIfInBounds_toArray, List.set_cons_zero, List.set_cons_succ]
              refine BigFrame.wpQuiet_skip (by kernel_rfl) ?_
              try simp only [Act.put, List.setIfInBounds_toArray, List.set_cons_zero, List.set_cons_succ]
              refine wpQuiet_nil ?_
              refine wpHeld_skip (by kernel_rfl) ?_
              try simp only [Act.put, List.setIfInBounds_toArray, List.set_cons_zero, List.set_cons_succ]
              refine wpHeld_seg 2 HS5.out (by kernel_rfl) ?_
              simp only [List.take_succ_cons, List.take_zero, List.drop_succ_cons, List.drop_zero]
              refine BigFrame.wpQuiet_skip (by kernel_rfl) ?_
              try simp only [Act.put, List.setIfInBounds_toArray, List.set_cons_zero, List.set_cons_succ]
              refine wpQuiet_val (by kernel_rfl) (.bool false) (fun v hv => rfl) ?_
              simp only [Act.put, List.setIfInBounds_toArray, List.set_cons_zero, List.set_cons_succ]
              refine wpQuiet_nil ?_
              refine wpHeld_nil ?_
              refine mOp_val (.bool false) rfl rfl rfl ?_
              go_wp2_with fail
              go_ret
              exact ⟨rfl, HB5.out⟩
            | true =>
              have HVt := Lib.hid (show decide (q = bg) = V by rw [← HVV.out, Bool.true_and, HBG.out])
              go_upto_region 4 with fail
              refine Tl.wp_held_tailB 7 V4.heap.size (by kernel_rfl) (lexOK_of (by kernel_rfl) (by kernel_rfl)) (Tl.chainW_of (by kernel_rfl)) rfl (by kernel_rfl) (by kernel_rfl) (fun V5 hb hSW => ?_)
              simp only [List.take_succ_cons, List.take_zero]
              have HS5 := Lib.hid hSW
              have HB5 := Lib.hid (bel_step HB4.out hb)
              have hz5 := hb.size
              clear hb hSW
              refine wpHeld_seg 4 HS5.out (by kernel_rfl) ?_
              simp only [List.take_succ_cons, List.take_zero, List.drop_succ_cons, List.drop_zero]
              refine wpQuiet_val (by kernel_rfl) (.bool true) (fun v hv => rfl) ?_
              simp only [Act.put, List.setIfInBounds_toArray, List.set_cons_zero, List.set_cons_succ]
              refine wpQuiet_val (by kernel_rfl) (.bool true) (fun v hv => rfl) ?_
              simp only [Act.put, List.setIfInBounds_toArray, List.set_cons_zero, List.set_cons_succ]
              refine wpQuiet_val (by kernel_rfl) (.agg (celB q).toArray) (fun v hv => exec_loadD hsz.1 (F5.out.keep (LaterB.of hv)) rfl rfl) ?_
              simp only [Act.put, List.setIfInBounds_toArray, List.set_cons_zero, List.set_cons_succ]
              refine wpQuiet_val (by kernel_rfl) (.slice A O c) (fun v hv => rfl) ?_
              simp only [Act.put, List.setIfInBounds_toArray, List.set_cons_zero, List.set_cons_succ]
              refine wpQuiet_nil ?_
              refine wpHeld_call 66 Tryd.func66 (by kernel_rfl) (by kernel_rfl) _ _ #[.slice A O c] rfl (by kernel_rfl) (by kernel_rfl) ?_
              refine (rbag_any A O c Ds V5 (HP.out.keep HB5.out) hn bg HBG.out).mono ?_
              rintro e2 V6 ⟨rfl, hb⟩
              have HB6 := Lib.hid (bel_step HB5.out hb)
              have HS6 := Lib.hid (LaterB.step HS5.out (hb.mono hz5))
              clear hb
              refine ⟨_, rfl, HS6.out, ?_⟩
              simp only [Act.put, List.setIfInBounds_toArray, List.set_cons_zero, List.set_cons_succ]
              refine wpHeld_seg 2 HS6.out (by kernel_rfl) ?_
              simp only [List.take_succ_cons, List.take_zero, List.drop_succ_cons, List.drop_zero]
              refine wpQuiet_val (by kernel_rfl) (.bool V) (fun v hv => exec_cmpD rfl rfl rfl (by rw [run_eqD v q bg hsz.1 hbgs.1 hsz.2 hbgs.2, HVt.out])) ?_
              simp only [Act.put, List.setIfInBounds_toArray, List.set_cons_zero, List.set_cons_succ]
              refine wpQuiet_val (by kernel_rfl) (.bool V) (fun v hv => rfl) ?_
              simp only [Act.put, List.setIfInBounds_toArray, List.set_cons_zero, List.set_cons_succ]
              refine wpQuiet_nil ?_
              refine wpHeld_nil ?_
              refine mOp_val (.bool V) rfl rfl rfl ?_
              go_wp2_with fail
              go_ret
              exact ⟨rfl, HB6.out⟩
          · have hon2 : ¬ ((O : Int) = (n : Int)) := by omega
            obtain rfl : V = false := by
              have h5 := HV2.out
              rw [if_pos hon] at h5
              exact h5.symm
            go_wp2_with fail
            go_ret
            exact ⟨rfl, HB1.out⟩
end Go.Proofs.YtgkojdbepgonkaaDoor
