/- A law of stage 10: Bytes. -/
import Derived.Test.YtcaoajeplinopaaDoorH15
namespace Go.Proofs.YtcaoajeplinopaaDoor
set_option linter.unusedVariables false
set_option linter.unusedSimpArgs false
set_option maxRecDepth 8000
open Go.RowKit Gold
open Go.Shelf
attribute [local simp] z32_ne z32_run
attribute [-simp] Tryd.zeroValue30 Tryd.isAgg30 Tryd.sizeOf30
attribute [-simp] Tryd.zeroValue32 Tryd.isAgg32 Tryd.sizeOf32
attribute [local simp] z33_ne z33_run
attribute [local irreducible] wpList wpQuiet
theorem value_yes (A : Option Addr) (n c : Nat) (bs : List Nat) (o : Nat) (w : World) (h : Sb w A n c bs) (hn : o + 8 ≤ n) (x : Nat) (hx : leV bs o = x) : Calls Tryd.prog 31 #[.slice A n c, .int .i64 (o : Int)] w fun e w' => e = .returned (.int .u64 (x : Int)) ∧ w' = w := by
  subst hx
  exact value_any A n c bs o w h hn
set_option maxRecDepth 100000 in
set_option maxHeartbeats 16000000 in
theorem tBytes_any (A1 : Option Addr) (n1 c1 : Nat) (xs : List (Nat × Nat)) (A2 : Option Addr) (n2 c2 : Nat) (ys : List (Nat × Nat)) (w : World)
    (hS1 : XbT w A1 n1 c1 xs) (hS2 : XbT w A2 n2 c2 ys) (hG : Gl w) :
    Calls Tryd.prog 6 #[.slice A1 n1 c1, .slice A2 n2 c2] w fun e w' => e = .returned (.bool true) ∧ Below w.heap.size w w' := by
  have hcap1 := hS1.cap
  have htop1 := hS1.top
  have HS1 := Lib.hid hS1
  clear hS1
  have hcap2 := hS2.cap
  have htop2 := hS2.top
  have HS2 := Lib.hid hS2
  clear hS2
  have HG := Lib.hid hG
  clear hG
  obtain ⟨ma, hma⟩ : ∃ m, min n1 12 = m := ⟨_, rfl⟩
  obtain ⟨mb, hmb⟩ : ∃ m, min n2 12 = m := ⟨_, rfl⟩
  have hma1 : ma ≤ n1 := by omega
  have hmb1 : mb ≤ n2 := by omega
  have hma2 : ma ≤ 12 := by omega
  have hmb2 : mb ≤ 12 := by omega
  go_enter Tryd.func6, Tryd.ntmps6
  go_upto_region 1 with fail
  refine wp_region_lit ?_
  refine wpList_call (by kernel_rfl) 11 Tryd.func11 (by kernel_rfl) (by kernel_rfl) _ _ #[] rfl (by kernel_rfl) ?_
  refine (sanity10_any w HG.out).mono ?_
  rintro e V1 ⟨rfl, hb⟩
  have B0 := Lib.hid hb
  clear hb 
  refine ⟨_, rfl, ?_⟩
  simp only [Act.put, List.setIfInBounds_toArray, List.set_cons_zero, List.set_cons_succ]
  refine wpList_run (by kernel_rfl) (.bool true) V1 rfl ?_
  simp only [Act.put, List.setIfInBounds_toArray, List.set_cons_zero, List.set_cons_succ]
  refine wpList_nil ?_
  obtain ⟨Xa, hXa⟩ : ∃ l, (xs.take ma).map redX = l := ⟨_, rfl⟩
  obtain ⟨Xb, hXb⟩ : ∃ l, (ys.take mb).map redX = l := ⟨_, rfl⟩
  have HXA := Lib.hid (show ∀ x ∈ Xa, x.1 < 18446744073709551616 ∧ x.2 < 18446744073709551616 by rw [← hXa]; exact redX_lt)
  have HXB := Lib.hid (show ∀ x ∈ Xb, x.1 < 18446744073709551616 ∧ x.2 < 18446744073709551616 by rw [← hXb]; exact redX_lt)
  have HEA := Lib.hid hXa
  have HEB := Lib.hid hXb
  clear hXa hXb
  go_upto_region 2 with fail
  refine wp_floatP [0, 1, 2, 3, 4, 5, 6, 7, 8, 9, 10, 11, 12, 13] (l' := [_, _, _, _, _, _, _, _, _, _, _, _, _, _]) (by kernel_rfl) (lexOK_of (by kernel_rfl) (by kernel_rfl)) (ordOK_of (by kernel_rfl) (by kernel_rfl)) rfl rfl ?_
  simp only [List.getElem_toArray, List.getElem_cons_succ, List.getElem_cons_zero]
  intro V2 hb hSW
  have B1 := Lib.hid hb
  have HF2 := Lib.hid hSW
  clear hb hSW
  refine wpF_seg 5 (by kernel_rfl) ?_
  simp only [List.take_succ_cons, List.take_zero, List.drop_succ_cons, List.drop_zero]
  refine wpQuiet_val (by kernel_rfl) (.slice A1 n1 c1) (fun v hv => rfl) ?_
  simp only [Act.put, List.setIfInBounds_toArray, List.set_cons_zero, List.set_cons_succ]
  refine wpQuiet_val (by kernel_rfl) (.slice A1 n1 c1) (fun v hv => rfl) ?_
  simp only [Act.put, List.setIfInBounds_toArray, List.set_cons_zero, List.set_cons_succ]
  refine wpQuiet_val (by kernel_rfl) (.int .i64 (n1 : Int)) (fun v hv => (xo_len A1 n1 c1 Tryd.underlying23 rfl rfl)) ?_
  simp only [Act.put, List.setIfInBounds_toArray, List.set_cons_zero, List.set_cons_succ]
  refine wpQuiet_val (by kernel_rfl) (.int .i64 (ma : Int)) (fun v hv => (xo_min .i64 (n1 : Int) 12 (ma : Int) (by split <;> omega) rfl rfl rfl)) ?_
  simp only [Act.put, List.setIfInBounds_toArray, List.set_cons_zero, List.set_cons_succ]
  refine wpQuiet_val (by kernel_rfl) (.slice A1 ma c1) (fun v hv => (exec_cutX A1 n1 c1 ma (by omega) rfl rfl rfl v)) ?_
  simp only [Act.put, List.setIfInBounds_toArray, List.set_cons_zero, List.set_cons_succ]
  refine wpQuiet_nil ?_
  refine wpF_call 30 Tryd.func30 (by kernel_rfl) (by kernel_rfl) _ _ #[.slice A1 ma c1] rfl (by kernel_rfl) (by kernel_rfl) HF2.out (fun V3 hb => ?_)
  have B2 := Lib.hid hb
  have HF3 := Lib.hid (HF2.out.ext hb)
  clear hb
  have C0_2 := Lib.hid (bel_step B0.out B1.out)
  have C0_3 := Lib.hid (bel_step C0_2.out B2.out)
  refine (rmadeE_any A1 ma c1 (xs.take ma) V3 ((HS1.out.keep C0_3.out).take (k := ma) (by omega)) (by omega)).mono ?_
  rintro e V4 ⟨v, rfl, ho, hb⟩
  have B3 := Lib.hid hb
  have HF4 := Lib.hid (HF3.out.ext hb)
  rw [HEA.out] at ho
  obtain ⟨La, ka, rfl, hxa⟩ := OwX.xb ho HXA.out
  have HXa := Lib.hid hxa
  refine ⟨_, rfl, hb, ?_⟩
  clear hb hxa
  simp only [Act.put, List.setIfInBounds_toArray, List.set_cons_zero, List.set_cons_succ]
  refine wpF_seg 5 (by kernel_rfl) ?_
  simp only [List.take_succ_cons, List.take_zero, List.drop_succ_cons, List.drop_zero]
  refine wpQuiet_val (by kernel_rfl) (.slice A2 n2 c2) (fun v hv => rfl) ?_
  simp only [Act.put, List.setIfInBounds_toArray, List.set_cons_zero, List.set_cons_succ]
  refine wpQuiet_val (by kernel_rfl) (.slice A2 n2 c2) (fun v hv => rfl) ?_
  simp only [Act.put, List.setIfInBounds_toArray, List.set_cons_zero, List.set_cons_succ]
  refine wpQuiet_val (by kernel_rfl) (.int .i64 (n2 : Int)) (fun v hv => (xo_len A2 n2 c2 Tryd.underlying23 rfl rfl)) ?_
  simp only [Act.put, List.setIfInBounds_toArray, List.set_cons_zero, List.set_cons_succ]
  refine wpQuiet_val (by kernel_rfl) (.int .i64 (mb : Int)) (fun v hv => (xo_min .i64 (n2 : Int) 12 (mb : Int) (by split <;> omega) rfl rfl rfl)) ?_
  simp only [Act.put, List.setIfInBounds_toArray, List.set_cons_zero, List.set_cons_succ]
  refine wpQuiet_val (by kernel_rfl) (.slice A2 mb c2) (fun v hv => (exec_cutX A2 n2 c2 mb (by omega) rfl rfl rfl v)) ?_
  simp only [Act.put, List.setIfInBounds_toArray, List.set_cons_zero, List.set_cons_succ]
  refine wpQuiet_nil ?_
  refine wpF_call 30 Tryd.func30 (by kernel_rfl) (by kernel_rfl) _ _ #[.slice A2 mb c2] rfl (by kernel_rfl) (by kernel_rfl) HF4.out (fun V5 hb => ?_)
  have B4 := Lib.hid hb
  have HF5 := Lib.hid (HF4.out.ext hb)
  clear hb
  have C0_4 := Lib.hid (bel_step C0_3.out B3.out)
  have C0_5 := Lib.hid (bel_step C0_4.out B4.out)
  refine (rmadeE_any A2 mb c2 (ys.take mb) V5 ((HS2.out.keep C0_5.out).take (k := mb) (by omega)) (by omega)).mono ?_
  rintro e V6 ⟨v, rfl, ho, hb⟩
  have B5 := Lib.hid hb
  have HF6 := Lib.hid (HF5.out.ext hb)
  rw [HEB.out] at ho
  obtain ⟨Lb, kb, rfl, hxb⟩ := OwX.xb ho HXB.out
  have HXb := Lib.hid hxb
  refine ⟨_, rfl, hb, ?_⟩
  clear hb hxb
  simp only [Act.put, List.setIfInBounds_toArray, List.set_cons_zero, List.set_cons_succ]
  refine wpF_seg 2 (by kernel_rfl) ?_
  simp only [List.take_succ_cons, List.take_zero, List.drop_succ_cons, List.drop_zero]
  refine wpQuiet_val (by kernel_rfl) (.slice La ma ka) (fun v hv => rfl) ?_
  simp only [Act.put, List.setIfInBounds_toArray, List.set_cons_zero, List.set_cons_succ]
  refine wpQuiet_val (by kernel_rfl) (.slice Lb mb kb) (fun v hv => rfl) ?_
  simp only [Act.put, List.setIfInBounds_toArray, List.set_cons_zero, List.set_cons_succ]
  refine wpQuiet_nil ?_
  refine wpF_nil (fun V7 hb => ?_)
  have B6 := Lib.hid hb
  clear hb
  clear HF2
  clear HF3
  clear HF4
  clear HF5
  clear HF6
  clear hma hmb
  go_upto_region 3 with fail
  refine wp_region_lit ?_
  refine wpList_mk (by kernel_rfl) #[] 36 0 0 (xo_empty (size := 2) Tryd.underlying23 (by kernel_rfl) rfl V7) ?_
  intro g24 V8 hge h0 hb
  have B7 := Lib.hid hb
  have Ow24 : Hid (V8.ownsRow V7.heap.size 36 2 (.slice (some ⟨g24, 0, none⟩) 0 0) 0 (cellsX [])) := Lib.hid (own_new h0 hge)
  clear hge h0 hb
  simp only [ptr, Act.put, List.setIfInBounds_toArray, List.set_cons_zero, List.set_cons_succ]
  refine wpList_run (by kernel_rfl) (.slice La ma ka) V8 rfl ?_
  simp only [Act.put, List.setIfInBounds_toArray, List.set_cons_zero, List.set_cons_succ]
  have C4_6 := Lib.hid (bel_step B4.out B5.out)
  have C4_7 := Lib.hid (bel_step C4_6.out B6.out)
  have C4_8 := Lib.hid (bel_step C4_7.out B7.out)
  refine wpList_app (size := 2) (by kernel_rfl) (.tmp 24) (.tmp 25) 23 rfl (.agg #[.int .u64 0, .int .u64 0]) 16 Tryd.underlying23 (by kernel_rfl) rfl (by decide) rfl Ow24.out La ma ka (cellsX Xa) rfl (HXa.out.keep C4_8.out).src (by unfold maxLen; omega) (by omega) B7.out.size ?_
  intro v26 X8_0 ho hb1
  have hox : X8_0.ownsRow V7.heap.size 36 2 v26 ma (cellsX Xa) := by simpa [cellsX] using ho
  have hbr := B7.out.trans hb1
  clear B7
  have B7 := Lib.hid hbr
  clear hbr
  have Ow26 := Lib.hid hox
  clear ho hox hb1
  simp only [ptr, Act.put, List.setIfInBounds_toArray, List.set_cons_zero, List.set_cons_succ]
  refine wpList_run (by kernel_rfl) (v26) X8_0 rfl ?_
  simp only [Act.put, List.setIfInBounds_toArray, List.set_cons_zero, List.set_cons_succ]
  refine wpList_nil ?_
  go_upto_region 4 with fail
  refine wp_region_lit ?_
  refine wpList_run (by kernel_rfl) (v26) X8_0 rfl ?_
  simp only [Act.put, List.setIfInBounds_toArray, List.set_cons_zero, List.set_cons_succ]
  refine wpList_run (by kernel_rfl) (.slice Lb mb kb) X8_0 rfl ?_
  simp only [Act.put, List.setIfInBounds_toArray, List.set_cons_zero, List.set_cons_succ]
  have C6_8 := Lib.hid (bel_step B6.out B7.out)
  refine wpList_app (size := 2) (by kernel_rfl) (.tmp 27) (.tmp 28) 23 rfl (.agg #[.int .u64 0, .int .u64 0]) 16 Tryd.underlying23 (by kernel_rfl) rfl (by decide) rfl Ow26.out Lb mb kb (cellsX Xb) rfl (HXb.out.keep C6_8.out).src (by unfold maxLen; omega) (by omega) B7.out.size ?_
  intro v29 X8_1 ho hb1
  have hox : X8_1.ownsRow V7.heap.size 36 2 v29 (ma + mb) (cellsX (Xa ++ Xb)) := by rw [cellsX_append]; exact ho
  have hbr := B7.out.trans hb1
  clear B7
  have B7 := Lib.hid hbr
  clear hbr
  have Ow29 := Lib.hid hox
  clear ho hox hb1
  simp only [ptr, Act.put, List.setIfInBounds_toArray, List.set_cons_zero, List.set_cons_succ]
  refine wpList_run (by kernel_rfl) (v29) X8_1 rfl ?_
  simp only [Act.put, List.setIfInBounds_toArray, List.set_cons_zero, List.set_cons_succ]
  refine wpList_nil ?_
  have HAL := Lib.hid (show ∀ x ∈ Xa ++ Xb, x.1 < 18446744073709551616 ∧ x.2 < 18446744073709551616 from fun x hx => (List.mem_append.1 hx).elim (HXA.out x) (HXB.out x))
  obtain ⟨Lc, kc, hv, hxc⟩ := OwX.xb (show OwX X8_1 V7.heap.size v29 (ma + mb) (Xa ++ Xb) from Ow29.out) HAL.out
  subst hv
  have HXc := Lib.hid hxc
  clear hxc Ow29
  go_upto_region 5 with fail
  refine wp_region_lit ?_
  refine wpList_run (by kernel_rfl) (.slice Lc (ma + mb) kc) X8_1 rfl ?_
  simp only [Act.put, List.setIfInBounds_toArray, List.set_cons_zero, List.set_cons_succ]
  refine wpList_call (by kernel_rfl) 24 Tryd.func24 (by kernel_rfl) (by kernel_rfl) _ _ #[.slice Lc (ma + mb) kc] rfl (by kernel_rfl) ?_
  refine (bytes_any Lc (ma + mb) kc (Xa ++ Xb) X8_1 HXc.out (by omega)).mono ?_
  rintro e V9 ⟨v, rfl, ho, hb⟩
  have B8 := Lib.hid hb
  obtain ⟨Mc, jc, rfl, hbxc⟩ := OwB.sl ho
  have HBc := Lib.hid hbxc
  clear hb hbxc
  refine ⟨_, rfl, ?_⟩
  simp only [Act.put, List.setIfInBounds_toArray, List.set_cons_zero, List.set_cons_succ]
  refine wpList_run (by kernel_rfl) (.slice Mc (16 * (ma + mb)) jc) V9 rfl ?_
  simp only [Act.put, List.setIfInBounds_toArray, List.set_cons_zero, List.set_cons_succ]
  refine wpList_nil ?_
  obtain ⟨bc, hbc⟩ : ∃ l, extsN (Xa ++ Xb) = l := ⟨_, rfl⟩
  have HBC := Lib.hid hbc
  clear hbc
  go_upto_region 6 with fail
  refine wp_region_lit ?_
  refine wpList_run (by kernel_rfl) (.slice Mc (16 * (ma + mb)) jc) V9 rfl ?_
  simp only [Act.put, List.setIfInBounds_toArray, List.set_cons_zero, List.set_cons_succ]
  refine wpList_run (by kernel_rfl) (.int .i64 ((16 * (ma + mb) : Nat) : Int)) V9 (xo_len Mc (16 * (ma + mb)) jc Tryd.underlying22 rfl rfl) ?_
  simp only [Act.put, List.setIfInBounds_toArray, List.set_cons_zero, List.set_cons_succ]
  refine wpList_run (by kernel_rfl) (.slice Lc (ma + mb) kc) V9 rfl ?_
  simp only [Act.put, List.setIfInBounds_toArray, List.set_cons_zero, List.set_cons_succ]
  refine wpList_run (by kernel_rfl) (.int .i64 ((ma + mb : Nat) : Int)) V9 (xo_len Lc (ma + mb) kc Tryd.underlying23 rfl rfl) ?_
  simp only [Act.put, List.setIfInBounds_toArray, List.set_cons_zero, List.set_cons_succ]
  refine wpList_run (by kernel_rfl) (.int .i64 ((16 * (ma + mb) : Nat) : Int)) V9 (xo_mulI 16 ((ma + mb : Nat) : Int) ((16 * (ma + mb) : Nat) : Int) (by omega) (by omega) (by omega) rfl rfl rfl) ?_
  simp only [Act.put, List.setIfInBounds_toArray, List.set_cons_zero, List.set_cons_succ]
  refine wpList_run (by kernel_rfl) (.bool false) V9 (xo_neqF .i64 ((16 * (ma + mb) : Nat) : Int) ((16 * (ma + mb) : Nat) : Int) (by omega) rfl rfl rfl) ?_
  simp only [Act.put, List.setIfInBounds_toArray, List.set_cons_zero, List.set_cons_succ]
  refine wpList_nil ?_
  have C0_6 := Lib.hid (bel_step C0_5.out B5.out)
  have C0_7 := Lib.hid (bel_step C0_6.out B6.out)
  have C0_8 := Lib.hid (bel_step C0_7.out B7.out)
  have C0_9 := Lib.hid (bel_step C0_8.out B8.out)
  have HBW : Hid (Below w.heap.size w V9) := Lib.hid C0_9.out
  have ZHXc := Lib.hid (HXc.out.keep B8.out)
  have ZHBc := Lib.hid HBc.out
  have C4_8 := Lib.hid (bel_step C4_7.out B7.out)
  have C4_9 := Lib.hid (bel_step C4_8.out B8.out)
  have ZHXa := Lib.hid (HXa.out.keep C4_9.out)
  have C6_8 := Lib.hid (bel_step B6.out B7.out)
  have C6_9 := Lib.hid (bel_step C6_8.out B8.out)
  have ZHXb := Lib.hid (HXb.out.keep C6_9.out)
  have ZHG := Lib.hid (HG.out.keep C0_9.out)
  have htc := ZHXc.out.top
  have hcc := ZHXc.out.cap
  generalize V9 = U at *
  go_wp2_with fail
  go_loopw [10] (fun s wr => ∃ i : Nat, i ≤ ma + mb ∧ s = .int .i64 i ∧ Below U.heap.size U wr) (fun s _ => (ma + mb) - (intOf s).toNat)
  case atStart => exact ⟨0, Nat.zero_le _, rfl, Below.refl _ _⟩
  case round =>
    obtain ⟨wo, rfl⟩ : ∃ wo : World, wo = wr := ⟨_, rfl⟩
    obtain ⟨i, hi, rfl, hb⟩ := hrel
    have B0 := Lib.hid hb
    clear hb
    by_cases hlt : i < ma + mb
    · have hk1 : (i : Int) < ((ma + mb : Nat) : Int) := by omega
      have hk0 : (0 : Int) ≤ (i : Int) := by omega
      obtain ⟨x, hx⟩ : ∃ x, (Xa ++ Xb)[i]? = some x := ⟨_, List.getElem?_eq_getElem (by have := ZHXc.out.len; omega)⟩
      have hxl := HAL.out x (List.mem_of_getElem? hx)
      have HA := Lib.hid (extsN_A hx hxl.1)
      have HB := Lib.hid (extsN_B hx hxl.2)
      obtain ⟨ad, eA, hc0, hc1⟩ := (ZHXc.out.keep B0.out).cells i x hx
      subst eA
      obtain ⟨x0, x1⟩ := x
      simp only at hc0 hc1 HA HB hxl
      have C0 := Lib.hid hc0
      have C1 := Lib.hid hc1
      clear hc0 hc1 hx
      go_upto_region 11 with fail
      try simp only [List.append_eq, List.cons_append, List.nil_append]
      refine Tl.wp_held_tailB 22 wo.heap.size (by kernel_rfl) (lexOK_of (by kernel_rfl) (by kernel_rfl)) (Tl.chainW_of (by kernel_rfl)) rfl (by kernel_rfl) (by kernel_rfl) (fun V2 hb hSW => ?_)
      simp only [List.take_succ_cons, List.take_zero]
      have HS2 := Lib.hid hSW
      have B1 := Lib.hid hb
      clear hb hSW
      refine wpHeld_seg 3 HS2.out (by kernel_rfl) ?_
      simp only [List.take_succ_cons, List.take_zero, List.drop_succ_cons, List.drop_zero]
      refine wpQuiet_val (by kernel_rfl) (.slice Mc (16 * (ma + mb)) jc) (fun v hv => rfl) ?_
      simp only [Act.put, List.setIfInBounds_toArray, List.set_cons_zero, List.set_cons_succ]
      refine wpQuiet_val (by kernel_rfl) (.int .i64 (i : Int)) (fun v hv => rfl) ?_
      simp only [Act.put, List.setIfInBounds_toArray, List.set_cons_zero, List.set_cons_succ]
      refine wpQuiet_val (by kernel_rfl) (.int .i64 ((16 * i : Nat) : Int)) (fun v hv => (xo_mulI 16 (i : Int) ((16 * i : Nat) : Int) (by omega) (by omega) (by omega) rfl rfl rfl)) ?_
      simp only [Act.put, List.setIfInBounds_toArray, List.set_cons_zero, List.set_cons_succ]
      refine wpQuiet_nil ?_
      have C0_2 := Lib.hid (bel_step B0.out B1.out)
      refine wpHeld_call 31 Tryd.func31 (by kernel_rfl) (by kernel_rfl) _ _ #[.slice Mc (16 * (ma + mb)) jc, .int .i64 ((16 * i : Nat) : Int)] rfl (by kernel_rfl) (by kernel_rfl) ?_
      refine (value_yes Mc (16 * (ma + mb)) jc (extsN (Xa ++ Xb)) (16 * i) V2 (ZHBc.out.keep C0_2.out) (by omega) x0 HA.out).mono ?_
      rintro e W1 ⟨rfl, hw1⟩
      rw [hw1]
      clear hw1 W1
      refine ⟨_, rfl, HS2.out, ?_⟩
      simp only [Act.put, List.setIfInBounds_toArray, List.set_cons_zero, List.set_cons_succ]
      refine wpHeld_seg 11 HS2.out (by kernel_rfl) ?_
      simp only [List.take_succ_cons, List.take_zero, List.drop_succ_cons, List.drop_zero]
      refine wpQuiet_val (by kernel_rfl) (.slice (some ad) (ma + mb) kc) (fun v hv => rfl) ?_
      simp only [Act.put, List.setIfInBounds_toArray, List.set_cons_zero, List.set_cons_succ]
      refine wpQuiet_val (by kernel_rfl) (.int .i64 (i : Int)) (fun v hv => rfl) ?_
      simp only [Act.put, List.setIfInBounds_toArray, List.set_cons_zero, List.set_cons_succ]
      refine wpQuiet_val (by kernel_rfl) (.pointer (some (ad.add (i * 2)))) (fun v hv => (exec_idxT10 ad (ma + mb) kc i (by omega) rfl rfl rfl v)) ?_
      simp only [Act.put, List.setIfInBounds_toArray, List.set_cons_zero, List.set_cons_succ]
      refine wpQuiet_val (by kernel_rfl) (.pointer (some (ad.add (i * 2)))) (fun v hv => (exec_fA0 (ad.add (i * 2)) rfl rfl v)) ?_
      simp only [Act.put, List.setIfInBounds_toArray, List.set_cons_zero, List.set_cons_succ]
      refine wpQuiet_val (by kernel_rfl) (.int .u64 ((x0 : Nat) : Int)) (fun v hv => (xo_load1 (ad.add (i * 2)) _ (cell_keep C0.out (LaterB.of hv)) Tryd.underlying25 rfl rfl rfl)) ?_
      simp only [Act.put, List.setIfInBounds_toArray, List.set_cons_zero, List.set_cons_succ]
      refine wpQuiet_val (by kernel_rfl) (.bool false) (fun v hv => (xo_neqF .u64 (x0 : Int) (x0 : Int) (by omega) rfl rfl rfl)) ?_
      simp only [Act.put, List.setIfInBounds_toArray, List.set_cons_zero, List.set_cons_succ]
      refine wpQuiet_val (by kernel_rfl) (.bool false) (fun v hv => rfl) ?_
      simp only [Act.put, List.setIfInBounds_toArray, List.set_cons_zero, List.set_cons_succ]
      refine wpQuiet_val (by kernel_rfl) (.slice Mc (16 * (ma + mb)) jc) (fun v hv => rfl) ?_
      simp only [Act.put, List.setIfInBounds_toArray, List.set_cons_zero, List.set_cons_succ]
      refine wpQuiet_val (by kernel_rfl) (.int .i64 (i : Int)) (fun v hv => rfl) ?_
      simp only [Act.put, List.setIfInBounds_toArray, List.set_cons_zero, List.set_cons_succ]
      refine wpQuiet_val (by kernel_rfl) (.int .i64 ((16 * i : Nat) : Int)) (fun v hv => (xo_mulI 16 (i : Int) ((16 * i : Nat) : Int) (by omega) (by omega) (by omega) rfl rfl rfl)) ?_
      simp only [Act.put, List.setIfInBounds_toArray, List.set_cons_zero, List.set_cons_succ]
      refine wpQuiet_val (by kernel_rfl) (.int .i64 ((16 * i + 8 : Nat) : Int)) (fun v hv => (xo_addI ((16 * i : Nat) : Int) 8 ((16 * i + 8 : Nat) : Int) (by omega) (by omega) (by omega) rfl rfl rfl)) ?_
      simp only [Act.put, List.setIfInBounds_toArray, List.set_cons_zero, List.set_cons_succ]
      refine wpQuiet_nil ?_
      refine wpHeld_call 31 Tryd.func31 (by kernel_rfl) (by kernel_rfl) _ _ #[.slice Mc (16 * (ma + mb)) jc, .int .i64 ((16 * i + 8 : Nat) : Int)] rfl (by kernel_rfl) (by kernel_rfl) ?_
      refine (value_yes Mc (16 * (ma + mb)) jc (extsN (Xa ++ Xb)) (16 * i + 8) V2 (ZHBc.out.keep C0_2.out) (by omega) x1 HB.out).mono ?_
      rintro e W1 ⟨rfl, hw1⟩
      rw [hw1]
      clear hw1 W1
      refine ⟨_, rfl, HS2.out, ?_⟩
      simp only [Act.put, List.setIfInBounds_toArray, List.set_cons_zero, List.set_cons_succ]
      refine wpHeld_seg 6 HS2.out (by kernel_rfl) ?_
      simp only [List.take_succ_cons, List.take_zero, List.drop_succ_cons, List.drop_zero]
      refine wpQuiet_val (by kernel_rfl) (.slice (some ad) (ma + mb) kc) (fun v hv => rfl) ?_
      simp only [Act.put, List.setIfInBounds_toArray, List.set_cons_zero, List.set_cons_succ]
      refine wpQuiet_val (by kernel_rfl) (.int .i64 (i : Int)) (fun v hv => rfl) ?_
      simp only [Act.put, List.setIfInBounds_toArray, List.set_cons_zero, List.set_cons_succ]
      refine wpQuiet_val (by kernel_rfl) (.pointer (some (ad.add (i * 2)))) (fun v hv => (exec_idxT10 ad (ma + mb) kc i (by omega) rfl rfl rfl v)) ?_
      simp only [Act.put, List.setIfInBounds_toArray, List.set_cons_zero, List.set_cons_succ]
      refine wpQuiet_val (by kernel_rfl) (.pointer (some ⟨(ad.add (i * 2)).block, (ad.add (i * 2)).off + 1, none⟩)) (fun v hv => (exec_fA1 (ad.add (i * 2)) rfl rfl v)) ?_
      simp only [Act.put, List.setIfInBounds_toArray, List.set_cons_zero, List.set_cons_succ]
      refine wpQuiet_val (by kernel_rfl) (.int .u64 ((x1 : Nat) : Int)) (fun v hv => (xo_load1 ⟨(ad.add (i * 2)).block, (ad.add (i * 2)).off + 1, none⟩ _ (cell_keep C1.out (LaterB.of hv)) Tryd.underlying25 rfl rfl rfl)) ?_
      simp only [Act.put, List.setIfInBounds_toArray, List.set_cons_zero, List.set_cons_succ]
      refine wpQuiet_val (by kernel_rfl) (.bool false) (fun v hv => (xo_neqF .u64 (x1 : Int) (x1 : Int) (by omega) rfl rfl rfl)) ?_
      simp only [Act.put, List.setIfInBounds_toArray, List.set_cons_zero, List.set_cons_succ]
      refine wpQuiet_nil ?_
      refine wpHeld_nil ?_
      refine mOp_val (.bool false) rfl rfl rfl ?_
      try simp only [ptr, Act.put, List.setIfInBounds_toArray, List.set_cons_zero, List.set_cons_succ]
      go_wp2_with fail
      refine ⟨?_, ?measure⟩
      (repeat apply Exists.intro)
      refine ⟨?rel, rfl⟩
      case rel => exact ⟨i + 1, by omega, by go_num, C0_2.out⟩
      case measure => simp [intOf]; omega
    · obtain rfl : i = ma + mb := by omega
      have hk1 : ¬ ((ma + mb : Nat) : Int) < ((ma + mb : Nat) : Int) := by omega
      go_upto_region 13 with fail
      refine wp_region_lit ?_
      refine wpList_run (by kernel_rfl) (.slice Mc (16 * (ma + mb)) jc) wo rfl ?_
      simp only [Act.put, List.setIfInBounds_toArray, List.set_cons_zero, List.set_cons_succ]
      refine wpList_run (by kernel_rfl) (.slice La ma ka) wo rfl ?_
      simp only [Act.put, List.setIfInBounds_toArray, List.set_cons_zero, List.set_cons_succ]
      refine wpList_call (by kernel_rfl) 24 Tryd.func24 (by kernel_rfl) (by kernel_rfl) _ _ #[.slice La ma ka] rfl (by kernel_rfl) ?_
      refine (bytes_any La ma ka Xa wo (ZHXa.out.keep B0.out) (by omega)).mono ?_
      rintro e V2 ⟨v, rfl, ho, hb⟩
      have B1 := Lib.hid hb
      obtain ⟨Ma, ja, rfl, hbxa⟩ := OwB.sl ho
      have HBa := Lib.hid hbxa
      clear hb hbxa
      refine ⟨_, rfl, ?_⟩
      simp only [Act.put, List.setIfInBounds_toArray, List.set_cons_zero, List.set_cons_succ]
      refine wpList_run (by kernel_rfl) (.slice Lb mb kb) V2 rfl ?_
      simp only [Act.put, List.setIfInBounds_toArray, List.set_cons_zero, List.set_cons_succ]
      have C0_2 := Lib.hid (bel_step B0.out B1.out)
      refine wpList_call (by kernel_rfl) 24 Tryd.func24 (by kernel_rfl) (by kernel_rfl) _ _ #[.slice Lb mb kb] rfl (by kernel_rfl) ?_
      refine (bytes_any Lb mb kb Xb V2 (ZHXb.out.keep C0_2.out) (by omega)).mono ?_
      rintro e V3 ⟨v, rfl, ho, hb⟩
      have B2 := Lib.hid hb
      obtain ⟨Mb, jb, rfl, hbxb⟩ := OwB.sl ho
      have HBb := Lib.hid hbxb
      clear hb hbxb
      refine ⟨_, rfl, ?_⟩
      simp only [Act.put, List.setIfInBounds_toArray, List.set_cons_zero, List.set_cons_succ]
      refine wpList_call (by kernel_rfl) 32 Tryd.func32 (by kernel_rfl) (by kernel_rfl) _ _ #[.slice Ma (16 * ma) ja, .slice Mb (16 * mb) jb] rfl (by kernel_rfl) ?_
      refine (rjoin_any Ma (16 * ma) ja (extsN Xa) Mb (16 * mb) jb (extsN Xb) V3 (HBa.out.keep B2.out) HBb.out (by omega)).mono ?_
      rintro e V4 ⟨CJ3_2, fJ3_2, rfl, hs, hb⟩
      have B3 := Lib.hid hb
      have J3_2 := Lib.hid hs
      clear hb hs
      refine ⟨_, rfl, ?_⟩
      simp only [Act.put, List.setIfInBounds_toArray, List.set_cons_zero, List.set_cons_succ]
      have C0_3 := Lib.hid (bel_step C0_2.out B2.out)
      have C0_4 := Lib.hid (bel_step C0_3.out B3.out)
      refine wpList_call (by kernel_rfl) 23 Tryd.func23 (by kernel_rfl) (by kernel_rfl) _ _ #[.slice Mc (16 * (ma + mb)) jc, .slice CJ3_2 ((16 * ma) + (16 * mb)) fJ3_2] rfl (by kernel_rfl) ?_
      refine (rsame_yes Mc (16 * (ma + mb)) jc CJ3_2 ((16 * ma) + (16 * mb)) fJ3_2 (extsN (Xa ++ Xb)) V4 (ZHBc.out.keep C0_4.out) (J3_2.out.cast (extsN_append Xa Xb).symm)).mono ?_
      rintro e V5 ⟨rfl, hb⟩
      have B4 := Lib.hid hb
      clear hb 
      refine ⟨_, rfl, ?_⟩
      simp only [Act.put, List.setIfInBounds_toArray, List.set_cons_zero, List.set_cons_succ]
      refine wpList_run (by kernel_rfl) (.bool true) V5 rfl ?_
      simp only [Act.put, List.setIfInBounds_toArray, List.set_cons_zero, List.set_cons_succ]
      refine wpList_run (by kernel_rfl) (.bool true) V5 rfl ?_
      simp only [Act.put, List.setIfInBounds_toArray, List.set_cons_zero, List.set_cons_succ]
      refine wpList_run (by kernel_rfl) (.bool true) V5 rfl ?_
      simp only [Act.put, List.setIfInBounds_toArray, List.set_cons_zero, List.set_cons_succ]
      refine wpList_run (by kernel_rfl) (.bool true) V5 rfl ?_
      simp only [Act.put, List.setIfInBounds_toArray, List.set_cons_zero, List.set_cons_succ]
      refine wpList_nil ?_
      go_wp2_with fail
      go_ret
      have C0_5 := Lib.hid (bel_step C0_4.out B4.out)
      exact ⟨rfl, bel_step HBW.out C0_5.out⟩
end Go.Proofs.YtcaoajeplinopaaDoor
