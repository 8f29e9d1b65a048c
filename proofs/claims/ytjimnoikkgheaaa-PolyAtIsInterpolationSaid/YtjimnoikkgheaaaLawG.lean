/- Contract of a law of package poly; no conditions but the arguments' own. -/
import Derived.Test.YtjimnoikkgheaaaLawS
import Derived.Test.YtjimnoikkgheaaaLawO
set_option linter.unusedVariables false
namespace Go.Proofs.Ytjimnoikkgheaaa
open Go.RowKit Gold
variable {ops : Array Oper} {w0 : World}

set_option maxHeartbeats 16000000 in
set_option maxRecDepth 100000 in
theorem polyAtIsInterpolation_any (A0 : Option Addr) (na ca : Nat) (pa : List (Int × Int)) (B0 : Option Addr) (nb cb : Nat) (pb : List (Int × Int)) (x1 x2 : Int) (w : World) (ha : Sr w A0 na ca pa) (wa : Nums pa) (hb : Sr w B0 nb cb pb) (wb : Nums pb) (hx1 : U64 x1) (hx2 : U64 x2) :
    Calls Try.prog 7 #[.slice A0 na ca, .slice B0 nb cb, .agg #[.int .u64 x1, .int .u64 x2]] w fun e w' => e = .returned (.bool true) ∧ Below w.heap.size w w' := by
  have Pa0 := Lib.hid ha
  have Wa := Lib.hid wa
  clear ha wa
  have Pb0 := Lib.hid hb
  have Wb := Lib.hid wb
  clear hb wb
  go_enter Try.func7, Try.ntmps7
  go_wp2_with fail
  refine calls_named1 (fun V1 hbV g0 hzV => ?_)
  have X1q := Lib.hid (show Two V1 (w.heap.size) 25 (.int .u64 x1) (.int .u64 x2) from g0)
  have Pa2 := Lib.hid (Pa0.out.keep hbV)
  clear Pa0
  have Pb2 := Lib.hid (Pb0.out.keep hbV)
  clear Pb0
  have HB2 := Lib.hid hbV
  clear hbV hzV g0
  refine (sanity3_any _).mono ?_
  rintro e W3 ⟨rfl, hb⟩
  have Pa4 := Lib.hid (Pa2.out.keep hb)
  clear Pa2
  have Pb4 := Lib.hid (Pb2.out.keep hb)
  clear Pb2
  have X4 := Lib.hid (X1q.out.keep hb)
  clear X1q
  have HB4 := Lib.hid (below_step HB2.out hb)
  clear HB2
  clear hb
  go_wp2_with fail
  refine (rPExactly_any A0 na ca pa 6 _ Pa4.out Wa.out (by omega)).mono ?_
  rintro e W5 ⟨A1, c1, rfl, hs, hb⟩
  have Pa6 := Lib.hid (Pa4.out.keep hb)
  clear Pa4
  have Pb6 := Lib.hid (Pb4.out.keep hb)
  clear Pb4
  have X6 := Lib.hid (X4.out.keep hb)
  clear X4
  have HB6 := Lib.hid (below_step HB4.out hb)
  clear HB4
  clear hb
  have L1_7 := Lib.hid hs
  clear hs
  clear Pa6
  go_wp2_with fail
  refine (rPExactly_any B0 nb cb pb 6 _ Pb6.out Wb.out (by omega)).mono ?_
  rintro e W8 ⟨A2, c2, rfl, hs, hb⟩
  have Pb9 := Lib.hid (Pb6.out.keep hb)
  clear Pb6
  have X9 := Lib.hid (X6.out.keep hb)
  clear X6
  have L1_9 := Lib.hid (L1_7.out.keep hb)
  clear L1_7
  have HB9 := Lib.hid (below_step HB6.out hb)
  clear HB6
  clear hb
  have L2_10 := Lib.hid hs
  clear hs
  clear Pb9
  have tt := X9.out
  have c0 := tt.c0
  have c1 := tt.c1
  have c2 := tt.f0
  clear tt
  go_wp2_with fail
  clear c0 c1 c2
  refine (rMade_any x1 x2 _ hx1 hx2).mono ?_
  rintro e W12 ⟨rfl, hb⟩
  have X13 := Lib.hid (X9.out.keep hb)
  clear X9
  have L1_13 := Lib.hid (L1_9.out.keep hb)
  clear L1_9
  have L2_13 := Lib.hid (L2_10.out.keep hb)
  clear L2_10
  have HB13 := Lib.hid (below_step HB9.out hb)
  clear HB9
  clear hb
  generalize toE x1 x2 = y at *
  go_upto_region 5 with (fail)
  refine wp_named1 (fun V14 hbV g0 hzV => ?_)
  have Y14q := Lib.hid (show Two V14 (W12.heap.size) 25 (.int .u64 (vF (y).A)) (.int .u64 (vF (y).B)) from g0)
  have X15 := Lib.hid (X13.out.keep hbV)
  clear X13
  have L1_15 := Lib.hid (L1_13.out.keep hbV)
  clear L1_13
  have L2_15 := Lib.hid (L2_13.out.keep hbV)
  clear L2_13
  have HB15 := Lib.hid (below_step HB13.out hbV)
  clear HB13
  clear hbV hzV g0
  clear X15
  generalize (exactE pa 6) = xs at *
  have hlxs : xs.length ≤ 6 := by have := L1_15.out.len; omega
  have hexs := Lib.hid (show xs.length = 6 by have := L1_15.out.len; omega)
  have hxsc := L1_15.out.cap
  have hxst := L1_15.out.top
  generalize (exactE pb 6) = ys at *
  have hlys : ys.length ≤ 6 := by have := L2_15.out.len; omega
  have heys := Lib.hid (show ys.length = 6 by have := L2_15.out.len; omega)
  have hysc := L2_15.out.cap
  have hyst := L2_15.out.top
  go_upto_region 6 with (fail)
  refine wp_named (fun V => Below V14.heap.size V14 V) ((Below.refl _ _).alloc (Nat.le_refl _) _) (fun V hbV => ?_)
  have L1_16 := Lib.hid (L1_15.out.keep hbV)
  clear L1_15
  have L2_16 := Lib.hid (L2_15.out.keep hbV)
  clear L2_15
  have Y16 := Lib.hid (Y14q.out.keep hbV)
  clear Y14q
  have HB16 := Lib.hid (below_step HB15.out hbV)
  clear HB15
  clear hbV
  go_wp2_with (at_builtin; refine wpList_appendAny rfl (.tmp 23) (.tmp 24) rfl (V.heap.size) _ 0 [] rfl (OwE.made V V.heap.size (Nat.le_refl _)) A1 6 c1 xs rfl (L1_16.out.keep ((Below.refl _ _).alloc (Nat.le_refl _) _)) (by omega) (by simp) ?_; intro v1 w1 hown1 hg1; have HO1 := Lib.hid hown1; have HB1 := Lib.hid (below_grown (w0 := V) ((Below.refl _ _).alloc (Nat.le_refl _) _) hg1 (OwE.made V V.heap.size (Nat.le_refl _)) (Nat.le_refl _)); clear hown1 hg1)
  have HL1 := Lib.hid (show OwE w1 V.heap.size v1 6 xs by have := HO1.out; simpa using this)
  clear HO1
  go_loopw [11, 13] (fun v i wr => ∃ k : Nat, k ≤ 6 ∧ i = .int .i64 k ∧ OwZ wr w1.heap.size v k (sumX xs ys k) ∧ Below w1.heap.size w1 wr) (fun _ i _ => 6 - (intOf i).toNat)
  case atStart => exact ⟨0, Nat.zero_le _, rfl, OwZ.nil _ _ _, Below.refl _ _⟩
  case round =>
    obtain ⟨k, hk, rfl, ho, hbl⟩ := hrel
    have HO := Lib.hid ho
    have HBL := Lib.hid hbl
    clear ho hbl
    by_cases hlt : k < 6
    · skip
      obtain ⟨x, hx⟩ := L1_16.out.get hlt
      obtain ⟨ad, rfl, h0, h1⟩ := L1_16.out.at_ hx
      obtain ⟨z, hz⟩ := L2_16.out.get hlt
      obtain ⟨bd, rfl, h2, h3⟩ := L2_16.out.at_ hz
      have l0 := LaterB.cell (B := w1.heap.size) (cell_keep (cell_keep h0 HB1.out) HBL.out) (World.block_lt_of_cell? w1 _ (cell_keep h0 HB1.out))
      have l1 := LaterB.cell (B := w1.heap.size) (cell_keep (cell_keep h1 HB1.out) HBL.out) (World.block_lt_of_cell? w1 _ (cell_keep h1 HB1.out))
      have l2 := LaterB.cell (B := w1.heap.size) (cell_keep (cell_keep h2 HB1.out) HBL.out) (World.block_lt_of_cell? w1 _ (cell_keep h2 HB1.out))
      have l3 := LaterB.cell (B := w1.heap.size) (cell_keep (cell_keep h3 HB1.out) HBL.out) (World.block_lt_of_cell? w1 _ (cell_keep h3 HB1.out))
      have HX := Lib.hid hx
      have HZ := Lib.hid hz
      clear hx hz h0 h1 h2 h3
      have hk0 : (0 : Int) ≤ (k : Int) := by omega
      have hk1 : (k : Int) < (6 : Int) := by omega
      go_wp2_with fail
      refine wp_heldB (w1.heap.size) (by kernel_rfl) (lexOK_of (by kernel_rfl) (by kernel_rfl)) (chainOK_of (by kernel_rfl)) (fun W hbW hSW => ?_)
      have HO0 := Lib.hid (HO.out.keep hbW)
      have HB0 := Lib.hid (below_step HBL.out hbW)
      have HSW := Lib.hid hSW
      clear hbW hSW
      refine wpHeld_seg 9 HSW.out (by kernel_rfl) ?_
      simp only [List.take_succ_cons, List.take_zero, List.drop_succ_cons, List.drop_zero]
      repeat (go_big_quiet_step (fail))
      refine wpQuiet_nil ?_
      clear l0 l1 l2 l3
      refine wpHeld_call 37 Try.func37 (by kernel_rfl) (by kernel_rfl) _ _ #[.agg #[.int .u64 (vF x.A), .int .u64 (vF x.B)], .agg #[.int .u64 (vF z.A), .int .u64 (vF z.B)]] rfl (by kernel_rfl) (by kernel_rfl) ?_
      refine (rAdd_any x z _).mono ?_
      rintro e W1 ⟨rfl, hb1⟩
      have HO1 := Lib.hid (HO0.out.keep hb1)
      have HB2 := Lib.hid (below_step HB0.out hb1)
      have hz0 : w1.heap.size ≤ W.heap.size := HB0.out.size
      have hz1 : w1.heap.size ≤ W1.heap.size := HB2.out.size
      have HS1 := Lib.hid (LaterB.step HSW.out (hb1.mono hz0))
      clear hb1
      refine ⟨_, rfl, HS1.out, ?_⟩
      simp only [Act.put, List.setIfInBounds_toArray, List.set_cons_zero, List.set_cons_succ]
      have HS2 := Lib.hid (LaterB.step HS1.out ((Below.refl w1.heap.size W1).alloc hz1 (.cells #[.int .u64 (vF (x + z).A), .int .u64 (vF (x + z).B)] 25)))
      refine wpHeld_run _ _ (by kernel_rfl) (by kernel_rfl) (run_buildE (x + z) rfl rfl _) HS2.out ?_
      simp only [Act.put, List.setIfInBounds_toArray, List.set_cons_zero, List.set_cons_succ]
      have HOa := Lib.hid (HO1.out.keep ((Below.refl _ _).alloc (Nat.le_refl _) (.cells #[.int .u64 (vF (x + z).A), .int .u64 (vF (x + z).B)] 25)))
      have HTa := Lib.hid (Two.new W1 25 (.int .u64 (vF (x + z).A)) (.int .u64 (vF (x + z).B)))
      have HBa := Lib.hid (HB2.out.alloc HB2.out.size (.cells #[.int .u64 (vF (x + z).A), .int .u64 (vF (x + z).B)] 25))
      refine wpHeld_op (by kernel_rfl) (by kernel_rfl) ?_
      refine hOp_appendZ (.tmp 30) (.tmp 40) rfl (w1.heap.size) _ k _ rfl HOa.out W1.heap.size 1 (x + z) rfl HTa.out (by omega) (by simp; omega) ?_
      intro v3 w3 hown3 hg3
      have HO3 := Lib.hid hown3
      have HS3 := Lib.hid (LaterB.step HS2.out hg3)
      have HB3 := Lib.hid (HBa.out.trans hg3)
      clear hown3 hg3
      refine ⟨HS3.out, ?_⟩
      simp only [Act.put, List.setIfInBounds_toArray, List.set_cons_zero, List.set_cons_succ]
      refine wpHeld_seg 1 HS3.out (by kernel_rfl) ?_
      simp only [List.take_succ_cons, List.take_zero, List.drop_succ_cons, List.drop_zero]
      repeat (go_big_quiet_step (fail))
      refine wpQuiet_nil (wpHeld_nil ?_)
      go_wp2_with fail
      go_roundw
      case rel => exact ⟨k + 1, by omega, by go_num, by rw [sumX_succ, cfE_some HX.out, cfE_some HZ.out]; exact HO3.out, HB3.out⟩
      case measure => simp [intOf]; omega
    · skip
      obtain ⟨K6, rfl⟩ : ∃ K6 : Nat, K6 = k := ⟨_, rfl⟩
      have hk0 : K6 ≠ 0 := by omega
      have HK6 := Lib.hid (show K6 = 6 by omega)
      obtain ⟨gS, cS, rfl, hS1, hS2⟩ := (HO.out.own hk0).block hk0
      have HS := Lib.hid (HO.out.own hk0)
      clear HO
      have hcs := HS.out.sl'.cap
      have hct := HS.out.sl'.top
      have hbV1 := HB1.out.trans (HBL.out.mono HB1.out.size)
      have HBV := Lib.hid hbV1
      clear hbV1
      have HL := Lib.hid (HL1.out.keep HBL.out)
      have hgl : v1.ownBlock ≠ some gS := fun e => by have := (World.ownsRow.lt HL1.out _ e).2; omega
      have HGL := Lib.hid hgl
      clear hgl HL1 HBL
      go_wp2_with fail
      obtain ⟨wo, rfl⟩ : ∃ wo : World, wo = wr := ⟨_, rfl⟩
      go_loopw [12, 14] (fun v i wr => ∃ k : Nat, 6 ≤ k ∧ k ≤ 10 ∧ i = .int .i64 k ∧ OwE wr V.heap.size v k (longX xs k) ∧ wr.heap[gS]? = wo.heap[gS]? ∧ v.ownBlock ≠ some gS ∧ Below V.heap.size V wr ∧ gS < wr.heap.size) (fun _ i _ => 10 - (intOf i).toNat)
      case atStart => exact ⟨6, Nat.le_refl _, by omega, rfl, by rw [longX_start hexs.out]; exact HL.out, rfl, HGL.out, HBV.out, hS2⟩
      case round =>
        obtain ⟨k, hk6, hk, rfl, ho, hgs, hne, hbl, hgz⟩ := hrel
        have HO := Lib.hid ho
        clear ho
        have HGS := Lib.hid hgs
        clear hgs
        have HNE := Lib.hid hne
        clear hne
        by_cases hlt : k < 10
        · skip
          have L1_17 := Lib.hid (L1_16.out.keep hbl)
          clear L1_16
          have HB17 := Lib.hid hbl
          clear hbl
          go_wp2_with fail
          have HQ0 := Lib.hid (Below.refl wr.heap.size wr)
          refine (rFromNd_any (k : Int) _ (by omega) (by omega)).mono ?_
          rintro e W18 ⟨rfl, hb⟩
          have HQ1 := Lib.hid (below_step HQ0.out hb)
          have L1_19 := Lib.hid (L1_17.out.keep hb)
          clear L1_17
          have O19 := Lib.hid (HO.out.keep hb)
          clear HO
          have HB19 := Lib.hid (below_step HB17.out hb)
          clear HB17
          clear hb
          go_wp2_with fail
          refine (polyAt_any A1 6 c1 xs (ndZ (k : Int)) _ L1_19.out (by omega)).mono ?_
          rintro e W20 ⟨rfl, hb⟩
          have HQ2 := Lib.hid (below_step HQ1.out hb)
          have L1_21 := Lib.hid (L1_19.out.keep hb)
          clear L1_19
          have O21 := Lib.hid (O19.out.keep hb)
          clear O19
          have HB21 := Lib.hid (below_step HB19.out hb)
          clear HB19
          clear hb
          have hqs := HQ2.out.size
          go_wp2_with (at_builtin; refine wpList_appendW rfl (.tmp 46) (.tmp 51) rfl (V.heap.size) _ k _ rfl (O21.out.keep ((Below.refl _ _).alloc (Nat.le_refl _) _)) W20.heap.size 1 (atE xs (ndZ (k : Int))) rfl (Two.new W20 _ _ _) (by omega) (by have := HB21.out.size; simp; omega) ?_; intro v3 w3 hown3 hg3 hw3; have HO3 := Lib.hid hown3; have HSep := Lib.hid (sep_step hg3 hw3 HNE.out (by simp; omega)); have HB3 := Lib.hid (below_grown (w0 := V) (HB21.out.alloc HB21.out.size _) hg3 (O21.out.keep ((Below.refl _ _).alloc (Nat.le_refl _) _)) (Nat.le_refl _)); have HZ3 := Lib.hid (hg3.size); clear hown3 hg3 hw3)
          go_roundw
          case rel => exact ⟨k + 1, by omega, by omega, by go_num, by rw [longX_succ (by have := hexs.out; omega)]; exact HO3.out, HSep.out.1.trans (((HQ2.out.alloc HQ2.out.size _).block gS hgz).trans HGS.out), HSep.out.2, HB3.out, by have := HZ3.out; simp at this; omega⟩
          case measure => simp [intOf]; omega
        · skip
          obtain rfl : k = 10 := by omega
          have L1_22 := Lib.hid (L1_16.out.keep hbl)
          clear L1_16
          have L2_22 := Lib.hid (L2_16.out.keep hbl)
          clear L2_16
          have Y22 := Lib.hid (Y16.out.keep hbl)
          clear Y16
          have HB22 := Lib.hid (below_step HB16.out hbl)
          clear HB16
          clear hbl
          obtain ⟨AL, cL, rfl, hsL⟩ := HO.out.sl
          have LL_23 := Lib.hid hsL
          clear hsL
          clear HO HNE
          have hsS := (HS.out.same HGS.out).sl'
          have LS_24 := Lib.hid hsS
          clear hsS
          clear HS HGS
          have hat1 := Lib.hid (at_linear (hexs.out.trans HK6.out.symm) (heys.out.trans HK6.out.symm) (by omega) y)
          have hat2 := Lib.hid (at_long (n := 10) (by omega) (by omega) y : atE (longX xs 10) y = atE xs y)
          have hl10 : (longX xs 10).length ≤ 10 := by have := longX_length (xs := xs) (k := 10) (by omega); omega
          have hl6 : (sumX xs ys K6).length ≤ 6 := by have := sumX_length xs ys K6; omega
          go_upto_region 15 with (fail)
          have TY := Y22.out
          have lY0 := Later.cell TY.c0
          have lY1 := Later.cell TY.c1
          clear Y22
          try simp only [List.append_eq, List.cons_append, List.nil_append]
          refine wp_floatN (by kernel_rfl) (lexOK_of (by kernel_rfl) (by kernel_rfl)) (chainOF_of (by kernel_rfl)) (fun V25 hb hS => ?_)
          have L1_26 := Lib.hid (L1_22.out.keep hb)
          clear L1_22
          have L2_26 := Lib.hid (L2_22.out.keep hb)
          clear L2_22
          have LL_26 := Lib.hid (LL_23.out.keep hb)
          clear LL_23
          have LS_26 := Lib.hid (LS_24.out.keep hb)
          clear LS_24
          have HB26 := Lib.hid (below_step HB22.out hb)
          clear HB22
          clear hb
          have HS25' := Lib.hid hS
          clear hS
          refine wpF_seg 4 (by kernel_rfl) ?_
          simp only [List.take_succ_cons, List.take_zero, List.drop_succ_cons, List.drop_zero]
          repeat (go_big_quiet_step (fail))
          refine wpQuiet_nil ?_
          refine wpF_call 35 Try.func35 (by kernel_rfl) (by kernel_rfl) _ _ #[.slice A1 6 c1, .agg #[.int .u64 (vF (y).A), .int .u64 (vF (y).B)]] rfl (by kernel_rfl) (by kernel_rfl) HS25'.out (fun V27 hV => ?_)
          refine (polyAt_any A1 6 c1 xs y _ (L1_26.out.keep hV) (by omega)).mono ?_
          rintro e W27 ⟨rfl, hb⟩
          have hb2 := ext_trans hV hb
          have L1_28 := Lib.hid (L1_26.out.keep hb2)
          clear L1_26
          have L2_28 := Lib.hid (L2_26.out.keep hb2)
          clear L2_26
          have LL_28 := Lib.hid (LL_26.out.keep hb2)
          clear LL_26
          have LS_28 := Lib.hid (LS_26.out.keep hb2)
          clear LS_26
          have HB28 := Lib.hid (below_step HB26.out hb2)
          clear HB26
          have HS28 := Lib.hid (HS25'.out.ext hb2)
          clear HS25'
          refine ⟨_, rfl, hb, ?_⟩
          clear hb hb2 hV
          simp only [Act.put, List.setIfInBounds_toArray, List.set_cons_zero, List.set_cons_succ]
          refine wpF_seg 1 (by kernel_rfl) ?_
          simp only [List.take_succ_cons, List.take_zero, List.drop_succ_cons, List.drop_zero]
          repeat (go_big_quiet_step (fail))
          refine wpQuiet_nil ?_
          refine wpF_call 33 Try.func33 (by kernel_rfl) (by kernel_rfl) _ _ #[.slice A1 6 c1] rfl (by kernel_rfl) (by kernel_rfl) HS28.out (fun V29 hV => ?_)
          refine (polyInterp_any A1 6 c1 xs _ (L1_28.out.keep hV) (by omega)).mono ?_
          rintro e W29 ⟨A4, m4, c4, rfl, hm4, hs, hb⟩
          have hb2 := ext_trans hV hb
          have L1_30 := Lib.hid (L1_28.out.keep hb2)
          clear L1_28
          have L2_30 := Lib.hid (L2_28.out.keep hb2)
          clear L2_28
          have LL_30 := Lib.hid (LL_28.out.keep hb2)
          clear LL_28
          have LS_30 := Lib.hid (LS_28.out.keep hb2)
          clear LS_28
          have HB30 := Lib.hid (below_step HB28.out hb2)
          clear HB28
          have HS30 := Lib.hid (HS28.out.ext hb2)
          clear HS28
          have L4_31 := Lib.hid hs
          clear hs
          refine ⟨_, rfl, hb, ?_⟩
          clear hb hb2 hV
          simp only [Act.put, List.setIfInBounds_toArray, List.set_cons_zero, List.set_cons_succ]
          refine wpF_seg 1 (by kernel_rfl) ?_
          simp only [List.take_succ_cons, List.take_zero, List.drop_succ_cons, List.drop_zero]
          repeat (go_big_quiet_step (fail))
          refine wpQuiet_nil ?_
          refine wpF_call 27 Try.func27 (by kernel_rfl) (by kernel_rfl) _ _ #[.slice A4 m4 c4, .agg #[.int .u64 (vF (y).A), .int .u64 (vF (y).B)]] rfl (by kernel_rfl) (by kernel_rfl) HS30.out (fun V32 hV => ?_)
          refine (polyEval_any A4 m4 c4 (interpE xs) y _ (L4_31.out.keep hV)).mono ?_
          rw [evE_interpE]
          rintro e W32 ⟨rfl, hb⟩
          have hb2 := ext_trans hV hb
          have L1_33 := Lib.hid (L1_30.out.keep hb2)
          clear L1_30
          have L2_33 := Lib.hid (L2_30.out.keep hb2)
          clear L2_30
          have LL_33 := Lib.hid (LL_30.out.keep hb2)
          clear LL_30
          have LS_33 := Lib.hid (LS_30.out.keep hb2)
          clear LS_30
          have L4_33 := Lib.hid (L4_31.out.keep hb2)
          clear L4_31
          have HB33 := Lib.hid (below_step HB30.out hb2)
          clear HB30
          have HS33 := Lib.hid (HS30.out.ext hb2)
          clear HS30
          refine ⟨_, rfl, hb, ?_⟩
          clear hb hb2 hV
          simp only [Act.put, List.setIfInBounds_toArray, List.set_cons_zero, List.set_cons_succ]
          clear L4_33
          have hq62 := run_eqE_same ((atE xs y))
          refine wpF_seg 5 (by kernel_rfl) ?_
          simp only [List.take_succ_cons, List.take_zero, List.drop_succ_cons, List.drop_zero]
          repeat (go_big_quiet_step (fail))
          refine wpQuiet_nil ?_
          refine wpF_call 35 Try.func35 (by kernel_rfl) (by kernel_rfl) _ _ #[.slice (some ⟨gS, 0, none⟩) K6 cS, .agg #[.int .u64 (vF (y).A), .int .u64 (vF (y).B)]] rfl (by kernel_rfl) (by kernel_rfl) HS33.out (fun V34 hV => ?_)
          refine (polyAt_any (some ⟨gS, 0, none⟩) K6 cS (sumX xs ys K6) y _ (LS_33.out.keep hV) (by omega)).mono ?_
          rw [hat1.out]
          rintro e W34 ⟨rfl, hb⟩
          have hb2 := ext_trans hV hb
          have L1_35 := Lib.hid (L1_33.out.keep hb2)
          clear L1_33
          have L2_35 := Lib.hid (L2_33.out.keep hb2)
          clear L2_33
          have LL_35 := Lib.hid (LL_33.out.keep hb2)
          clear LL_33
          have LS_35 := Lib.hid (LS_33.out.keep hb2)
          clear LS_33
          have HB35 := Lib.hid (below_step HB33.out hb2)
          clear HB33
          have HS35 := Lib.hid (HS33.out.ext hb2)
          clear HS33
          refine ⟨_, rfl, hb, ?_⟩
          clear hb hb2 hV
          simp only [Act.put, List.setIfInBounds_toArray, List.set_cons_zero, List.set_cons_succ]
          clear LS_35
          refine wpF_seg 2 (by kernel_rfl) ?_
          simp only [List.take_succ_cons, List.take_zero, List.drop_succ_cons, List.drop_zero]
          repeat (go_big_quiet_step (fail))
          refine wpQuiet_nil ?_
          refine wpF_call 35 Try.func35 (by kernel_rfl) (by kernel_rfl) _ _ #[.slice A1 6 c1, .agg #[.int .u64 (vF (y).A), .int .u64 (vF (y).B)]] rfl (by kernel_rfl) (by kernel_rfl) HS35.out (fun V36 hV => ?_)
          refine (polyAt_any A1 6 c1 xs y _ (L1_35.out.keep hV) (by omega)).mono ?_
          rintro e W36 ⟨rfl, hb⟩
          have hb2 := ext_trans hV hb
          have L1_37 := Lib.hid (L1_35.out.keep hb2)
          clear L1_35
          have L2_37 := Lib.hid (L2_35.out.keep hb2)
          clear L2_35
          have LL_37 := Lib.hid (LL_35.out.keep hb2)
          clear LL_35
          have HB37 := Lib.hid (below_step HB35.out hb2)
          clear HB35
          have HS37 := Lib.hid (HS35.out.ext hb2)
          clear HS35
          refine ⟨_, rfl, hb, ?_⟩
          clear hb hb2 hV
          simp only [Act.put, List.setIfInBounds_toArray, List.set_cons_zero, List.set_cons_succ]
          refine wpF_seg 2 (by kernel_rfl) ?_
          simp only [List.take_succ_cons, List.take_zero, List.drop_succ_cons, List.drop_zero]
          repeat (go_big_quiet_step (fail))
          refine wpQuiet_nil ?_
          refine wpF_call 35 Try.func35 (by kernel_rfl) (by kernel_rfl) _ _ #[.slice A2 6 c2, .agg #[.int .u64 (vF (y).A), .int .u64 (vF (y).B)]] rfl (by kernel_rfl) (by kernel_rfl) HS37.out (fun V38 hV => ?_)
          refine (polyAt_any A2 6 c2 ys y _ (L2_37.out.keep hV) (by omega)).mono ?_
          rintro e W38 ⟨rfl, hb⟩
          have hb2 := ext_trans hV hb
          have L1_39 := Lib.hid (L1_37.out.keep hb2)
          clear L1_37
          have L2_39 := Lib.hid (L2_37.out.keep hb2)
          clear L2_37
          have LL_39 := Lib.hid (LL_37.out.keep hb2)
          clear LL_37
          have HB39 := Lib.hid (below_step HB37.out hb2)
          clear HB37
          have HS39 := Lib.hid (HS37.out.ext hb2)
          clear HS37
          refine ⟨_, rfl, hb, ?_⟩
          clear hb hb2 hV
          simp only [Act.put, List.setIfInBounds_toArray, List.set_cons_zero, List.set_cons_succ]
          clear L2_39
          refine wpF_call 37 Try.func37 (by kernel_rfl) (by kernel_rfl) _ _ #[.agg #[.int .u64 (vF ((atE xs y)).A), .int .u64 (vF ((atE xs y)).B)], .agg #[.int .u64 (vF ((atE ys y)).A), .int .u64 (vF ((atE ys y)).B)]] rfl (by kernel_rfl) (by kernel_rfl) HS39.out (fun V40 hV => ?_)
          refine (rAdd_any (atE xs y) (atE ys y) _).mono ?_
          rintro e W40 ⟨rfl, hb⟩
          have hb2 := ext_trans hV hb
          have L1_41 := Lib.hid (L1_39.out.keep hb2)
          clear L1_39
          have LL_41 := Lib.hid (LL_39.out.keep hb2)
          clear LL_39
          have HB41 := Lib.hid (below_step HB39.out hb2)
          clear HB39
          have HS41 := Lib.hid (HS39.out.ext hb2)
          clear HS39
          refine ⟨_, rfl, hb, ?_⟩
          clear hb hb2 hV
          simp only [Act.put, List.setIfInBounds_toArray, List.set_cons_zero, List.set_cons_succ]
          have hq75 := run_eqE_same (((atE xs y) + (atE ys y)))
          refine wpF_seg 5 (by kernel_rfl) ?_
          simp only [List.take_succ_cons, List.take_zero, List.drop_succ_cons, List.drop_zero]
          repeat (go_big_quiet_step (fail))
          refine wpQuiet_nil ?_
          refine wpF_call 35 Try.func35 (by kernel_rfl) (by kernel_rfl) _ _ #[.slice AL 10 cL, .agg #[.int .u64 (vF (y).A), .int .u64 (vF (y).B)]] rfl (by kernel_rfl) (by kernel_rfl) HS41.out (fun V42 hV => ?_)
          refine (polyAt_any AL 10 cL (longX xs 10) y _ (LL_41.out.keep hV) (by omega)).mono ?_
          rw [hat2.out]
          rintro e W42 ⟨rfl, hb⟩
          have hb2 := ext_trans hV hb
          have L1_43 := Lib.hid (L1_41.out.keep hb2)
          clear L1_41
          have LL_43 := Lib.hid (LL_41.out.keep hb2)
          clear LL_41
          have HB43 := Lib.hid (below_step HB41.out hb2)
          clear HB41
          have HS43 := Lib.hid (HS41.out.ext hb2)
          clear HS41
          refine ⟨_, rfl, hb, ?_⟩
          clear hb hb2 hV
          simp only [Act.put, List.setIfInBounds_toArray, List.set_cons_zero, List.set_cons_succ]
          clear LL_43
          refine wpF_seg 2 (by kernel_rfl) ?_
          simp only [List.take_succ_cons, List.take_zero, List.drop_succ_cons, List.drop_zero]
          repeat (go_big_quiet_step (fail))
          refine wpQuiet_nil ?_
          refine wpF_call 35 Try.func35 (by kernel_rfl) (by kernel_rfl) _ _ #[.slice A1 6 c1, .agg #[.int .u64 (vF (y).A), .int .u64 (vF (y).B)]] rfl (by kernel_rfl) (by kernel_rfl) HS43.out (fun V44 hV => ?_)
          refine (polyAt_any A1 6 c1 xs y _ (L1_43.out.keep hV) (by omega)).mono ?_
          rintro e W44 ⟨rfl, hb⟩
          have hb2 := ext_trans hV hb
          have L1_45 := Lib.hid (L1_43.out.keep hb2)
          clear L1_43
          have HB45 := Lib.hid (below_step HB43.out hb2)
          clear HB43
          have HS45 := Lib.hid (HS43.out.ext hb2)
          clear HS43
          refine ⟨_, rfl, hb, ?_⟩
          clear hb hb2 hV
          simp only [Act.put, List.setIfInBounds_toArray, List.set_cons_zero, List.set_cons_succ]
          clear L1_45
          have hq84 := run_eqE_same ((atE xs y))
          refine wpF_seg 3 (by kernel_rfl) ?_
          simp only [List.take_succ_cons, List.take_zero, List.drop_succ_cons, List.drop_zero]
          repeat (go_big_quiet_step (fail))
          refine wpQuiet_nil ?_
          refine wpF_nil (fun V46 hb => ?_)
          have HB47 := Lib.hid (below_step HB45.out hb)
          clear HB45
          clear hb
          go_wp2_with fail
          go_ret
          exact ⟨rfl, HB47.out⟩

end Go.Proofs.Ytjimnoikkgheaaa
