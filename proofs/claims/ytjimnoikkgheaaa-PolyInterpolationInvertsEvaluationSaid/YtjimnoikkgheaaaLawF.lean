/- Contract of a law of package poly; no conditions but the arguments' own. -/
import Derived.Test.YtjimnoikkgheaaaLawS
import Derived.Test.YtjimnoikkgheaaaLawN
set_option linter.unusedVariables false
namespace Go.Proofs.Ytjimnoikkgheaaa
open Go.RowKit Gold
variable {ops : Array Oper} {w0 : World}

set_option maxHeartbeats 16000000 in
set_option maxRecDepth 100000 in
theorem polyInterpolationInvertsEvaluation_any (A0 : Option Addr) (na ca : Nat) (pa : List (Int × Int)) (B0 : Option Addr) (nb cb : Nat) (pb : List (Int × Int)) (t : Int) (w : World) (ha : Sr w A0 na ca pa) (wa : Nums pa) (hb : Sr w B0 nb cb pb) (wb : Nums pb) (ht : 0 ≤ t ∧ t ≤ 255) :
    Calls Try.prog 6 #[.slice A0 na ca, .slice B0 nb cb, .int .u8 t] w fun e w' => e = .returned (.bool true) ∧ Below w.heap.size w w' := by
  have Pa0 := Lib.hid ha
  have Wa := Lib.hid wa
  clear ha wa
  have Pb0 := Lib.hid hb
  have Wb := Lib.hid wb
  clear hb wb
  go_enter Try.func6, Try.ntmps6
  go_wp2_with fail
  obtain ⟨d, hd, hd4⟩ : ∃ d : Nat, t % 4 = (d : Int) ∧ d < 4 := ⟨(t % 4).toNat, by omega, by omega⟩
  have ht0 := ht.1
  refine (sanity3_any _).mono ?_
  rintro e W1 ⟨rfl, hb⟩
  have Pa2 := Lib.hid (Pa0.out.keep hb)
  clear Pa0
  have Pb2 := Lib.hid (Pb0.out.keep hb)
  clear Pb0
  have HB2 := Lib.hid hb
  clear hb
  go_wp2_with fail
  refine (rPMade_any A0 na ca pa 12 _ Pa2.out Wa.out (by omega)).mono ?_
  rintro e W3 ⟨A1, m1, c1, rfl, hm1, hs, ho, hb⟩
  have Pa4 := Lib.hid (Pa2.out.keep hb)
  clear Pa2
  have Pb4 := Lib.hid (Pb2.out.keep hb)
  clear Pb2
  have HB4 := Lib.hid (below_step HB2.out hb)
  clear HB2
  clear hb
  have L1_5 := Lib.hid hs
  clear hs
  clear ho
  clear Pa4
  generalize ((pa.take 12).map madeE) = xs at *
  have hlxs : xs.length ≤ 12 := by have := L1_5.out.len; omega
  go_wp2_with fail
  refine (polyInterp_any A1 m1 c1 xs _ L1_5.out (by omega)).mono ?_
  rintro e W6 ⟨A2, m2, c2, rfl, hm2, hs, hb⟩
  have Pb7 := Lib.hid (Pb4.out.keep hb)
  clear Pb4
  have L1_7 := Lib.hid (L1_5.out.keep hb)
  clear L1_5
  have HB7 := Lib.hid (below_step HB4.out hb)
  clear HB4
  clear hb
  have L2_8 := Lib.hid hs
  clear hs
  have hvc := L1_7.out.cap
  have hvt := L1_7.out.top
  have hpc := L2_8.out.cap
  have hpt := L2_8.out.top
  have hng := decide_eq_false (show ¬ (m1 < m2) by omega)
  go_wp2_with fail
  go_loopw [10] (fun i wr => ∃ k : Nat, k ≤ m1 ∧ i = .int .i64 k ∧ Below W6.heap.size W6 wr) (fun i _ => m1 - (intOf i).toNat)
  case atStart => exact ⟨0, Nat.zero_le _, rfl, Below.refl _ _⟩
  case round =>
    obtain ⟨k, hk, rfl, hbl⟩ := hrel
    by_cases hlt : k < m1
    · skip
      have L1_9 := Lib.hid (L1_7.out.keep hbl)
      clear L1_7
      have L2_9 := Lib.hid (L2_8.out.keep hbl)
      clear L2_8
      have HB9 := Lib.hid hbl
      clear hbl
      obtain ⟨x, hx⟩ := L1_9.out.get hlt
      obtain ⟨ad, rfl, h0, h1⟩ := L1_9.out.at_ hx
      have hin := inv_node hx (by omega)
      have hia := at_node hx (by omega)
      have l0 := Later.cell h0
      have l1 := Later.cell h1
      clear h0 h1 hx
      go_wp2_with fail
      try simp only [List.append_eq, List.cons_append, List.nil_append]
      refine wp_floatN (by kernel_rfl) (lexOK_of (by kernel_rfl) (by kernel_rfl)) (chainOF_of (by kernel_rfl)) (fun V10 hb hS => ?_)
      have L1_11 := Lib.hid (L1_9.out.keep hb)
      clear L1_9
      have L2_11 := Lib.hid (L2_9.out.keep hb)
      clear L2_9
      have HB11 := Lib.hid (below_step HB9.out hb)
      clear HB9
      clear hb
      have HS10' := Lib.hid hS
      clear hS
      refine wpF_seg 2 (by kernel_rfl) ?_
      simp only [List.take_succ_cons, List.take_zero, List.drop_succ_cons, List.drop_zero]
      repeat (go_big_quiet_step (fail))
      refine wpQuiet_nil ?_
      refine wpF_call 40 Try.func40 (by kernel_rfl) (by kernel_rfl) _ _ #[.int .i64 ((k : Int))] rfl (by kernel_rfl) (by kernel_rfl) HS10'.out (fun V12 hV => ?_)
      refine (rFromNd_any ((k : Int)) _ (by omega) (by omega)).mono ?_
      rintro e W12 ⟨rfl, hb⟩
      have hb2 := ext_trans hV hb
      have L1_13 := Lib.hid (L1_11.out.keep hb2)
      clear L1_11
      have L2_13 := Lib.hid (L2_11.out.keep hb2)
      clear L2_11
      have HB13 := Lib.hid (below_step HB11.out hb2)
      clear HB11
      have HS13 := Lib.hid (HS10'.out.ext hb2)
      clear HS10'
      refine ⟨_, rfl, hb, ?_⟩
      clear hb hb2 hV
      simp only [Act.put, List.setIfInBounds_toArray, List.set_cons_zero, List.set_cons_succ]
      refine wpF_call 27 Try.func27 (by kernel_rfl) (by kernel_rfl) _ _ #[.slice A2 m2 c2, .agg #[.int .u64 (vF ((ndZ ((k : Int)))).A), .int .u64 (vF ((ndZ ((k : Int)))).B)]] rfl (by kernel_rfl) (by kernel_rfl) HS13.out (fun V14 hV => ?_)
      refine (polyEval_any A2 m2 c2 (interpE xs) (ndZ ((k : Int))) _ (L2_13.out.keep hV)).mono ?_
      rw [hin]
      rintro e W14 ⟨rfl, hb⟩
      have hb2 := ext_trans hV hb
      have L1_15 := Lib.hid (L1_13.out.keep hb2)
      clear L1_13
      have L2_15 := Lib.hid (L2_13.out.keep hb2)
      clear L2_13
      have HB15 := Lib.hid (below_step HB13.out hb2)
      clear HB13
      have HS15 := Lib.hid (HS13.out.ext hb2)
      clear HS13
      refine ⟨_, rfl, hb, ?_⟩
      clear hb hb2 hV
      simp only [Act.put, List.setIfInBounds_toArray, List.set_cons_zero, List.set_cons_succ]
      clear L2_15
      have hq38 := run_neqE_same (x)
      refine wpF_seg 8 (by kernel_rfl) ?_
      simp only [List.take_succ_cons, List.take_zero, List.drop_succ_cons, List.drop_zero]
      repeat (go_big_quiet_step (fail))
      refine wpQuiet_nil ?_
      refine wpF_call 40 Try.func40 (by kernel_rfl) (by kernel_rfl) _ _ #[.int .i64 ((k : Int))] rfl (by kernel_rfl) (by kernel_rfl) HS15.out (fun V16 hV => ?_)
      refine (rFromNd_any ((k : Int)) _ (by omega) (by omega)).mono ?_
      rintro e W16 ⟨rfl, hb⟩
      have hb2 := ext_trans hV hb
      have L1_17 := Lib.hid (L1_15.out.keep hb2)
      clear L1_15
      have HB17 := Lib.hid (below_step HB15.out hb2)
      clear HB15
      have HS17 := Lib.hid (HS15.out.ext hb2)
      clear HS15
      refine ⟨_, rfl, hb, ?_⟩
      clear hb hb2 hV
      simp only [Act.put, List.setIfInBounds_toArray, List.set_cons_zero, List.set_cons_succ]
      refine wpF_call 35 Try.func35 (by kernel_rfl) (by kernel_rfl) _ _ #[.slice (some ad) m1 c1, .agg #[.int .u64 (vF ((ndZ ((k : Int)))).A), .int .u64 (vF ((ndZ ((k : Int)))).B)]] rfl (by kernel_rfl) (by kernel_rfl) HS17.out (fun V18 hV => ?_)
      refine (polyAt_any (some ad) m1 c1 xs (ndZ ((k : Int))) _ (L1_17.out.keep hV) (by omega)).mono ?_
      rw [hia]
      rintro e W18 ⟨rfl, hb⟩
      have hb2 := ext_trans hV hb
      have L1_19 := Lib.hid (L1_17.out.keep hb2)
      clear L1_17
      have HB19 := Lib.hid (below_step HB17.out hb2)
      clear HB17
      have HS19 := Lib.hid (HS17.out.ext hb2)
      clear HS17
      refine ⟨_, rfl, hb, ?_⟩
      clear hb hb2 hV
      simp only [Act.put, List.setIfInBounds_toArray, List.set_cons_zero, List.set_cons_succ]
      have hq48 := run_neqE_same (x)
      refine wpF_seg 6 (by kernel_rfl) ?_
      simp only [List.take_succ_cons, List.take_zero, List.drop_succ_cons, List.drop_zero]
      repeat (go_big_quiet_step (fail))
      refine wpQuiet_nil ?_
      refine wpF_nil (fun V20 hb => ?_)
      have L1_21 := Lib.hid (L1_19.out.keep hb)
      clear L1_19
      have HB21 := Lib.hid (below_step HB19.out hb)
      clear HB19
      clear hb
      clear l0 l1
      go_wp2_with fail
      go_roundw
      case rel => exact ⟨k + 1, by omega, by go_num, HB21.out⟩
      case measure => simp [intOf]; omega
    · skip
      have Pb22 := Lib.hid (Pb7.out.keep hbl)
      clear Pb7
      have L1_22 := Lib.hid (L1_7.out.keep hbl)
      clear L1_7
      have L2_22 := Lib.hid (L2_8.out.keep hbl)
      clear L2_8
      have HB22 := Lib.hid (below_step HB7.out hbl)
      clear HB7
      clear hbl
      clear L1_22
      clear L2_22
      go_wp2_with fail
      refine (rPMade_any B0 nb cb pb 8 _ Pb22.out Wb.out (by omega)).mono ?_
      rintro e W23 ⟨A7, m7, c7, rfl, hm7, hs, ho, hb⟩
      have Pb24 := Lib.hid (Pb22.out.keep hb)
      clear Pb22
      have HB24 := Lib.hid (below_step HB22.out hb)
      clear HB22
      clear hb
      have L7_25 := Lib.hid hs
      clear hs
      clear ho
      clear Pb24
      generalize ((pb.take 8).map madeE) = ys at *
      have hlys : ys.length ≤ 8 := by have := L7_25.out.len; omega
      have hqc := L7_25.out.cap
      have hqt := L7_25.out.top
      obtain ⟨N, hN⟩ : ∃ N : Nat, N = m7 + d := ⟨_, rfl⟩
      have hN1 : m7 ≤ N := by omega
      have hN2 : N ≤ 11 := by omega
      have HN := Lib.hid hN
      clear hN
      go_wp2_with fail
      go_loopw [12, 13] (fun v i wr => ∃ k : Nat, k ≤ N ∧ i = .int .i64 k ∧ OwE wr W23.heap.size v k (valsE ys k) ∧ Below W23.heap.size W23 wr) (fun _ i _ => N - (intOf i).toNat)
      case atStart => exact ⟨0, Nat.zero_le _, rfl, OwE.made W23 W23.heap.size (Nat.le_refl _), (Below.refl _ _).alloc (Nat.le_refl _) _⟩
      case round =>
        obtain ⟨k, hk, rfl, ho, hbl⟩ := hrel
        have HO := Lib.hid ho
        clear ho
        by_cases hlt : k < N
        · skip
          have L7_26 := Lib.hid (L7_25.out.keep hbl)
          clear L7_25
          have HB26 := Lib.hid hbl
          clear hbl
          have hli : (k : Int) < (m7 : Int) + (d : Int) := by have := HN.out; omega
          go_wp2_with fail
          clear hli
          refine (rFromNd_any (k : Int) _ (by omega) (by omega)).mono ?_
          rintro e W27 ⟨rfl, hb⟩
          have L7_28 := Lib.hid (L7_26.out.keep hb)
          clear L7_26
          have O28 := Lib.hid (HO.out.keep hb)
          clear HO
          have HB28 := Lib.hid (below_step HB26.out hb)
          clear HB26
          clear hb
          go_wp2_with fail
          refine (polyEval_any A7 m7 c7 ys (ndZ (k : Int)) _ L7_28.out).mono ?_
          rintro e W29 ⟨rfl, hb⟩
          have L7_30 := Lib.hid (L7_28.out.keep hb)
          clear L7_28
          have O30 := Lib.hid (O28.out.keep hb)
          clear O28
          have HB30 := Lib.hid (below_step HB28.out hb)
          clear HB28
          clear hb
          go_wp2_with (at_builtin; refine wpList_appendE rfl (.tmp 63) (.tmp 68) rfl (W23.heap.size) _ k _ rfl (O30.out.keep ((Below.refl _ _).alloc (Nat.le_refl _) _)) W29.heap.size 1 (evE ys (ndZ (k : Int))) rfl (Two.new W29 _ _ _) (by omega) (by have := HB30.out.size; simp; omega) ?_; intro v1 w1 hown1 hg1; have HO3 := Lib.hid hown1; have HB3 := Lib.hid (below_grown (w0 := W23) (HB30.out.alloc HB30.out.size _) hg1 (O30.out.keep ((Below.refl _ _).alloc (Nat.le_refl _) _)) (Nat.le_refl _)); clear hown1 hg1)
          go_roundw
          case rel => exact ⟨k + 1, by omega, by go_num, by rw [valsE_succ]; exact HO3.out, HB3.out⟩
          case measure => simp [intOf]; omega
        · skip
          obtain rfl : N = k := by omega
          have L7_31 := Lib.hid (L7_25.out.keep hbl)
          clear L7_25
          have HB31 := Lib.hid (below_step HB24.out hbl)
          clear HB24
          clear hbl
          obtain ⟨A9, c9, rfl, hs9⟩ := HO.out.sl
          have L9_32 := Lib.hid hs9
          clear hs9
          clear HO
          have hiv := inv_values ys (N) (by have := L7_31.out.len; omega) (by omega)
          have HIV := Lib.hid hiv
          clear hiv
          have hli : ¬ ((N : Int) < (m7 : Int) + (d : Int)) := by have := HN.out; omega
          go_wp2_with fail
          clear hli
          refine (polyInterp_any A9 (N) c9 (valsE ys (N)) _ L9_32.out (by omega)).mono ?_
          rw [HIV.out]
          rintro e W33 ⟨A8, m8, c8, rfl, hm8, hs, hb⟩
          have L7_34 := Lib.hid (L7_31.out.keep hb)
          clear L7_31
          have L9_34 := Lib.hid (L9_32.out.keep hb)
          clear L9_32
          have HB34 := Lib.hid (below_step HB31.out hb)
          clear HB31
          clear hb
          have L8_35 := Lib.hid hs
          clear hs
          go_wp2_with fail
          clear L9_34
          refine (polyTrim_any A7 m7 c7 ys _ L7_34.out (by omega)).mono ?_
          rintro e W36 ⟨A9, m9, c9, rfl, hm9, hs, hb⟩
          have L7_37 := Lib.hid (L7_34.out.keep hb)
          clear L7_34
          have L8_37 := Lib.hid (L8_35.out.keep hb)
          clear L8_35
          have HB37 := Lib.hid (below_step HB34.out hb)
          clear HB34
          clear hb
          have L9_38 := Lib.hid hs
          clear hs
          go_wp2_with fail
          clear L7_37
          refine (same_yes A8 m8 c8 A9 m9 c9 (trimE ys) _ L8_37.out L9_38.out).mono ?_
          rintro e W39 ⟨rfl, hb⟩
          have L8_40 := Lib.hid (L8_37.out.keep hb)
          clear L8_37
          have L9_40 := Lib.hid (L9_38.out.keep hb)
          clear L9_38
          have HB40 := Lib.hid (below_step HB37.out hb)
          clear HB37
          clear hb
          go_wp2_with fail
          go_ret
          exact ⟨rfl, HB40.out⟩

end Go.Proofs.Ytjimnoikkgheaaa
