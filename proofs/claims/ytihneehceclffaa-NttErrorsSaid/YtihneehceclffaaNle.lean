/- Contract of a law of package ntt; no conditions but the arguments' own. -/
import Derived.Test.YtihneehceclffaaNlm
import Derived.Test.YtihneehceclffaaNlq
import Derived.Test.YtihneehceclffaaFloat3

set_option linter.unusedVariables false
namespace Go.Proofs.Ytihneehceclffaa
open Go.RowKit Gold

set_option maxHeartbeats 16000000 in
set_option maxRecDepth 100000 in
theorem nttErrors_any  (z b : Int) (w : World)  (hz : 0 ≤ z ∧ z ≤ 65535) (hbb : -9223372036854775808 ≤ b ∧ b < 9223372036854775808) :
    Calls Try.prog 11 #[.int .u16 z, .int .i64 b] w fun e w' => e = .returned (.bool true) ∧ Below w.heap.size w w' := by
  obtain ⟨n, hn⟩ : ∃ n : Nat, z % 1001 = (n : Int) := ⟨(z % 1001).toNat, by omega⟩
  have hn1 : n ≤ 1000 := by omega
  have hz0 := hz.1
  have hz1 := hz.2
  have hmk := run_makeF n (by omega)
  rw [← hn] at hmk
  have HN := Lib.hid hn
  clear hn
  go_enter Try.func11, Try.ntmps11
  go_wp2_with fail
  refine (sanity4_any _).mono ?_
  rintro e W1 ⟨rfl, hb⟩
  have HB2 := Lib.hid hb
  clear hb
  go_wp2_with fail
  clear hmk
  rw [HN.out]
  refine calls_named1 (fun V3 hbV g0 hzV => ?_)
  have hs : Sf V3 (some ⟨W1.heap.size, 0, none⟩) n n (tabF n fun _ => 0) := RowF.own (show RowF V3 W1.heap.size (tabF n fun _ => 0) from g0) (tabF_length _ _).symm (by omega)
  have HB4 := Lib.hid (bel_step HB2.out hbV)
  clear HB2
  clear hbV hzV g0
  have LA5 := Lib.hid hs
  clear hs
  obtain ⟨N1, hN1⟩ : ∃ N1 : Nat, N1 = 65536 - n := ⟨_, rfl⟩
  obtain ⟨N2, hN2⟩ : ∃ N2 : Nat, N2 = n + 2 := ⟨_, rfl⟩
  have hi1 : (65536 : Int) - (n : Int) = (N1 : Int) := by omega
  have hi2 : (n : Int) + 2 = (N2 : Int) := by omega
  have HI1 := Lib.hid hi1
  have HI2 := Lib.hid hi2
  have HN1 := Lib.hid hN1
  have HN2 := Lib.hid hN2
  clear hi1 hi2 hN1 hN2
  by_cases hp : ∃ q : Nat, q ≤ 16 ∧ n = 2 ^ q
  · skip
    obtain ⟨q, hq, hnq⟩ := hp
    have HQ := Lib.hid hnq
    clear hnq
    refine (log_yes n q _ HQ.out hq).mono ?_
    rintro e w' ⟨rfl, hw⟩
    obtain rfl : V3 = w' := hw.symm
    go_wp2_with fail
    by_cases hp : ∃ L : Nat, L ≤ 16 ∧ b = ((2 ^ L : Nat) : Int)
    · skip
      obtain ⟨L, hL, hb⟩ := hp
      obtain ⟨B, hB⟩ : ∃ B : Nat, B = 2 ^ L := ⟨_, rfl⟩
      rw [← hB] at hb
      subst hb
      have hB2 : B ≤ 65536 := by rw [hB]; exact pow2_le hL
      have HB9 := Lib.hid hB
      clear hB
      obtain ⟨M, hM⟩ : ∃ M : Nat, M = B * n := ⟨_, rfl⟩
      have hM2 : M ≤ 65536 * 1000 := by rw [hM]; exact Nat.mul_le_mul hB2 hn1
      have HM := Lib.hid (show (B : Int) * (n : Int) = (M : Int) by rw [hM, Int.natCast_mul])
      have HMn := Lib.hid hM
      clear hM
      refine (log_yes B L _ HB9.out hL).mono ?_
      rintro e w' ⟨rfl, hw⟩
      obtain rfl : V3 = w' := hw.symm
      go_wp2_with fail
      refine (forward_yes (some ⟨W1.heap.size, 0, none⟩) n n _ q _ LA5.out HQ.out hq).mono ?_
      rintro e W6 ⟨gb, rfl, hs, hb⟩
      have LA7 := Lib.hid (LA5.out.keep hb)
      clear LA5
      have HB7 := Lib.hid (bel_step HB4.out hb)
      clear HB4
      clear hb
      go_wp2_with fail
      clear hs
      refine (inverse_yes (some ⟨W1.heap.size, 0, none⟩) n n _ q _ LA7.out HQ.out hq).mono ?_
      rintro e W8 ⟨gc, rfl, hs, hb⟩
      have LA9 := Lib.hid (LA7.out.keep hb)
      clear LA7
      have HB9 := Lib.hid (bel_step HB7.out hb)
      clear HB7
      clear hb
      clear hs
      go_wp2_with fail
      try simp only [List.append_eq, List.cons_append, List.nil_append]
      refine wp_floatN (by kernel_rfl) (lexOK_of (by kernel_rfl) (by kernel_rfl)) (chainOF_of (by kernel_rfl)) (fun V10 hb hS => ?_)
      have LA11 := Lib.hid (LA9.out.keep hb)
      clear LA9
      have HB11 := Lib.hid (bel_step HB9.out hb)
      clear HB9
      clear hb
      have HS10' := Lib.hid hS
      clear hS
      refine wpF_seg 2 (by kernel_rfl) ?_
      simp only [List.take_succ_cons, List.take_zero, List.drop_succ_cons, List.drop_zero]
      repeat (go_big_quiet_step (fail))
      refine wpQuiet_nil ?_
      rw [HI1.out]
      refine wpF_make (.cells (cellsF (tabF N1 fun _ => 0)).toArray 34, fun b => .slice (some ⟨b, 0, none⟩) N1 N1) (by kernel_rfl) (by kernel_rfl) (by kernel_rfl) (fun w => run_makeH N1 (by have := HN1.out; omega) rfl rfl w) (fun b12 V12 hb hg hge => ?_)
      have LA13 := Lib.hid (LA11.out.keep hb)
      clear LA11
      have HB13 := Lib.hid (bel_step HB11.out hb)
      clear HB11
      have HS13 := Lib.hid (HS10'.out.ext hb)
      clear HS10'
      clear hb hg hge
      simp only [Act.put, List.setIfInBounds_toArray, List.set_cons_zero, List.set_cons_succ]
      refine wpF_seg 2 (by kernel_rfl) ?_
      simp only [List.take_succ_cons, List.take_zero, List.drop_succ_cons, List.drop_zero]
      repeat (go_big_quiet_step (fail))
      refine wpQuiet_nil ?_
      rw [HI2.out]
      refine wpF_make (.cells (cellsF (tabF N2 fun _ => 0)).toArray 34, fun b => .slice (some ⟨b, 0, none⟩) N2 N2) (by kernel_rfl) (by kernel_rfl) (by kernel_rfl) (fun w => run_makeH N2 (by have := HN2.out; omega) rfl rfl w) (fun b14 V14 hb hg hge => ?_)
      have LA15 := Lib.hid (LA13.out.keep hb)
      clear LA13
      have HB15 := Lib.hid (bel_step HB13.out hb)
      clear HB13
      have HS15 := Lib.hid (HS13.out.ext hb)
      clear HS13
      clear hb hg hge
      simp only [Act.put, List.setIfInBounds_toArray, List.set_cons_zero, List.set_cons_succ]
      refine wpF_call 20 Try.func20 (by kernel_rfl) (by kernel_rfl) _ _ #[.slice (some ⟨b12, 0, none⟩) N1 N1, .slice (some ⟨b14, 0, none⟩) N2 N2] rfl (by kernel_rfl) (by kernel_rfl) HS15.out (fun V16 hV => ?_)
      refine (mul_big _ N1 N1 _ N2 N2 _ (by have := HN1.out; omega) (by have := HN2.out; omega) (by have := HN1.out; omega) (by have := HN2.out; omega) (by have := HN1.out; have := HN2.out; omega)).mono ?_
      rintro e W16 ⟨rfl, hb⟩
      have hb2 := ext_trans hV hb
      have LA17 := Lib.hid (LA15.out.keep hb2)
      clear LA15
      have HB17 := Lib.hid (bel_step HB15.out hb2)
      clear HB15
      have HS17 := Lib.hid (HS15.out.ext hb2)
      clear HS15
      refine ⟨_, rfl, hb, ?_⟩
      clear hb hb2 hV
      simp only [Act.put, List.setIfInBounds_toArray, List.set_cons_zero, List.set_cons_succ]
      refine wpF_seg 5 (by kernel_rfl) ?_
      simp only [List.take_succ_cons, List.take_zero, List.drop_succ_cons, List.drop_zero]
      repeat (go_big_quiet_step (fail))
      refine wpQuiet_nil ?_
      refine wpF_nil (fun V18 hb => ?_)
      have LA19 := Lib.hid (LA17.out.keep hb)
      clear LA17
      have HB19 := Lib.hid (bel_step HB17.out hb)
      clear HB17
      clear hb
      by_cases hm : M ≤ 65536
      · skip
        have hle : wrap64 ((B : Int) * (n : Int)) ≤ 65536 := by rw [HM.out]; unfold wrap64; omega
        go_wp2_with fail
        go_ret
        exact ⟨rfl, HB19.out⟩
      · skip
        have hle : ¬ wrap64 ((B : Int) * (n : Int)) ≤ 65536 := by rw [HM.out]; unfold wrap64; omega
        go_wp2_with fail
        clear hle
        refine (extend_no (some ⟨W1.heap.size, 0, none⟩) n n _ (B : Int) _ LA19.out hbb.1 hbb.2 (fun K L' hk e1 e2 => by have e3 : B = 2 ^ L' := Int.ofNat.inj e2; rw [HMn.out, e3, e1, ← Nat.pow_add] at hm; exact hm (by rw [Nat.add_comm]; exact pow2_le hk))).mono ?_
        rintro e W20 ⟨rfl, hb⟩
        have LA21 := Lib.hid (LA19.out.keep hb)
        clear LA19
        have HB21 := Lib.hid (bel_step HB19.out hb)
        clear HB19
        clear hb
        go_wp2_with fail
        go_ret
        exact ⟨rfl, HB21.out⟩
    · skip
      have HL := Lib.hid (show ∀ L : Nat, L ≤ 16 → b ≠ ((2 ^ L : Nat) : Int) from fun L hL e => hp ⟨L, hL, e⟩)
      clear hp
      refine (log_no b _ HL.out).mono ?_
      rintro e w' ⟨rfl, hw⟩
      obtain rfl : V3 = w' := hw.symm
      go_wp2_with fail
      refine (forward_yes (some ⟨W1.heap.size, 0, none⟩) n n _ q _ LA5.out HQ.out hq).mono ?_
      rintro e W22 ⟨gb, rfl, hs, hb⟩
      have LA23 := Lib.hid (LA5.out.keep hb)
      clear LA5
      have HB23 := Lib.hid (bel_step HB4.out hb)
      clear HB4
      clear hb
      go_wp2_with fail
      clear hs
      refine (inverse_yes (some ⟨W1.heap.size, 0, none⟩) n n _ q _ LA23.out HQ.out hq).mono ?_
      rintro e W24 ⟨gc, rfl, hs, hb⟩
      have LA25 := Lib.hid (LA23.out.keep hb)
      clear LA23
      have HB25 := Lib.hid (bel_step HB23.out hb)
      clear HB23
      clear hb
      clear hs
      go_wp2_with fail
      try simp only [List.append_eq, List.cons_append, List.nil_append]
      refine wp_floatN (by kernel_rfl) (lexOK_of (by kernel_rfl) (by kernel_rfl)) (chainOF_of (by kernel_rfl)) (fun V26 hb hS => ?_)
      have LA27 := Lib.hid (LA25.out.keep hb)
      clear LA25
      have HB27 := Lib.hid (bel_step HB25.out hb)
      clear HB25
      clear hb
      have HS26' := Lib.hid hS
      clear hS
      refine wpF_seg 2 (by kernel_rfl) ?_
      simp only [List.take_succ_cons, List.take_zero, List.drop_succ_cons, List.drop_zero]
      repeat (go_big_quiet_step (fail))
      refine wpQuiet_nil ?_
      rw [HI1.out]
      refine wpF_make (.cells (cellsF (tabF N1 fun _ => 0)).toArray 34, fun b => .slice (some ⟨b, 0, none⟩) N1 N1) (by kernel_rfl) (by kernel_rfl) (by kernel_rfl) (fun w => run_makeH N1 (by have := HN1.out; omega) rfl rfl w) (fun b28 V28 hb hg hge => ?_)
      have LA29 := Lib.hid (LA27.out.keep hb)
      clear LA27
      have HB29 := Lib.hid (bel_step HB27.out hb)
      clear HB27
      have HS29 := Lib.hid (HS26'.out.ext hb)
      clear HS26'
      clear hb hg hge
      simp only [Act.put, List.setIfInBounds_toArray, List.set_cons_zero, List.set_cons_succ]
      refine wpF_seg 2 (by kernel_rfl) ?_
      simp only [List.take_succ_cons, List.take_zero, List.drop_succ_cons, List.drop_zero]
      repeat (go_big_quiet_step (fail))
      refine wpQuiet_nil ?_
      rw [HI2.out]
      refine wpF_make (.cells (cellsF (tabF N2 fun _ => 0)).toArray 34, fun b => .slice (some ⟨b, 0, none⟩) N2 N2) (by kernel_rfl) (by kernel_rfl) (by kernel_rfl) (fun w => run_makeH N2 (by have := HN2.out; omega) rfl rfl w) (fun b30 V30 hb hg hge => ?_)
      have LA31 := Lib.hid (LA29.out.keep hb)
      clear LA29
      have HB31 := Lib.hid (bel_step HB29.out hb)
      clear HB29
      have HS31 := Lib.hid (HS29.out.ext hb)
      clear HS29
      clear hb hg hge
      simp only [Act.put, List.setIfInBounds_toArray, List.set_cons_zero, List.set_cons_succ]
      refine wpF_call 20 Try.func20 (by kernel_rfl) (by kernel_rfl) _ _ #[.slice (some ⟨b28, 0, none⟩) N1 N1, .slice (some ⟨b30, 0, none⟩) N2 N2] rfl (by kernel_rfl) (by kernel_rfl) HS31.out (fun V32 hV => ?_)
      refine (mul_big _ N1 N1 _ N2 N2 _ (by have := HN1.out; omega) (by have := HN2.out; omega) (by have := HN1.out; omega) (by have := HN2.out; omega) (by have := HN1.out; have := HN2.out; omega)).mono ?_
      rintro e W32 ⟨rfl, hb⟩
      have hb2 := ext_trans hV hb
      have LA33 := Lib.hid (LA31.out.keep hb2)
      clear LA31
      have HB33 := Lib.hid (bel_step HB31.out hb2)
      clear HB31
      have HS33 := Lib.hid (HS31.out.ext hb2)
      clear HS31
      refine ⟨_, rfl, hb, ?_⟩
      clear hb hb2 hV
      simp only [Act.put, List.setIfInBounds_toArray, List.set_cons_zero, List.set_cons_succ]
      refine wpF_seg 5 (by kernel_rfl) ?_
      simp only [List.take_succ_cons, List.take_zero, List.drop_succ_cons, List.drop_zero]
      repeat (go_big_quiet_step (fail))
      refine wpQuiet_nil ?_
      refine wpF_nil (fun V34 hb => ?_)
      have LA35 := Lib.hid (LA33.out.keep hb)
      clear LA33
      have HB35 := Lib.hid (bel_step HB33.out hb)
      clear HB33
      clear hb
      go_wp2_with fail
      refine (extend_no (some ⟨W1.heap.size, 0, none⟩) n n _ b _ LA35.out hbb.1 hbb.2 (fun K L hk e => HL.out L (by omega))).mono ?_
      rintro e W36 ⟨rfl, hb⟩
      have LA37 := Lib.hid (LA35.out.keep hb)
      clear LA35
      have HB37 := Lib.hid (bel_step HB35.out hb)
      clear HB35
      clear hb
      go_wp2_with fail
      go_ret
      exact ⟨rfl, HB37.out⟩
  · skip
    have HP := Lib.hid (show ∀ k : Nat, k ≤ 16 → n ≠ 2 ^ k from fun k hk e => hp ⟨k, hk, e⟩)
    clear hp
    refine (log_no (n : Int) _ (fun k hk e => HP.out k hk (Int.ofNat.inj e))).mono ?_
    rintro e w' ⟨rfl, hw⟩
    obtain rfl : V3 = w' := hw.symm
    go_wp2_with fail
    refine (log_any b _).mono ?_
    rintro e w' ⟨v, rfl, hw⟩
    obtain rfl : V3 = w' := hw.symm
    go_wp2_with fail
    refine (forward_no (some ⟨W1.heap.size, 0, none⟩) n n _ _ LA5.out HP.out).mono ?_
    rintro e W38 ⟨rfl, hb⟩
    have LA39 := Lib.hid (LA5.out.keep hb)
    clear LA5
    have HB39 := Lib.hid (bel_step HB4.out hb)
    clear HB4
    clear hb
    go_wp2_with fail
    refine (inverse_no (some ⟨W1.heap.size, 0, none⟩) n n _ _ LA39.out HP.out).mono ?_
    rintro e W40 ⟨rfl, hb⟩
    have LA41 := Lib.hid (LA39.out.keep hb)
    clear LA39
    have HB41 := Lib.hid (bel_step HB39.out hb)
    clear HB39
    clear hb
    go_wp2_with fail
    try simp only [List.append_eq, List.cons_append, List.nil_append]
    refine wp_floatN (by kernel_rfl) (lexOK_of (by kernel_rfl) (by kernel_rfl)) (chainOF_of (by kernel_rfl)) (fun V42 hb hS => ?_)
    have LA43 := Lib.hid (LA41.out.keep hb)
    clear LA41
    have HB43 := Lib.hid (bel_step HB41.out hb)
    clear HB41
    clear hb
    have HS42' := Lib.hid hS
    clear hS
    refine wpF_seg 2 (by kernel_rfl) ?_
    simp only [List.take_succ_cons, List.take_zero, List.drop_succ_cons, List.drop_zero]
    repeat (go_big_quiet_step (fail))
    refine wpQuiet_nil ?_
    rw [HI1.out]
    refine wpF_make (.cells (cellsF (tabF N1 fun _ => 0)).toArray 34, fun b => .slice (some ⟨b, 0, none⟩) N1 N1) (by kernel_rfl) (by kernel_rfl) (by kernel_rfl) (fun w => run_makeH N1 (by have := HN1.out; omega) rfl rfl w) (fun b44 V44 hb hg hge => ?_)
    have LA45 := Lib.hid (LA43.out.keep hb)
    clear LA43
    have HB45 := Lib.hid (bel_step HB43.out hb)
    clear HB43
    have HS45 := Lib.hid (HS42'.out.ext hb)
    clear HS42'
    clear hb hg hge
    simp only [Act.put, List.setIfInBounds_toArray, List.set_cons_zero, List.set_cons_succ]
    refine wpF_seg 2 (by kernel_rfl) ?_
    simp only [List.take_succ_cons, List.take_zero, List.drop_succ_cons, List.drop_zero]
    repeat (go_big_quiet_step (fail))
    refine wpQuiet_nil ?_
    rw [HI2.out]
    refine wpF_make (.cells (cellsF (tabF N2 fun _ => 0)).toArray 34, fun b => .slice (some ⟨b, 0, none⟩) N2 N2) (by kernel_rfl) (by kernel_rfl) (by kernel_rfl) (fun w => run_makeH N2 (by have := HN2.out; omega) rfl rfl w) (fun b46 V46 hb hg hge => ?_)
    have LA47 := Lib.hid (LA45.out.keep hb)
    clear LA45
    have HB47 := Lib.hid (bel_step HB45.out hb)
    clear HB45
    have HS47 := Lib.hid (HS45.out.ext hb)
    clear HS45
    clear hb hg hge
    simp only [Act.put, List.setIfInBounds_toArray, List.set_cons_zero, List.set_cons_succ]
    refine wpF_call 20 Try.func20 (by kernel_rfl) (by kernel_rfl) _ _ #[.slice (some ⟨b44, 0, none⟩) N1 N1, .slice (some ⟨b46, 0, none⟩) N2 N2] rfl (by kernel_rfl) (by kernel_rfl) HS47.out (fun V48 hV => ?_)
    refine (mul_big _ N1 N1 _ N2 N2 _ (by have := HN1.out; omega) (by have := HN2.out; omega) (by have := HN1.out; omega) (by have := HN2.out; omega) (by have := HN1.out; have := HN2.out; omega)).mono ?_
    rintro e W48 ⟨rfl, hb⟩
    have hb2 := ext_trans hV hb
    have LA49 := Lib.hid (LA47.out.keep hb2)
    clear LA47
    have HB49 := Lib.hid (bel_step HB47.out hb2)
    clear HB47
    have HS49 := Lib.hid (HS47.out.ext hb2)
    clear HS47
    refine ⟨_, rfl, hb, ?_⟩
    clear hb hb2 hV
    simp only [Act.put, List.setIfInBounds_toArray, List.set_cons_zero, List.set_cons_succ]
    refine wpF_seg 5 (by kernel_rfl) ?_
    simp only [List.take_succ_cons, List.take_zero, List.drop_succ_cons, List.drop_zero]
    repeat (go_big_quiet_step (fail))
    refine wpQuiet_nil ?_
    refine wpF_nil (fun V50 hb => ?_)
    have LA51 := Lib.hid (LA49.out.keep hb)
    clear LA49
    have HB51 := Lib.hid (bel_step HB49.out hb)
    clear HB49
    clear hb
    go_wp2_with fail
    refine (extend_no (some ⟨W1.heap.size, 0, none⟩) n n _ b _ LA51.out hbb.1 hbb.2 (fun K L hk e => absurd e (HP.out K (by omega)))).mono ?_
    rintro e W52 ⟨rfl, hb⟩
    have LA53 := Lib.hid (LA51.out.keep hb)
    clear LA51
    have HB53 := Lib.hid (bel_step HB51.out hb)
    clear HB51
    clear hb
    go_wp2_with fail
    go_ret
    exact ⟨rfl, HB53.out⟩

end Go.Proofs.Ytihneehceclffaa
