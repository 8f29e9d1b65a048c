/- Contract of a law of package ntt; no conditions but the arguments' own. -/
import Derived.Test.YtihneehceclffaaNlm
import Derived.Test.YtihneehceclffaaNlq
import Derived.Test.YtihneehceclffaaFloat2

set_option linter.unusedVariables false
namespace Go.Proofs.Ytihneehceclffaa
open Go.RowKit Gold

set_option maxHeartbeats 16000000 in
set_option maxRecDepth 100000 in
theorem nttValues_any (X0 : Option Addr) (nx cx : Nat) (px : List Int) (k k' : Int) (z : Int) (w : World) (hx : Su w X0 nx cx px) (wx : ∀ z ∈ px, U64 z) (hk : 0 ≤ k ∧ k ≤ 255) (hk' : 0 ≤ k' ∧ k' ≤ 255) (hz : 0 ≤ z ∧ z ≤ 65535) :
    Calls Try.prog 7 #[.slice X0 nx cx, .agg #[.int .u8 k, .int .u8 k'], .int .u16 z] w fun e w' => e = .returned (.bool true) ∧ Below w.heap.size w w' := by
  have hcx := hx.cap
  have htx := hx.top
  have Px0 := Lib.hid hx
  have Wx := Lib.hid wx
  have HLx := Lib.hid hx.len
  clear hx wx
  obtain ⟨q, hq⟩ : ∃ q : Nat, k % 8 = (q : Int) := ⟨(k % 8).toNat, by omega⟩
  have hql : q ≤ 7 := by omega
  obtain ⟨N, hN⟩ : ∃ N : Nat, N = 2 ^ q := ⟨_, rfl⟩
  have hN1 : 1 ≤ N := by rw [hN]; exact Nat.two_pow_pos q
  have hN2 : N ≤ 128 := by rw [hN]; exact Nat.pow_le_pow_right (n := 2) (by omega) hql
  have HN := Lib.hid hN
  clear hN
  have HQ := Lib.hid hq
  clear hq
  obtain ⟨r, hr⟩ : ∃ r : Nat, k' % 4 = (r : Int) := ⟨(k' % 4).toNat, by omega⟩
  have hr3 : r ≤ 3 := by omega
  obtain ⟨b, hb⟩ : ∃ b : Nat, b = 2 ^ r := ⟨_, rfl⟩
  have hb1 : 1 ≤ b := by rw [hb]; exact Nat.two_pow_pos r
  have hb2 : b ≤ 8 := by have h8 : 2 ^ r ≤ 2 ^ 3 := Nat.pow_le_pow_right (by omega) hr3; omega
  have hwb : wrap64 (2 ^ r) = (b : Int) := by rw [hb]; exact wrap_pow2 (by omega)
  have HWB := Lib.hid hwb
  have HBp := Lib.hid hb
  have HR := Lib.hid hr
  clear hwb hb hr
  go_enter Try.func7, Try.ntmps7
  go_wp2_with fail
  refine calls_named1 (fun V1 hbV g0 hzV => ?_)
  have hk2 : Two V1 w.heap.size 42 (.int .u8 k) (.int .u8 k') := g0
  have Px2 := Lib.hid (Px0.out.keep hbV)
  clear Px0
  have HB2 := Lib.hid hbV
  clear hbV hzV g0
  have K3 := Lib.hid hk2
  clear hk2
  refine (sanity4_any _).mono ?_
  rintro e W4 ⟨rfl, hb⟩
  have Px5 := Lib.hid (Px2.out.keep hb)
  clear Px2
  have K5 := Lib.hid (K3.out.keep hb)
  clear K3
  have HB5 := Lib.hid (bel_step HB2.out hb)
  clear HB2
  clear hb
  go_wp2_with fail
  have hk0 := hk.1
  have hk1 := hk'.1
  have hk2 := hk'.2
  have TK := K5.out
  have lK0 := Later.cell TK.c0
  have lK1 := Later.cell TK.c1
  clear TK
  try simp only [List.append_eq, List.cons_append, List.nil_append]
  refine wp_floatN (by kernel_rfl) (lexOK_of (by kernel_rfl) (by kernel_rfl)) (chainOF_of (by kernel_rfl)) (fun V6 hb hS => ?_)
  have Px7 := Lib.hid (Px5.out.keep hb)
  clear Px5
  have K7 := Lib.hid (K5.out.keep hb)
  clear K5
  have HB7 := Lib.hid (bel_step HB5.out hb)
  clear HB5
  clear hb
  have HS6' := Lib.hid hS
  clear hS
  refine wpF_seg 3 (by kernel_rfl) ?_
  simp only [List.take_succ_cons, List.take_zero, List.drop_succ_cons, List.drop_zero]
  repeat (go_big_quiet_step (fail))
  refine wpQuiet_nil ?_
  refine wpF_call 23 Try.func23 (by kernel_rfl) (by kernel_rfl) _ _ #[.slice X0 nx cx, .int .u8 k, .int .i64 7] rfl (by kernel_rfl) (by kernel_rfl) HS6'.out (fun V8 hV => ?_)
  refine (made4_any X0 nx cx px k 7 q N _ ((Px7.out.keep hV)) Wx.out hk (by omega) HQ.out HN.out).mono ?_
  rintro e W8 ⟨ga, rfl, hs, hb⟩
  have hb2 := ext_trans hV hb
  have Px9 := Lib.hid (Px7.out.keep hb2)
  clear Px7
  have K9 := Lib.hid (K7.out.keep hb2)
  clear K7
  have HB9 := Lib.hid (bel_step HB7.out hb2)
  clear HB7
  have HS9 := Lib.hid (HS6'.out.ext hb2)
  clear HS6'
  have LA10 := Lib.hid hs
  clear hs
  refine ⟨_, rfl, hb, ?_⟩
  clear hb hb2 hV
  simp only [Act.put, List.setIfInBounds_toArray, List.set_cons_zero, List.set_cons_succ]
  refine wpF_seg 6 (by kernel_rfl) ?_
  simp only [List.take_succ_cons, List.take_zero, List.drop_succ_cons, List.drop_zero]
  repeat (go_big_quiet_step (fail))
  refine wpQuiet_nil ?_
  rw [HR.out]
  refine wpF_nil (fun V11 hb => ?_)
  have Px12 := Lib.hid (Px9.out.keep hb)
  clear Px9
  have K12 := Lib.hid (K9.out.keep hb)
  clear K9
  have LA12 := Lib.hid (LA10.out.keep hb)
  clear LA10
  have HB12 := Lib.hid (bel_step HB9.out hb)
  clear HB9
  clear hb
  clear lK0 lK1
  clear Px12
  clear K12
  generalize hxs : tabF N (cfF (px.map toF)) = xs at *
  have hxl : xs.length = N := by rw [← hxs]; exact tabF_length _ _
  have HLxs := Lib.hid hxl
  clear hxs hxl
  obtain ⟨NB, hNB⟩ : ∃ NB : Nat, NB = 2 ^ (q + r) := ⟨_, rfl⟩
  have hpb : b * N = NB := by rw [HBp.out, HN.out, hNB, Nat.pow_add, Nat.mul_comm]
  have hNB1 : NB ≤ 1024 := by rw [← hpb]; exact Nat.mul_le_mul hb2 hN2
  have hNB2 : N ≤ NB := by rw [← hpb]; exact Nat.le_mul_of_pos_left N (by omega)
  have HNB := Lib.hid hNB
  clear hNB
  have hpi : (N : Int) * (b : Int) = (NB : Int) := by rw [← Int.natCast_mul, Nat.mul_comm, hpb]
  have HPB := Lib.hid hpb
  have HPI := Lib.hid hpi
  clear hpb hpi
  go_wp2_with fail
  refine (forward_yes (some ⟨ga, 0, none⟩) N N xs q _ LA12.out HN.out (by omega)).mono ?_
  rintro e W13 ⟨gb, rfl, hs, hb⟩
  have LA14 := Lib.hid (LA12.out.keep hb)
  clear LA12
  have HB14 := Lib.hid (bel_step HB12.out hb)
  clear HB12
  clear hb
  have LB15 := Lib.hid hs
  clear hs
  have hwb := HWB.out
  go_wp2_with fail
  clear hwb
  refine (extend_yes (some ⟨ga, 0, none⟩) N N xs b NB q r _ LA14.out HN.out HBp.out HNB.out (by omega)).mono ?_
  rintro e W16 ⟨gc, rfl, hs, hb⟩
  have LA17 := Lib.hid (LA14.out.keep hb)
  clear LA14
  have LB17 := Lib.hid (LB15.out.keep hb)
  clear LB15
  have HB17 := Lib.hid (bel_step HB14.out hb)
  clear HB14
  clear hb
  have LC18 := Lib.hid hs
  clear hs
  have h7 : (2 : Int) ^ r = (b : Int) := by rw [HBp.out]; simp
  have hpw : ((NB : Int) != wrap64 ((N : Int) * 2 ^ r)) = false := by rw [h7, HPI.out, bne_eq_false_iff_eq]; unfold wrap64; omega
  clear h7
  go_wp2_with fail
  clear hpw
  refine (log_yes N q _ HN.out (by omega)).mono ?_
  rintro e w' ⟨rfl, hw⟩
  obtain rfl : W16 = w' := hw.symm
  go_wp2_with fail
  refine (ref_rootF q _ (by omega)).mono ?_
  rintro e w' ⟨rfl, hw⟩
  obtain rfl : W16 = w' := hw.symm
  go_wp2_with fail
  refine (log_yes NB (q + r) _ HNB.out (by omega)).mono ?_
  rintro e w' ⟨rfl, hw⟩
  obtain rfl : W16 = w' := hw.symm
  go_wp2_with fail
  refine (ref_rootF (q + r) _ (by omega)).mono ?_
  rintro e w' ⟨rfl, hw⟩
  obtain rfl : W16 = w' := hw.symm
  obtain ⟨i, hi⟩ : ∃ i : Nat, z % (N : Int) = (i : Int) := ⟨(z % (N : Int)).toNat, by have := Int.emod_nonneg z (show (N : Int) ≠ 0 by omega); omega⟩
  obtain ⟨j, hj⟩ : ∃ j : Nat, z % (NB : Int) = (j : Int) := ⟨(z % (NB : Int)).toNat, by have := Int.emod_nonneg z (show (NB : Int) ≠ 0 by omega); omega⟩
  have hiN : i < N := by have := Int.emod_lt_of_pos z (show (0 : Int) < (N : Int) by omega); omega
  have hjN : j < NB := by have := Int.emod_lt_of_pos z (show (0 : Int) < (NB : Int) by omega); omega
  have HI := Lib.hid hi
  have HJ := Lib.hid hj
  clear hi hj
  have hz0 := hz.1
  have hz1 := hz.2
  have hn0 : ((N : Int) == 0) = false := by simp; omega
  have hn1 : ((NB : Int) == 0) = false := by simp; omega
  go_wp2_with fail
  refine wp_later_lex (by kernel_rfl) (lexOK_of (by kernel_rfl) (by kernel_rfl)) ?_
  repeat (go_big_quiet_step (fail))
  rw [HI.out, HJ.out]
  refine wpQuiet_nil ?_
  intro X
  have hb := X.below
  have LA19 := Lib.hid (LA17.out.keep hb)
  clear LA17
  have LB19 := Lib.hid (LB17.out.keep hb)
  clear LB17
  have LC19 := Lib.hid (LC18.out.keep hb)
  clear LC18
  have HB19 := Lib.hid (bel_step HB17.out hb)
  clear HB17
  clear hb hz0 hz1 hn0 hn1
  go_wp2_with fail
  obtain ⟨ad, he, h1⟩ := LB19.out.at_ (tabF_get (i := i) _ hiN)
  injection he with he
  subst he
  rw [ad_base] at h1
  obtain ⟨ad, he, h2⟩ := LC19.out.at_ (tabF_get (i := j) _ hjN)
  injection he with he
  subst he
  rw [ad_base] at h2
  rw [fwd_evL (by rw [← HN.out, HLxs.out]; exact Nat.le_refl _)] at h1
  rw [fwd_evL (by rw [← HNB.out, HLxs.out]; exact hNB2)] at h2
  have l1 := Later.cell h1
  have l2 := Later.cell h2
  clear h1 h2
  have hi0 : (0 : Int) ≤ (i : Int) := by omega
  have hi1 : (i : Int) < (N : Int) := by omega
  have hj0 : (0 : Int) ≤ (j : Int) := by omega
  have hj1 : (j : Int) < (NB : Int) := by omega
  have hi2 : (i : Int) < 128 := by omega
  have hj2 : (j : Int) < 1024 := by omega
  clear LB19
  clear LC19
  try simp only [List.append_eq, List.cons_append, List.nil_append]
  refine wp_floatN (by kernel_rfl) (lexOK_of (by kernel_rfl) (by kernel_rfl)) (chainOF_of (by kernel_rfl)) (fun V20 hb hS => ?_)
  have LA21 := Lib.hid (LA19.out.keep hb)
  clear LA19
  have HB21 := Lib.hid (bel_step HB19.out hb)
  clear HB19
  clear hb
  have HS20' := Lib.hid hS
  clear hS
  refine wpF_seg 8 (by kernel_rfl) ?_
  simp only [List.take_succ_cons, List.take_zero, List.drop_succ_cons, List.drop_zero]
  repeat (go_big_quiet_step (fail))
  refine wpQuiet_nil ?_
  refine wpF_call 30 Try.func30 (by kernel_rfl) (by kernel_rfl) _ _ #[.int .u64 (vF (rootF q)), .int .u64 (i : Int)] rfl (by kernel_rfl) (by kernel_rfl) HS20'.out (fun V22 hV => ?_)
  refine (rpowFb (rootF q) i _ (by omega)).mono ?_
  rintro e W22 ⟨rfl, hb⟩
  have hb2 := ext_trans hV hb
  have LA23 := Lib.hid (LA21.out.keep hb2)
  clear LA21
  have HB23 := Lib.hid (bel_step HB21.out hb2)
  clear HB21
  have HS23 := Lib.hid (HS20'.out.ext hb2)
  clear HS20'
  refine ⟨_, rfl, hb, ?_⟩
  clear hb hb2 hV
  simp only [Act.put, List.setIfInBounds_toArray, List.set_cons_zero, List.set_cons_succ]
  refine wpF_call 29 Try.func29 (by kernel_rfl) (by kernel_rfl) _ _ #[.slice (some ⟨ga, 0, none⟩) N N, .int .u64 (vF (rootF q ^ i))] rfl (by kernel_rfl) (by kernel_rfl) HS23.out (fun V24 hV => ?_)
  refine (evalF (some ⟨ga, 0, none⟩) N N xs (rootF q ^ i) _ ((LA23.out.keep hV))).mono ?_
  rintro e W24 ⟨rfl, hb⟩
  have hb2 := ext_trans hV hb
  have LA25 := Lib.hid (LA23.out.keep hb2)
  clear LA23
  have HB25 := Lib.hid (bel_step HB23.out hb2)
  clear HB23
  have HS25 := Lib.hid (HS23.out.ext hb2)
  clear HS23
  refine ⟨_, rfl, hb, ?_⟩
  clear hb hb2 hV
  simp only [Act.put, List.setIfInBounds_toArray, List.set_cons_zero, List.set_cons_succ]
  refine wpF_seg 10 (by kernel_rfl) ?_
  simp only [List.take_succ_cons, List.take_zero, List.drop_succ_cons, List.drop_zero]
  repeat (go_big_quiet_step (fail))
  refine wpQuiet_nil ?_
  refine wpF_call 30 Try.func30 (by kernel_rfl) (by kernel_rfl) _ _ #[.int .u64 (vF (rootF (q + r))), .int .u64 (j : Int)] rfl (by kernel_rfl) (by kernel_rfl) HS25.out (fun V26 hV => ?_)
  refine (rpowFb (rootF (q + r)) j _ (by omega)).mono ?_
  rintro e W26 ⟨rfl, hb⟩
  have hb2 := ext_trans hV hb
  have LA27 := Lib.hid (LA25.out.keep hb2)
  clear LA25
  have HB27 := Lib.hid (bel_step HB25.out hb2)
  clear HB25
  have HS27 := Lib.hid (HS25.out.ext hb2)
  clear HS25
  refine ⟨_, rfl, hb, ?_⟩
  clear hb hb2 hV
  simp only [Act.put, List.setIfInBounds_toArray, List.set_cons_zero, List.set_cons_succ]
  refine wpF_call 29 Try.func29 (by kernel_rfl) (by kernel_rfl) _ _ #[.slice (some ⟨ga, 0, none⟩) N N, .int .u64 (vF (rootF (q + r) ^ j))] rfl (by kernel_rfl) (by kernel_rfl) HS27.out (fun V28 hV => ?_)
  refine (evalF (some ⟨ga, 0, none⟩) N N xs (rootF (q + r) ^ j) _ ((LA27.out.keep hV))).mono ?_
  rintro e W28 ⟨rfl, hb⟩
  have hb2 := ext_trans hV hb
  have LA29 := Lib.hid (LA27.out.keep hb2)
  clear LA27
  have HB29 := Lib.hid (bel_step HB27.out hb2)
  clear HB27
  have HS29 := Lib.hid (HS27.out.ext hb2)
  clear HS27
  refine ⟨_, rfl, hb, ?_⟩
  clear hb hb2 hV
  simp only [Act.put, List.setIfInBounds_toArray, List.set_cons_zero, List.set_cons_succ]
  refine wpF_seg 6 (by kernel_rfl) ?_
  simp only [List.take_succ_cons, List.take_zero, List.drop_succ_cons, List.drop_zero]
  repeat (go_big_quiet_step (fail))
  refine wpQuiet_nil ?_
  refine wpF_nil (fun V30 hb => ?_)
  have LA31 := Lib.hid (LA29.out.keep hb)
  clear LA29
  have HB31 := Lib.hid (bel_step HB29.out hb)
  clear HB29
  clear hb
  clear l1 l2
  go_wp2_with fail
  go_ret
  exact ⟨rfl, HB31.out⟩

end Go.Proofs.Ytihneehceclffaa
