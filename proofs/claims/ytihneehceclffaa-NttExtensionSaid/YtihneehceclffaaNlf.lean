/- Contract of a law of package ntt; no conditions but the arguments' own. -/
import Derived.Test.YtihneehceclffaaNlm
import Derived.Test.YtihneehceclffaaNlq
import Derived.Test.YtihneehceclffaaFloat2

set_option linter.unusedVariables false
namespace Go.Proofs.Ytihneehceclffaa
open Go.RowKit Gold

set_option maxHeartbeats 16000000 in
set_option maxRecDepth 100000 in
theorem nttExtension_any (X0 : Option Addr) (nx cx : Nat) (px : List Int) (k k' : Int) (w : World) (hx : Su w X0 nx cx px) (wx : ∀ z ∈ px, U64 z) (hk : 0 ≤ k ∧ k ≤ 255) (hk' : 0 ≤ k' ∧ k' ≤ 255) :
    Calls Try.prog 8 #[.slice X0 nx cx, .agg #[.int .u8 k, .int .u8 k']] w fun e w' => e = .returned (.bool true) ∧ Below w.heap.size w w' := by
  have hcx := hx.cap
  have htx := hx.top
  have Px0 := Lib.hid hx
  have Wx := Lib.hid wx
  have HLx := Lib.hid hx.len
  clear hx wx
  obtain ⟨q, hq⟩ : ∃ q : Nat, k % 8 = (q : Int) := ⟨(k % 8).toNat, by omega⟩
  have hql : q ≤ 7 := by omega
  obtain ⟨N, hN⟩ : ∃ N : Nat, N = 2 ^ q := ⟨_, rfl⟩
  have hN1 : 1 ≤ N := by rw [hN]; exact Nat.two_pow_pos q
  have hN2 : N ≤ 128 := by rw [hN]; exact Nat.pow_le_pow_right (n := 2) (by omega) hql
  have HN := Lib.hid hN
  clear hN
  have HQ := Lib.hid hq
  clear hq
  obtain ⟨r, hr⟩ : ∃ r : Nat, k' % 4 = (r : Int) := ⟨(k' % 4).toNat, by omega⟩
  have hr3 : r ≤ 3 := by omega
  obtain ⟨b, hb⟩ : ∃ b : Nat, b = 2 ^ r := ⟨_, rfl⟩
  have hb1 : 1 ≤ b := by rw [hb]; exact Nat.two_pow_pos r
  have hb2 : b ≤ 8 := by have h8 : 2 ^ r ≤ 2 ^ 3 := Nat.pow_le_pow_right (by omega) hr3; omega
  have hwb : wrap64 (2 ^ r) = (b : Int) := by rw [hb]; exact wrap_pow2 (by omega)
  have HWB := Lib.hid hwb
  have HBp := Lib.hid hb
  have HR := Lib.hid hr
  clear hwb hb hr
  go_enter Try.func8, Try.ntmps8
  go_wp2_with fail
  refine calls_named1 (fun V1 hbV g0 hzV => ?_)
  have hk2 : Two V1 w.heap.size 42 (.int .u8 k) (.int .u8 k') := g0
  have Px2 := Lib.hid (Px0.out.keep hbV)
  clear Px0
  have HB2 := Lib.hid hbV
  clear hbV hzV g0
  have K3 := Lib.hid hk2
  clear hk2
  refine (sanity4_any _).mono ?_
  rintro e W4 ⟨rfl, hb⟩
  have Px5 := Lib.hid (Px2.out.keep hb)
  clear Px2
  have K5 := Lib.hid (K3.out.keep hb)
  clear K3
  have HB5 := Lib.hid (bel_step HB2.out hb)
  clear HB2
  clear hb
  go_wp2_with fail
  have hk0 := hk.1
  have hk1 := hk'.1
  have hk2 := hk'.2
  have TK := K5.out
  have lK0 := Later.cell TK.c0
  have lK1 := Later.cell TK.c1
  clear TK
  try simp only [List.append_eq, List.cons_append, List.nil_append]
  refine wp_floatN (by kernel_rfl) (lexOK_of (by kernel_rfl) (by kernel_rfl)) (chainOF_of (by kernel_rfl)) (fun V6 hb hS => ?_)
  have Px7 := Lib.hid (Px5.out.keep hb)
  clear Px5
  have K7 := Lib.hid (K5.out.keep hb)
  clear K5
  have HB7 := Lib.hid (bel_step HB5.out hb)
  clear HB5
  clear hb
  have HS6' := Lib.hid hS
  clear hS
  refine wpF_seg 3 (by kernel_rfl) ?_
  simp only [List.take_succ_cons, List.take_zero, List.drop_succ_cons, List.drop_zero]
  repeat (go_big_quiet_step (fail))
  refine wpQuiet_nil ?_
  refine wpF_call 23 Try.func23 (by kernel_rfl) (by kernel_rfl) _ _ #[.slice X0 nx cx, .int .u8 k, .int .i64 7] rfl (by kernel_rfl) (by kernel_rfl) HS6'.out (fun V8 hV => ?_)
  refine (made4_any X0 nx cx px k 7 q N _ ((Px7.out.keep hV)) Wx.out hk (by omega) HQ.out HN.out).mono ?_
  rintro e W8 ⟨ga, rfl, hs, hb⟩
  have hb2 := ext_trans hV hb
  have Px9 := Lib.hid (Px7.out.keep hb2)
  clear Px7
  have K9 := Lib.hid (K7.out.keep hb2)
  clear K7
  have HB9 := Lib.hid (bel_step HB7.out hb2)
  clear HB7
  have HS9 := Lib.hid (HS6'.out.ext hb2)
  clear HS6'
  have LA10 := Lib.hid hs
  clear hs
  refine ⟨_, rfl, hb, ?_⟩
  clear hb hb2 hV
  simp only [Act.put, List.setIfInBounds_toArray, List.set_cons_zero, List.set_cons_succ]
  have hr := HR.out
  have hwb := HWB.out
  refine wpF_seg 7 (by kernel_rfl) ?_
  simp only [List.take_succ_cons, List.take_zero, List.drop_succ_cons, List.drop_zero]
  repeat (go_big_quiet_step (fail))
  refine wpQuiet_nil ?_
  clear hr hwb
  refine wpF_nil (fun V11 hb => ?_)
  have Px12 := Lib.hid (Px9.out.keep hb)
  clear Px9
  have K12 := Lib.hid (K9.out.keep hb)
  clear K9
  have LA12 := Lib.hid (LA10.out.keep hb)
  clear LA10
  have HB12 := Lib.hid (bel_step HB9.out hb)
  clear HB9
  clear hb
  clear lK0 lK1
  clear Px12
  clear K12
  generalize hxs : tabF N (cfF (px.map toF)) = xs at *
  have hxl : xs.length = N := by rw [← hxs]; exact tabF_length _ _
  have HLxs := Lib.hid hxl
  clear hxs hxl
  obtain ⟨NB, hNB⟩ : ∃ NB : Nat, NB = 2 ^ (q + r) := ⟨_, rfl⟩
  have hpb : b * N = NB := by rw [HBp.out, HN.out, hNB, Nat.pow_add, Nat.mul_comm]
  have hNB1 : NB ≤ 1024 := by rw [← hpb]; exact Nat.mul_le_mul hb2 hN2
  have hNB2 : N ≤ NB := by rw [← hpb]; exact Nat.le_mul_of_pos_left N (by omega)
  have HNB := Lib.hid hNB
  clear hNB
  have hpi : (b : Int) * (N : Int) = (NB : Int) := by rw [← Int.natCast_mul, hpb]
  have HPB := Lib.hid hpb
  have HPI := Lib.hid hpi
  clear hpb hpi
  have hwb := HWB.out
  go_wp2_with fail
  clear hwb
  refine (forward_yes (some ⟨ga, 0, none⟩) N N xs q _ LA12.out HN.out (by omega)).mono ?_
  rintro e W13 ⟨gb, rfl, hs, hb⟩
  have LA14 := Lib.hid (LA12.out.keep hb)
  clear LA12
  have HB14 := Lib.hid (bel_step HB12.out hb)
  clear HB12
  clear hb
  have LB15 := Lib.hid hs
  clear hs
  have hwb := HWB.out
  go_wp2_with fail
  clear hwb
  refine (extend_yes (some ⟨ga, 0, none⟩) N N xs b NB q r _ LA14.out HN.out HBp.out HNB.out (by omega)).mono ?_
  rintro e W16 ⟨gc, rfl, hs, hb⟩
  have LA17 := Lib.hid (LA14.out.keep hb)
  clear LA14
  have LB17 := Lib.hid (LB15.out.keep hb)
  clear LB15
  have HB17 := Lib.hid (bel_step HB14.out hb)
  clear HB14
  clear hb
  have LC18 := Lib.hid hs
  clear hs
  have hpw : ((NB : Int) != wrap64 ((b : Int) * (N : Int))) = false := by rw [HPI.out, bne_eq_false_iff_eq]; unfold wrap64; omega
  go_wp2_with fail
  clear hpw
  refine (inverse_yes (some ⟨gc, 0, none⟩) NB NB _ (q + r) _ LC18.out HNB.out (by omega)).mono ?_
  rintro e W19 ⟨gd, rfl, hs, hb⟩
  have LA20 := Lib.hid (LA17.out.keep hb)
  clear LA17
  have LB20 := Lib.hid (LB17.out.keep hb)
  clear LB17
  have LC20 := Lib.hid (LC18.out.keep hb)
  clear LC18
  have HB20 := Lib.hid (bel_step HB17.out hb)
  clear HB17
  clear hb
  have LD21 := Lib.hid hs
  clear hs
  go_wp2_with fail
  go_loopw [14] (fun i wr => ∃ j : Nat, j ≤ NB ∧ i = .int .i64 j ∧ Below W19.heap.size W19 wr) (fun i _ => NB - (intOf i).toNat)
  case atStart => exact ⟨0, Nat.zero_le _, rfl, Below.refl _ _⟩
  case round =>
    obtain ⟨j, hj, rfl, hb⟩ := hrel
    have HBR := Lib.hid hb
    have LA22 := Lib.hid (LA20.out.keep hb)
    clear LA20
    have LB22 := Lib.hid (LB20.out.keep hb)
    clear LB20
    have LC22 := Lib.hid (LC20.out.keep hb)
    clear LC20
    have LD22 := Lib.hid (LD21.out.keep hb)
    clear LD21
    have HB22 := Lib.hid (bel_step HB20.out hb)
    clear HB20
    clear hb
    by_cases hlt : j < NB
    · skip
      obtain ⟨ad, he, h1⟩ := LD22.out.at_ (tabF_get (i := j) _ hlt)
      injection he with he
      subst he
      rw [ad_base] at h1
      rw [ext_inv HNB.out (by omega) hlt] at h1
      have hj0 : (0 : Int) ≤ (j : Int) := by omega
      have hj1 : (j : Int) < (NB : Int) := by omega
      by_cases hn : j < N
      · skip
        obtain ⟨x, hx⟩ := LA22.out.get hn
        obtain ⟨ad, he, h2⟩ := LA22.out.at_ hx
        injection he with he
        subst he
        rw [ad_base] at h2
        rw [cfF_some hx] at h1
        clear hx
        obtain ⟨bj, hbj⟩ : ∃ bj : Nat, bj = b * j := ⟨_, rfl⟩
        have hbl : bj < NB := by rw [hbj, ← HPB.out]; exact Nat.mul_lt_mul_of_pos_left hn (by omega)
        obtain ⟨ad, he, h3⟩ := LC22.out.at_ (tabF_get (i := bj) _ hbl)
        injection he with he
        subst he
        rw [ad_base] at h3
        obtain ⟨ad, he, h4⟩ := LB22.out.at_ (tabF_get (i := j) _ hn)
        injection he with he
        subst he
        rw [ad_base] at h4
        rw [hbj, HBp.out, ext_sub (by omega) (by rw [← HN.out, HLxs.out]; exact Nat.le_refl _), ← HBp.out, ← hbj] at h3
        generalize fwdF (cfF xs) q j = y at h3 h4
        have hbi : (b : Int) * (j : Int) = (bj : Int) := by rw [← Int.natCast_mul, ← hbj]
        have HBI := Lib.hid hbi
        clear hbi hbj
        have l1 := Later.cell h1
        have l2 := Later.cell h2
        have l3 := Later.cell h3
        have l4 := Later.cell h4
        have hn1 : (j : Int) < (N : Int) := by omega
        have hbl0 : (0 : Int) ≤ (bj : Int) := by omega
        have hbl1 : (bj : Int) < (NB : Int) := by omega
        clear h1 h2 h3 h4
        go_wp2_with fail
        have hbw : wrap64 ((b : Int) * (j : Int)) = (bj : Int) := by rw [HBI.out]; unfold wrap64; omega
        have hbw2 : IntKind.i64.wrap ((b : Int) * (j : Int)) = (bj : Int) := by rw [HBI.out, IntKind.wrap_i64]; clear hbw; omega
        refine wp_later_lex (by kernel_rfl) (lexOK_of (by kernel_rfl) (by kernel_rfl)) ?_
        repeat (go_big_quiet_step (fail))
        have hn3 : decide (N ≤ j) = false := by rw [decide_eq_false_iff_not]; omega
        rw [hn3]
        repeat (go_big_quiet_step (fail))
        refine wpQuiet_nil ?_
        intro X
        have HBX := Lib.hid (bel_step HBR.out X.below)
        clear l1 l2 l3 l4 hbw hbw2 hn3
        go_wp2_with fail
        go_roundw
        case rel => exact ⟨j + 1, by omega, by go_num, HBX.out⟩
        case measure => simp [intOf]; omega
      · skip
        rw [cfF_none (by rw [HLxs.out]; omega), vF_zero] at h1
        have l1 := Later.cell h1
        clear h1
        go_wp2_with fail
        refine wp_later_lex (by kernel_rfl) (lexOK_of (by kernel_rfl) (by kernel_rfl)) ?_
        repeat (go_big_quiet_step (fail))
        have hn3 : decide (N ≤ j) = true := by rw [decide_eq_true_iff]; omega
        rw [hn3]
        repeat (go_big_quiet_step (fail))
        refine wpQuiet_nil ?_
        intro X
        have HBX := Lib.hid (bel_step HBR.out X.below)
        clear l1 hn3
        go_wp2_with fail
        go_roundw
        case rel => exact ⟨j + 1, by omega, by go_num, HBX.out⟩
        case measure => simp [intOf]; omega
    · skip
      go_wp2_with fail
      go_ret
      exact ⟨rfl, HB22.out⟩

end Go.Proofs.Ytihneehceclffaa
