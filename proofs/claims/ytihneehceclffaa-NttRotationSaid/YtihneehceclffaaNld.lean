/- Contract of a law of package ntt; no conditions but the arguments' own. -/
import Derived.Test.YtihneehceclffaaNlm

set_option linter.unusedVariables false
namespace Go.Proofs.Ytihneehceclffaa
open Go.RowKit Gold

set_option maxHeartbeats 16000000 in
set_option maxRecDepth 100000 in
theorem nttRotation_any (X0 : Option Addr) (nx cx : Nat) (px : List Int) (k : Int) (w : World) (hx : Su w X0 nx cx px) (wx : ∀ z ∈ px, U64 z) (hk : 0 ≤ k ∧ k ≤ 255) :
    Calls Try.prog 6 #[.slice X0 nx cx, .int .u8 k] w fun e w' => e = .returned (.bool true) ∧ Below w.heap.size w w' := by
  have hcx := hx.cap
  have htx := hx.top
  have Px0 := Lib.hid hx
  have Wx := Lib.hid wx
  have HLx := Lib.hid hx.len
  clear hx wx
  obtain ⟨q, hq⟩ : ∃ q : Nat, k % 9 = (q : Int) := ⟨(k % 9).toNat, by omega⟩
  have hql : q ≤ 8 := by omega
  obtain ⟨N, hN⟩ : ∃ N : Nat, N = 2 ^ q := ⟨_, rfl⟩
  have hN1 : 1 ≤ N := by rw [hN]; exact Nat.two_pow_pos q
  have hN2 : N ≤ 256 := by rw [hN]; exact Nat.pow_le_pow_right (n := 2) (by omega) hql
  have HN := Lib.hid hN
  clear hN
  have HQ := Lib.hid hq
  clear hq
  go_enter Try.func6, Try.ntmps6
  go_wp2_with fail
  refine (sanity4_any _).mono ?_
  rintro e W1 ⟨rfl, hb⟩
  have Px2 := Lib.hid (Px0.out.keep hb)
  clear Px0
  have HB2 := Lib.hid hb
  clear hb
  go_wp2_with fail
  refine (made4_any X0 nx cx px k 8 q N _ Px2.out Wx.out hk (by omega) HQ.out HN.out).mono ?_
  rintro e W3 ⟨ga, rfl, hs, hb⟩
  have Px4 := Lib.hid (Px2.out.keep hb)
  clear Px2
  have HB4 := Lib.hid (bel_step HB2.out hb)
  clear HB2
  clear hb
  have LA5 := Lib.hid hs
  clear hs
  clear Px4
  generalize hxs : tabF N (cfF (px.map toF)) = xs at *
  have hxl : xs.length = N := by rw [← hxs]; exact tabF_length _ _
  have HLxs := Lib.hid hxl
  clear hxs hxl
  obtain ⟨y, hy⟩ := LA5.out.get (show N - 1 < N by omega)
  obtain ⟨ad, he, h0⟩ := LA5.out.at_ hy
  injection he with he
  subst he
  have HY := Lib.hid hy
  clear hy
  have hi1 : (0 : Int) ≤ (N : Int) - 1 := by omega
  have hi2 : ((N : Int) - 1).toNat = N - 1 := by omega
  rw [ad_base] at h0
  replace h0 := cell_alloc h0 (.cells #[] 34)
  go_wp2_with (first | (at_builtin; refine wpList_appendF rfl (.tmp 20) (.tmp 27) rfl (W3.heap.size) _ 0 _ rfl ((OwF.made W3 W3.heap.size (Nat.le_refl _)).keep ((Below.refl _ _).alloc (Nat.le_refl _) _)) (W3.heap.size + 1) 1 y rfl (by have := One.new (W3.alloc (.cells #[] 34)) 34 (.int .u64 (vF y)); simpa using this) (by omega) (by simp; omega) ?_; intro v1 w1 hown1 hb1; have HO1 := Lib.hid hown1; have HBW := Lib.hid ((((Below.refl _ _).alloc (Nat.le_refl _) _).alloc (by simp) _).trans hb1 : Below W3.heap.size W3 w1); clear hown1 hb1) | (at_builtin; refine wpList_appendFs rfl (.tmp 29) (.tmp 34) rfl (W3.heap.size) _ _ _ rfl HO1.out ⟨ga, 0, none⟩ (N - 1) N (xs.take (N - 1)) rfl ((LA5.out.keep HBW.out).cut (by omega) (by omega) (Nat.le_refl _) (fun e => by cases e)) (by omega) HBW.out.size ?_; intro v2 w2 hown2 hb2; have HO2 := Lib.hid hown2; have HBX := Lib.hid (HBW.out.trans hb2); clear hown2 hb2))
  clear h0 hi1 hi2
  have HO3 := Lib.hid (show OwF w2 W3.heap.size v2 N (rotL xs N) by have h5 := HO2.out; rw [show 0 + 1 + (N - 1) = N by omega] at h5; unfold rotL; rw [cfF_some HY.out]; exact h5)
  clear HO2
  have hb := HBX.out
  have LA6 := Lib.hid (LA5.out.keep hb)
  clear LA5
  have HB6 := Lib.hid (bel_step HB4.out hb)
  clear HB4
  clear hb
  obtain ⟨A2, c2, rfl, hs2⟩ := HO3.out.sl
  have LR7 := Lib.hid hs2
  clear hs2
  clear HO3
  refine (forward_yes (some ⟨ga, 0, none⟩) N N xs q _ LA6.out HN.out (by omega)).mono ?_
  rintro e W8 ⟨gb, rfl, hs, hb⟩
  have LA9 := Lib.hid (LA6.out.keep hb)
  clear LA6
  have LR9 := Lib.hid (LR7.out.keep hb)
  clear LR7
  have HB9 := Lib.hid (bel_step HB6.out hb)
  clear HB6
  clear hb
  have LB10 := Lib.hid hs
  clear hs
  go_wp2_with fail
  refine (forward_yes A2 N c2 (rotL xs N) q _ LR9.out HN.out (by omega)).mono ?_
  rintro e W11 ⟨gc, rfl, hs, hb⟩
  have LA12 := Lib.hid (LA9.out.keep hb)
  clear LA9
  have LR12 := Lib.hid (LR9.out.keep hb)
  clear LR9
  have LB12 := Lib.hid (LB10.out.keep hb)
  clear LB10
  have HB12 := Lib.hid (bel_step HB9.out hb)
  clear HB9
  clear hb
  have LC13 := Lib.hid hs
  clear hs
  go_wp2_with fail
  clear LA12
  clear LR12
  refine (log_yes N q _ HN.out (by omega)).mono ?_
  rintro e w' ⟨rfl, hw⟩
  obtain rfl : W11 = w' := hw.symm
  go_wp2_with fail
  refine (ref_rootF q _ (by omega)).mono ?_
  rintro e w' ⟨rfl, hw⟩
  obtain rfl : W11 = w' := hw.symm
  go_wp2_with fail
  go_loopw [14, 15] (fun p i wr => ∃ j : Nat, j ≤ N ∧ i = .int .i64 j ∧ p = .int .u64 (vF (rootF q ^ j)) ∧ Below W11.heap.size W11 wr) (fun _ i _ => N - (intOf i).toNat)
  case atStart => exact ⟨0, Nat.zero_le _, rfl, by rw [F_pow_zero]; rfl, Below.refl _ _⟩
  case round =>
    obtain ⟨j, hj, rfl, rfl, hb⟩ := hrel
    have HBR := Lib.hid hb
    have LB14 := Lib.hid (LB12.out.keep hb)
    clear LB12
    have LC14 := Lib.hid (LC13.out.keep hb)
    clear LC13
    have HB14 := Lib.hid (bel_step HB12.out hb)
    clear HB12
    clear hb
    by_cases hlt : j < N
    · skip
      obtain ⟨ad, he, h0⟩ := LB14.out.at_ (tabF_get _ hlt)
      injection he with he
      subst he
      obtain ⟨ad, he, h1⟩ := LC14.out.at_ (tabF_get _ hlt)
      injection he with he
      subst he
      rw [ad_base] at h0 h1
      rw [rot_value HN.out (by omega)] at h1
      generalize fwdF (cfF xs) q j = y at h0 h1
      have hpw := Lib.hid (F_pow_succ (rootF q) j)
      generalize hpe : rootF q ^ j = p at *
      have HPe := Lib.hid hpe
      clear hpe
      have l0 := Later.cell h0
      have l1 := Later.cell h1
      clear h0 h1
      have hk0 : (0 : Int) ≤ (j : Int) := by omega
      have hk1 : (j : Int) < (N : Int) := by omega
      generalize rootF q = r at *
      go_wp2_with fail
      refine wp_later_lex (by kernel_rfl) (lexOK_of (by kernel_rfl) (by kernel_rfl)) ?_
      repeat (go_big_quiet_step ((first | (go_at_call 24; with_reducible exact Calls.later (rreduceV y _)) | (go_at_call 26; with_reducible exact Calls.later (rmulFb y p _)))))
      refine wpQuiet_nil ?_
      intro X15
      have HBX := Lib.hid (bel_step HBR.out X15.below)
      clear l0 l1
      go_wp2_with fail
      refine (rmulF p r _).mono ?_
      rintro e w2 ⟨rfl, hw⟩
      subst hw
      go_wp2_with fail
      go_roundw
      case rel => exact ⟨j + 1, by omega, by go_num, by rw [hpw.out], HBX.out⟩
      case measure => simp [intOf]; omega
    · skip
      go_wp2_with fail
      go_ret
      exact ⟨rfl, HB14.out⟩

end Go.Proofs.Ytihneehceclffaa
