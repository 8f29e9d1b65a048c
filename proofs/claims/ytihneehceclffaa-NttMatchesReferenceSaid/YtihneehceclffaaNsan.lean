/- The examples of the laws of package ntt; no conditions. -/
import Derived.Test.YtihneehceclffaaNra
set_option linter.unusedVariables false
namespace Go.Proofs.Ytihneehceclffaa
open Go.RowKit Gold

theorem pm_four : pm 64 7 4611686017353646080 = 281474976710656 := by decide +kernel
theorem rootF_two : rootF 2 = 281474976710656 := by
  apply vF_inj
  rw [vF_root]
  have h := fpow_nat El_seven 4611686017353646080
  have e := pm_eq 64 7 4611686017353646080 (by decide)
  rw [show Int.toNat 7 = 7 from rfl, ← e, pm_four] at h
  unfold froot
  exact h
theorem san_a : tabF 2 (fwdF (cfF [5, 7]) 1) = [12, 18446744069414584319] := by
  unfold fwdF
  rw [rootF_one]
  decide +kernel
theorem san_b : tabF 2 (invT (cfF [12, 18446744069414584319]) 1) = [5, 7] := by
  have h : tabF 2 (invT (fwdF (cfF [5, 7]) 1) 1) = tabF 2 (cfF [5, 7]) := tabF_congr fun i hi => inv_fwd (k := 1) (by omega) _ hi
  have e : tabF 2 (invT (cfF [12, 18446744069414584319]) 1) = tabF 2 (invT (fwdF (cfF [5, 7]) 1) 1) := by
    rw [← san_a]
    refine tabF_congr fun i hi => ?_
    unfold invT
    exact congrArg (invF (natF (2 ^ 1)) * ·) (evF_congr (fun j hj => cfF_tab _ hj) _)
  rw [e, h]
  decide +kernel
theorem san_c : tabF 4 (fwdF (cfF [3]) (0 + 2)) = [3, 3, 3, 3] := by
  unfold fwdF
  rw [show 0 + 2 = 2 from rfl, rootF_two]
  decide +kernel
theorem san_d : mulF' [1, 2] [3, 4, 5] = [3, 10, 13, 10] := by decide +kernel
theorem san_e : tabF 4 (fwdF (cfF [0, 1, 0, 0]) 2) = [1, 281474976710656, 18446744069414584320, 18446462594437873665] := by
  unfold fwdF
  rw [rootF_two]
  decide +kernel
theorem san_no3 (k : Nat) (hk : k ≤ 16) : 3 ≠ 2 ^ k := by
  have h : ∀ k : Fin 17, 3 ≠ 2 ^ k.val := by decide
  exact h ⟨k, by omega⟩
theorem san_no0 (k : Nat) (_ : k ≤ 16) : 0 ≠ 2 ^ k := by have := Nat.two_pow_pos k; omega
theorem san_b3 (K L : Nat) (h : K + L ≤ 16) : (3 : Int) ≠ ((2 ^ L : Nat) : Int) := by
  have h1 : ∀ k : Fin 17, 3 ≠ 2 ^ k.val := by decide
  exact fun e => h1 ⟨L, by omega⟩ (Int.ofNat.inj e)
theorem san_big (K L : Nat) (h : K + L ≤ 16) : (131072 : Int) ≠ ((2 ^ L : Nat) : Int) := by
  have h1 : ∀ k : Fin 17, 131072 ≠ 2 ^ k.val := by decide
  exact fun e => h1 ⟨L, by omega⟩ (Int.ofNat.inj e)
theorem lit_sf {w : World} {g : Nat} (n : Nat) (xs : List F) (vs : Array Value) (hn : n = xs.length) (hv : (cellsF xs).toArray = vs) (g0 : w.heap[g]? = some (.cells vs 34 (0, 0))) (hl : n ≤ 70000) : Sf w (some ⟨g, 0, none⟩) n n xs := by
  subst hv
  exact RowF.own (show RowF w g xs from g0) hn hl

set_option maxHeartbeats 4000000 in
set_option maxRecDepth 100000 in
theorem sanity4_any (w : World) : Calls Try.prog 12 #[] w fun e w' => e = .returned (.bool true) ∧ Below w.heap.size w w' := by
  go_enter Try.func12, Try.ntmps12
  go_wp2_with fail
  refine calls_named1 (fun V1 hbV g0 hzV => ?_)
  have hs := lit_sf (g := w.heap.size) 2 [5, 7] _ rfl rfl g0 (by decide)
  have HB2 := Lib.hid hbV
  clear hbV hzV g0
  have LA3 := Lib.hid hs
  clear hs
  refine (forward_yes (some ⟨w.heap.size, 0, none⟩) 2 2 [5, 7] 1 _ LA3.out rfl (by omega)).mono ?_
  rintro e W4 ⟨ga, rfl, hs, hb⟩
  have LA5 := Lib.hid (LA3.out.keep hb)
  clear LA3
  have HB5 := Lib.hid (bel_step HB2.out hb)
  clear HB2
  clear hb
  have RA6 := Lib.hid hs
  clear hs
  go_wp2_with fail
  clear LA5
  refine calls_named1 (fun V7 hbV g0 hzV => ?_)
  have hs := lit_sf (g := W4.heap.size) 2 [12, 18446744069414584319] _ rfl rfl g0 (by decide)
  have RA8 := Lib.hid (RA6.out.keep hbV)
  clear RA6
  have HB8 := Lib.hid (bel_step HB5.out hbV)
  clear HB5
  clear hbV hzV g0
  have LB9 := Lib.hid hs
  clear hs
  refine (inverse_yes (some ⟨W4.heap.size, 0, none⟩) 2 2 [12, 18446744069414584319] 1 _ LB9.out rfl (by omega)).mono ?_
  rintro e W10 ⟨gb, rfl, hs, hb⟩
  have RA11 := Lib.hid (RA8.out.keep hb)
  clear RA8
  have LB11 := Lib.hid (LB9.out.keep hb)
  clear LB9
  have HB11 := Lib.hid (bel_step HB8.out hb)
  clear HB8
  clear hb
  have RB12 := Lib.hid hs
  clear hs
  go_wp2_with fail
  clear LB11
  refine calls_named1 (fun V13 hbV g0 hzV => ?_)
  have hs := lit_sf (g := W10.heap.size) 1 [3] _ rfl rfl g0 (by decide)
  have RA14 := Lib.hid (RA11.out.keep hbV)
  clear RA11
  have RB14 := Lib.hid (RB12.out.keep hbV)
  clear RB12
  have HB14 := Lib.hid (bel_step HB11.out hbV)
  clear HB11
  clear hbV hzV g0
  have LC15 := Lib.hid hs
  clear hs
  refine (extend_yes (some ⟨W10.heap.size, 0, none⟩) 1 1 [3] 4 4 0 2 _ LC15.out rfl rfl rfl (by omega)).mono ?_
  rintro e W16 ⟨gc, rfl, hs, hb⟩
  have RA17 := Lib.hid (RA14.out.keep hb)
  clear RA14
  have RB17 := Lib.hid (RB14.out.keep hb)
  clear RB14
  have LC17 := Lib.hid (LC15.out.keep hb)
  clear LC15
  have HB17 := Lib.hid (bel_step HB14.out hb)
  clear HB14
  clear hb
  have RC18 := Lib.hid hs
  clear hs
  go_wp2_with fail
  clear LC17
  refine calls_named2 (fun V19 hbV g0 g1 hzV => ?_)
  have hs := lit_sf (g := W16.heap.size) 2 [1, 2] _ rfl rfl g0 (by decide)
  have ht := lit_sf (g := W16.heap.size + 1) 3 [3, 4, 5] _ rfl rfl g1 (by decide)
  have RA20 := Lib.hid (RA17.out.keep hbV)
  clear RA17
  have RB20 := Lib.hid (RB17.out.keep hbV)
  clear RB17
  have RC20 := Lib.hid (RC18.out.keep hbV)
  clear RC18
  have HB20 := Lib.hid (bel_step HB17.out hbV)
  clear HB17
  clear hbV hzV g0 g1
  have LD21 := Lib.hid hs
  clear hs
  have LE22 := Lib.hid ht
  clear ht
  refine (mul_yes (some ⟨W16.heap.size, 0, none⟩) 2 2 [1, 2] (some ⟨W16.heap.size + 1, 0, none⟩) 3 3 [3, 4, 5] _ LD21.out LE22.out (by omega) (by omega) (by omega)).mono ?_
  rintro e W23 ⟨gd, rfl, hs, hb⟩
  have RA24 := Lib.hid (RA20.out.keep hb)
  clear RA20
  have RB24 := Lib.hid (RB20.out.keep hb)
  clear RB20
  have RC24 := Lib.hid (RC20.out.keep hb)
  clear RC20
  have LD24 := Lib.hid (LD21.out.keep hb)
  clear LD21
  have LE24 := Lib.hid (LE22.out.keep hb)
  clear LE22
  have HB24 := Lib.hid (bel_step HB20.out hb)
  clear HB20
  clear hb
  have RD25 := Lib.hid hs
  clear hs
  go_wp2_with fail
  clear LD24
  clear LE24
  refine calls_named1 (fun V26 hbV g0 hzV => ?_)
  have hs := lit_sf (g := W23.heap.size) 4 [0, 1, 0, 0] _ rfl rfl g0 (by decide)
  have RA27 := Lib.hid (RA24.out.keep hbV)
  clear RA24
  have RB27 := Lib.hid (RB24.out.keep hbV)
  clear RB24
  have RC27 := Lib.hid (RC24.out.keep hbV)
  clear RC24
  have RD27 := Lib.hid (RD25.out.keep hbV)
  clear RD25
  have HB27 := Lib.hid (bel_step HB24.out hbV)
  clear HB24
  clear hbV hzV g0
  have LF28 := Lib.hid hs
  clear hs
  refine (forward_yes (some ⟨W23.heap.size, 0, none⟩) 4 4 [0, 1, 0, 0] 2 _ LF28.out rfl (by omega)).mono ?_
  rintro e W29 ⟨ge, rfl, hs, hb⟩
  have RA30 := Lib.hid (RA27.out.keep hb)
  clear RA27
  have RB30 := Lib.hid (RB27.out.keep hb)
  clear RB27
  have RC30 := Lib.hid (RC27.out.keep hb)
  clear RC27
  have RD30 := Lib.hid (RD27.out.keep hb)
  clear RD27
  have LF30 := Lib.hid (LF28.out.keep hb)
  clear LF28
  have HB30 := Lib.hid (bel_step HB27.out hb)
  clear HB27
  clear hb
  have RE31 := Lib.hid hs
  clear hs
  go_wp2_with fail
  clear LF30
  refine calls_named1 (fun V32 hbV g0 hzV => ?_)
  have hs := lit_sf (g := W29.heap.size) 3 [1, 2, 3] _ rfl rfl g0 (by decide)
  have RA33 := Lib.hid (RA30.out.keep hbV)
  clear RA30
  have RB33 := Lib.hid (RB30.out.keep hbV)
  clear RB30
  have RC33 := Lib.hid (RC30.out.keep hbV)
  clear RC30
  have RD33 := Lib.hid (RD30.out.keep hbV)
  clear RD30
  have RE33 := Lib.hid (RE31.out.keep hbV)
  clear RE31
  have HB33 := Lib.hid (bel_step HB30.out hbV)
  clear HB30
  clear hbV hzV g0
  have LG34 := Lib.hid hs
  clear hs
  refine (forward_no (some ⟨W29.heap.size, 0, none⟩) 3 3 [1, 2, 3] _ LG34.out san_no3).mono ?_
  rintro e W35 ⟨rfl, hb⟩
  have RA36 := Lib.hid (RA33.out.keep hb)
  clear RA33
  have RB36 := Lib.hid (RB33.out.keep hb)
  clear RB33
  have RC36 := Lib.hid (RC33.out.keep hb)
  clear RC33
  have RD36 := Lib.hid (RD33.out.keep hb)
  clear RD33
  have RE36 := Lib.hid (RE33.out.keep hb)
  clear RE33
  have LG36 := Lib.hid (LG34.out.keep hb)
  clear LG34
  have HB36 := Lib.hid (bel_step HB33.out hb)
  clear HB33
  clear hb
  go_wp2_with fail
  clear LG36
  refine (inverse_no none 0 0 [] _ (Sf.nil _) san_no0).mono ?_
  rintro e W37 ⟨rfl, hb⟩
  have RA38 := Lib.hid (RA36.out.keep hb)
  clear RA36
  have RB38 := Lib.hid (RB36.out.keep hb)
  clear RB36
  have RC38 := Lib.hid (RC36.out.keep hb)
  clear RC36
  have RD38 := Lib.hid (RD36.out.keep hb)
  clear RD36
  have RE38 := Lib.hid (RE36.out.keep hb)
  clear RE36
  have HB38 := Lib.hid (bel_step HB36.out hb)
  clear HB36
  clear hb
  go_wp2_with fail
  refine calls_named1 (fun V39 hbV g0 hzV => ?_)
  have hs := lit_sf (g := W37.heap.size) 2 [1, 2] _ rfl rfl g0 (by decide)
  have RA40 := Lib.hid (RA38.out.keep hbV)
  clear RA38
  have RB40 := Lib.hid (RB38.out.keep hbV)
  clear RB38
  have RC40 := Lib.hid (RC38.out.keep hbV)
  clear RC38
  have RD40 := Lib.hid (RD38.out.keep hbV)
  clear RD38
  have RE40 := Lib.hid (RE38.out.keep hbV)
  clear RE38
  have HB40 := Lib.hid (bel_step HB38.out hbV)
  clear HB38
  clear hbV hzV g0
  have LH41 := Lib.hid hs
  clear hs
  refine (extend_no (some ⟨W37.heap.size, 0, none⟩) 2 2 [1, 2] 3 _ LH41.out (by omega) (by omega) (fun K L h _ => san_b3 K L h)).mono ?_
  rintro e W42 ⟨rfl, hb⟩
  have RA43 := Lib.hid (RA40.out.keep hb)
  clear RA40
  have RB43 := Lib.hid (RB40.out.keep hb)
  clear RB40
  have RC43 := Lib.hid (RC40.out.keep hb)
  clear RC40
  have RD43 := Lib.hid (RD40.out.keep hb)
  clear RD40
  have RE43 := Lib.hid (RE40.out.keep hb)
  clear RE40
  have LH43 := Lib.hid (LH41.out.keep hb)
  clear LH41
  have HB43 := Lib.hid (bel_step HB40.out hb)
  clear HB40
  clear hb
  go_wp2_with fail
  clear LH43
  refine calls_named1 (fun V44 hbV g0 hzV => ?_)
  have hs := lit_sf (g := W42.heap.size) 1 [1] _ rfl rfl g0 (by decide)
  have RA45 := Lib.hid (RA43.out.keep hbV)
  clear RA43
  have RB45 := Lib.hid (RB43.out.keep hbV)
  clear RB43
  have RC45 := Lib.hid (RC43.out.keep hbV)
  clear RC43
  have RD45 := Lib.hid (RD43.out.keep hbV)
  clear RD43
  have RE45 := Lib.hid (RE43.out.keep hbV)
  clear RE43
  have HB45 := Lib.hid (bel_step HB43.out hbV)
  clear HB43
  clear hbV hzV g0
  have LI46 := Lib.hid hs
  clear hs
  refine (extend_no (some ⟨W42.heap.size, 0, none⟩) 1 1 [1] 131072 _ LI46.out (by omega) (by omega) (fun K L h _ => san_big K L h)).mono ?_
  rintro e W47 ⟨rfl, hb⟩
  have RA48 := Lib.hid (RA45.out.keep hb)
  clear RA45
  have RB48 := Lib.hid (RB45.out.keep hb)
  clear RB45
  have RC48 := Lib.hid (RC45.out.keep hb)
  clear RC45
  have RD48 := Lib.hid (RD45.out.keep hb)
  clear RD45
  have RE48 := Lib.hid (RE45.out.keep hb)
  clear RE45
  have LI48 := Lib.hid (LI46.out.keep hb)
  clear LI46
  have HB48 := Lib.hid (bel_step HB45.out hb)
  clear HB45
  clear hb
  go_wp2_with fail
  clear LI48
  refine calls_named1 (fun V49 hbV g0 hzV => ?_)
  have hs := lit_sf (g := W47.heap.size) 1 [1] _ rfl rfl g0 (by decide)
  have RA50 := Lib.hid (RA48.out.keep hbV)
  clear RA48
  have RB50 := Lib.hid (RB48.out.keep hbV)
  clear RB48
  have RC50 := Lib.hid (RC48.out.keep hbV)
  clear RC48
  have RD50 := Lib.hid (RD48.out.keep hbV)
  clear RD48
  have RE50 := Lib.hid (RE48.out.keep hbV)
  clear RE48
  have HB50 := Lib.hid (bel_step HB48.out hbV)
  clear HB48
  clear hbV hzV g0
  have LJ51 := Lib.hid hs
  clear hs
  refine (mul_empty none 0 0 (some ⟨W47.heap.size, 0, none⟩) 1 1 _ (by omega) (by omega) (.inl rfl)).mono ?_
  rintro e W52 ⟨rfl, hb⟩
  have RA53 := Lib.hid (RA50.out.keep hb)
  clear RA50
  have RB53 := Lib.hid (RB50.out.keep hb)
  clear RB50
  have RC53 := Lib.hid (RC50.out.keep hb)
  clear RC50
  have RD53 := Lib.hid (RD50.out.keep hb)
  clear RD50
  have RE53 := Lib.hid (RE50.out.keep hb)
  clear RE50
  have LJ53 := Lib.hid (LJ51.out.keep hb)
  clear LJ51
  have HB53 := Lib.hid (bel_step HB50.out hb)
  clear HB50
  clear hb
  go_wp2_with fail
  clear LJ53
  refine calls_named1 (fun V54 hbV g0 hzV => ?_)
  have hs := lit_sf (g := W52.heap.size) 2 [12, 18446744069414584319] _ rfl rfl g0 (by decide)
  have RA55 := Lib.hid (RA53.out.keep hbV)
  clear RA53
  have RB55 := Lib.hid (RB53.out.keep hbV)
  clear RB53
  have RC55 := Lib.hid (RC53.out.keep hbV)
  clear RC53
  have RD55 := Lib.hid (RD53.out.keep hbV)
  clear RD53
  have RE55 := Lib.hid (RE53.out.keep hbV)
  clear RE53
  have HB55 := Lib.hid (bel_step HB53.out hbV)
  clear HB53
  clear hbV hzV g0
  have LS56 := Lib.hid hs
  clear hs
  refine (same_yesF (some ⟨ga, 0, none⟩) 2 2 (some ⟨W52.heap.size, 0, none⟩) 2 2 [12, 18446744069414584319] _ (RA55.out.cast san_a) LS56.out).mono ?_
  rintro e W57 ⟨rfl, hb⟩
  have RA58 := Lib.hid (RA55.out.keep hb)
  clear RA55
  have RB58 := Lib.hid (RB55.out.keep hb)
  clear RB55
  have RC58 := Lib.hid (RC55.out.keep hb)
  clear RC55
  have RD58 := Lib.hid (RD55.out.keep hb)
  clear RD55
  have RE58 := Lib.hid (RE55.out.keep hb)
  clear RE55
  have LS58 := Lib.hid (LS56.out.keep hb)
  clear LS56
  have HB58 := Lib.hid (bel_step HB55.out hb)
  clear HB55
  clear hb
  go_wp2_with fail
  clear LS58
  clear RA58
  refine calls_named1 (fun V59 hbV g0 hzV => ?_)
  have hs := lit_sf (g := W57.heap.size) 2 [5, 7] _ rfl rfl g0 (by decide)
  have RB60 := Lib.hid (RB58.out.keep hbV)
  clear RB58
  have RC60 := Lib.hid (RC58.out.keep hbV)
  clear RC58
  have RD60 := Lib.hid (RD58.out.keep hbV)
  clear RD58
  have RE60 := Lib.hid (RE58.out.keep hbV)
  clear RE58
  have HB60 := Lib.hid (bel_step HB58.out hbV)
  clear HB58
  clear hbV hzV g0
  have LS61 := Lib.hid hs
  clear hs
  refine (same_yesF (some ⟨gb, 0, none⟩) 2 2 (some ⟨W57.heap.size, 0, none⟩) 2 2 [5, 7] _ (RB60.out.cast san_b) LS61.out).mono ?_
  rintro e W62 ⟨rfl, hb⟩
  have RB63 := Lib.hid (RB60.out.keep hb)
  clear RB60
  have RC63 := Lib.hid (RC60.out.keep hb)
  clear RC60
  have RD63 := Lib.hid (RD60.out.keep hb)
  clear RD60
  have RE63 := Lib.hid (RE60.out.keep hb)
  clear RE60
  have LS63 := Lib.hid (LS61.out.keep hb)
  clear LS61
  have HB63 := Lib.hid (bel_step HB60.out hb)
  clear HB60
  clear hb
  go_wp2_with fail
  clear LS63
  clear RB63
  refine calls_named1 (fun V64 hbV g0 hzV => ?_)
  have hs := lit_sf (g := W62.heap.size) 4 [3, 3, 3, 3] _ rfl rfl g0 (by decide)
  have RC65 := Lib.hid (RC63.out.keep hbV)
  clear RC63
  have RD65 := Lib.hid (RD63.out.keep hbV)
  clear RD63
  have RE65 := Lib.hid (RE63.out.keep hbV)
  clear RE63
  have HB65 := Lib.hid (bel_step HB63.out hbV)
  clear HB63
  clear hbV hzV g0
  have LS66 := Lib.hid hs
  clear hs
  refine (same_yesF (some ⟨gc, 0, none⟩) 4 4 (some ⟨W62.heap.size, 0, none⟩) 4 4 [3, 3, 3, 3] _ (RC65.out.cast san_c) LS66.out).mono ?_
  rintro e W67 ⟨rfl, hb⟩
  have RC68 := Lib.hid (RC65.out.keep hb)
  clear RC65
  have RD68 := Lib.hid (RD65.out.keep hb)
  clear RD65
  have RE68 := Lib.hid (RE65.out.keep hb)
  clear RE65
  have LS68 := Lib.hid (LS66.out.keep hb)
  clear LS66
  have HB68 := Lib.hid (bel_step HB65.out hb)
  clear HB65
  clear hb
  go_wp2_with fail
  clear LS68
  clear RC68
  refine calls_named1 (fun V69 hbV g0 hzV => ?_)
  have hs := lit_sf (g := W67.heap.size) 4 [3, 10, 13, 10] _ rfl rfl g0 (by decide)
  have RD70 := Lib.hid (RD68.out.keep hbV)
  clear RD68
  have RE70 := Lib.hid (RE68.out.keep hbV)
  clear RE68
  have HB70 := Lib.hid (bel_step HB68.out hbV)
  clear HB68
  clear hbV hzV g0
  have LS71 := Lib.hid hs
  clear hs
  refine (same_yesF (some ⟨gd, 0, none⟩) 4 4 (some ⟨W67.heap.size, 0, none⟩) 4 4 [3, 10, 13, 10] _ (RD70.out.cast san_d) LS71.out).mono ?_
  rintro e W72 ⟨rfl, hb⟩
  have RD73 := Lib.hid (RD70.out.keep hb)
  clear RD70
  have RE73 := Lib.hid (RE70.out.keep hb)
  clear RE70
  have LS73 := Lib.hid (LS71.out.keep hb)
  clear LS71
  have HB73 := Lib.hid (bel_step HB70.out hb)
  clear HB70
  clear hb
  go_wp2_with fail
  clear LS73
  clear RD73
  refine calls_named1 (fun V74 hbV g0 hzV => ?_)
  have hs := lit_sf (g := W72.heap.size) 4 [1, 281474976710656, 18446744069414584320, 18446462594437873665] _ rfl rfl g0 (by decide)
  have RE75 := Lib.hid (RE73.out.keep hbV)
  clear RE73
  have HB75 := Lib.hid (bel_step HB73.out hbV)
  clear HB73
  clear hbV hzV g0
  have LS76 := Lib.hid hs
  clear hs
  refine (same_yesF (some ⟨ge, 0, none⟩) 4 4 (some ⟨W72.heap.size, 0, none⟩) 4 4 [1, 281474976710656, 18446744069414584320, 18446462594437873665] _ (RE75.out.cast san_e) LS76.out).mono ?_
  rintro e W77 ⟨rfl, hb⟩
  have RE78 := Lib.hid (RE75.out.keep hb)
  clear RE75
  have LS78 := Lib.hid (LS76.out.keep hb)
  clear LS76
  have HB78 := Lib.hid (bel_step HB75.out hb)
  clear HB75
  clear hb
  go_wp2_with fail
  clear LS78
  clear RE78
  go_ret
  exact ⟨rfl, HB78.out⟩

end Go.Proofs.Ytihneehceclffaa
