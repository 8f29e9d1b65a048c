/- Contract of a law of package ntt; no conditions but the arguments' own. -/
import Derived.Test.YtihneehceclffaaNlm
import Derived.Test.YtihneehceclffaaNll0

set_option linter.unusedVariables false
namespace Go.Proofs.Ytihneehceclffaa
open Go.RowKit Gold

set_option maxHeartbeats 16000000 in
set_option maxRecDepth 100000 in
theorem nttLinearity_any (X0 : Option Addr) (nx cx : Nat) (px : List Int) (Y0 : Option Addr) (ny cy : Nat) (py : List Int) (e e' : Int) (w : World) (hx : Su w X0 nx cx px) (wx : ∀ z ∈ px, U64 z) (hy : Su w Y0 ny cy py) (wy : ∀ z ∈ py, U64 z) (he : U64 e) (he' : U64 e') :
    Calls Try.prog 5 #[.slice X0 nx cx, .slice Y0 ny cy, .agg #[.int .u64 e, .int .u64 e']] w fun e w' => e = .returned (.bool true) ∧ Below w.heap.size w w' := by
  have hcx := hx.cap
  have htx := hx.top
  have Px0 := Lib.hid hx
  have Wx := Lib.hid wx
  have HLx := Lib.hid hx.len
  clear hx wx
  have hcy := hy.cap
  have hty := hy.top
  have Py0 := Lib.hid hy
  have Wy := Lib.hid wy
  have HLy := Lib.hid hy.len
  clear hy wy
  obtain ⟨k, hkd⟩ : ∃ k : Int, e % 16 = k := ⟨_, rfl⟩
  have hk : 0 ≤ k ∧ k ≤ 255 := by omega
  have hk0 := hk.1
  have hk1 := hk.2
  have hand : bits BinOp.and IntKind.u64 e 15 = k := (and_15 e he).trans hkd
  have HAND := Lib.hid hand
  clear hand hkd
  obtain ⟨q, hq⟩ : ∃ q : Nat, k % 9 = (q : Int) := ⟨(k % 9).toNat, by omega⟩
  have hql : q ≤ 8 := by omega
  obtain ⟨N, hN⟩ : ∃ N : Nat, N = 2 ^ q := ⟨_, rfl⟩
  have hN1 : 1 ≤ N := by rw [hN]; exact Nat.two_pow_pos q
  have hN2 : N ≤ 256 := by rw [hN]; exact Nat.pow_le_pow_right (n := 2) (by omega) hql
  have HN := Lib.hid hN
  clear hN
  have HQ := Lib.hid hq
  clear hq
  go_enter Try.func5, Try.ntmps5
  go_wp2_with fail
  refine calls_named1 (fun V1 hbV g0 hzV => ?_)
  have hk2 : Two V1 w.heap.size 35 (.int .u64 e) (.int .u64 e') := g0
  have Px2 := Lib.hid (Px0.out.keep hbV)
  clear Px0
  have Py2 := Lib.hid (Py0.out.keep hbV)
  clear Py0
  have HB2 := Lib.hid hbV
  clear hbV hzV g0
  have K3 := Lib.hid hk2
  clear hk2
  refine (sanity4_any _).mono ?_
  rintro e W4 ⟨rfl, hb⟩
  have Px5 := Lib.hid (Px2.out.keep hb)
  clear Px2
  have Py5 := Lib.hid (Py2.out.keep hb)
  clear Py2
  have K5 := Lib.hid (K3.out.keep hb)
  clear K3
  have HB5 := Lib.hid (bel_step HB2.out hb)
  clear HB2
  clear hb
  go_wp2_with fail
  have TK := K5.out
  have lK0 := Later.cell TK.c0
  have lK1 := Later.cell TK.c1
  clear TK
  have hand := HAND.out
  try simp only [List.append_eq, List.cons_append, List.nil_append]
  refine wp_floatN (by kernel_rfl) (lexOK_of (by kernel_rfl) (by kernel_rfl)) (chainOF_of (by kernel_rfl)) (fun V6 hb hS => ?_)
  have Px7 := Lib.hid (Px5.out.keep hb)
  clear Px5
  have Py7 := Lib.hid (Py5.out.keep hb)
  clear Py5
  have K7 := Lib.hid (K5.out.keep hb)
  clear K5
  have HB7 := Lib.hid (bel_step HB5.out hb)
  clear HB5
  clear hb
  have HS6' := Lib.hid hS
  clear hS
  refine wpF_seg 5 (by kernel_rfl) ?_
  simp only [List.take_succ_cons, List.take_zero, List.drop_succ_cons, List.drop_zero]
  repeat (go_big_quiet_step (fail))
  refine wpQuiet_nil ?_
  refine wpF_call 23 Try.func23 (by kernel_rfl) (by kernel_rfl) _ _ #[.slice X0 nx cx, .int .u8 k, .int .i64 8] rfl (by kernel_rfl) (by kernel_rfl) HS6'.out (fun V8 hV => ?_)
  refine (made4_any X0 nx cx px k 8 q N _ ((Px7.out.keep hV)) Wx.out hk (by omega) HQ.out HN.out).mono ?_
  rintro e W8 ⟨ga, rfl, hs, hb⟩
  have hb2 := ext_trans hV hb
  have Px9 := Lib.hid (Px7.out.keep hb2)
  clear Px7
  have Py9 := Lib.hid (Py7.out.keep hb2)
  clear Py7
  have K9 := Lib.hid (K7.out.keep hb2)
  clear K7
  have HB9 := Lib.hid (bel_step HB7.out hb2)
  clear HB7
  have HS9 := Lib.hid (HS6'.out.ext hb2)
  clear HS6'
  have LA10 := Lib.hid hs
  clear hs
  refine ⟨_, rfl, hb, ?_⟩
  clear hb hb2 hV
  simp only [Act.put, List.setIfInBounds_toArray, List.set_cons_zero, List.set_cons_succ]
  refine wpF_seg 5 (by kernel_rfl) ?_
  simp only [List.take_succ_cons, List.take_zero, List.drop_succ_cons, List.drop_zero]
  repeat (go_big_quiet_step (fail))
  refine wpQuiet_nil ?_
  refine wpF_call 23 Try.func23 (by kernel_rfl) (by kernel_rfl) _ _ #[.slice Y0 ny cy, .int .u8 k, .int .i64 8] rfl (by kernel_rfl) (by kernel_rfl) HS9.out (fun V11 hV => ?_)
  refine (made4_any Y0 ny cy py k 8 q N _ ((Py9.out.keep hV)) Wy.out hk (by omega) HQ.out HN.out).mono ?_
  rintro e W11 ⟨gb, rfl, hs, hb⟩
  have hb2 := ext_trans hV hb
  have Px12 := Lib.hid (Px9.out.keep hb2)
  clear Px9
  have Py12 := Lib.hid (Py9.out.keep hb2)
  clear Py9
  have K12 := Lib.hid (K9.out.keep hb2)
  clear K9
  have LA12 := Lib.hid (LA10.out.keep hb2)
  clear LA10
  have HB12 := Lib.hid (bel_step HB9.out hb2)
  clear HB9
  have HS12 := Lib.hid (HS9.out.ext hb2)
  clear HS9
  have LB13 := Lib.hid hs
  clear hs
  refine ⟨_, rfl, hb, ?_⟩
  clear hb hb2 hV
  simp only [Act.put, List.setIfInBounds_toArray, List.set_cons_zero, List.set_cons_succ]
  refine wpF_seg 2 (by kernel_rfl) ?_
  simp only [List.take_succ_cons, List.take_zero, List.drop_succ_cons, List.drop_zero]
  repeat (go_big_quiet_step (fail))
  refine wpQuiet_nil ?_
  refine wpF_call 24 Try.func24 (by kernel_rfl) (by kernel_rfl) _ _ #[.int .u64 e'] rfl (by kernel_rfl) (by kernel_rfl) HS12.out (fun V14 hV => ?_)
  refine (rreduceFb e' _ he').mono ?_
  rintro e W14 ⟨rfl, hb⟩
  have hb2 := ext_trans hV hb
  have Px15 := Lib.hid (Px12.out.keep hb2)
  clear Px12
  have Py15 := Lib.hid (Py12.out.keep hb2)
  clear Py12
  have K15 := Lib.hid (K12.out.keep hb2)
  clear K12
  have LA15 := Lib.hid (LA12.out.keep hb2)
  clear LA12
  have LB15 := Lib.hid (LB13.out.keep hb2)
  clear LB13
  have HB15 := Lib.hid (bel_step HB12.out hb2)
  clear HB12
  have HS15 := Lib.hid (HS12.out.ext hb2)
  clear HS12
  refine ⟨_, rfl, hb, ?_⟩
  clear hb hb2 hV
  simp only [Act.put, List.setIfInBounds_toArray, List.set_cons_zero, List.set_cons_succ]
  refine wpF_seg 3 (by kernel_rfl) ?_
  simp only [List.take_succ_cons, List.take_zero, List.drop_succ_cons, List.drop_zero]
  repeat (go_big_quiet_step (fail))
  refine wpQuiet_nil ?_
  refine wpF_nil (fun V16 hb => ?_)
  have Px17 := Lib.hid (Px15.out.keep hb)
  clear Px15
  have Py17 := Lib.hid (Py15.out.keep hb)
  clear Py15
  have K17 := Lib.hid (K15.out.keep hb)
  clear K15
  have LA17 := Lib.hid (LA15.out.keep hb)
  clear LA15
  have LB17 := Lib.hid (LB15.out.keep hb)
  clear LB15
  have HB17 := Lib.hid (bel_step HB15.out hb)
  clear HB15
  clear hb
  clear lK0 lK1 hand
  clear Px17
  clear Py17
  clear K17
  generalize hxs : tabF N (cfF (px.map toF)) = xs at *
  have hxl : xs.length = N := by rw [← hxs]; exact tabF_length _ _
  have HLxs := Lib.hid hxl
  clear hxs hxl
  generalize hxs : tabF N (cfF (py.map toF)) = ys at *
  have hxl : ys.length = N := by rw [← hxs]; exact tabF_length _ _
  have HLys := Lib.hid hxl
  clear hxs hxl
  generalize toF e' = c at *
  go_wp2_with fail
  have hga : ga < V16.heap.size := by
    obtain ⟨x0, hx0⟩ := LA17.out.get (show 0 < N by omega)
    obtain ⟨ad, he, h0⟩ := LA17.out.at_ hx0
    injection he with he
    subst he
    exact World.block_lt_of_cell? _ _ h0
  have hgb : gb < V16.heap.size := by
    obtain ⟨x0, hx0⟩ := LB17.out.get (show 0 < N by omega)
    obtain ⟨ad, he, h0⟩ := LB17.out.at_ hx0
    injection he with he
    subst he
    exact World.block_lt_of_cell? _ _ h0
  go_loopw [11, 12] (fun v i wr => ∃ m : Nat, m ≤ N ∧ i = .int .i64 m ∧ OwF wr V16.heap.size v m (tabF m (fun i => cfF xs i + c * cfF ys i)) ∧ Below V16.heap.size V16 wr) (fun _ i _ => N - (intOf i).toNat)
  case atStart => exact ⟨0, Nat.zero_le _, rfl, OwF.made V16 _ (Nat.le_refl _), (Below.refl _ _).alloc (Nat.le_refl _) _⟩
  case round =>
    obtain ⟨m, hm, rfl, ho, hb⟩ := hrel
    have HO := Lib.hid ho
    have HBR := Lib.hid hb
    clear ho
    have LA18 := Lib.hid (LA17.out.keep hb)
    clear LA17
    have LB18 := Lib.hid (LB17.out.keep hb)
    clear LB17
    have HB18 := Lib.hid (bel_step HB17.out hb)
    clear HB17
    clear hb
    by_cases hlt : m < N
    · skip
      obtain ⟨x, hx⟩ := LA18.out.get hlt
      obtain ⟨ad, he, h1⟩ := LA18.out.at_ hx
      injection he with he
      subst he
      rw [ad_base] at h1
      have HX := Lib.hid (cfF_some hx)
      have lh1 := LaterB.cell (B := V16.heap.size) h1 hga
      clear hx h1
      obtain ⟨y, hy⟩ := LB18.out.get hlt
      obtain ⟨ad, he, h2⟩ := LB18.out.at_ hy
      injection he with he
      subst he
      rw [ad_base] at h2
      have HY := Lib.hid (cfF_some hy)
      have lh2 := LaterB.cell (B := V16.heap.size) h2 hgb
      clear hy h2
      have hm0 : (0 : Int) ≤ (m : Int) := by omega
      have hm1 : (m : Int) < (N : Int) := by omega
      go_wp2_with fail
      refine wp_heldB (V16.heap.size) (by kernel_rfl) (lexOK_of (by kernel_rfl) (by kernel_rfl)) (chainOK_of (by kernel_rfl)) (fun V hbW hSW => ?_)
      have HO0 := Lib.hid (HO.out.keep hbW)
      have HB0 := Lib.hid (bel_step HBR.out hbW)
      have HSW := Lib.hid hSW
      clear hbW hSW
      refine wpHeld_seg 10 HSW.out (by kernel_rfl) ?_
      simp only [List.take_succ_cons, List.take_zero, List.drop_succ_cons, List.drop_zero]
      repeat (go_big_quiet_step (fail))
      refine wpQuiet_nil ?_
      clear lh1 lh2
      refine wpHeld_call 26 Try.func26 (by kernel_rfl) (by kernel_rfl) _ _ #[.int .u64 (vF c), .int .u64 (vF y)] rfl (by kernel_rfl) (by kernel_rfl) ?_
      refine (rmulFb c y _).mono ?_
      rintro e1 W1 ⟨rfl, hb1⟩
      have HO1 := Lib.hid (HO0.out.keep hb1)
      have HB1 := Lib.hid (bel_step HB0.out hb1)
      have HS1 := Lib.hid (LaterB.step HSW.out (hb1.mono HB0.out.size))
      clear hb1
      refine ⟨_, rfl, HS1.out, ?_⟩
      simp only [Act.put, List.setIfInBounds_toArray, List.set_cons_zero, List.set_cons_succ]
      refine wpHeld_call 25 Try.func25 (by kernel_rfl) (by kernel_rfl) _ _ #[.int .u64 (vF x), .int .u64 (vF (c * y))] rfl (by kernel_rfl) (by kernel_rfl) ?_
      refine (raddFb x (c * y) _).mono ?_
      rintro e1 W2 ⟨rfl, hb1⟩
      have HO2 := Lib.hid (HO1.out.keep hb1)
      have HB2 := Lib.hid (bel_step HB1.out hb1)
      have HS2 := Lib.hid (LaterB.step HS1.out (hb1.mono HB1.out.size))
      clear hb1
      refine ⟨_, rfl, HS2.out, ?_⟩
      simp only [Act.put, List.setIfInBounds_toArray, List.set_cons_zero, List.set_cons_succ]
      have HSb := Lib.hid (LaterB.step HS2.out ((Below.refl V16.heap.size W2).alloc HB2.out.size (.cells #[.int .u64 (vF (x + c * y))] 34)))
      refine wpHeld_run _ _ (by kernel_rfl) (by kernel_rfl) (run_buildF (x + c * y) rfl rfl _) HSb.out ?_
      simp only [Act.put, List.setIfInBounds_toArray, List.set_cons_zero, List.set_cons_succ]
      have HOa := Lib.hid (HO2.out.keep ((Below.refl _ _).alloc (Nat.le_refl _) (.cells #[.int .u64 (vF (x + c * y))] 34)))
      have HTa := Lib.hid (One.new W2 34 (.int .u64 (vF (x + c * y))))
      have HBa := Lib.hid (HB2.out.alloc HB2.out.size (.cells #[.int .u64 (vF (x + c * y))] 34))
      have hz2 := HB2.out.size
      refine wpHeld_op (by kernel_rfl) (by kernel_rfl) ?_
      refine hOp_appendF (.tmp 43) (.tmp 55) rfl (V16.heap.size) _ m _ rfl HOa.out W2.heap.size 1 (x + c * y) rfl HTa.out (by omega) (by simp; omega) ?_
      intro v3 w3 hown3 hg3
      have HO3 := Lib.hid hown3
      have HS3 := Lib.hid (LaterB.step HSb.out hg3)
      have HB3 := Lib.hid (HBa.out.trans hg3)
      clear hown3 hg3 hz2
      refine ⟨HS3.out, ?_⟩
      simp only [Act.put, List.setIfInBounds_toArray, List.set_cons_zero, List.set_cons_succ]
      refine wpHeld_seg 1 HS3.out (by kernel_rfl) ?_
      simp only [List.take_succ_cons, List.take_zero, List.drop_succ_cons, List.drop_zero]
      repeat (go_big_quiet_step (fail))
      refine wpQuiet_nil ?_
      refine wpHeld_nil ?_
      go_wp2_with fail
      go_roundw
      case rel => exact ⟨m + 1, by omega, by go_num, by rw [tabF_succ]; simp only [HX.out, HY.out]; exact HO3.out, HB3.out⟩
      case measure => simp [intOf]; omega
    · skip
      obtain rfl : N = m := by omega
      obtain ⟨As, cs, rfl, hss⟩ := HO.out.sl
      have LS19 := Lib.hid hss
      clear hss
      clear HO HBR hlt
      have hcs := LS19.out.cap
      have hct := LS19.out.top
      go_wp2_with fail
      refine (forward_yes (some ⟨ga, 0, none⟩) N N xs q _ LA18.out HN.out (by omega)).mono ?_
      rintro e W20 ⟨gc, rfl, hs, hb⟩
      have LA21 := Lib.hid (LA18.out.keep hb)
      clear LA18
      have LB21 := Lib.hid (LB18.out.keep hb)
      clear LB18
      have LS21 := Lib.hid (LS19.out.keep hb)
      clear LS19
      have HB21 := Lib.hid (bel_step HB18.out hb)
      clear HB18
      clear hb
      have LC22 := Lib.hid hs
      clear hs
      go_wp2_with fail
      refine (forward_yes (some ⟨gb, 0, none⟩) N N ys q _ LB21.out HN.out (by omega)).mono ?_
      rintro e W23 ⟨gd, rfl, hs, hb⟩
      have LA24 := Lib.hid (LA21.out.keep hb)
      clear LA21
      have LB24 := Lib.hid (LB21.out.keep hb)
      clear LB21
      have LS24 := Lib.hid (LS21.out.keep hb)
      clear LS21
      have LC24 := Lib.hid (LC22.out.keep hb)
      clear LC22
      have HB24 := Lib.hid (bel_step HB21.out hb)
      clear HB21
      clear hb
      have LD25 := Lib.hid hs
      clear hs
      go_wp2_with fail
      refine (forward_yes As N cs (tabF N (fun i => cfF xs i + c * cfF ys i)) q _ LS24.out HN.out (by omega)).mono ?_
      rintro e W26 ⟨ge, rfl, hs, hb⟩
      have LA27 := Lib.hid (LA24.out.keep hb)
      clear LA24
      have LB27 := Lib.hid (LB24.out.keep hb)
      clear LB24
      have LS27 := Lib.hid (LS24.out.keep hb)
      clear LS24
      have LC27 := Lib.hid (LC24.out.keep hb)
      clear LC24
      have LD27 := Lib.hid (LD25.out.keep hb)
      clear LD25
      have HB27 := Lib.hid (bel_step HB24.out hb)
      clear HB24
      clear hb
      have LE28 := Lib.hid hs
      clear hs
      go_wp2_with fail
      clear LA27
      clear LB27
      clear LS27
      go_loopw [19] (fun i wr => ∃ j : Nat, j ≤ N ∧ i = .int .i64 j ∧ Below W26.heap.size W26 wr) (fun i _ => N - (intOf i).toNat)
      case atStart => exact ⟨0, Nat.zero_le _, rfl, Below.refl _ _⟩
      case round =>
        obtain ⟨j, hj, rfl, hb⟩ := hrel
        have HBR := Lib.hid hb
        have LC29 := Lib.hid (LC27.out.keep hb)
        clear LC27
        have LD29 := Lib.hid (LD27.out.keep hb)
        clear LD27
        have LE29 := Lib.hid (LE28.out.keep hb)
        clear LE28
        have HB29 := Lib.hid (bel_step HB27.out hb)
        clear HB27
        clear hb
        by_cases hlt : j < N
        · skip
          obtain ⟨ad, he, h1⟩ := LC29.out.at_ (tabF_get (i := j) _ hlt)
          injection he with he
          subst he
          rw [ad_base] at h1
          obtain ⟨ad, he, h2⟩ := LD29.out.at_ (tabF_get (i := j) _ hlt)
          injection he with he
          subst he
          rw [ad_base] at h2
          obtain ⟨ad, he, h3⟩ := LE29.out.at_ (tabF_get (i := j) _ hlt)
          injection he with he
          subst he
          rw [ad_base] at h3
          rw [lin_fwd HN.out] at h3
          generalize fwdF (cfF xs) q j = fx at h1 h3
          generalize fwdF (cfF ys) q j = fy at h2 h3
          have l1 := Later.cell h1
          have l2 := Later.cell h2
          have l3 := Later.cell h3
          clear h1 h2 h3
          have hj0 : (0 : Int) ≤ (j : Int) := by omega
          have hj1 : (j : Int) < (N : Int) := by omega
          go_wp2_with fail
          refine wp_later_lex (by kernel_rfl) (lexOK_of (by kernel_rfl) (by kernel_rfl)) ?_
          repeat (go_big_quiet_step ((first | (go_at_call 24; with_reducible exact Calls.later (rreduceV fx _)) | (go_at_call 24; with_reducible exact Calls.later (rreduceV fy _)) | (go_at_call 26; with_reducible exact Calls.later (rmulFb c fy _)) | (go_at_call 25; with_reducible exact Calls.later (raddFb fx (c * fy) _)))))
          refine wpQuiet_nil ?_
          intro X30
          have HBX := Lib.hid (bel_step HBR.out X30.below)
          clear l1 l2 l3
          go_wp2_with fail
          go_roundw
          case rel => exact ⟨j + 1, by omega, by go_num, HBX.out⟩
          case measure => simp [intOf]; omega
        · skip
          go_wp2_with fail
          go_ret
          exact ⟨rfl, HB29.out⟩

end Go.Proofs.Ytihneehceclffaa
