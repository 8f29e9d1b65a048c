/- Contract of a law of package ntt; no conditions but the arguments' own. -/
import Derived.Test.YtihneehceclffaaNlm
import Derived.Test.YtihneehceclffaaFloat2

set_option linter.unusedVariables false
namespace Go.Proofs.Ytihneehceclffaa
open Go.RowKit Gold

set_option maxHeartbeats 16000000 in
set_option maxRecDepth 100000 in
theorem nttProducts_any (X0 : Option Addr) (nx cx : Nat) (px : List Int) (Y0 : Option Addr) (ny cy : Nat) (py : List Int) (z : Int) (w : World) (hx : Su w X0 nx cx px) (wx : ∀ z ∈ px, U64 z) (hy : Su w Y0 ny cy py) (wy : ∀ z ∈ py, U64 z) (hz : U64 z) :
    Calls Try.prog 9 #[.slice X0 nx cx, .slice Y0 ny cy, .int .u64 z] w fun e w' => e = .returned (.bool true) ∧ Below w.heap.size w w' := by
  have hcx := hx.cap
  have htx := hx.top
  have Px0 := Lib.hid hx
  have Wx := Lib.hid wx
  have HLx := Lib.hid hx.len
  clear hx wx
  have hcy := hy.cap
  have hty := hy.top
  have Py0 := Lib.hid hy
  have Wy := Lib.hid wy
  have HLy := Lib.hid hy.len
  clear hy wy
  obtain ⟨mx, hmx, hmx1, hmx2, _⟩ := min_rule nx 200
  have hmx : (if (200 : Int) < (nx : Int) then (200 : Int) else (nx : Int)) = (mx : Int) := hmx
  have hmx3 : mx ≤ cx := by omega
  have hmx4 : (mx : Int) ≤ (cx : Int) := by omega
  have hmx5 : (0 : Int) ≤ (mx : Int) := by omega
  have HMx := Lib.hid hmx
  clear hmx
  obtain ⟨my, hmy, hmy1, hmy2, _⟩ := min_rule ny 200
  have hmy : (if (200 : Int) < (ny : Int) then (200 : Int) else (ny : Int)) = (my : Int) := hmy
  have hmy3 : my ≤ cy := by omega
  have hmy4 : (my : Int) ≤ (cy : Int) := by omega
  have hmy5 : (0 : Int) ≤ (my : Int) := by omega
  have HMy := Lib.hid hmy
  clear hmy
  go_enter Try.func9, Try.ntmps9
  go_wp2_with fail
  refine (sanity4_any _).mono ?_
  rintro e W1 ⟨rfl, hb⟩
  have Px2 := Lib.hid (Px0.out.keep hb)
  clear Px0
  have Py2 := Lib.hid (Py0.out.keep hb)
  clear Py0
  have HB2 := Lib.hid hb
  clear hb
  go_wp2_with fail
  have hmx := HMx.out
  have hmy := HMy.out
  try simp only [List.append_eq, List.cons_append, List.nil_append]
  refine wp_floatN (by kernel_rfl) (lexOK_of (by kernel_rfl) (by kernel_rfl)) (chainOF_of (by kernel_rfl)) (fun V3 hb hS => ?_)
  have Px4 := Lib.hid (Px2.out.keep hb)
  clear Px2
  have Py4 := Lib.hid (Py2.out.keep hb)
  clear Py2
  have HB4 := Lib.hid (bel_step HB2.out hb)
  clear HB2
  clear hb
  have HS3' := Lib.hid hS
  clear hS
  refine wpF_seg 5 (by kernel_rfl) ?_
  simp only [List.take_succ_cons, List.take_zero, List.drop_succ_cons, List.drop_zero]
  repeat (go_big_quiet_step (fail))
  refine wpQuiet_nil ?_
  refine wpF_call 13 Try.func13 (by kernel_rfl) (by kernel_rfl) _ _ #[.slice X0 mx cx] rfl (by kernel_rfl) (by kernel_rfl) HS3'.out (fun V6 hV => ?_)
  refine (made1_any X0 mx cx (px.take mx) _ ((Px4.out.keep hV).take hmx1) (fun z hz => Wx.out z (List.mem_of_mem_take hz)) (by omega)).mono ?_
  rintro e W6 ⟨Ax, dx, rfl, hs, hb⟩
  have hb2 := ext_trans hV hb
  have Px7 := Lib.hid (Px4.out.keep hb2)
  clear Px4
  have Py7 := Lib.hid (Py4.out.keep hb2)
  clear Py4
  have HB7 := Lib.hid (bel_step HB4.out hb2)
  clear HB4
  have HS7 := Lib.hid (HS3'.out.ext hb2)
  clear HS3'
  have LX8 := Lib.hid hs
  clear hs
  refine ⟨_, rfl, hb, ?_⟩
  clear hb hb2 hV
  simp only [Act.put, List.setIfInBounds_toArray, List.set_cons_zero, List.set_cons_succ]
  refine wpF_seg 5 (by kernel_rfl) ?_
  simp only [List.take_succ_cons, List.take_zero, List.drop_succ_cons, List.drop_zero]
  repeat (go_big_quiet_step (fail))
  refine wpQuiet_nil ?_
  refine wpF_call 13 Try.func13 (by kernel_rfl) (by kernel_rfl) _ _ #[.slice Y0 my cy] rfl (by kernel_rfl) (by kernel_rfl) HS7.out (fun V10 hV => ?_)
  refine (made1_any Y0 my cy (py.take my) _ ((Py7.out.keep hV).take hmy1) (fun z hz => Wy.out z (List.mem_of_mem_take hz)) (by omega)).mono ?_
  rintro e W10 ⟨Ay, dy, rfl, hs, hb⟩
  have hb2 := ext_trans hV hb
  have Px11 := Lib.hid (Px7.out.keep hb2)
  clear Px7
  have Py11 := Lib.hid (Py7.out.keep hb2)
  clear Py7
  have LX11 := Lib.hid (LX8.out.keep hb2)
  clear LX8
  have HB11 := Lib.hid (bel_step HB7.out hb2)
  clear HB7
  have HS11 := Lib.hid (HS7.out.ext hb2)
  clear HS7
  have LY12 := Lib.hid hs
  clear hs
  refine ⟨_, rfl, hb, ?_⟩
  clear hb hb2 hV
  simp only [Act.put, List.setIfInBounds_toArray, List.set_cons_zero, List.set_cons_succ]
  refine wpF_seg 1 (by kernel_rfl) ?_
  simp only [List.take_succ_cons, List.take_zero, List.drop_succ_cons, List.drop_zero]
  repeat (go_big_quiet_step (fail))
  refine wpQuiet_nil ?_
  refine wpF_call 24 Try.func24 (by kernel_rfl) (by kernel_rfl) _ _ #[.int .u64 z] rfl (by kernel_rfl) (by kernel_rfl) HS11.out (fun V13 hV => ?_)
  refine (rreduceFb z _ hz).mono ?_
  rintro e W13 ⟨rfl, hb⟩
  have hb2 := ext_trans hV hb
  have Px14 := Lib.hid (Px11.out.keep hb2)
  clear Px11
  have Py14 := Lib.hid (Py11.out.keep hb2)
  clear Py11
  have LX14 := Lib.hid (LX11.out.keep hb2)
  clear LX11
  have LY14 := Lib.hid (LY12.out.keep hb2)
  clear LY12
  have HB14 := Lib.hid (bel_step HB11.out hb2)
  clear HB11
  have HS14 := Lib.hid (HS11.out.ext hb2)
  clear HS11
  refine ⟨_, rfl, hb, ?_⟩
  clear hb hb2 hV
  simp only [Act.put, List.setIfInBounds_toArray, List.set_cons_zero, List.set_cons_succ]
  refine wpF_seg 3 (by kernel_rfl) ?_
  simp only [List.take_succ_cons, List.take_zero, List.drop_succ_cons, List.drop_zero]
  repeat (go_big_quiet_step (fail))
  refine wpQuiet_nil ?_
  refine wpF_nil (fun V15 hb => ?_)
  have Px16 := Lib.hid (Px14.out.keep hb)
  clear Px14
  have Py16 := Lib.hid (Py14.out.keep hb)
  clear Py14
  have LX16 := Lib.hid (LX14.out.keep hb)
  clear LX14
  have LY16 := Lib.hid (LY14.out.keep hb)
  clear LY14
  have HB16 := Lib.hid (bel_step HB14.out hb)
  clear HB14
  clear hb
  clear hmx hmy
  clear Px16
  clear Py16
  have hl : ((px.take mx).map toF).length = mx := by have := HLx.out; rw [List.length_map, List.length_take]; omega
  generalize (px.take mx).map toF = xs at *
  have HLxs := Lib.hid hl
  clear hl
  have hl : ((py.take my).map toF).length = my := by have := HLy.out; rw [List.length_map, List.length_take]; omega
  generalize (py.take my).map toF = ys at *
  have HLys := Lib.hid hl
  clear hl
  generalize toF z = pt at *
  have hdx := LX16.out.cap
  have hex := LX16.out.top
  have hdy := LY16.out.cap
  have hey := LY16.out.top
  go_wp2_with fail
  by_cases h0 : mx = 0 ∨ my = 0
  · skip
    refine (mul_empty Ax mx dx Ay my dy _ (by omega) (by omega) h0).mono ?_
    rintro e W17 ⟨rfl, hb⟩
    have LX18 := Lib.hid (LX16.out.keep hb)
    clear LX16
    have LY18 := Lib.hid (LY16.out.keep hb)
    clear LY16
    have HB18 := Lib.hid (bel_step HB16.out hb)
    clear HB16
    clear hb
    by_cases h1 : mx = 0
    · skip
      subst h1
      clear h0
      go_wp2_with fail
      go_ret
      exact ⟨rfl, HB18.out⟩
    · skip
      obtain rfl : my = 0 := by omega
      have hb : ((mx : Int) == 0) = false := by simp; omega
      clear h0 h1
      go_wp2_with fail
      go_ret
      exact ⟨rfl, HB18.out⟩
  · skip
    have hx0 : 0 < mx := by omega
    have hy0 : 0 < my := by omega
    have hbx : ((mx : Int) == 0) = false := by simp; omega
    have hby : ((my : Int) == 0) = false := by simp; omega
    clear h0
    refine (mul_yes Ax mx dx xs Ay my dy ys _ LX16.out LY16.out hx0 hy0 (by omega)).mono ?_
    rintro e W19 ⟨gc, rfl, hs, hb⟩
    have LX20 := Lib.hid (LX16.out.keep hb)
    clear LX16
    have LY20 := Lib.hid (LY16.out.keep hb)
    clear LY16
    have HB20 := Lib.hid (bel_step HB16.out hb)
    clear HB16
    clear hb
    have LC21 := Lib.hid hs
    clear hs
    obtain ⟨L, hL⟩ : ∃ L, L = mx + my - 1 := ⟨_, rfl⟩
    have hcl : (mulF' xs ys).length = L := by rw [mulF'_length, HLxs.out, HLys.out, hL]
    rw [← hL]
    have LCx := Lib.hid (show Sf W19 (some ⟨gc, 0, none⟩) L L (mulF' xs ys) by rw [hL]; exact LC21.out)
    clear LC21
    have hLi : (mx : Int) + (my : Int) - 1 = (L : Int) := by omega
    have hL2 : L ≤ 400 := by omega
    clear hL
    have hev := Lib.hid (mul_eval (xs := xs) (ys := ys) (by rw [HLxs.out]; exact hx0) (by rw [HLys.out]; exact hy0) pt)
    go_wp2_with fail
    go_loopw [13] (fun i wr => ∃ j : Nat, j ≤ L ∧ i = .int .i64 j ∧ Below W19.heap.size W19 wr) (fun i _ => L - (intOf i).toNat)
    case atStart => exact ⟨0, Nat.zero_le _, rfl, Below.refl _ _⟩
    case round =>
      obtain ⟨j, hj, rfl, hb⟩ := hrel
      have HBR := Lib.hid hb
      have LX22 := Lib.hid (LX20.out.keep hb)
      clear LX20
      have LY22 := Lib.hid (LY20.out.keep hb)
      clear LY20
      have LC22 := Lib.hid (LCx.out.keep hb)
      clear LCx
      have HB22 := Lib.hid (bel_step HB20.out hb)
      clear HB20
      clear hb
      by_cases hlt : j < L
      · skip
        obtain ⟨ad, he, h1⟩ := LC22.out.at_ (List.getElem?_eq_getElem (show j < (mulF' xs ys).length by omega))
        injection he with he
        subst he
        rw [ad_base] at h1
        generalize (mulF' xs ys)[j]'(by omega) = e1 at h1
        go_wp2_with fail
        refine (rvalidF e1 _).mono ?_
        rintro e w2 ⟨rfl, hw⟩
        subst hw
        go_wp2_with fail
        go_roundw
        case rel => exact ⟨j + 1, by omega, by go_num, HBR.out⟩
        case measure => simp [intOf]; omega
      · skip
        go_wp2_with fail
        refine (evalF (some ⟨gc, 0, none⟩) L L (mulF' xs ys) pt _ LC22.out).mono ?_
        rw [hev.out]
        rintro e W23 ⟨rfl, hb⟩
        have LX24 := Lib.hid (LX22.out.keep hb)
        clear LX22
        have LY24 := Lib.hid (LY22.out.keep hb)
        clear LY22
        have LC24 := Lib.hid (LC22.out.keep hb)
        clear LC22
        have HB24 := Lib.hid (bel_step HB22.out hb)
        clear HB22
        clear hb
        go_wp2_with fail
        refine (evalF Ax mx dx xs pt _ LX24.out).mono ?_
        rintro e W25 ⟨rfl, hb⟩
        have LX26 := Lib.hid (LX24.out.keep hb)
        clear LX24
        have LY26 := Lib.hid (LY24.out.keep hb)
        clear LY24
        have LC26 := Lib.hid (LC24.out.keep hb)
        clear LC24
        have HB26 := Lib.hid (bel_step HB24.out hb)
        clear HB24
        clear hb
        go_wp2_with fail
        refine (evalF Ay my dy ys pt _ LY26.out).mono ?_
        rintro e W27 ⟨rfl, hb⟩
        have LX28 := Lib.hid (LX26.out.keep hb)
        clear LX26
        have LY28 := Lib.hid (LY26.out.keep hb)
        clear LY26
        have LC28 := Lib.hid (LC26.out.keep hb)
        clear LC26
        have HB28 := Lib.hid (bel_step HB26.out hb)
        clear HB26
        clear hb
        go_wp2_with fail
        refine (rmulFb (evL xs pt) (evL ys pt) _).mono ?_
        rintro e W29 ⟨rfl, hb⟩
        have LX30 := Lib.hid (LX28.out.keep hb)
        clear LX28
        have LY30 := Lib.hid (LY28.out.keep hb)
        clear LY28
        have LC30 := Lib.hid (LC28.out.keep hb)
        clear LC28
        have HB30 := Lib.hid (bel_step HB28.out hb)
        clear HB28
        clear hb
        go_wp2_with fail
        go_ret
        exact ⟨rfl, HB30.out⟩

end Go.Proofs.Ytihneehceclffaa
