/- Contract of a law of package ntt; no conditions but the arguments' own. -/
import Derived.Test.YtihneehceclffaaNlm
import Derived.Test.YtihneehceclffaaNrb
import Derived.Test.YtihneehceclffaaFloat2

set_option linter.unusedVariables false
namespace Go.Proofs.Ytihneehceclffaa
open Go.RowKit Gold

set_option maxHeartbeats 16000000 in
set_option maxRecDepth 100000 in
theorem nttMatchesReference_any (X0 : Option Addr) (nx cx : Nat) (px : List Int) (Y0 : Option Addr) (ny cy : Nat) (py : List Int) (b : Int) (w : World) (hx : Su w X0 nx cx px) (wx : ∀ z ∈ px, U64 z) (hy : Su w Y0 ny cy py) (wy : ∀ z ∈ py, U64 z) (hb0 : -9223372036854775808 ≤ b ∧ b < 9223372036854775808) :
    Calls Try.prog 3 #[.slice X0 nx cx, .slice Y0 ny cy, .int .i64 b] w fun e w' => e = .returned (.bool true) ∧ Below w.heap.size w w' := by
  have hcx := hx.cap
  have htx := hx.top
  have Px0 := Lib.hid hx
  have Wx := Lib.hid wx
  have HLx := Lib.hid hx.len
  clear hx wx
  have hcy := hy.cap
  have hty := hy.top
  have Py0 := Lib.hid hy
  have Wy := Lib.hid wy
  have HLy := Lib.hid hy.len
  clear hy wy
  obtain ⟨mx, hmx, hmx1, hmx2, _⟩ := min_rule nx 64
  have hmx : (if (64 : Int) < (nx : Int) then (64 : Int) else (nx : Int)) = (mx : Int) := hmx
  have hmx3 : mx ≤ cx := by omega
  have hmx4 : (mx : Int) ≤ (cx : Int) := by omega
  have hmx5 : (0 : Int) ≤ (mx : Int) := by omega
  have HMx := Lib.hid hmx
  clear hmx
  obtain ⟨my, hmy, hmy1, hmy2, _⟩ := min_rule ny 64
  have hmy : (if (64 : Int) < (ny : Int) then (64 : Int) else (ny : Int)) = (my : Int) := hmy
  have hmy3 : my ≤ cy := by omega
  have hmy4 : (my : Int) ≤ (cy : Int) := by omega
  have hmy5 : (0 : Int) ≤ (my : Int) := by omega
  have HMy := Lib.hid hmy
  clear hmy
  go_enter Try.func3, Try.ntmps3
  go_wp2_with fail
  refine (sanity4_any _).mono ?_
  rintro e W1 ⟨rfl, hb⟩
  have Px2 := Lib.hid (Px0.out.keep hb)
  clear Px0
  have Py2 := Lib.hid (Py0.out.keep hb)
  clear Py0
  have HB2 := Lib.hid hb
  clear hb
  go_wp2_with fail
  have hmx := HMx.out
  have hmy := HMy.out
  try simp only [List.append_eq, List.cons_append, List.nil_append]
  refine wp_floatN (by kernel_rfl) (lexOK_of (by kernel_rfl) (by kernel_rfl)) (chainOF_of (by kernel_rfl)) (fun V3 hb hS => ?_)
  have Px4 := Lib.hid (Px2.out.keep hb)
  clear Px2
  have Py4 := Lib.hid (Py2.out.keep hb)
  clear Py2
  have HB4 := Lib.hid (bel_step HB2.out hb)
  clear HB2
  clear hb
  have HS3' := Lib.hid hS
  clear hS
  refine wpF_seg 5 (by kernel_rfl) ?_
  simp only [List.take_succ_cons, List.take_zero, List.drop_succ_cons, List.drop_zero]
  repeat (go_big_quiet_step (fail))
  refine wpQuiet_nil ?_
  refine wpF_call 13 Try.func13 (by kernel_rfl) (by kernel_rfl) _ _ #[.slice X0 mx cx] rfl (by kernel_rfl) (by kernel_rfl) HS3'.out (fun V6 hV => ?_)
  refine (made1_any X0 mx cx (px.take mx) _ ((Px4.out.keep hV).take hmx1) (fun z hz => Wx.out z (List.mem_of_mem_take hz)) (by omega)).mono ?_
  rintro e W6 ⟨Ax, dx, rfl, hs, hb⟩
  have hb2 := ext_trans hV hb
  have Px7 := Lib.hid (Px4.out.keep hb2)
  clear Px4
  have Py7 := Lib.hid (Py4.out.keep hb2)
  clear Py4
  have HB7 := Lib.hid (bel_step HB4.out hb2)
  clear HB4
  have HS7 := Lib.hid (HS3'.out.ext hb2)
  clear HS3'
  have LX8 := Lib.hid hs
  clear hs
  refine ⟨_, rfl, hb, ?_⟩
  clear hb hb2 hV
  simp only [Act.put, List.setIfInBounds_toArray, List.set_cons_zero, List.set_cons_succ]
  refine wpF_seg 5 (by kernel_rfl) ?_
  simp only [List.take_succ_cons, List.take_zero, List.drop_succ_cons, List.drop_zero]
  repeat (go_big_quiet_step (fail))
  refine wpQuiet_nil ?_
  refine wpF_call 13 Try.func13 (by kernel_rfl) (by kernel_rfl) _ _ #[.slice Y0 my cy] rfl (by kernel_rfl) (by kernel_rfl) HS7.out (fun V10 hV => ?_)
  refine (made1_any Y0 my cy (py.take my) _ ((Py7.out.keep hV).take hmy1) (fun z hz => Wy.out z (List.mem_of_mem_take hz)) (by omega)).mono ?_
  rintro e W10 ⟨Ay, dy, rfl, hs, hb⟩
  have hb2 := ext_trans hV hb
  have Px11 := Lib.hid (Px7.out.keep hb2)
  clear Px7
  have Py11 := Lib.hid (Py7.out.keep hb2)
  clear Py7
  have LX11 := Lib.hid (LX8.out.keep hb2)
  clear LX8
  have HB11 := Lib.hid (bel_step HB7.out hb2)
  clear HB7
  have HS11 := Lib.hid (HS7.out.ext hb2)
  clear HS7
  have LY12 := Lib.hid hs
  clear hs
  refine ⟨_, rfl, hb, ?_⟩
  clear hb hb2 hV
  simp only [Act.put, List.setIfInBounds_toArray, List.set_cons_zero, List.set_cons_succ]
  refine wpF_seg 2 (by kernel_rfl) ?_
  simp only [List.take_succ_cons, List.take_zero, List.drop_succ_cons, List.drop_zero]
  repeat (go_big_quiet_step (fail))
  refine wpQuiet_nil ?_
  refine wpF_nil (fun V13 hb => ?_)
  have Px14 := Lib.hid (Px11.out.keep hb)
  clear Px11
  have Py14 := Lib.hid (Py11.out.keep hb)
  clear Py11
  have LX14 := Lib.hid (LX11.out.keep hb)
  clear LX11
  have LY14 := Lib.hid (LY12.out.keep hb)
  clear LY12
  have HB14 := Lib.hid (bel_step HB11.out hb)
  clear HB11
  clear hb
  clear hmx hmy
  clear Px14
  clear Py14
  have hl : ((px.take mx).map toF).length = mx := by have := HLx.out; rw [List.length_map, List.length_take]; omega
  generalize (px.take mx).map toF = xs at *
  have HLxs := Lib.hid hl
  clear hl
  have hl : ((py.take my).map toF).length = my := by have := HLy.out; rw [List.length_map, List.length_take]; omega
  generalize (py.take my).map toF = ys at *
  have HLys := Lib.hid hl
  clear hl
  have hdx := LX14.out.cap
  have hex := LX14.out.top
  have hdy := LY14.out.cap
  have hey := LY14.out.top
  obtain ⟨lf, kf, hF, hF'⟩ := fwd_both mx xs
  obtain ⟨li, ki, hI, hI'⟩ := inv_both mx xs
  obtain ⟨lm, km, hM, hM'⟩ := mul_both mx my xs ys (by omega) (by omega)
  have HhF := Lib.hid hF
  clear hF
  have HhF' := Lib.hid hF'
  clear hF'
  have HhI := Lib.hid hI
  clear hI
  have HhI' := Lib.hid hI'
  clear hI'
  have HhM := Lib.hid hM
  clear hM
  have HhM' := Lib.hid hM'
  clear hM'
  by_cases h8 : 8 < b
  · skip
    by_cases h9 : b < 100000
    · skip
      have hbn : 0 ≤ b := by omega
      obtain ⟨le, ke, hE, hE'⟩ := ext_both mx xs (b % 9) (by omega) (by omega)
      have HhE := Lib.hid hE
      clear hE
      have HhE' := Lib.hid hE'
      clear hE'
      go_wp2_with fail
      refine (HhF.out Ax dx _ LX14.out).mono ?_
      rintro e W15 ⟨Ba, da, rfl, hs, hb⟩
      have LX16 := Lib.hid (LX14.out.keep hb)
      clear LX14
      have LY16 := Lib.hid (LY14.out.keep hb)
      clear LY14
      have HB16 := Lib.hid (bel_step HB14.out hb)
      clear HB14
      clear hb
      have Ra17 := Lib.hid hs
      clear hs
      have hca := Ra17.out.cap
      have hta := Ra17.out.top
      go_wp2_with fail
      refine (HhF'.out Ax dx _ LX16.out).mono ?_
      rintro e W18 ⟨Bb, db, rfl, hs, hb⟩
      have LX19 := Lib.hid (LX16.out.keep hb)
      clear LX16
      have LY19 := Lib.hid (LY16.out.keep hb)
      clear LY16
      have Ra19 := Lib.hid (Ra17.out.keep hb)
      clear Ra17
      have HB19 := Lib.hid (bel_step HB16.out hb)
      clear HB16
      clear hb
      have Rb20 := Lib.hid hs
      clear hs
      have hcb := Rb20.out.cap
      have htb := Rb20.out.top
      go_wp2_with fail
      refine (HhI.out Ax dx _ LX19.out).mono ?_
      rintro e W21 ⟨Bc, dc, rfl, hs, hb⟩
      have LX22 := Lib.hid (LX19.out.keep hb)
      clear LX19
      have LY22 := Lib.hid (LY19.out.keep hb)
      clear LY19
      have Ra22 := Lib.hid (Ra19.out.keep hb)
      clear Ra19
      have Rb22 := Lib.hid (Rb20.out.keep hb)
      clear Rb20
      have HB22 := Lib.hid (bel_step HB19.out hb)
      clear HB19
      clear hb
      have Rc23 := Lib.hid hs
      clear hs
      have hcc := Rc23.out.cap
      have htc := Rc23.out.top
      go_wp2_with fail
      refine (HhI'.out Ax dx _ LX22.out).mono ?_
      rintro e W24 ⟨Bd, dd, rfl, hs, hb⟩
      have LX25 := Lib.hid (LX22.out.keep hb)
      clear LX22
      have LY25 := Lib.hid (LY22.out.keep hb)
      clear LY22
      have Ra25 := Lib.hid (Ra22.out.keep hb)
      clear Ra22
      have Rb25 := Lib.hid (Rb22.out.keep hb)
      clear Rb22
      have Rc25 := Lib.hid (Rc23.out.keep hb)
      clear Rc23
      have HB25 := Lib.hid (bel_step HB22.out hb)
      clear HB22
      clear hb
      have Rd26 := Lib.hid hs
      clear hs
      have hcd := Rd26.out.cap
      have htd := Rd26.out.top
      go_wp2_with fail
      refine (HhE.out Ax dx _ LX25.out).mono ?_
      rintro e W27 ⟨Be, de, rfl, hs, hb⟩
      have LX28 := Lib.hid (LX25.out.keep hb)
      clear LX25
      have LY28 := Lib.hid (LY25.out.keep hb)
      clear LY25
      have Ra28 := Lib.hid (Ra25.out.keep hb)
      clear Ra25
      have Rb28 := Lib.hid (Rb25.out.keep hb)
      clear Rb25
      have Rc28 := Lib.hid (Rc25.out.keep hb)
      clear Rc25
      have Rd28 := Lib.hid (Rd26.out.keep hb)
      clear Rd26
      have HB28 := Lib.hid (bel_step HB25.out hb)
      clear HB25
      clear hb
      have Re29 := Lib.hid hs
      clear hs
      have hce := Re29.out.cap
      have hte := Re29.out.top
      go_wp2_with fail
      refine (HhE'.out Ax dx _ LX28.out).mono ?_
      rintro e W30 ⟨Bf, df, rfl, hs, hb⟩
      have LX31 := Lib.hid (LX28.out.keep hb)
      clear LX28
      have LY31 := Lib.hid (LY28.out.keep hb)
      clear LY28
      have Ra31 := Lib.hid (Ra28.out.keep hb)
      clear Ra28
      have Rb31 := Lib.hid (Rb28.out.keep hb)
      clear Rb28
      have Rc31 := Lib.hid (Rc28.out.keep hb)
      clear Rc28
      have Rd31 := Lib.hid (Rd28.out.keep hb)
      clear Rd28
      have Re31 := Lib.hid (Re29.out.keep hb)
      clear Re29
      have HB31 := Lib.hid (bel_step HB28.out hb)
      clear HB28
      clear hb
      have Rf32 := Lib.hid hs
      clear hs
      have hcf := Rf32.out.cap
      have htf := Rf32.out.top
      go_wp2_with fail
      refine (HhM.out Ax dx Ay dy _ LX31.out LY31.out).mono ?_
      rintro e W33 ⟨Bg, dg, rfl, hs, hb⟩
      have LX34 := Lib.hid (LX31.out.keep hb)
      clear LX31
      have LY34 := Lib.hid (LY31.out.keep hb)
      clear LY31
      have Ra34 := Lib.hid (Ra31.out.keep hb)
      clear Ra31
      have Rb34 := Lib.hid (Rb31.out.keep hb)
      clear Rb31
      have Rc34 := Lib.hid (Rc31.out.keep hb)
      clear Rc31
      have Rd34 := Lib.hid (Rd31.out.keep hb)
      clear Rd31
      have Re34 := Lib.hid (Re31.out.keep hb)
      clear Re31
      have Rf34 := Lib.hid (Rf32.out.keep hb)
      clear Rf32
      have HB34 := Lib.hid (bel_step HB31.out hb)
      clear HB31
      clear hb
      have Rg35 := Lib.hid hs
      clear hs
      have hcg := Rg35.out.cap
      have htg := Rg35.out.top
      go_wp2_with fail
      refine (HhM'.out Ax dx Ay dy _ LX34.out LY34.out).mono ?_
      rintro e W36 ⟨Bh, dh, rfl, hs, hb⟩
      have LX37 := Lib.hid (LX34.out.keep hb)
      clear LX34
      have LY37 := Lib.hid (LY34.out.keep hb)
      clear LY34
      have Ra37 := Lib.hid (Ra34.out.keep hb)
      clear Ra34
      have Rb37 := Lib.hid (Rb34.out.keep hb)
      clear Rb34
      have Rc37 := Lib.hid (Rc34.out.keep hb)
      clear Rc34
      have Rd37 := Lib.hid (Rd34.out.keep hb)
      clear Rd34
      have Re37 := Lib.hid (Re34.out.keep hb)
      clear Re34
      have Rf37 := Lib.hid (Rf34.out.keep hb)
      clear Rf34
      have Rg37 := Lib.hid (Rg35.out.keep hb)
      clear Rg35
      have HB37 := Lib.hid (bel_step HB34.out hb)
      clear HB34
      clear hb
      have Rh38 := Lib.hid hs
      clear hs
      have hch := Rh38.out.cap
      have hth := Rh38.out.top
      go_wp2_with fail
      refine (same_yesF Ba lf.length da Bb lf.length db lf _ Ra37.out Rb37.out).mono ?_
      rintro e W39 ⟨rfl, hb⟩
      have LX40 := Lib.hid (LX37.out.keep hb)
      clear LX37
      have LY40 := Lib.hid (LY37.out.keep hb)
      clear LY37
      have Ra40 := Lib.hid (Ra37.out.keep hb)
      clear Ra37
      have Rb40 := Lib.hid (Rb37.out.keep hb)
      clear Rb37
      have Rc40 := Lib.hid (Rc37.out.keep hb)
      clear Rc37
      have Rd40 := Lib.hid (Rd37.out.keep hb)
      clear Rd37
      have Re40 := Lib.hid (Re37.out.keep hb)
      clear Re37
      have Rf40 := Lib.hid (Rf37.out.keep hb)
      clear Rf37
      have Rg40 := Lib.hid (Rg37.out.keep hb)
      clear Rg37
      have Rh40 := Lib.hid (Rh38.out.keep hb)
      clear Rh38
      have HB40 := Lib.hid (bel_step HB37.out hb)
      clear HB37
      clear hb
      go_wp2_with fail
      refine (same_yesF Bc li.length dc Bd li.length dd li _ Rc40.out Rd40.out).mono ?_
      rintro e W41 ⟨rfl, hb⟩
      have LX42 := Lib.hid (LX40.out.keep hb)
      clear LX40
      have LY42 := Lib.hid (LY40.out.keep hb)
      clear LY40
      have Ra42 := Lib.hid (Ra40.out.keep hb)
      clear Ra40
      have Rb42 := Lib.hid (Rb40.out.keep hb)
      clear Rb40
      have Rc42 := Lib.hid (Rc40.out.keep hb)
      clear Rc40
      have Rd42 := Lib.hid (Rd40.out.keep hb)
      clear Rd40
      have Re42 := Lib.hid (Re40.out.keep hb)
      clear Re40
      have Rf42 := Lib.hid (Rf40.out.keep hb)
      clear Rf40
      have Rg42 := Lib.hid (Rg40.out.keep hb)
      clear Rg40
      have Rh42 := Lib.hid (Rh40.out.keep hb)
      clear Rh40
      have HB42 := Lib.hid (bel_step HB40.out hb)
      clear HB40
      clear hb
      go_wp2_with fail
      refine (same_yesF Be le.length de Bf le.length df le _ Re42.out Rf42.out).mono ?_
      rintro e W43 ⟨rfl, hb⟩
      have LX44 := Lib.hid (LX42.out.keep hb)
      clear LX42
      have LY44 := Lib.hid (LY42.out.keep hb)
      clear LY42
      have Ra44 := Lib.hid (Ra42.out.keep hb)
      clear Ra42
      have Rb44 := Lib.hid (Rb42.out.keep hb)
      clear Rb42
      have Rc44 := Lib.hid (Rc42.out.keep hb)
      clear Rc42
      have Rd44 := Lib.hid (Rd42.out.keep hb)
      clear Rd42
      have Re44 := Lib.hid (Re42.out.keep hb)
      clear Re42
      have Rf44 := Lib.hid (Rf42.out.keep hb)
      clear Rf42
      have Rg44 := Lib.hid (Rg42.out.keep hb)
      clear Rg42
      have Rh44 := Lib.hid (Rh42.out.keep hb)
      clear Rh42
      have HB44 := Lib.hid (bel_step HB42.out hb)
      clear HB42
      clear hb
      go_wp2_with fail
      refine (same_yesF Bg lm.length dg Bh lm.length dh lm _ Rg44.out Rh44.out).mono ?_
      rintro e W45 ⟨rfl, hb⟩
      have LX46 := Lib.hid (LX44.out.keep hb)
      clear LX44
      have LY46 := Lib.hid (LY44.out.keep hb)
      clear LY44
      have Ra46 := Lib.hid (Ra44.out.keep hb)
      clear Ra44
      have Rb46 := Lib.hid (Rb44.out.keep hb)
      clear Rb44
      have Rc46 := Lib.hid (Rc44.out.keep hb)
      clear Rc44
      have Rd46 := Lib.hid (Rd44.out.keep hb)
      clear Rd44
      have Re46 := Lib.hid (Re44.out.keep hb)
      clear Re44
      have Rf46 := Lib.hid (Rf44.out.keep hb)
      clear Rf44
      have Rg46 := Lib.hid (Rg44.out.keep hb)
      clear Rg44
      have Rh46 := Lib.hid (Rh44.out.keep hb)
      clear Rh44
      have HB46 := Lib.hid (bel_step HB44.out hb)
      clear HB44
      clear hb
      go_wp2_with fail
      go_ret
      exact ⟨rfl, HB46.out⟩
    · skip
      obtain ⟨le, ke, hE, hE'⟩ := ext_both mx xs b hb0.1 hb0.2
      have HhE := Lib.hid hE
      clear hE
      have HhE' := Lib.hid hE'
      clear hE'
      go_wp2_with fail
      refine (HhF.out Ax dx _ LX14.out).mono ?_
      rintro e W47 ⟨Ba, da, rfl, hs, hb⟩
      have LX48 := Lib.hid (LX14.out.keep hb)
      clear LX14
      have LY48 := Lib.hid (LY14.out.keep hb)
      clear LY14
      have HB48 := Lib.hid (bel_step HB14.out hb)
      clear HB14
      clear hb
      have Ra49 := Lib.hid hs
      clear hs
      have hca := Ra49.out.cap
      have hta := Ra49.out.top
      go_wp2_with fail
      refine (HhF'.out Ax dx _ LX48.out).mono ?_
      rintro e W50 ⟨Bb, db, rfl, hs, hb⟩
      have LX51 := Lib.hid (LX48.out.keep hb)
      clear LX48
      have LY51 := Lib.hid (LY48.out.keep hb)
      clear LY48
      have Ra51 := Lib.hid (Ra49.out.keep hb)
      clear Ra49
      have HB51 := Lib.hid (bel_step HB48.out hb)
      clear HB48
      clear hb
      have Rb52 := Lib.hid hs
      clear hs
      have hcb := Rb52.out.cap
      have htb := Rb52.out.top
      go_wp2_with fail
      refine (HhI.out Ax dx _ LX51.out).mono ?_
      rintro e W53 ⟨Bc, dc, rfl, hs, hb⟩
      have LX54 := Lib.hid (LX51.out.keep hb)
      clear LX51
      have LY54 := Lib.hid (LY51.out.keep hb)
      clear LY51
      have Ra54 := Lib.hid (Ra51.out.keep hb)
      clear Ra51
      have Rb54 := Lib.hid (Rb52.out.keep hb)
      clear Rb52
      have HB54 := Lib.hid (bel_step HB51.out hb)
      clear HB51
      clear hb
      have Rc55 := Lib.hid hs
      clear hs
      have hcc := Rc55.out.cap
      have htc := Rc55.out.top
      go_wp2_with fail
      refine (HhI'.out Ax dx _ LX54.out).mono ?_
      rintro e W56 ⟨Bd, dd, rfl, hs, hb⟩
      have LX57 := Lib.hid (LX54.out.keep hb)
      clear LX54
      have LY57 := Lib.hid (LY54.out.keep hb)
      clear LY54
      have Ra57 := Lib.hid (Ra54.out.keep hb)
      clear Ra54
      have Rb57 := Lib.hid (Rb54.out.keep hb)
      clear Rb54
      have Rc57 := Lib.hid (Rc55.out.keep hb)
      clear Rc55
      have HB57 := Lib.hid (bel_step HB54.out hb)
      clear HB54
      clear hb
      have Rd58 := Lib.hid hs
      clear hs
      have hcd := Rd58.out.cap
      have htd := Rd58.out.top
      go_wp2_with fail
      refine (HhE.out Ax dx _ LX57.out).mono ?_
      rintro e W59 ⟨Be, de, rfl, hs, hb⟩
      have LX60 := Lib.hid (LX57.out.keep hb)
      clear LX57
      have LY60 := Lib.hid (LY57.out.keep hb)
      clear LY57
      have Ra60 := Lib.hid (Ra57.out.keep hb)
      clear Ra57
      have Rb60 := Lib.hid (Rb57.out.keep hb)
      clear Rb57
      have Rc60 := Lib.hid (Rc57.out.keep hb)
      clear Rc57
      have Rd60 := Lib.hid (Rd58.out.keep hb)
      clear Rd58
      have HB60 := Lib.hid (bel_step HB57.out hb)
      clear HB57
      clear hb
      have Re61 := Lib.hid hs
      clear hs
      have hce := Re61.out.cap
      have hte := Re61.out.top
      go_wp2_with fail
      refine (HhE'.out Ax dx _ LX60.out).mono ?_
      rintro e W62 ⟨Bf, df, rfl, hs, hb⟩
      have LX63 := Lib.hid (LX60.out.keep hb)
      clear LX60
      have LY63 := Lib.hid (LY60.out.keep hb)
      clear LY60
      have Ra63 := Lib.hid (Ra60.out.keep hb)
      clear Ra60
      have Rb63 := Lib.hid (Rb60.out.keep hb)
      clear Rb60
      have Rc63 := Lib.hid (Rc60.out.keep hb)
      clear Rc60
      have Rd63 := Lib.hid (Rd60.out.keep hb)
      clear Rd60
      have Re63 := Lib.hid (Re61.out.keep hb)
      clear Re61
      have HB63 := Lib.hid (bel_step HB60.out hb)
      clear HB60
      clear hb
      have Rf64 := Lib.hid hs
      clear hs
      have hcf := Rf64.out.cap
      have htf := Rf64.out.top
      go_wp2_with fail
      refine (HhM.out Ax dx Ay dy _ LX63.out LY63.out).mono ?_
      rintro e W65 ⟨Bg, dg, rfl, hs, hb⟩
      have LX66 := Lib.hid (LX63.out.keep hb)
      clear LX63
      have LY66 := Lib.hid (LY63.out.keep hb)
      clear LY63
      have Ra66 := Lib.hid (Ra63.out.keep hb)
      clear Ra63
      have Rb66 := Lib.hid (Rb63.out.keep hb)
      clear Rb63
      have Rc66 := Lib.hid (Rc63.out.keep hb)
      clear Rc63
      have Rd66 := Lib.hid (Rd63.out.keep hb)
      clear Rd63
      have Re66 := Lib.hid (Re63.out.keep hb)
      clear Re63
      have Rf66 := Lib.hid (Rf64.out.keep hb)
      clear Rf64
      have HB66 := Lib.hid (bel_step HB63.out hb)
      clear HB63
      clear hb
      have Rg67 := Lib.hid hs
      clear hs
      have hcg := Rg67.out.cap
      have htg := Rg67.out.top
      go_wp2_with fail
      refine (HhM'.out Ax dx Ay dy _ LX66.out LY66.out).mono ?_
      rintro e W68 ⟨Bh, dh, rfl, hs, hb⟩
      have LX69 := Lib.hid (LX66.out.keep hb)
      clear LX66
      have LY69 := Lib.hid (LY66.out.keep hb)
      clear LY66
      have Ra69 := Lib.hid (Ra66.out.keep hb)
      clear Ra66
      have Rb69 := Lib.hid (Rb66.out.keep hb)
      clear Rb66
      have Rc69 := Lib.hid (Rc66.out.keep hb)
      clear Rc66
      have Rd69 := Lib.hid (Rd66.out.keep hb)
      clear Rd66
      have Re69 := Lib.hid (Re66.out.keep hb)
      clear Re66
      have Rf69 := Lib.hid (Rf66.out.keep hb)
      clear Rf66
      have Rg69 := Lib.hid (Rg67.out.keep hb)
      clear Rg67
      have HB69 := Lib.hid (bel_step HB66.out hb)
      clear HB66
      clear hb
      have Rh70 := Lib.hid hs
      clear hs
      have hch := Rh70.out.cap
      have hth := Rh70.out.top
      go_wp2_with fail
      refine (same_yesF Ba lf.length da Bb lf.length db lf _ Ra69.out Rb69.out).mono ?_
      rintro e W71 ⟨rfl, hb⟩
      have LX72 := Lib.hid (LX69.out.keep hb)
      clear LX69
      have LY72 := Lib.hid (LY69.out.keep hb)
      clear LY69
      have Ra72 := Lib.hid (Ra69.out.keep hb)
      clear Ra69
      have Rb72 := Lib.hid (Rb69.out.keep hb)
      clear Rb69
      have Rc72 := Lib.hid (Rc69.out.keep hb)
      clear Rc69
      have Rd72 := Lib.hid (Rd69.out.keep hb)
      clear Rd69
      have Re72 := Lib.hid (Re69.out.keep hb)
      clear Re69
      have Rf72 := Lib.hid (Rf69.out.keep hb)
      clear Rf69
      have Rg72 := Lib.hid (Rg69.out.keep hb)
      clear Rg69
      have Rh72 := Lib.hid (Rh70.out.keep hb)
      clear Rh70
      have HB72 := Lib.hid (bel_step HB69.out hb)
      clear HB69
      clear hb
      go_wp2_with fail
      refine (same_yesF Bc li.length dc Bd li.length dd li _ Rc72.out Rd72.out).mono ?_
      rintro e W73 ⟨rfl, hb⟩
      have LX74 := Lib.hid (LX72.out.keep hb)
      clear LX72
      have LY74 := Lib.hid (LY72.out.keep hb)
      clear LY72
      have Ra74 := Lib.hid (Ra72.out.keep hb)
      clear Ra72
      have Rb74 := Lib.hid (Rb72.out.keep hb)
      clear Rb72
      have Rc74 := Lib.hid (Rc72.out.keep hb)
      clear Rc72
      have Rd74 := Lib.hid (Rd72.out.keep hb)
      clear Rd72
      have Re74 := Lib.hid (Re72.out.keep hb)
      clear Re72
      have Rf74 := Lib.hid (Rf72.out.keep hb)
      clear Rf72
      have Rg74 := Lib.hid (Rg72.out.keep hb)
      clear Rg72
      have Rh74 := Lib.hid (Rh72.out.keep hb)
      clear Rh72
      have HB74 := Lib.hid (bel_step HB72.out hb)
      clear HB72
      clear hb
      go_wp2_with fail
      refine (same_yesF Be le.length de Bf le.length df le _ Re74.out Rf74.out).mono ?_
      rintro e W75 ⟨rfl, hb⟩
      have LX76 := Lib.hid (LX74.out.keep hb)
      clear LX74
      have LY76 := Lib.hid (LY74.out.keep hb)
      clear LY74
      have Ra76 := Lib.hid (Ra74.out.keep hb)
      clear Ra74
      have Rb76 := Lib.hid (Rb74.out.keep hb)
      clear Rb74
      have Rc76 := Lib.hid (Rc74.out.keep hb)
      clear Rc74
      have Rd76 := Lib.hid (Rd74.out.keep hb)
      clear Rd74
      have Re76 := Lib.hid (Re74.out.keep hb)
      clear Re74
      have Rf76 := Lib.hid (Rf74.out.keep hb)
      clear Rf74
      have Rg76 := Lib.hid (Rg74.out.keep hb)
      clear Rg74
      have Rh76 := Lib.hid (Rh74.out.keep hb)
      clear Rh74
      have HB76 := Lib.hid (bel_step HB74.out hb)
      clear HB74
      clear hb
      go_wp2_with fail
      refine (same_yesF Bg lm.length dg Bh lm.length dh lm _ Rg76.out Rh76.out).mono ?_
      rintro e W77 ⟨rfl, hb⟩
      have LX78 := Lib.hid (LX76.out.keep hb)
      clear LX76
      have LY78 := Lib.hid (LY76.out.keep hb)
      clear LY76
      have Ra78 := Lib.hid (Ra76.out.keep hb)
      clear Ra76
      have Rb78 := Lib.hid (Rb76.out.keep hb)
      clear Rb76
      have Rc78 := Lib.hid (Rc76.out.keep hb)
      clear Rc76
      have Rd78 := Lib.hid (Rd76.out.keep hb)
      clear Rd76
      have Re78 := Lib.hid (Re76.out.keep hb)
      clear Re76
      have Rf78 := Lib.hid (Rf76.out.keep hb)
      clear Rf76
      have Rg78 := Lib.hid (Rg76.out.keep hb)
      clear Rg76
      have Rh78 := Lib.hid (Rh76.out.keep hb)
      clear Rh76
      have HB78 := Lib.hid (bel_step HB76.out hb)
      clear HB76
      clear hb
      go_wp2_with fail
      go_ret
      exact ⟨rfl, HB78.out⟩
  · skip
    obtain ⟨le, ke, hE, hE'⟩ := ext_both mx xs b hb0.1 hb0.2
    have HhE := Lib.hid hE
    clear hE
    have HhE' := Lib.hid hE'
    clear hE'
    go_wp2_with fail
    refine (HhF.out Ax dx _ LX14.out).mono ?_
    rintro e W79 ⟨Ba, da, rfl, hs, hb⟩
    have LX80 := Lib.hid (LX14.out.keep hb)
    clear LX14
    have LY80 := Lib.hid (LY14.out.keep hb)
    clear LY14
    have HB80 := Lib.hid (bel_step HB14.out hb)
    clear HB14
    clear hb
    have Ra81 := Lib.hid hs
    clear hs
    have hca := Ra81.out.cap
    have hta := Ra81.out.top
    go_wp2_with fail
    refine (HhF'.out Ax dx _ LX80.out).mono ?_
    rintro e W82 ⟨Bb, db, rfl, hs, hb⟩
    have LX83 := Lib.hid (LX80.out.keep hb)
    clear LX80
    have LY83 := Lib.hid (LY80.out.keep hb)
    clear LY80
    have Ra83 := Lib.hid (Ra81.out.keep hb)
    clear Ra81
    have HB83 := Lib.hid (bel_step HB80.out hb)
    clear HB80
    clear hb
    have Rb84 := Lib.hid hs
    clear hs
    have hcb := Rb84.out.cap
    have htb := Rb84.out.top
    go_wp2_with fail
    refine (HhI.out Ax dx _ LX83.out).mono ?_
    rintro e W85 ⟨Bc, dc, rfl, hs, hb⟩
    have LX86 := Lib.hid (LX83.out.keep hb)
    clear LX83
    have LY86 := Lib.hid (LY83.out.keep hb)
    clear LY83
    have Ra86 := Lib.hid (Ra83.out.keep hb)
    clear Ra83
    have Rb86 := Lib.hid (Rb84.out.keep hb)
    clear Rb84
    have HB86 := Lib.hid (bel_step HB83.out hb)
    clear HB83
    clear hb
    have Rc87 := Lib.hid hs
    clear hs
    have hcc := Rc87.out.cap
    have htc := Rc87.out.top
    go_wp2_with fail
    refine (HhI'.out Ax dx _ LX86.out).mono ?_
    rintro e W88 ⟨Bd, dd, rfl, hs, hb⟩
    have LX89 := Lib.hid (LX86.out.keep hb)
    clear LX86
    have LY89 := Lib.hid (LY86.out.keep hb)
    clear LY86
    have Ra89 := Lib.hid (Ra86.out.keep hb)
    clear Ra86
    have Rb89 := Lib.hid (Rb86.out.keep hb)
    clear Rb86
    have Rc89 := Lib.hid (Rc87.out.keep hb)
    clear Rc87
    have HB89 := Lib.hid (bel_step HB86.out hb)
    clear HB86
    clear hb
    have Rd90 := Lib.hid hs
    clear hs
    have hcd := Rd90.out.cap
    have htd := Rd90.out.top
    go_wp2_with fail
    refine (HhE.out Ax dx _ LX89.out).mono ?_
    rintro e W91 ⟨Be, de, rfl, hs, hb⟩
    have LX92 := Lib.hid (LX89.out.keep hb)
    clear LX89
    have LY92 := Lib.hid (LY89.out.keep hb)
    clear LY89
    have Ra92 := Lib.hid (Ra89.out.keep hb)
    clear Ra89
    have Rb92 := Lib.hid (Rb89.out.keep hb)
    clear Rb89
    have Rc92 := Lib.hid (Rc89.out.keep hb)
    clear Rc89
    have Rd92 := Lib.hid (Rd90.out.keep hb)
    clear Rd90
    have HB92 := Lib.hid (bel_step HB89.out hb)
    clear HB89
    clear hb
    have Re93 := Lib.hid hs
    clear hs
    have hce := Re93.out.cap
    have hte := Re93.out.top
    go_wp2_with fail
    refine (HhE'.out Ax dx _ LX92.out).mono ?_
    rintro e W94 ⟨Bf, df, rfl, hs, hb⟩
    have LX95 := Lib.hid (LX92.out.keep hb)
    clear LX92
    have LY95 := Lib.hid (LY92.out.keep hb)
    clear LY92
    have Ra95 := Lib.hid (Ra92.out.keep hb)
    clear Ra92
    have Rb95 := Lib.hid (Rb92.out.keep hb)
    clear Rb92
    have Rc95 := Lib.hid (Rc92.out.keep hb)
    clear Rc92
    have Rd95 := Lib.hid (Rd92.out.keep hb)
    clear Rd92
    have Re95 := Lib.hid (Re93.out.keep hb)
    clear Re93
    have HB95 := Lib.hid (bel_step HB92.out hb)
    clear HB92
    clear hb
    have Rf96 := Lib.hid hs
    clear hs
    have hcf := Rf96.out.cap
    have htf := Rf96.out.top
    go_wp2_with fail
    refine (HhM.out Ax dx Ay dy _ LX95.out LY95.out).mono ?_
    rintro e W97 ⟨Bg, dg, rfl, hs, hb⟩
    have LX98 := Lib.hid (LX95.out.keep hb)
    clear LX95
    have LY98 := Lib.hid (LY95.out.keep hb)
    clear LY95
    have Ra98 := Lib.hid (Ra95.out.keep hb)
    clear Ra95
    have Rb98 := Lib.hid (Rb95.out.keep hb)
    clear Rb95
    have Rc98 := Lib.hid (Rc95.out.keep hb)
    clear Rc95
    have Rd98 := Lib.hid (Rd95.out.keep hb)
    clear Rd95
    have Re98 := Lib.hid (Re95.out.keep hb)
    clear Re95
    have Rf98 := Lib.hid (Rf96.out.keep hb)
    clear Rf96
    have HB98 := Lib.hid (bel_step HB95.out hb)
    clear HB95
    clear hb
    have Rg99 := Lib.hid hs
    clear hs
    have hcg := Rg99.out.cap
    have htg := Rg99.out.top
    go_wp2_with fail
    refine (HhM'.out Ax dx Ay dy _ LX98.out LY98.out).mono ?_
    rintro e W100 ⟨Bh, dh, rfl, hs, hb⟩
    have LX101 := Lib.hid (LX98.out.keep hb)
    clear LX98
    have LY101 := Lib.hid (LY98.out.keep hb)
    clear LY98
    have Ra101 := Lib.hid (Ra98.out.keep hb)
    clear Ra98
    have Rb101 := Lib.hid (Rb98.out.keep hb)
    clear Rb98
    have Rc101 := Lib.hid (Rc98.out.keep hb)
    clear Rc98
    have Rd101 := Lib.hid (Rd98.out.keep hb)
    clear Rd98
    have Re101 := Lib.hid (Re98.out.keep hb)
    clear Re98
    have Rf101 := Lib.hid (Rf98.out.keep hb)
    clear Rf98
    have Rg101 := Lib.hid (Rg99.out.keep hb)
    clear Rg99
    have HB101 := Lib.hid (bel_step HB98.out hb)
    clear HB98
    clear hb
    have Rh102 := Lib.hid hs
    clear hs
    have hch := Rh102.out.cap
    have hth := Rh102.out.top
    go_wp2_with fail
    refine (same_yesF Ba lf.length da Bb lf.length db lf _ Ra101.out Rb101.out).mono ?_
    rintro e W103 ⟨rfl, hb⟩
    have LX104 := Lib.hid (LX101.out.keep hb)
    clear LX101
    have LY104 := Lib.hid (LY101.out.keep hb)
    clear LY101
    have Ra104 := Lib.hid (Ra101.out.keep hb)
    clear Ra101
    have Rb104 := Lib.hid (Rb101.out.keep hb)
    clear Rb101
    have Rc104 := Lib.hid (Rc101.out.keep hb)
    clear Rc101
    have Rd104 := Lib.hid (Rd101.out.keep hb)
    clear Rd101
    have Re104 := Lib.hid (Re101.out.keep hb)
    clear Re101
    have Rf104 := Lib.hid (Rf101.out.keep hb)
    clear Rf101
    have Rg104 := Lib.hid (Rg101.out.keep hb)
    clear Rg101
    have Rh104 := Lib.hid (Rh102.out.keep hb)
    clear Rh102
    have HB104 := Lib.hid (bel_step HB101.out hb)
    clear HB101
    clear hb
    go_wp2_with fail
    refine (same_yesF Bc li.length dc Bd li.length dd li _ Rc104.out Rd104.out).mono ?_
    rintro e W105 ⟨rfl, hb⟩
    have LX106 := Lib.hid (LX104.out.keep hb)
    clear LX104
    have LY106 := Lib.hid (LY104.out.keep hb)
    clear LY104
    have Ra106 := Lib.hid (Ra104.out.keep hb)
    clear Ra104
    have Rb106 := Lib.hid (Rb104.out.keep hb)
    clear Rb104
    have Rc106 := Lib.hid (Rc104.out.keep hb)
    clear Rc104
    have Rd106 := Lib.hid (Rd104.out.keep hb)
    clear Rd104
    have Re106 := Lib.hid (Re104.out.keep hb)
    clear Re104
    have Rf106 := Lib.hid (Rf104.out.keep hb)
    clear Rf104
    have Rg106 := Lib.hid (Rg104.out.keep hb)
    clear Rg104
    have Rh106 := Lib.hid (Rh104.out.keep hb)
    clear Rh104
    have HB106 := Lib.hid (bel_step HB104.out hb)
    clear HB104
    clear hb
    go_wp2_with fail
    refine (same_yesF Be le.length de Bf le.length df le _ Re106.out Rf106.out).mono ?_
    rintro e W107 ⟨rfl, hb⟩
    have LX108 := Lib.hid (LX106.out.keep hb)
    clear LX106
    have LY108 := Lib.hid (LY106.out.keep hb)
    clear LY106
    have Ra108 := Lib.hid (Ra106.out.keep hb)
    clear Ra106
    have Rb108 := Lib.hid (Rb106.out.keep hb)
    clear Rb106
    have Rc108 := Lib.hid (Rc106.out.keep hb)
    clear Rc106
    have Rd108 := Lib.hid (Rd106.out.keep hb)
    clear Rd106
    have Re108 := Lib.hid (Re106.out.keep hb)
    clear Re106
    have Rf108 := Lib.hid (Rf106.out.keep hb)
    clear Rf106
    have Rg108 := Lib.hid (Rg106.out.keep hb)
    clear Rg106
    have Rh108 := Lib.hid (Rh106.out.keep hb)
    clear Rh106
    have HB108 := Lib.hid (bel_step HB106.out hb)
    clear HB106
    clear hb
    go_wp2_with fail
    refine (same_yesF Bg lm.length dg Bh lm.length dh lm _ Rg108.out Rh108.out).mono ?_
    rintro e W109 ⟨rfl, hb⟩
    have LX110 := Lib.hid (LX108.out.keep hb)
    clear LX108
    have LY110 := Lib.hid (LY108.out.keep hb)
    clear LY108
    have Ra110 := Lib.hid (Ra108.out.keep hb)
    clear Ra108
    have Rb110 := Lib.hid (Rb108.out.keep hb)
    clear Rb108
    have Rc110 := Lib.hid (Rc108.out.keep hb)
    clear Rc108
    have Rd110 := Lib.hid (Rd108.out.keep hb)
    clear Rd108
    have Re110 := Lib.hid (Re108.out.keep hb)
    clear Re108
    have Rf110 := Lib.hid (Rf108.out.keep hb)
    clear Rf108
    have Rg110 := Lib.hid (Rg108.out.keep hb)
    clear Rg108
    have Rh110 := Lib.hid (Rh108.out.keep hb)
    clear Rh108
    have HB110 := Lib.hid (bel_step HB108.out hb)
    clear HB108
    clear hb
    go_wp2_with fail
    go_ret
    exact ⟨rfl, HB110.out⟩

end Go.Proofs.Ytihneehceclffaa
