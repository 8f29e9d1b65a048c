/- Contract of a law of package ntt; no conditions but the arguments' own. -/
import Derived.Test.YtihneehceclffaaNlm
import Derived.Test.YtihneehceclffaaFloat2

set_option linter.unusedVariables false
namespace Go.Proofs.Ytihneehceclffaa
open Go.RowKit Gold

set_option maxHeartbeats 16000000 in
set_option maxRecDepth 100000 in
theorem nttMulAlgebra_any (X0 : Option Addr) (nx cx : Nat) (px : List Int) (Y0 : Option Addr) (ny cy : Nat) (py : List Int) (Z0 : Option Addr) (nz cz : Nat) (pz : List Int)  (w : World) (hx : Su w X0 nx cx px) (wx : ∀ z ∈ px, U64 z) (hy : Su w Y0 ny cy py) (wy : ∀ z ∈ py, U64 z) (hz : Su w Z0 nz cz pz) (wz : ∀ z ∈ pz, U64 z)  :
    Calls Try.prog 10 #[.slice X0 nx cx, .slice Y0 ny cy, .slice Z0 nz cz] w fun e w' => e = .returned (.bool true) ∧ Below w.heap.size w w' := by
  have hcx := hx.cap
  have htx := hx.top
  have Px0 := Lib.hid hx
  have Wx := Lib.hid wx
  have HLx := Lib.hid hx.len
  clear hx wx
  have hcy := hy.cap
  have hty := hy.top
  have Py0 := Lib.hid hy
  have Wy := Lib.hid wy
  have HLy := Lib.hid hy.len
  clear hy wy
  have hcz := hz.cap
  have htz := hz.top
  have Pz0 := Lib.hid hz
  have Wz := Lib.hid wz
  have HLz := Lib.hid hz.len
  clear hz wz
  obtain ⟨mx, hmx, hmx1, hmx2, _⟩ := min_rule nx 60
  have hmx : (if (60 : Int) < (nx : Int) then (60 : Int) else (nx : Int)) = (mx : Int) := hmx
  have hmx3 : mx ≤ cx := by omega
  have hmx4 : (mx : Int) ≤ (cx : Int) := by omega
  have hmx5 : (0 : Int) ≤ (mx : Int) := by omega
  have HMx := Lib.hid hmx
  clear hmx
  obtain ⟨my, hmy, hmy1, hmy2, _⟩ := min_rule ny 60
  have hmy : (if (60 : Int) < (ny : Int) then (60 : Int) else (ny : Int)) = (my : Int) := hmy
  have hmy3 : my ≤ cy := by omega
  have hmy4 : (my : Int) ≤ (cy : Int) := by omega
  have hmy5 : (0 : Int) ≤ (my : Int) := by omega
  have HMy := Lib.hid hmy
  clear hmy
  obtain ⟨mz, hmz, hmz1, hmz2, _⟩ := min_rule nz 60
  have hmz : (if (60 : Int) < (nz : Int) then (60 : Int) else (nz : Int)) = (mz : Int) := hmz
  have hmz3 : mz ≤ cz := by omega
  have hmz4 : (mz : Int) ≤ (cz : Int) := by omega
  have hmz5 : (0 : Int) ≤ (mz : Int) := by omega
  have HMz := Lib.hid hmz
  clear hmz
  go_enter Try.func10, Try.ntmps10
  go_wp2_with fail
  refine (sanity4_any _).mono ?_
  rintro e W1 ⟨rfl, hb⟩
  have Px2 := Lib.hid (Px0.out.keep hb)
  clear Px0
  have Py2 := Lib.hid (Py0.out.keep hb)
  clear Py0
  have Pz2 := Lib.hid (Pz0.out.keep hb)
  clear Pz0
  have HB2 := Lib.hid hb
  clear hb
  go_wp2_with fail
  have hmx := HMx.out
  have hmy := HMy.out
  have hmz := HMz.out
  try simp only [List.append_eq, List.cons_append, List.nil_append]
  refine wp_floatN (by kernel_rfl) (lexOK_of (by kernel_rfl) (by kernel_rfl)) (chainOF_of (by kernel_rfl)) (fun V3 hb hS => ?_)
  have Px4 := Lib.hid (Px2.out.keep hb)
  clear Px2
  have Py4 := Lib.hid (Py2.out.keep hb)
  clear Py2
  have Pz4 := Lib.hid (Pz2.out.keep hb)
  clear Pz2
  have HB4 := Lib.hid (bel_step HB2.out hb)
  clear HB2
  clear hb
  have HS3' := Lib.hid hS
  clear hS
  refine wpF_seg 5 (by kernel_rfl) ?_
  simp only [List.take_succ_cons, List.take_zero, List.drop_succ_cons, List.drop_zero]
  repeat (go_big_quiet_step (fail))
  refine wpQuiet_nil ?_
  refine wpF_call 13 Try.func13 (by kernel_rfl) (by kernel_rfl) _ _ #[.slice X0 mx cx] rfl (by kernel_rfl) (by kernel_rfl) HS3'.out (fun V6 hV => ?_)
  refine (made1_any X0 mx cx (px.take mx) _ ((Px4.out.keep hV).take hmx1) (fun z hz => Wx.out z (List.mem_of_mem_take hz)) (by omega)).mono ?_
  rintro e W6 ⟨Ax, dx, rfl, hs, hb⟩
  have hb2 := ext_trans hV hb
  have Px7 := Lib.hid (Px4.out.keep hb2)
  clear Px4
  have Py7 := Lib.hid (Py4.out.keep hb2)
  clear Py4
  have Pz7 := Lib.hid (Pz4.out.keep hb2)
  clear Pz4
  have HB7 := Lib.hid (bel_step HB4.out hb2)
  clear HB4
  have HS7 := Lib.hid (HS3'.out.ext hb2)
  clear HS3'
  have LX8 := Lib.hid hs
  clear hs
  refine ⟨_, rfl, hb, ?_⟩
  clear hb hb2 hV
  simp only [Act.put, List.setIfInBounds_toArray, List.set_cons_zero, List.set_cons_succ]
  refine wpF_seg 5 (by kernel_rfl) ?_
  simp only [List.take_succ_cons, List.take_zero, List.drop_succ_cons, List.drop_zero]
  repeat (go_big_quiet_step (fail))
  refine wpQuiet_nil ?_
  refine wpF_call 13 Try.func13 (by kernel_rfl) (by kernel_rfl) _ _ #[.slice Y0 my cy] rfl (by kernel_rfl) (by kernel_rfl) HS7.out (fun V10 hV => ?_)
  refine (made1_any Y0 my cy (py.take my) _ ((Py7.out.keep hV).take hmy1) (fun z hz => Wy.out z (List.mem_of_mem_take hz)) (by omega)).mono ?_
  rintro e W10 ⟨Ay, dy, rfl, hs, hb⟩
  have hb2 := ext_trans hV hb
  have Px11 := Lib.hid (Px7.out.keep hb2)
  clear Px7
  have Py11 := Lib.hid (Py7.out.keep hb2)
  clear Py7
  have Pz11 := Lib.hid (Pz7.out.keep hb2)
  clear Pz7
  have LX11 := Lib.hid (LX8.out.keep hb2)
  clear LX8
  have HB11 := Lib.hid (bel_step HB7.out hb2)
  clear HB7
  have HS11 := Lib.hid (HS7.out.ext hb2)
  clear HS7
  have LY12 := Lib.hid hs
  clear hs
  refine ⟨_, rfl, hb, ?_⟩
  clear hb hb2 hV
  simp only [Act.put, List.setIfInBounds_toArray, List.set_cons_zero, List.set_cons_succ]
  refine wpF_seg 5 (by kernel_rfl) ?_
  simp only [List.take_succ_cons, List.take_zero, List.drop_succ_cons, List.drop_zero]
  repeat (go_big_quiet_step (fail))
  refine wpQuiet_nil ?_
  refine wpF_call 13 Try.func13 (by kernel_rfl) (by kernel_rfl) _ _ #[.slice Z0 mz cz] rfl (by kernel_rfl) (by kernel_rfl) HS11.out (fun V14 hV => ?_)
  refine (made1_any Z0 mz cz (pz.take mz) _ ((Pz11.out.keep hV).take hmz1) (fun z hz => Wz.out z (List.mem_of_mem_take hz)) (by omega)).mono ?_
  rintro e W14 ⟨Az, dz, rfl, hs, hb⟩
  have hb2 := ext_trans hV hb
  have Px15 := Lib.hid (Px11.out.keep hb2)
  clear Px11
  have Py15 := Lib.hid (Py11.out.keep hb2)
  clear Py11
  have Pz15 := Lib.hid (Pz11.out.keep hb2)
  clear Pz11
  have LX15 := Lib.hid (LX11.out.keep hb2)
  clear LX11
  have LY15 := Lib.hid (LY12.out.keep hb2)
  clear LY12
  have HB15 := Lib.hid (bel_step HB11.out hb2)
  clear HB11
  have HS15 := Lib.hid (HS11.out.ext hb2)
  clear HS11
  have LZ16 := Lib.hid hs
  clear hs
  refine ⟨_, rfl, hb, ?_⟩
  clear hb hb2 hV
  simp only [Act.put, List.setIfInBounds_toArray, List.set_cons_zero, List.set_cons_succ]
  refine wpF_seg 3 (by kernel_rfl) ?_
  simp only [List.take_succ_cons, List.take_zero, List.drop_succ_cons, List.drop_zero]
  repeat (go_big_quiet_step (fail))
  refine wpQuiet_nil ?_
  refine wpF_nil (fun V17 hb => ?_)
  have Px18 := Lib.hid (Px15.out.keep hb)
  clear Px15
  have Py18 := Lib.hid (Py15.out.keep hb)
  clear Py15
  have Pz18 := Lib.hid (Pz15.out.keep hb)
  clear Pz15
  have LX18 := Lib.hid (LX15.out.keep hb)
  clear LX15
  have LY18 := Lib.hid (LY15.out.keep hb)
  clear LY15
  have LZ18 := Lib.hid (LZ16.out.keep hb)
  clear LZ16
  have HB18 := Lib.hid (bel_step HB15.out hb)
  clear HB15
  clear hb
  clear hmx hmy hmz
  clear Px18
  clear Py18
  clear Pz18
  have hl : ((px.take mx).map toF).length = mx := by have := HLx.out; rw [List.length_map, List.length_take]; omega
  generalize (px.take mx).map toF = xs at *
  have HLxs := Lib.hid hl
  clear hl
  have hl : ((py.take my).map toF).length = my := by have := HLy.out; rw [List.length_map, List.length_take]; omega
  generalize (py.take my).map toF = ys at *
  have HLys := Lib.hid hl
  clear hl
  have hl : ((pz.take mz).map toF).length = mz := by have := HLz.out; rw [List.length_map, List.length_take]; omega
  generalize (pz.take mz).map toF = zs at *
  have HLzs := Lib.hid hl
  clear hl
  have hdx := LX18.out.cap
  have hex := LX18.out.top
  have hdy := LY18.out.cap
  have hey := LY18.out.top
  have hdz := LZ18.out.cap
  have hez := LZ18.out.top
  obtain ⟨M, hM⟩ : ∃ M, M = max my mz := ⟨_, rfl⟩
  have hM1 : my ≤ M := by omega
  have hM2 : mz ≤ M := by omega
  have hM3 : M ≤ 60 := by omega
  have hMx := Lib.hid hM
  have hM4 : my = M ∨ mz = M := by omega
  have HM4 := Lib.hid hM4
  clear hM hM4
  go_wp2_with fail
  go_loopw [11, 12] (fun v i wr => ∃ k : Nat, k ≤ M ∧ i = .int .i64 k ∧ OwF wr V17.heap.size v k (sumP ys zs k) ∧ Below V17.heap.size V17 wr) (fun _ i _ => M - (intOf i).toNat)
  case atStart => exact ⟨0, Nat.zero_le _, rfl, OwF.made V17 _ (Nat.le_refl _), (Below.refl _ _).alloc (Nat.le_refl _) _⟩
  case round =>
    obtain ⟨k, hk, rfl, ho, hb⟩ := hrel
    have HO := Lib.hid ho
    have HBR := Lib.hid hb
    clear ho
    have LX19 := Lib.hid (LX18.out.keep hb)
    clear LX18
    have LY19 := Lib.hid (LY18.out.keep hb)
    clear LY18
    have LZ19 := Lib.hid (LZ18.out.keep hb)
    clear LZ18
    have HB19 := Lib.hid (bel_step HB18.out hb)
    clear HB18
    clear hb
    by_cases hy : k < my
    · skip
      obtain ⟨b, hb⟩ := LY19.out.get hy
      obtain ⟨ad, rfl, h1⟩ := LY19.out.at_ hb
      have HY := Lib.hid (cfF_some hb)
      clear hb
      by_cases hz : k < mz
      · skip
        obtain ⟨d, hd⟩ := LZ19.out.get hz
        obtain ⟨bd, rfl, h2⟩ := LZ19.out.at_ hd
        have HZ := Lib.hid (cfF_some hd)
        clear hd
        go_wp2_with fail
        refine (raddF b d _).mono ?_
        rintro e w3 ⟨rfl, hw⟩
        subst hw
        go_wp2_with (at_builtin; refine wpList_appendF rfl (.tmp 82) (.tmp 84) rfl (V17.heap.size) _ k _ rfl (HO.out.keep ((Below.refl _ _).alloc (Nat.le_refl _) _)) w3.heap.size 1 (b + d) rfl (One.new w3 _ _) (by omega) (by have := HBR.out.size; simp; omega) ?_; intro v2 w2 hown2 hb2; have HO2 := Lib.hid hown2; have HB2 := Lib.hid ((HBR.out.alloc HBR.out.size _).trans hb2); clear hown2 hb2)
        go_roundw
        case rel => exact ⟨k + 1, by omega, by go_num, by unfold sumP; rw [tabF_succ, HY.out, HZ.out]; exact HO2.out, HB2.out⟩
        case measure => simp [intOf]; omega
      · skip
        have HZ := Lib.hid (cfF_none (xs := zs) (i := k) (by rw [HLzs.out]; omega))
        go_wp2_with (at_builtin; refine wpList_appendF rfl (.tmp 82) (.tmp 84) rfl (V17.heap.size) _ k _ rfl (HO.out.keep ((Below.refl _ _).alloc (Nat.le_refl _) _)) wr.heap.size 1 (b) rfl (One.new wr _ _) (by omega) (by have := HBR.out.size; simp; omega) ?_; intro v2 w2 hown2 hb2; have HO2 := Lib.hid hown2; have HB2 := Lib.hid ((HBR.out.alloc HBR.out.size _).trans hb2); clear hown2 hb2)
        go_roundw
        case rel => exact ⟨k + 1, by omega, by go_num, by unfold sumP; rw [tabF_succ, HY.out, HZ.out, F_add_zero]; exact HO2.out, HB2.out⟩
        case measure => simp [intOf]; omega
    · skip
      have HY := Lib.hid (cfF_none (xs := ys) (i := k) (by rw [HLys.out]; omega))
      by_cases hz : k < mz
      · skip
        obtain ⟨d, hd⟩ := LZ19.out.get hz
        obtain ⟨bd, rfl, h2⟩ := LZ19.out.at_ hd
        have HZ := Lib.hid (cfF_some hd)
        clear hd
        go_wp2_with fail
        refine (raddF 0 d _).mono ?_
        rintro e w3 ⟨rfl, hw⟩
        subst hw
        go_wp2_with (at_builtin; refine wpList_appendF rfl (.tmp 82) (.tmp 84) rfl (V17.heap.size) _ k _ rfl (HO.out.keep ((Below.refl _ _).alloc (Nat.le_refl _) _)) w3.heap.size 1 (d) rfl (One.new w3 _ _) (by omega) (by have := HBR.out.size; simp; omega) ?_; intro v2 w2 hown2 hb2; have HO2 := Lib.hid hown2; have HB2 := Lib.hid ((HBR.out.alloc HBR.out.size _).trans hb2); clear hown2 hb2)
        go_roundw
        case rel => exact ⟨k + 1, by omega, by go_num, by unfold sumP; rw [tabF_succ, HY.out, HZ.out, F_zero_add]; exact HO2.out, HB2.out⟩
        case measure => simp [intOf]; omega
      · skip
        obtain rfl : k = M := by have := HM4.out; omega
        obtain ⟨As, cs, rfl, hss⟩ := HO.out.sl
        have LS20 := Lib.hid hss
        clear hss
        clear HO HY
        go_wp2_with fail
        refine (mul_all Ax mx dx xs Ay my dy ys _ LX19.out LY19.out (by omega)).mono ?_
        rintro e W21 ⟨Aab, Lab, rfl, hs, hb⟩
        have LX22 := Lib.hid (LX19.out.keep hb)
        clear LX19
        have LY22 := Lib.hid (LY19.out.keep hb)
        clear LY19
        have LZ22 := Lib.hid (LZ19.out.keep hb)
        clear LZ19
        have LS22 := Lib.hid (LS20.out.keep hb)
        clear LS20
        have HB22 := Lib.hid (bel_step HB19.out hb)
        clear HB19
        clear hb
        have Rab23 := Lib.hid hs
        clear hs
        have hlab := Rab23.out.len
        have hsab := mulP_short xs ys
        have hnab : Lab ≤ mx + my := by have := LX22.out.len; have := LY22.out.len; omega
        have hcab := Rab23.out.top
        have hlab' := Lib.hid hlab
        clear hlab hsab
        go_wp2_with fail
        refine (mul_all Ay my dy ys Ax mx dx xs _ LY22.out LX22.out (by omega)).mono ?_
        rintro e W24 ⟨Aba, Lba, rfl, hs, hb⟩
        have LX25 := Lib.hid (LX22.out.keep hb)
        clear LX22
        have LY25 := Lib.hid (LY22.out.keep hb)
        clear LY22
        have LZ25 := Lib.hid (LZ22.out.keep hb)
        clear LZ22
        have LS25 := Lib.hid (LS22.out.keep hb)
        clear LS22
        have Rab25 := Lib.hid (Rab23.out.keep hb)
        clear Rab23
        have HB25 := Lib.hid (bel_step HB22.out hb)
        clear HB22
        clear hb
        have Rba26 := Lib.hid hs
        clear hs
        have hlba := Rba26.out.len
        have hsba := mulP_short ys xs
        have hnba : Lba ≤ my + mx := by have := LY25.out.len; have := LX25.out.len; omega
        have hcba := Rba26.out.top
        have hlba' := Lib.hid hlba
        clear hlba hsba
        go_wp2_with fail
        refine (mul_all Ay my dy ys Az mz dz zs _ LY25.out LZ25.out (by omega)).mono ?_
        rintro e W27 ⟨Abc, Lbc, rfl, hs, hb⟩
        have LX28 := Lib.hid (LX25.out.keep hb)
        clear LX25
        have LY28 := Lib.hid (LY25.out.keep hb)
        clear LY25
        have LZ28 := Lib.hid (LZ25.out.keep hb)
        clear LZ25
        have LS28 := Lib.hid (LS25.out.keep hb)
        clear LS25
        have Rab28 := Lib.hid (Rab25.out.keep hb)
        clear Rab25
        have Rba28 := Lib.hid (Rba26.out.keep hb)
        clear Rba26
        have HB28 := Lib.hid (bel_step HB25.out hb)
        clear HB25
        clear hb
        have Rbc29 := Lib.hid hs
        clear hs
        have hlbc := Rbc29.out.len
        have hsbc := mulP_short ys zs
        have hnbc : Lbc ≤ my + mz := by have := LY28.out.len; have := LZ28.out.len; omega
        have hcbc := Rbc29.out.top
        have hlbc' := Lib.hid hlbc
        clear hlbc hsbc
        go_wp2_with fail
        refine (mul_all Ax mx dx xs Az mz dz zs _ LX28.out LZ28.out (by omega)).mono ?_
        rintro e W30 ⟨Aac, Lac, rfl, hs, hb⟩
        have LX31 := Lib.hid (LX28.out.keep hb)
        clear LX28
        have LY31 := Lib.hid (LY28.out.keep hb)
        clear LY28
        have LZ31 := Lib.hid (LZ28.out.keep hb)
        clear LZ28
        have LS31 := Lib.hid (LS28.out.keep hb)
        clear LS28
        have Rab31 := Lib.hid (Rab28.out.keep hb)
        clear Rab28
        have Rba31 := Lib.hid (Rba28.out.keep hb)
        clear Rba28
        have Rbc31 := Lib.hid (Rbc29.out.keep hb)
        clear Rbc29
        have HB31 := Lib.hid (bel_step HB28.out hb)
        clear HB28
        clear hb
        have Rac32 := Lib.hid hs
        clear hs
        have hlac := Rac32.out.len
        have hsac := mulP_short xs zs
        have hnac : Lac ≤ mx + mz := by have := LX31.out.len; have := LZ31.out.len; omega
        have hcac := Rac32.out.top
        have hlac' := Lib.hid hlac
        clear hlac hsac
        go_wp2_with fail
        refine (mul_all Aab Lab Lab (mulP xs ys) Az mz dz zs _ Rab31.out LZ31.out (by omega)).mono ?_
        rintro e W33 ⟨Ale, Lle, rfl, hs, hb⟩
        have LX34 := Lib.hid (LX31.out.keep hb)
        clear LX31
        have LY34 := Lib.hid (LY31.out.keep hb)
        clear LY31
        have LZ34 := Lib.hid (LZ31.out.keep hb)
        clear LZ31
        have LS34 := Lib.hid (LS31.out.keep hb)
        clear LS31
        have Rab34 := Lib.hid (Rab31.out.keep hb)
        clear Rab31
        have Rba34 := Lib.hid (Rba31.out.keep hb)
        clear Rba31
        have Rbc34 := Lib.hid (Rbc31.out.keep hb)
        clear Rbc31
        have Rac34 := Lib.hid (Rac32.out.keep hb)
        clear Rac32
        have HB34 := Lib.hid (bel_step HB31.out hb)
        clear HB31
        clear hb
        have Rle35 := Lib.hid hs
        clear hs
        have hlle := Rle35.out.len
        have hsle := mulP_short (mulP xs ys) zs
        have hnle : Lle ≤ Lab + mz := by have := Rab34.out.len; have := LZ34.out.len; omega
        have hcle := Rle35.out.top
        have hlle' := Lib.hid hlle
        clear hlle hsle
        go_wp2_with fail
        refine (mul_all Ax mx dx xs Abc Lbc Lbc (mulP ys zs) _ LX34.out Rbc34.out (by omega)).mono ?_
        rintro e W36 ⟨Ari, Lri, rfl, hs, hb⟩
        have LX37 := Lib.hid (LX34.out.keep hb)
        clear LX34
        have LY37 := Lib.hid (LY34.out.keep hb)
        clear LY34
        have LZ37 := Lib.hid (LZ34.out.keep hb)
        clear LZ34
        have LS37 := Lib.hid (LS34.out.keep hb)
        clear LS34
        have Rab37 := Lib.hid (Rab34.out.keep hb)
        clear Rab34
        have Rba37 := Lib.hid (Rba34.out.keep hb)
        clear Rba34
        have Rbc37 := Lib.hid (Rbc34.out.keep hb)
        clear Rbc34
        have Rac37 := Lib.hid (Rac34.out.keep hb)
        clear Rac34
        have Rle37 := Lib.hid (Rle35.out.keep hb)
        clear Rle35
        have HB37 := Lib.hid (bel_step HB34.out hb)
        clear HB34
        clear hb
        have Rri38 := Lib.hid hs
        clear hs
        have hlri := Rri38.out.len
        have hsri := mulP_short xs (mulP ys zs)
        have hnri : Lri ≤ mx + Lbc := by have := LX37.out.len; have := Rbc37.out.len; omega
        have hcri := Rri38.out.top
        have hlri' := Lib.hid hlri
        clear hlri hsri
        go_wp2_with fail
        refine (mul_all Ax mx dx xs As k cs (sumP ys zs k) _ LX37.out LS37.out (by omega)).mono ?_
        rintro e W39 ⟨Aal, Lal, rfl, hs, hb⟩
        have LX40 := Lib.hid (LX37.out.keep hb)
        clear LX37
        have LY40 := Lib.hid (LY37.out.keep hb)
        clear LY37
        have LZ40 := Lib.hid (LZ37.out.keep hb)
        clear LZ37
        have LS40 := Lib.hid (LS37.out.keep hb)
        clear LS37
        have Rab40 := Lib.hid (Rab37.out.keep hb)
        clear Rab37
        have Rba40 := Lib.hid (Rba37.out.keep hb)
        clear Rba37
        have Rbc40 := Lib.hid (Rbc37.out.keep hb)
        clear Rbc37
        have Rac40 := Lib.hid (Rac37.out.keep hb)
        clear Rac37
        have Rle40 := Lib.hid (Rle37.out.keep hb)
        clear Rle37
        have Rri40 := Lib.hid (Rri38.out.keep hb)
        clear Rri38
        have HB40 := Lib.hid (bel_step HB37.out hb)
        clear HB37
        clear hb
        have Ral41 := Lib.hid hs
        clear hs
        have hlal := Ral41.out.len
        have hsal := mulP_short xs (sumP ys zs k)
        have hnal : Lal ≤ mx + k := by have := LX40.out.len; have := LS40.out.len; omega
        have hcal := Ral41.out.top
        have hlal' := Lib.hid hlal
        clear hlal hsal
        go_wp2_with fail
        refine calls_named1 (fun V42 hbV g0 hzV => ?_)
        have hs := lit_sf (g := W39.heap.size) 1 [1] _ rfl rfl g0 (by decide)
        have LX43 := Lib.hid (LX40.out.keep hbV)
        clear LX40
        have LY43 := Lib.hid (LY40.out.keep hbV)
        clear LY40
        have LZ43 := Lib.hid (LZ40.out.keep hbV)
        clear LZ40
        have LS43 := Lib.hid (LS40.out.keep hbV)
        clear LS40
        have Rab43 := Lib.hid (Rab40.out.keep hbV)
        clear Rab40
        have Rba43 := Lib.hid (Rba40.out.keep hbV)
        clear Rba40
        have Rbc43 := Lib.hid (Rbc40.out.keep hbV)
        clear Rbc40
        have Rac43 := Lib.hid (Rac40.out.keep hbV)
        clear Rac40
        have Rle43 := Lib.hid (Rle40.out.keep hbV)
        clear Rle40
        have Rri43 := Lib.hid (Rri40.out.keep hbV)
        clear Rri40
        have Ral43 := Lib.hid (Ral41.out.keep hbV)
        clear Ral41
        have HB43 := Lib.hid (bel_step HB40.out hbV)
        clear HB40
        clear hbV hzV g0
        have L144 := Lib.hid hs
        clear hs
        refine (mul_all Ax mx dx xs (some ⟨W39.heap.size, 0, none⟩) 1 1 [1] _ LX43.out L144.out (by omega)).mono ?_
        rintro e W45 ⟨Aon, Lon, rfl, hs, hb⟩
        have LX46 := Lib.hid (LX43.out.keep hb)
        clear LX43
        have LY46 := Lib.hid (LY43.out.keep hb)
        clear LY43
        have LZ46 := Lib.hid (LZ43.out.keep hb)
        clear LZ43
        have LS46 := Lib.hid (LS43.out.keep hb)
        clear LS43
        have Rab46 := Lib.hid (Rab43.out.keep hb)
        clear Rab43
        have Rba46 := Lib.hid (Rba43.out.keep hb)
        clear Rba43
        have Rbc46 := Lib.hid (Rbc43.out.keep hb)
        clear Rbc43
        have Rac46 := Lib.hid (Rac43.out.keep hb)
        clear Rac43
        have Rle46 := Lib.hid (Rle43.out.keep hb)
        clear Rle43
        have Rri46 := Lib.hid (Rri43.out.keep hb)
        clear Rri43
        have Ral46 := Lib.hid (Ral43.out.keep hb)
        clear Ral43
        have L146 := Lib.hid (L144.out.keep hb)
        clear L144
        have HB46 := Lib.hid (bel_step HB43.out hb)
        clear HB43
        clear hb
        have Ron47 := Lib.hid hs
        clear hs
        have hlon := Ron47.out.len
        have hson := mulP_short xs [1]
        have hnon : Lon ≤ mx + 1 := by have := LX46.out.len; have := L146.out.len; omega
        have hcon := Ron47.out.top
        have hlon' := Lib.hid hlon
        clear hlon hson
        clear L146
        have hsl : (sumP ys zs k).length = k := tabF_length _ _
        obtain rfl : Lle = Lri := by have h5 := congrArg List.length (mulP_assoc (xs := xs) (ys := ys) (zs := zs) (by have := HLxs.out; have := HLys.out; have := HLzs.out; omega)); rw [hlri'.out, hlle'.out]; exact h5
        have HD := Lib.hid (fun j => mulP_dist (xs := xs) (ys := ys) (zs := zs) (k := k) (by rw [HLys.out]; exact hM1) (by rw [HLzs.out]; exact hM2) j)
        clear hsl
        by_cases hp1 : 0 < my
        · skip
          have hi1 : (0 : Int) < (my : Int) := by omega
          by_cases hp2 : 0 < mz
          · skip
            have hi2 : (0 : Int) < (mz : Int) := by omega
            by_cases hp3 : 0 < mx
            · skip
              have hi3 : (0 : Int) < (mx : Int) := by omega
              have h6 := mulP_max (xs := xs) (ys := ys) (zs := zs) (k := k) (by rw [HLxs.out]; exact hp3) (by rw [HLys.out]; exact hp1) (by rw [HLzs.out]; exact hp2) (by rw [HLys.out, HLzs.out]; exact hMx.out)
              rw [← hlal'.out, ← hlab'.out, ← hlac'.out] at h6
              by_cases hm : Lab < Lac
              · skip
                have hm1 : (Lab : Int) < (Lac : Int) := by omega
                obtain rfl : Lal = Lac := by omega
                clear h6
                clear LS46
                clear LY46
                clear LZ46
                clear Rbc46
                go_wp2_with fail
                go_loopw [30, 31] (fun i _ wr => ∃ j : Nat, j ≤ Lal ∧ i = .int .i64 j ∧ Below W45.heap.size W45 wr) (fun i _ _ => Lal - (intOf i).toNat)
                case atStart => exact ⟨0, Nat.zero_le _, rfl, Below.refl _ _⟩
                case round =>
                  obtain ⟨j, hj, rfl, hb⟩ := hrel
                  have HB4 := Lib.hid hb
                  have LX48 := Lib.hid (LX46.out.keep hb)
                  clear LX46
                  have Rab48 := Lib.hid (Rab46.out.keep hb)
                  clear Rab46
                  have Rba48 := Lib.hid (Rba46.out.keep hb)
                  clear Rba46
                  have Rac48 := Lib.hid (Rac46.out.keep hb)
                  clear Rac46
                  have Rle48 := Lib.hid (Rle46.out.keep hb)
                  clear Rle46
                  have Rri48 := Lib.hid (Rri46.out.keep hb)
                  clear Rri46
                  have Ral48 := Lib.hid (Ral46.out.keep hb)
                  clear Ral46
                  have Ron48 := Lib.hid (Ron47.out.keep hb)
                  clear Ron47
                  have HB48 := Lib.hid (bel_step HB46.out hb)
                  clear HB46
                  clear hb
                  by_cases hlt : j < Lal
                  · skip
                    obtain ⟨e, he⟩ := Ral48.out.get hlt
                    obtain ⟨ad, rfl, h3⟩ := Ral48.out.at_ he
                    have hE := (cfF_some he).symm.trans (HD.out j)
                    clear he
                    by_cases hp : j < Lab
                    · skip
                      obtain ⟨p, hp⟩ := Rab48.out.get hp
                      obtain ⟨ap, rfl, cp⟩ := Rab48.out.at_ hp
                      rw [cfF_some hp] at hE
                      clear hp
                      by_cases hq : j < Lal
                      · skip
                        obtain ⟨q, hq⟩ := Rac48.out.get hq
                        obtain ⟨aq, rfl, cq⟩ := Rac48.out.at_ hq
                        rw [cfF_some hq] at hE
                        clear hq
                        rw [hE] at h3
                        clear hE
                        go_wp2_with fail
                        refine (rreduceF (vF p) _ (El_vF p).u64).mono ?_
                        rw [toF_vF]
                        rintro e w5 ⟨rfl, hw⟩
                        subst hw
                        go_wp2_with fail
                        refine (rreduceF (vF q) _ (El_vF q).u64).mono ?_
                        rw [toF_vF]
                        rintro e w5 ⟨rfl, hw⟩
                        subst hw
                        go_wp2_with fail
                        refine (raddF p q _).mono ?_
                        rintro e w5 ⟨rfl, hw⟩
                        subst hw
                        go_wp2_with fail
                        go_roundw
                        case rel => exact ⟨j + 1, by omega, by go_num, HB4.out⟩
                        case measure => simp [intOf]; omega
                      · skip
                        exact absurd hlt hq
                    · skip
                      rw [cfF_none (xs := mulP xs ys) (i := j) (by have := Rab48.out.len; omega)] at hE
                      by_cases hq : j < Lal
                      · skip
                        obtain ⟨q, hq⟩ := Rac48.out.get hq
                        obtain ⟨aq, rfl, cq⟩ := Rac48.out.at_ hq
                        rw [cfF_some hq] at hE
                        clear hq
                        rw [hE, F_zero_add] at h3
                        clear hE
                        go_wp2_with fail
                        refine (rreduceF (vF q) _ (El_vF q).u64).mono ?_
                        rw [toF_vF]
                        rintro e w5 ⟨rfl, hw⟩
                        subst hw
                        go_wp2_with fail
                        refine (raddF 0 q _).mono ?_
                        rw [F_zero_add]
                        rintro e w5 ⟨rfl, hw⟩
                        subst hw
                        go_wp2_with fail
                        go_roundw
                        case rel => exact ⟨j + 1, by omega, by go_num, HB4.out⟩
                        case measure => simp [intOf]; omega
                      · skip
                        exact absurd hlt hq
                  · skip
                    clear Ral48
                    clear Rac48
                    go_wp2_with fail
                    refine (same_yesF Aab Lab Lab Aba Lba Lba (mulP xs ys) _ Rab48.out (Rba48.out.cast (mulP_comm ys xs))).mono ?_
                    rintro e W49 ⟨rfl, hb⟩
                    have LX50 := Lib.hid (LX48.out.keep hb)
                    clear LX48
                    have Rab50 := Lib.hid (Rab48.out.keep hb)
                    clear Rab48
                    have Rba50 := Lib.hid (Rba48.out.keep hb)
                    clear Rba48
                    have Rle50 := Lib.hid (Rle48.out.keep hb)
                    clear Rle48
                    have Rri50 := Lib.hid (Rri48.out.keep hb)
                    clear Rri48
                    have Ron50 := Lib.hid (Ron48.out.keep hb)
                    clear Ron48
                    have HB50 := Lib.hid (bel_step HB48.out hb)
                    clear HB48
                    clear hb
                    go_wp2_with fail
                    clear Rab50
                    clear Rba50
                    refine (same_yesF Ale Lle Lle Ari Lle Lle (mulP xs (mulP ys zs)) _ (Rle50.out.cast (mulP_assoc (by have := HLxs.out; have := HLys.out; have := HLzs.out; omega))) Rri50.out).mono ?_
                    rintro e W51 ⟨rfl, hb⟩
                    have LX52 := Lib.hid (LX50.out.keep hb)
                    clear LX50
                    have Rle52 := Lib.hid (Rle50.out.keep hb)
                    clear Rle50
                    have Rri52 := Lib.hid (Rri50.out.keep hb)
                    clear Rri50
                    have Ron52 := Lib.hid (Ron50.out.keep hb)
                    clear Ron50
                    have HB52 := Lib.hid (bel_step HB50.out hb)
                    clear HB50
                    clear hb
                    go_wp2_with fail
                    clear Rle52
                    clear Rri52
                    refine (same_yesF Aon Lon Lon Ax mx dx xs _ (Ron52.out.cast (mulP_one xs)) LX52.out).mono ?_
                    rintro e W53 ⟨rfl, hb⟩
                    have LX54 := Lib.hid (LX52.out.keep hb)
                    clear LX52
                    have Ron54 := Lib.hid (Ron52.out.keep hb)
                    clear Ron52
                    have HB54 := Lib.hid (bel_step HB52.out hb)
                    clear HB52
                    clear hb
                    go_wp2_with fail
                    go_ret
                    exact ⟨rfl, HB54.out⟩
              · skip
                have hm1 : ¬ (Lab : Int) < (Lac : Int) := by omega
                obtain rfl : Lal = Lab := by omega
                clear h6
                clear LS46
                clear LY46
                clear LZ46
                clear Rbc46
                go_wp2_with fail
                go_loopw [30, 31] (fun i _ wr => ∃ j : Nat, j ≤ Lal ∧ i = .int .i64 j ∧ Below W45.heap.size W45 wr) (fun i _ _ => Lal - (intOf i).toNat)
                case atStart => exact ⟨0, Nat.zero_le _, rfl, Below.refl _ _⟩
                case round =>
                  obtain ⟨j, hj, rfl, hb⟩ := hrel
                  have HB4 := Lib.hid hb
                  have LX55 := Lib.hid (LX46.out.keep hb)
                  clear LX46
                  have Rab55 := Lib.hid (Rab46.out.keep hb)
                  clear Rab46
                  have Rba55 := Lib.hid (Rba46.out.keep hb)
                  clear Rba46
                  have Rac55 := Lib.hid (Rac46.out.keep hb)
                  clear Rac46
                  have Rle55 := Lib.hid (Rle46.out.keep hb)
                  clear Rle46
                  have Rri55 := Lib.hid (Rri46.out.keep hb)
                  clear Rri46
                  have Ral55 := Lib.hid (Ral46.out.keep hb)
                  clear Ral46
                  have Ron55 := Lib.hid (Ron47.out.keep hb)
                  clear Ron47
                  have HB55 := Lib.hid (bel_step HB46.out hb)
                  clear HB46
                  clear hb
                  by_cases hlt : j < Lal
                  · skip
                    obtain ⟨e, he⟩ := Ral55.out.get hlt
                    obtain ⟨ad, rfl, h3⟩ := Ral55.out.at_ he
                    have hE := (cfF_some he).symm.trans (HD.out j)
                    clear he
                    by_cases hp : j < Lal
                    · skip
                      obtain ⟨p, hp⟩ := Rab55.out.get hp
                      obtain ⟨ap, rfl, cp⟩ := Rab55.out.at_ hp
                      rw [cfF_some hp] at hE
                      clear hp
                      by_cases hq : j < Lac
                      · skip
                        obtain ⟨q, hq⟩ := Rac55.out.get hq
                        obtain ⟨aq, rfl, cq⟩ := Rac55.out.at_ hq
                        rw [cfF_some hq] at hE
                        clear hq
                        rw [hE] at h3
                        clear hE
                        go_wp2_with fail
                        refine (rreduceF (vF p) _ (El_vF p).u64).mono ?_
                        rw [toF_vF]
                        rintro e w5 ⟨rfl, hw⟩
                        subst hw
                        go_wp2_with fail
                        refine (rreduceF (vF q) _ (El_vF q).u64).mono ?_
                        rw [toF_vF]
                        rintro e w5 ⟨rfl, hw⟩
                        subst hw
                        go_wp2_with fail
                        refine (raddF p q _).mono ?_
                        rintro e w5 ⟨rfl, hw⟩
                        subst hw
                        go_wp2_with fail
                        go_roundw
                        case rel => exact ⟨j + 1, by omega, by go_num, HB4.out⟩
                        case measure => simp [intOf]; omega
                      · skip
                        rw [cfF_none (xs := mulP xs zs) (i := j) (by have := Rac55.out.len; omega)] at hE
                        rw [hE, F_add_zero] at h3
                        clear hE
                        go_wp2_with fail
                        refine (rreduceF (vF p) _ (El_vF p).u64).mono ?_
                        rw [toF_vF]
                        rintro e w5 ⟨rfl, hw⟩
                        subst hw
                        go_wp2_with fail
                        go_roundw
                        case rel => exact ⟨j + 1, by omega, by go_num, HB4.out⟩
                        case measure => simp [intOf]; omega
                    · skip
                      exact absurd hlt hp
                  · skip
                    clear Ral55
                    clear Rac55
                    go_wp2_with fail
                    refine (same_yesF Aab Lal Lal Aba Lba Lba (mulP xs ys) _ Rab55.out (Rba55.out.cast (mulP_comm ys xs))).mono ?_
                    rintro e W56 ⟨rfl, hb⟩
                    have LX57 := Lib.hid (LX55.out.keep hb)
                    clear LX55
                    have Rab57 := Lib.hid (Rab55.out.keep hb)
                    clear Rab55
                    have Rba57 := Lib.hid (Rba55.out.keep hb)
                    clear Rba55
                    have Rle57 := Lib.hid (Rle55.out.keep hb)
                    clear Rle55
                    have Rri57 := Lib.hid (Rri55.out.keep hb)
                    clear Rri55
                    have Ron57 := Lib.hid (Ron55.out.keep hb)
                    clear Ron55
                    have HB57 := Lib.hid (bel_step HB55.out hb)
                    clear HB55
                    clear hb
                    go_wp2_with fail
                    clear Rab57
                    clear Rba57
                    refine (same_yesF Ale Lle Lle Ari Lle Lle (mulP xs (mulP ys zs)) _ (Rle57.out.cast (mulP_assoc (by have := HLxs.out; have := HLys.out; have := HLzs.out; omega))) Rri57.out).mono ?_
                    rintro e W58 ⟨rfl, hb⟩
                    have LX59 := Lib.hid (LX57.out.keep hb)
                    clear LX57
                    have Rle59 := Lib.hid (Rle57.out.keep hb)
                    clear Rle57
                    have Rri59 := Lib.hid (Rri57.out.keep hb)
                    clear Rri57
                    have Ron59 := Lib.hid (Ron57.out.keep hb)
                    clear Ron57
                    have HB59 := Lib.hid (bel_step HB57.out hb)
                    clear HB57
                    clear hb
                    go_wp2_with fail
                    clear Rle59
                    clear Rri59
                    refine (same_yesF Aon Lon Lon Ax mx dx xs _ (Ron59.out.cast (mulP_one xs)) LX59.out).mono ?_
                    rintro e W60 ⟨rfl, hb⟩
                    have LX61 := Lib.hid (LX59.out.keep hb)
                    clear LX59
                    have Ron61 := Lib.hid (Ron59.out.keep hb)
                    clear Ron59
                    have HB61 := Lib.hid (bel_step HB59.out hb)
                    clear HB59
                    clear hb
                    go_wp2_with fail
                    go_ret
                    exact ⟨rfl, HB61.out⟩
            · skip
              have hi3 : ¬ (0 : Int) < (mx : Int) := by omega
              go_wp2_with fail
              clear LS46
              clear LY46
              clear LZ46
              clear Rbc46
              go_wp2_with fail
              go_loopw [30, 31] (fun i _ wr => ∃ j : Nat, j ≤ Lal ∧ i = .int .i64 j ∧ Below W45.heap.size W45 wr) (fun i _ _ => Lal - (intOf i).toNat)
              case atStart => exact ⟨0, Nat.zero_le _, rfl, Below.refl _ _⟩
              case round =>
                obtain ⟨j, hj, rfl, hb⟩ := hrel
                have HB4 := Lib.hid hb
                have LX62 := Lib.hid (LX46.out.keep hb)
                clear LX46
                have Rab62 := Lib.hid (Rab46.out.keep hb)
                clear Rab46
                have Rba62 := Lib.hid (Rba46.out.keep hb)
                clear Rba46
                have Rac62 := Lib.hid (Rac46.out.keep hb)
                clear Rac46
                have Rle62 := Lib.hid (Rle46.out.keep hb)
                clear Rle46
                have Rri62 := Lib.hid (Rri46.out.keep hb)
                clear Rri46
                have Ral62 := Lib.hid (Ral46.out.keep hb)
                clear Ral46
                have Ron62 := Lib.hid (Ron47.out.keep hb)
                clear Ron47
                have HB62 := Lib.hid (bel_step HB46.out hb)
                clear HB46
                clear hb
                by_cases hlt : j < Lal
                · skip
                  obtain ⟨e, he⟩ := Ral62.out.get hlt
                  obtain ⟨ad, rfl, h3⟩ := Ral62.out.at_ he
                  have hE := (cfF_some he).symm.trans (HD.out j)
                  clear he
                  by_cases hp : j < Lab
                  · skip
                    obtain ⟨p, hp⟩ := Rab62.out.get hp
                    obtain ⟨ap, rfl, cp⟩ := Rab62.out.at_ hp
                    rw [cfF_some hp] at hE
                    clear hp
                    by_cases hq : j < Lac
                    · skip
                      obtain ⟨q, hq⟩ := Rac62.out.get hq
                      obtain ⟨aq, rfl, cq⟩ := Rac62.out.at_ hq
                      rw [cfF_some hq] at hE
                      clear hq
                      rw [hE] at h3
                      clear hE
                      go_wp2_with fail
                      refine (rreduceF (vF p) _ (El_vF p).u64).mono ?_
                      rw [toF_vF]
                      rintro e w5 ⟨rfl, hw⟩
                      subst hw
                      go_wp2_with fail
                      refine (rreduceF (vF q) _ (El_vF q).u64).mono ?_
                      rw [toF_vF]
                      rintro e w5 ⟨rfl, hw⟩
                      subst hw
                      go_wp2_with fail
                      refine (raddF p q _).mono ?_
                      rintro e w5 ⟨rfl, hw⟩
                      subst hw
                      go_wp2_with fail
                      go_roundw
                      case rel => exact ⟨j + 1, by omega, by go_num, HB4.out⟩
                      case measure => simp [intOf]; omega
                    · skip
                      rw [cfF_none (xs := mulP xs zs) (i := j) (by have := Rac62.out.len; omega)] at hE
                      rw [hE, F_add_zero] at h3
                      clear hE
                      go_wp2_with fail
                      refine (rreduceF (vF p) _ (El_vF p).u64).mono ?_
                      rw [toF_vF]
                      rintro e w5 ⟨rfl, hw⟩
                      subst hw
                      go_wp2_with fail
                      go_roundw
                      case rel => exact ⟨j + 1, by omega, by go_num, HB4.out⟩
                      case measure => simp [intOf]; omega
                  · skip
                    rw [cfF_none (xs := mulP xs ys) (i := j) (by have := Rab62.out.len; omega)] at hE
                    by_cases hq : j < Lac
                    · skip
                      obtain ⟨q, hq⟩ := Rac62.out.get hq
                      obtain ⟨aq, rfl, cq⟩ := Rac62.out.at_ hq
                      rw [cfF_some hq] at hE
                      clear hq
                      rw [hE, F_zero_add] at h3
                      clear hE
                      go_wp2_with fail
                      refine (rreduceF (vF q) _ (El_vF q).u64).mono ?_
                      rw [toF_vF]
                      rintro e w5 ⟨rfl, hw⟩
                      subst hw
                      go_wp2_with fail
                      refine (raddF 0 q _).mono ?_
                      rw [F_zero_add]
                      rintro e w5 ⟨rfl, hw⟩
                      subst hw
                      go_wp2_with fail
                      go_roundw
                      case rel => exact ⟨j + 1, by omega, by go_num, HB4.out⟩
                      case measure => simp [intOf]; omega
                    · skip
                      rw [cfF_none (xs := mulP xs zs) (i := j) (by have := Rac62.out.len; omega)] at hE
                      rw [hE, F_add_zero, vF_zero] at h3
                      clear hE
                      go_wp2_with fail
                      go_roundw
                      case rel => exact ⟨j + 1, by omega, by go_num, HB4.out⟩
                      case measure => simp [intOf]; omega
                · skip
                  clear Ral62
                  clear Rac62
                  go_wp2_with fail
                  refine (same_yesF Aab Lab Lab Aba Lba Lba (mulP xs ys) _ Rab62.out (Rba62.out.cast (mulP_comm ys xs))).mono ?_
                  rintro e W63 ⟨rfl, hb⟩
                  have LX64 := Lib.hid (LX62.out.keep hb)
                  clear LX62
                  have Rab64 := Lib.hid (Rab62.out.keep hb)
                  clear Rab62
                  have Rba64 := Lib.hid (Rba62.out.keep hb)
                  clear Rba62
                  have Rle64 := Lib.hid (Rle62.out.keep hb)
                  clear Rle62
                  have Rri64 := Lib.hid (Rri62.out.keep hb)
                  clear Rri62
                  have Ron64 := Lib.hid (Ron62.out.keep hb)
                  clear Ron62
                  have HB64 := Lib.hid (bel_step HB62.out hb)
                  clear HB62
                  clear hb
                  go_wp2_with fail
                  clear Rab64
                  clear Rba64
                  refine (same_yesF Ale Lle Lle Ari Lle Lle (mulP xs (mulP ys zs)) _ (Rle64.out.cast (mulP_assoc (by have := HLxs.out; have := HLys.out; have := HLzs.out; omega))) Rri64.out).mono ?_
                  rintro e W65 ⟨rfl, hb⟩
                  have LX66 := Lib.hid (LX64.out.keep hb)
                  clear LX64
                  have Rle66 := Lib.hid (Rle64.out.keep hb)
                  clear Rle64
                  have Rri66 := Lib.hid (Rri64.out.keep hb)
                  clear Rri64
                  have Ron66 := Lib.hid (Ron64.out.keep hb)
                  clear Ron64
                  have HB66 := Lib.hid (bel_step HB64.out hb)
                  clear HB64
                  clear hb
                  go_wp2_with fail
                  clear Rle66
                  clear Rri66
                  refine (same_yesF Aon Lon Lon Ax mx dx xs _ (Ron66.out.cast (mulP_one xs)) LX66.out).mono ?_
                  rintro e W67 ⟨rfl, hb⟩
                  have LX68 := Lib.hid (LX66.out.keep hb)
                  clear LX66
                  have Ron68 := Lib.hid (Ron66.out.keep hb)
                  clear Ron66
                  have HB68 := Lib.hid (bel_step HB66.out hb)
                  clear HB66
                  clear hb
                  go_wp2_with fail
                  go_ret
                  exact ⟨rfl, HB68.out⟩
          · skip
            have hi2 : ¬ (0 : Int) < (mz : Int) := by omega
            go_wp2_with fail
            clear LS46
            clear LY46
            clear LZ46
            clear Rbc46
            go_wp2_with fail
            go_loopw [30, 31] (fun i _ wr => ∃ j : Nat, j ≤ Lal ∧ i = .int .i64 j ∧ Below W45.heap.size W45 wr) (fun i _ _ => Lal - (intOf i).toNat)
            case atStart => exact ⟨0, Nat.zero_le _, rfl, Below.refl _ _⟩
            case round =>
              obtain ⟨j, hj, rfl, hb⟩ := hrel
              have HB4 := Lib.hid hb
              have LX69 := Lib.hid (LX46.out.keep hb)
              clear LX46
              have Rab69 := Lib.hid (Rab46.out.keep hb)
              clear Rab46
              have Rba69 := Lib.hid (Rba46.out.keep hb)
              clear Rba46
              have Rac69 := Lib.hid (Rac46.out.keep hb)
              clear Rac46
              have Rle69 := Lib.hid (Rle46.out.keep hb)
              clear Rle46
              have Rri69 := Lib.hid (Rri46.out.keep hb)
              clear Rri46
              have Ral69 := Lib.hid (Ral46.out.keep hb)
              clear Ral46
              have Ron69 := Lib.hid (Ron47.out.keep hb)
              clear Ron47
              have HB69 := Lib.hid (bel_step HB46.out hb)
              clear HB46
              clear hb
              by_cases hlt : j < Lal
              · skip
                obtain ⟨e, he⟩ := Ral69.out.get hlt
                obtain ⟨ad, rfl, h3⟩ := Ral69.out.at_ he
                have hE := (cfF_some he).symm.trans (HD.out j)
                clear he
                by_cases hp : j < Lab
                · skip
                  obtain ⟨p, hp⟩ := Rab69.out.get hp
                  obtain ⟨ap, rfl, cp⟩ := Rab69.out.at_ hp
                  rw [cfF_some hp] at hE
                  clear hp
                  by_cases hq : j < Lac
                  · skip
                    obtain ⟨q, hq⟩ := Rac69.out.get hq
                    obtain ⟨aq, rfl, cq⟩ := Rac69.out.at_ hq
                    rw [cfF_some hq] at hE
                    clear hq
                    rw [hE] at h3
                    clear hE
                    go_wp2_with fail
                    refine (rreduceF (vF p) _ (El_vF p).u64).mono ?_
                    rw [toF_vF]
                    rintro e w5 ⟨rfl, hw⟩
                    subst hw
                    go_wp2_with fail
                    refine (rreduceF (vF q) _ (El_vF q).u64).mono ?_
                    rw [toF_vF]
                    rintro e w5 ⟨rfl, hw⟩
                    subst hw
                    go_wp2_with fail
                    refine (raddF p q _).mono ?_
                    rintro e w5 ⟨rfl, hw⟩
                    subst hw
                    go_wp2_with fail
                    go_roundw
                    case rel => exact ⟨j + 1, by omega, by go_num, HB4.out⟩
                    case measure => simp [intOf]; omega
                  · skip
                    rw [cfF_none (xs := mulP xs zs) (i := j) (by have := Rac69.out.len; omega)] at hE
                    rw [hE, F_add_zero] at h3
                    clear hE
                    go_wp2_with fail
                    refine (rreduceF (vF p) _ (El_vF p).u64).mono ?_
                    rw [toF_vF]
                    rintro e w5 ⟨rfl, hw⟩
                    subst hw
                    go_wp2_with fail
                    go_roundw
                    case rel => exact ⟨j + 1, by omega, by go_num, HB4.out⟩
                    case measure => simp [intOf]; omega
                · skip
                  rw [cfF_none (xs := mulP xs ys) (i := j) (by have := Rab69.out.len; omega)] at hE
                  by_cases hq : j < Lac
                  · skip
                    obtain ⟨q, hq⟩ := Rac69.out.get hq
                    obtain ⟨aq, rfl, cq⟩ := Rac69.out.at_ hq
                    rw [cfF_some hq] at hE
                    clear hq
                    rw [hE, F_zero_add] at h3
                    clear hE
                    go_wp2_with fail
                    refine (rreduceF (vF q) _ (El_vF q).u64).mono ?_
                    rw [toF_vF]
                    rintro e w5 ⟨rfl, hw⟩
                    subst hw
                    go_wp2_with fail
                    refine (raddF 0 q _).mono ?_
                    rw [F_zero_add]
                    rintro e w5 ⟨rfl, hw⟩
                    subst hw
                    go_wp2_with fail
                    go_roundw
                    case rel => exact ⟨j + 1, by omega, by go_num, HB4.out⟩
                    case measure => simp [intOf]; omega
                  · skip
                    rw [cfF_none (xs := mulP xs zs) (i := j) (by have := Rac69.out.len; omega)] at hE
                    rw [hE, F_add_zero, vF_zero] at h3
                    clear hE
                    go_wp2_with fail
                    go_roundw
                    case rel => exact ⟨j + 1, by omega, by go_num, HB4.out⟩
                    case measure => simp [intOf]; omega
              · skip
                clear Ral69
                clear Rac69
                go_wp2_with fail
                refine (same_yesF Aab Lab Lab Aba Lba Lba (mulP xs ys) _ Rab69.out (Rba69.out.cast (mulP_comm ys xs))).mono ?_
                rintro e W70 ⟨rfl, hb⟩
                have LX71 := Lib.hid (LX69.out.keep hb)
                clear LX69
                have Rab71 := Lib.hid (Rab69.out.keep hb)
                clear Rab69
                have Rba71 := Lib.hid (Rba69.out.keep hb)
                clear Rba69
                have Rle71 := Lib.hid (Rle69.out.keep hb)
                clear Rle69
                have Rri71 := Lib.hid (Rri69.out.keep hb)
                clear Rri69
                have Ron71 := Lib.hid (Ron69.out.keep hb)
                clear Ron69
                have HB71 := Lib.hid (bel_step HB69.out hb)
                clear HB69
                clear hb
                go_wp2_with fail
                clear Rab71
                clear Rba71
                refine (same_yesF Ale Lle Lle Ari Lle Lle (mulP xs (mulP ys zs)) _ (Rle71.out.cast (mulP_assoc (by have := HLxs.out; have := HLys.out; have := HLzs.out; omega))) Rri71.out).mono ?_
                rintro e W72 ⟨rfl, hb⟩
                have LX73 := Lib.hid (LX71.out.keep hb)
                clear LX71
                have Rle73 := Lib.hid (Rle71.out.keep hb)
                clear Rle71
                have Rri73 := Lib.hid (Rri71.out.keep hb)
                clear Rri71
                have Ron73 := Lib.hid (Ron71.out.keep hb)
                clear Ron71
                have HB73 := Lib.hid (bel_step HB71.out hb)
                clear HB71
                clear hb
                go_wp2_with fail
                clear Rle73
                clear Rri73
                refine (same_yesF Aon Lon Lon Ax mx dx xs _ (Ron73.out.cast (mulP_one xs)) LX73.out).mono ?_
                rintro e W74 ⟨rfl, hb⟩
                have LX75 := Lib.hid (LX73.out.keep hb)
                clear LX73
                have Ron75 := Lib.hid (Ron73.out.keep hb)
                clear Ron73
                have HB75 := Lib.hid (bel_step HB73.out hb)
                clear HB73
                clear hb
                go_wp2_with fail
                go_ret
                exact ⟨rfl, HB75.out⟩
        · skip
          have hi1 : ¬ (0 : Int) < (my : Int) := by omega
          go_wp2_with fail
          clear LS46
          clear LY46
          clear LZ46
          clear Rbc46
          go_wp2_with fail
          go_loopw [30, 31] (fun i _ wr => ∃ j : Nat, j ≤ Lal ∧ i = .int .i64 j ∧ Below W45.heap.size W45 wr) (fun i _ _ => Lal - (intOf i).toNat)
          case atStart => exact ⟨0, Nat.zero_le _, rfl, Below.refl _ _⟩
          case round =>
            obtain ⟨j, hj, rfl, hb⟩ := hrel
            have HB4 := Lib.hid hb
            have LX76 := Lib.hid (LX46.out.keep hb)
            clear LX46
            have Rab76 := Lib.hid (Rab46.out.keep hb)
            clear Rab46
            have Rba76 := Lib.hid (Rba46.out.keep hb)
            clear Rba46
            have Rac76 := Lib.hid (Rac46.out.keep hb)
            clear Rac46
            have Rle76 := Lib.hid (Rle46.out.keep hb)
            clear Rle46
            have Rri76 := Lib.hid (Rri46.out.keep hb)
            clear Rri46
            have Ral76 := Lib.hid (Ral46.out.keep hb)
            clear Ral46
            have Ron76 := Lib.hid (Ron47.out.keep hb)
            clear Ron47
            have HB76 := Lib.hid (bel_step HB46.out hb)
            clear HB46
            clear hb
            by_cases hlt : j < Lal
            · skip
              obtain ⟨e, he⟩ := Ral76.out.get hlt
              obtain ⟨ad, rfl, h3⟩ := Ral76.out.at_ he
              have hE := (cfF_some he).symm.trans (HD.out j)
              clear he
              by_cases hp : j < Lab
              · skip
                obtain ⟨p, hp⟩ := Rab76.out.get hp
                obtain ⟨ap, rfl, cp⟩ := Rab76.out.at_ hp
                rw [cfF_some hp] at hE
                clear hp
                by_cases hq : j < Lac
                · skip
                  obtain ⟨q, hq⟩ := Rac76.out.get hq
                  obtain ⟨aq, rfl, cq⟩ := Rac76.out.at_ hq
                  rw [cfF_some hq] at hE
                  clear hq
                  rw [hE] at h3
                  clear hE
                  go_wp2_with fail
                  refine (rreduceF (vF p) _ (El_vF p).u64).mono ?_
                  rw [toF_vF]
                  rintro e w5 ⟨rfl, hw⟩
                  subst hw
                  go_wp2_with fail
                  refine (rreduceF (vF q) _ (El_vF q).u64).mono ?_
                  rw [toF_vF]
                  rintro e w5 ⟨rfl, hw⟩
                  subst hw
                  go_wp2_with fail
                  refine (raddF p q _).mono ?_
                  rintro e w5 ⟨rfl, hw⟩
                  subst hw
                  go_wp2_with fail
                  go_roundw
                  case rel => exact ⟨j + 1, by omega, by go_num, HB4.out⟩
                  case measure => simp [intOf]; omega
                · skip
                  rw [cfF_none (xs := mulP xs zs) (i := j) (by have := Rac76.out.len; omega)] at hE
                  rw [hE, F_add_zero] at h3
                  clear hE
                  go_wp2_with fail
                  refine (rreduceF (vF p) _ (El_vF p).u64).mono ?_
                  rw [toF_vF]
                  rintro e w5 ⟨rfl, hw⟩
                  subst hw
                  go_wp2_with fail
                  go_roundw
                  case rel => exact ⟨j + 1, by omega, by go_num, HB4.out⟩
                  case measure => simp [intOf]; omega
              · skip
                rw [cfF_none (xs := mulP xs ys) (i := j) (by have := Rab76.out.len; omega)] at hE
                by_cases hq : j < Lac
                · skip
                  obtain ⟨q, hq⟩ := Rac76.out.get hq
                  obtain ⟨aq, rfl, cq⟩ := Rac76.out.at_ hq
                  rw [cfF_some hq] at hE
                  clear hq
                  rw [hE, F_zero_add] at h3
                  clear hE
                  go_wp2_with fail
                  refine (rreduceF (vF q) _ (El_vF q).u64).mono ?_
                  rw [toF_vF]
                  rintro e w5 ⟨rfl, hw⟩
                  subst hw
                  go_wp2_with fail
                  refine (raddF 0 q _).mono ?_
                  rw [F_zero_add]
                  rintro e w5 ⟨rfl, hw⟩
                  subst hw
                  go_wp2_with fail
                  go_roundw
                  case rel => exact ⟨j + 1, by omega, by go_num, HB4.out⟩
                  case measure => simp [intOf]; omega
                · skip
                  rw [cfF_none (xs := mulP xs zs) (i := j) (by have := Rac76.out.len; omega)] at hE
                  rw [hE, F_add_zero, vF_zero] at h3
                  clear hE
                  go_wp2_with fail
                  go_roundw
                  case rel => exact ⟨j + 1, by omega, by go_num, HB4.out⟩
                  case measure => simp [intOf]; omega
            · skip
              clear Ral76
              clear Rac76
              go_wp2_with fail
              refine (same_yesF Aab Lab Lab Aba Lba Lba (mulP xs ys) _ Rab76.out (Rba76.out.cast (mulP_comm ys xs))).mono ?_
              rintro e W77 ⟨rfl, hb⟩
              have LX78 := Lib.hid (LX76.out.keep hb)
              clear LX76
              have Rab78 := Lib.hid (Rab76.out.keep hb)
              clear Rab76
              have Rba78 := Lib.hid (Rba76.out.keep hb)
              clear Rba76
              have Rle78 := Lib.hid (Rle76.out.keep hb)
              clear Rle76
              have Rri78 := Lib.hid (Rri76.out.keep hb)
              clear Rri76
              have Ron78 := Lib.hid (Ron76.out.keep hb)
              clear Ron76
              have HB78 := Lib.hid (bel_step HB76.out hb)
              clear HB76
              clear hb
              go_wp2_with fail
              clear Rab78
              clear Rba78
              refine (same_yesF Ale Lle Lle Ari Lle Lle (mulP xs (mulP ys zs)) _ (Rle78.out.cast (mulP_assoc (by have := HLxs.out; have := HLys.out; have := HLzs.out; omega))) Rri78.out).mono ?_
              rintro e W79 ⟨rfl, hb⟩
              have LX80 := Lib.hid (LX78.out.keep hb)
              clear LX78
              have Rle80 := Lib.hid (Rle78.out.keep hb)
              clear Rle78
              have Rri80 := Lib.hid (Rri78.out.keep hb)
              clear Rri78
              have Ron80 := Lib.hid (Ron78.out.keep hb)
              clear Ron78
              have HB80 := Lib.hid (bel_step HB78.out hb)
              clear HB78
              clear hb
              go_wp2_with fail
              clear Rle80
              clear Rri80
              refine (same_yesF Aon Lon Lon Ax mx dx xs _ (Ron80.out.cast (mulP_one xs)) LX80.out).mono ?_
              rintro e W81 ⟨rfl, hb⟩
              have LX82 := Lib.hid (LX80.out.keep hb)
              clear LX80
              have Ron82 := Lib.hid (Ron80.out.keep hb)
              clear Ron80
              have HB82 := Lib.hid (bel_step HB80.out hb)
              clear HB80
              clear hb
              go_wp2_with fail
              go_ret
              exact ⟨rfl, HB82.out⟩

end Go.Proofs.Ytihneehceclffaa
