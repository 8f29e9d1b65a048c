/- The walk of the law SumcheckCompleteness: honest rounds are accepted for the value of the sum, what remains are the extensions at the coins; no conditions. -/
import Derived.Test.YtombcjdhjcmhhaaGf
import Derived.Test.YtombcjdhjcmhhaaGf
import Derived.Test.YtombcjdhjcmhhaaGe
import Derived.Test.YtombcjdhjcmhhaaGb
import Derived.Test.YtombcjdhjcmhhaaDecl
import Derived.Test.YtombcjdhjcmhhaaGf
import Derived.Deep.CutRange
namespace Go.Proofs.Ytombcjdhjcmhhaa
set_option maxRecDepth 8000
open Go.RowKit Gold

theorem run_neqE_eq (x : E2) (w : World) : (binOp .neq 43 (.agg #[.int .u64 (vF x.A), .int .u64 (vF x.B)]) (.agg #[.int .u64 (vF x.A), .int .u64 (vF x.B)])).run Try.prog w = .ok (.bool false) w := by
  simp [go_sem, Try.underlying43]

theorem below_two {N b : Nat} {A B : World} (h : Below N A B) (hb : N ≤ b) (u v : Value) : Below N A ((B.setCell ⟨b, 0, none⟩ u).setCell ⟨b, 1, none⟩ v) := by
  have h1 : Below N A (B.setCell ⟨b, 0, none⟩ u) := h.setCell hb u
  exact h1.setCell hb v
theorem rEval_as (A : Option Addr) (n c : Nat) (xs : List E2) (B : Option Addr) (m d : Nat) (ps : List E2) (v : E2) (w : World) (h : Sl w A n c xs) (h' : Sl w B m d ps) (hn : n = 2 ^ m) (hm : m ≤ 16) (hv : mleE xs ps = v) :
    Calls Try.prog 29 #[.slice A n c, .slice B m d] w fun e w' => e = .returned (.agg #[.int .u64 (vF v.A), .int .u64 (vF v.B)]) ∧ Below w.heap.size w w' := hv ▸ rEval_any A n c xs B m d ps w h h' hn hm
set_option maxHeartbeats 8000000 in
set_option maxRecDepth 100000 in
theorem sumcheckCompleteness_any (x : Value) (C0 : Option Addr) (k0 f0 : Nat) (us : List (Int × Int)) (w : World) (hx : RawS w x) (hC : Sr w C0 k0 f0 us) (wC : Nums us) :
    Calls Try.prog 4 #[x, .slice C0 k0 f0] w fun e w' => e = .returned (.bool true) ∧ Below w.heap.size w w' := by
  obtain ⟨A0, A1, A2, B, n0, c0, n1, c1, n2, c2, m, e, q0, q1, q2, rs, N, rfl, hN, h0, h1, h2, w0, w1, w2, hR, wR⟩ := hx.ex
  have H0 := Lib.hid h0
  have H1 := Lib.hid h1
  have H2 := Lib.hid h2
  have HR := Lib.hid hR
  have WR := Lib.hid wR
  have HC := Lib.hid hC
  have WC := Lib.hid wC
  clear hx h0 h1 h2 hR wR hC wC
  go_enter Try.func4, Try.ntmps4
  go_wp2_with fail
  refine calls_named1 (fun V1 hbV g0 hzV => ?_)
  have X0 := Lib.hid (show Five V1 w.heap.size 26 (.slice A0 n0 c0) (.slice A1 n1 c1) (.slice A2 n2 c2) (.slice B m e) (.int .u8 N) from g0)
  have HBa := Lib.hid hbV
  clear hbV g0
  refine (sanity6_any _).mono ?_
  rintro e W2 ⟨rfl, hb⟩
  have HB2 := Lib.hid (below_step HBa.out hb)
  have XX := X0.out.keep hb
  have x0 := XX.c0
  have x1 := XX.c1
  have x2 := XX.c2
  have x3 := XX.c3
  have x4 := XX.c4
  clear hb XX X0 HBa
  go_wp2_with fail
  refine (rSumMade_any A0 A1 A2 B n0 c0 n1 c1 n2 c2 m _ q0 q1 q2 rs N 5 _ (by omega) hN (Sr.keep H0.out HB2.out) (Sr.keep H1.out HB2.out) (Sr.keep H2.out HB2.out) w0 w1 w2 (HR.out.keep HB2.out) WR.out).mono ?_
  rintro e W3 ⟨A, c, B', m', c', Ls, ts, d, rfl, hT, hM, hok, hd, hl3, ht4, hb⟩
  clear x0 x1 x2 x3 x4
  have HS := Lib.hid (SumIn.mk hT hM hok)
  have HB3 := Lib.hid (below_step HB2.out hb)
  clear hb hT hM hok H0 H1 H2 HR WR w0 w1 w2 HB2 hN
  go_upto_region 3 with fail
  refine wp_named1 (fun V4 hb g4 hz4 => ?_)
  have XS := Lib.hid (show Two V4 W3.heap.size 30 (.slice A 3 c) (.slice B' m' c') from g4)
  have HS4 := Lib.hid (HS.out.keep hb)
  have HB4 := Lib.hid (below_step HB3.out hb)
  clear hb g4 HS HB3
  generalize W3.heap.size = bS at *
  have s0 := XS.out.c0
  have s1 := XS.out.c1
  go_wp2_with fail
  obtain ⟨L, hL⟩ : ∃ L, Ls[0]? = some L := ⟨Ls[0], List.getElem?_eq_getElem _⟩
  have hLd := HS4.out.ok.len L (List.mem_of_getElem? hL)
  refine (rLog_any A 3 c (.slice B' m' c') Ls L d _ HS4.out.t hL hLd hd).mono ?_
  rintro e W5 ⟨rfl, hb⟩
  have XS5 := Lib.hid (XS.out.keep hb)
  have HS5 := Lib.hid (HS4.out.keep hb)
  have HB5 := Lib.hid (below_step HB4.out hb)
  clear hb XS HS4 HB4 s0 s1 hL hLd
  go_wp2_with fail
  refine (rPExactlyO_any C0 k0 f0 us d _ (Sr.keep HC.out HB5.out) WC.out (by omega)).mono ?_
  rintro e W6 ⟨Ac, cc, rfl, hOc, hb⟩
  have hcl := hOc.len
  obtain ⟨cs, hcs⟩ : ∃ cs, exactE us d = cs := ⟨_, rfl⟩
  rw [hcs] at hOc hcl
  have HSc := Lib.hid hOc.sl'
  have XS6 := Lib.hid (XS5.out.keep hb)
  have HS6 := Lib.hid (HS5.out.keep hb)
  have HB6 := Lib.hid (below_step HB5.out hb)
  have HDl := Lib.hid hcl
  clear hb XS5 HS5 HB5 hOc hcs HC WC hcl
  have hok6 : OkS Ls ts cs.length := HDl.out ▸ HS6.out.ok
  have HOK := Lib.hid hok6
  clear hok6
  have s0 := XS6.out.c0
  have s1 := XS6.out.c1
  go_wp2_with fail
  refine (sProve_any A 3 c Ls B' m' c' ts Ac d cc cs _ HS6.out.t HS6.out.m HSc.out HOK.out).mono ?_
  rintro e W7 ⟨gR, gv, rfl, hR7, hV7, hb⟩
  have XS7 := Lib.hid (XS6.out.keep hb)
  have HS7 := Lib.hid (HS6.out.keep hb)
  have HC7 := Lib.hid (HSc.out.keep hb)
  have HB7 := Lib.hid (below_step HB6.out hb)
  have HR7 := Lib.hid hR7
  have HV7 := Lib.hid hV7
  clear hb XS6 HS6 HB6 HSc hR7 hV7 s0 s1
  obtain ⟨Wb, hWb⟩ : ∃ Wb : World, Wb = W7 := ⟨_, rfl⟩
  subst hWb
  go_wp2_with fail
  go_loopw [10] (fun s wr => ∃ j : Nat, j ≤ 3 ∧ s = .int .i64 j ∧ Below Wb.heap.size Wb wr) (fun s _ => 3 - (intOf s).toNat)
  case atStart => exact ⟨0, Nat.zero_le _, rfl, Below.refl _ _⟩
  case round =>
    obtain ⟨j, hj, rfl, hb⟩ := hrel
    have HL := Lib.hid hb
    clear hb
    by_cases hj3 : j < 3
    · have hj3' : (j : Int) < 3 := by omega
      obtain ⟨T, hTj⟩ : ∃ T, Ls[j]? = some T := ⟨Ls[j]'(by omega), List.getElem?_eq_getElem _⟩
      obtain ⟨ad, B1, m1, d1, rfl, y0, hs1⟩ := (HS7.out.t.keep HL.out).at_ hTj
      have hv := proV_get HOK.out (show j < Ls.length by omega)
      rw [tbl_some hTj] at hv
      obtain ⟨ad', had, z0, z1⟩ := (HV7.out.keep HL.out).at_ hv
      injection had with had
      subst had
      simp only [add_base] at z0 z1
      have hml := hs1.len
      have hLd := HS7.out.ok.len T (List.mem_of_getElem? hTj)
      have HS1 := Lib.hid hs1
      have HML := Lib.hid (show m1 = 2 ^ d by omega)
      have XSr := XS7.out.keep HL.out
      have HCr := Lib.hid (HC7.out.keep HL.out)
      have l0 := Later.cell z0
      have l1 := Later.cell z1
      have l2 := Later.cell y0
      have l3 := Later.cell XSr.c0
      have hj0 : (0 : Int) ≤ (j : Int) := by omega
      clear hs1 hml hLd z0 z1 y0 XSr hTj hv
      obtain ⟨v, hvn⟩ : ∃ v, mleE T cs = v := ⟨_, rfl⟩
      rw [hvn] at l0 l1
      have HVn := Lib.hid hvn
      clear hvn
      go_upto_region 10 with fail
      refine wp_floatN (by kernel_rfl) (lexOK_of (by kernel_rfl) (by kernel_rfl)) (chainOF_of (by kernel_rfl)) (fun V10 hb hS => ?_)
      have HW := Lib.hid hb
      have HSL := Lib.hid hS
      clear hb hS
      refine wpF_seg 10 (by kernel_rfl) ?_
      simp only [List.take_succ_cons, List.take_zero, List.drop_succ_cons, List.drop_zero]
      repeat (go_big_quiet_step (fail))
      refine wpQuiet_nil ?_
      refine wpF_call 29 Try.func29 (by kernel_rfl) (by kernel_rfl) _ _ #[.slice B1 m1 d1, .slice Ac d cc] rfl (by kernel_rfl) (by kernel_rfl) HSL.out (fun V11 hV => ?_)
      have HW2 := Lib.hid (below_step HW.out hV)
      refine (rEval_as B1 m1 d1 T Ac d cc cs v _ (HS1.out.keep HW2.out) (HCr.out.keep HW2.out) HML.out (by omega) HVn.out).mono ?_
      rintro e W11 ⟨rfl, hb⟩
      have hb2 := ext_trans hV hb
      have HW3 := Lib.hid (below_step HW.out hb2)
      have HSL2 := Lib.hid (HSL.out.ext hb2)
      clear HW HSL HW2
      refine ⟨_, rfl, hb, ?_⟩
      clear hb hb2 hV
      simp only [Act.put, List.setIfInBounds_toArray, List.set_cons_zero, List.set_cons_succ]
      have hq44 := run_neqE_eq v
      refine wpF_seg 1 (by kernel_rfl) ?_
      simp only [List.take_succ_cons, List.take_zero, List.drop_succ_cons, List.drop_zero]
      repeat (go_big_quiet_step (fail))
      refine wpQuiet_nil ?_
      refine wpF_nil (fun V12 hb => ?_)
      have HBz := Lib.hid (below_step HL.out (below_step HW3.out hb))
      clear hb
      go_wp2_with fail
      go_roundw
      case rel => exact ⟨j + 1, by omega, by go_num, HBz.out⟩
      case measure => simp [intOf]; omega
    · have hj4 : j = 3 := by omega
      subst hj4
      clear hj3 hj
      have XSr := Lib.hid (XS7.out.keep HL.out)
      have HSr := Lib.hid (HS7.out.keep HL.out)
      have HCr := Lib.hid (HC7.out.keep HL.out)
      have HRr := Lib.hid (HR7.out.keep HL.out)
      have HVr := Lib.hid (HV7.out.keep HL.out)
      have HBr := Lib.hid (below_step HB7.out HL.out)
      have hver := hon_ver HOK.out
      obtain ⟨tv, htv⟩ : ∃ tv, totE Ls ts (2 ^ d) = tv := ⟨_, rfl⟩
      obtain ⟨fv, hfv⟩ : ∃ fv, finE ts (proV Ls cs) = fv := ⟨_, rfl⟩
      obtain ⟨D, hD⟩ : ∃ D, degT ts = D := ⟨_, rfl⟩
      rw [← HDl.out, htv, hfv, hD] at hver
      have HVer := Lib.hid hver
      have HTv := Lib.hid htv
      have HFv := Lib.hid hfv
      have HD := Lib.hid hD
      clear HL XS7 HS7 HC7 HR7 HV7 HB7 hver htv hfv hD
      have l0 := Later.cell XSr.out.c0
      have l1 := Later.cell XSr.out.c1
      go_upto_region 12 with fail
      refine Fl.wp_floatN (by kernel_rfl) (lexOK_of (by kernel_rfl) (by kernel_rfl)) (chainOF_of (by kernel_rfl)) (fun V10 hb hS => ?_)
      have HW := Lib.hid hb
      have HSL := Lib.hid hS
      clear hb hS
      refine Fl.wpF_seg 1 (by kernel_rfl) ?_
      simp only [List.take_succ_cons, List.take_zero, List.drop_succ_cons, List.drop_zero]
      repeat (go_big_quiet_step (fail))
      refine wpQuiet_nil ?_
      refine Fl.wpF_call 21 Try.func21 (by kernel_rfl) (by kernel_rfl) _ _ #[.agg #[.slice A 3 c, .slice B' m' c']] rfl (by kernel_rfl) (by kernel_rfl) HSL.out (fun V11 hV => ?_)
      have HW1 := Lib.hid (below_step HW.out hV)
      refine (sTotal_as A 3 c Ls B' m' c' ts d tv _ (HSr.out.t.keep HW1.out) (HSr.out.m.keep HW1.out) HSr.out.ok HTv.out).mono ?_
      rintro e W11 ⟨rfl, hb⟩
      have hb2 := ext_trans hV hb
      have HW2 := Lib.hid (below_step HW.out hb2)
      have HSL2 := Lib.hid (HSL.out.ext hb2)
      clear HW HSL HW1
      refine ⟨_, rfl, hb, ?_⟩
      clear hb hb2 hV
      simp only [Act.put, List.setIfInBounds_toArray, List.set_cons_zero, List.set_cons_succ]
      refine Fl.wpF_seg 3 (by kernel_rfl) ?_
      simp only [List.take_succ_cons, List.take_zero, List.drop_succ_cons, List.drop_zero]
      repeat (go_big_quiet_step (fail))
      refine wpQuiet_nil ?_
      refine Fl.wpF_call 19 Try.func19 (by kernel_rfl) (by kernel_rfl) _ _ #[.agg #[.slice A 3 c, .slice B' m' c']] rfl (by kernel_rfl) (by kernel_rfl) HSL2.out (fun V12 hV => ?_)
      have HW3 := Lib.hid (below_step HW2.out hV)
      refine (sDegree_as (.slice A 3 c) B' m' c' (rawT ts) D _ (HSr.out.m.keep HW3.out) ⟨_, _, _, rfl⟩ HD.out).mono ?_
      rintro e W12 ⟨rfl, hb⟩
      have hb2 := ext_trans hV hb
      have HW4 := Lib.hid (below_step HW2.out hb2)
      have HSL4 := Lib.hid (HSL2.out.ext hb2)
      clear HW2 HSL2 HW3
      refine ⟨_, rfl, hb, ?_⟩
      clear hb hb2 hV
      simp only [Act.put, List.setIfInBounds_toArray, List.set_cons_zero, List.set_cons_succ]
      refine Fl.wpF_seg 1 (by kernel_rfl) ?_
      simp only [List.take_succ_cons, List.take_zero, List.drop_succ_cons, List.drop_zero]
      repeat (go_big_quiet_step (fail))
      refine wpQuiet_nil ?_
      refine Fl.wpF_call 30 Try.func30 (by kernel_rfl) (by kernel_rfl) _ _ #[.agg #[.int .u64 (vF tv.A), .int .u64 (vF tv.B)], .slice (some ⟨gR, 0, none⟩) d d, .agg #[.slice Ac d cc, .int .i64 (D : Int)]] rfl (by kernel_rfl) (by kernel_rfl) HSL4.out (fun V13 hV => ?_)
      have HW5 := Lib.hid (below_step HW4.out hV)
      refine (sVerify_as tv (some ⟨gR, 0, none⟩) d d (proR Ls ts cs) Ac d cc cs (D : Int) fv 0 _ (HRr.out.keep HW5.out) (HCr.out.keep HW5.out) (by omega) HVer.out).mono ?_
      rintro e W13 ⟨rfl, hb⟩
      have hb2 := ext_trans hV hb
      have HW6 := Lib.hid (below_step HW4.out hb2)
      have HSL6 := Lib.hid (HSL4.out.ext hb2)
      clear HW4 HSL4 HW5
      refine ⟨_, rfl, hb, ?_⟩
      clear hb hb2 hV
      simp only [Act.put, List.setIfInBounds_toArray, List.set_cons_zero, List.set_cons_succ]
      refine Fl.wpF_seg 3 (by kernel_rfl) ?_
      simp only [List.take_succ_cons, List.take_zero, List.drop_succ_cons, List.drop_zero]
      repeat (go_big_quiet_step (fail))
      refine wpQuiet_nil ?_
      refine Fl.wpF_make (.cells #[.int .u64 0, .int .u64 0] 43) (by kernel_rfl) (by kernel_rfl) (by kernel_rfl) (fun w1 => run_allocE _ _ w1 rfl) (fun bt W14 hb14 hbt hbw => ?_)
      have XT := Lib.hid (show Two W14 bt 43 (.int .u64 0) (.int .u64 0) from hbt)
      have HW7 := Lib.hid (below_step HW6.out hb14)
      have HSL7 := Lib.hid (HSL6.out.ext hb14)
      clear HW6 HSL6 hbt hb14
      simp only [Act.put, mkVal, List.setIfInBounds_toArray, List.set_cons_zero, List.set_cons_succ]
      refine Fl.wpF_store (fun W => (W.setCell ⟨bt, 0, none⟩ (.int .u64 (vF fv.A))).setCell ⟨bt, 1, none⟩ (.int .u64 (vF fv.B))) (by kernel_rfl) (by kernel_rfl) (by kernel_rfl) (by kernel_rfl) (fun W hW => run_storeE bt fv rfl rfl rfl (XT.out.keep hW)) (fun W hW => ⟨⟨_, below_two (below_step HSL7.out.below hW) hbw _ _⟩, rfl⟩) (fun W15 hW15 => ?_)
      have XT2 := Lib.hid ((((XT.out.keep hW15).set0 (.int .u64 (vF fv.A))).set1 (.int .u64 (vF fv.B))))
      have HW8 := Lib.hid (below_two (below_step HW7.out hW15) hbw (.int .u64 (vF fv.A)) (.int .u64 (vF fv.B)))
      clear XT HW7 HSL7 hW15
      simp only [Act.put, List.setIfInBounds_toArray, List.set_cons_zero, List.set_cons_succ]
      refine Fl.wpF_seg 1 (by kernel_rfl) ?_
      simp only [List.take_succ_cons, List.take_zero, List.drop_succ_cons, List.drop_zero]
      repeat (go_big_quiet_step (fail))
      refine wpQuiet_nil ?_
      clear l0 l1
      refine Fl.wpF_nil (fun Y hY0 => ?_)
      have hY : Two Y bt 43 (.int .u64 (vF fv.A)) (.int .u64 (vF fv.B)) ∧ Below wr.heap.size wr Y := ⟨XT2.out.keep hY0, below_step HW8.out hY0⟩
      clear XT2 HW8 hY0 HCr HRr
      go_upto_region 13 with fail
      have hb := hY.2
      have XTy := hY.1
      have XSy := XSr.out.keep hb
      have HSy := Lib.hid (HSr.out.keep hb)
      have HVy := Lib.hid (HVr.out.keep hb)
      have HBy := Lib.hid (below_step HBr.out hb)
      have l0 := Later.cell XTy.c0
      have l1 := Later.cell XTy.c1
      have l2 := Later.cell XSy.c0
      have l3 := Later.cell XSy.c1
      clear hb hY XSr HSr HVr HBr XTy XSy
      refine wp_floatN (by kernel_rfl) (lexOK_of (by kernel_rfl) (by kernel_rfl)) (chainOF_of (by kernel_rfl)) (fun V10 hb hS => ?_)
      have HW := Lib.hid hb
      have HSL := Lib.hid hS
      clear hb hS
      refine wpF_seg 9 (by kernel_rfl) ?_
      simp only [List.take_succ_cons, List.take_zero, List.drop_succ_cons, List.drop_zero]
      repeat (go_big_quiet_step (fail))
      refine wpQuiet_nil ?_
      refine wpF_call 23 Try.func23 (by kernel_rfl) (by kernel_rfl) _ _ #[.agg #[.slice A 3 c, .slice B' m' c'], .slice (some ⟨gv, 0, none⟩) 3 3] rfl (by kernel_rfl) (by kernel_rfl) HSL.out (fun V11 hV => ?_)
      have HW2 := Lib.hid (below_step HW.out hV)
      have hoks := HSy.out.ok.oks
      have hidx := HSy.out.ok.idx
      rw [hl3] at hoks hidx
      refine (sFinal_as A 3 c B' m' c' ts (some ⟨gv, 0, none⟩) 3 3 (proV Ls cs) fv _ (HSy.out.m.keep HW2.out) (HVy.out.keep HW2.out) hoks hidx HFv.out).mono ?_
      rintro e W11 ⟨rfl, hb⟩
      have hb2 := ext_trans hV hb
      have HW3 := Lib.hid (below_step HW.out hb2)
      have HSL2 := Lib.hid (HSL.out.ext hb2)
      clear HW HSL HW2 hoks hidx
      refine ⟨_, rfl, hb, ?_⟩
      clear hb hb2 hV
      simp only [Act.put, List.setIfInBounds_toArray, List.set_cons_zero, List.set_cons_succ]
      have hq66 := run_eqE_same fv
      refine wpF_seg 3 (by kernel_rfl) ?_
      simp only [List.take_succ_cons, List.take_zero, List.drop_succ_cons, List.drop_zero]
      repeat (go_big_quiet_step (fail))
      refine wpQuiet_nil ?_
      refine wpF_nil (fun V12 hb => ?_)
      have HBz := Lib.hid (below_step HBy.out (below_step HW3.out hb))
      clear hb
      go_wp2_with fail
      go_ret
      exact ⟨rfl, HBz.out⟩

end Go.Proofs.Ytombcjdhjcmhhaa
