/- Contracts of package poly: the value of the interpolating polynomial by weights; no conditions but lengths. -/
import Derived.Test.YtombcjdhjcmhhaaPolH
import Derived.Deep.Cut
namespace Go.Proofs.Ytombcjdhjcmhhaa
set_option maxRecDepth 8000
open Go.RowKit Gold

set_option maxHeartbeats 4000000 in
theorem polyAt_any (A : Option Addr) (n c : Nat) (v : List E2) (x : E2) (w : World) (h : Sl w A n c v) (hn : n ≤ 65536) :
    Calls Try.prog 88 #[.slice A n c, .agg #[.int .u64 (vF x.A), .int .u64 (vF x.B)]] w fun e w' => e = .returned (.agg #[.int .u64 (vF (atE v x).A), .int .u64 (vF (atE v x).B)]) ∧ Below w.heap.size w w' := by
  have HL := Lib.hid h.len
  have HS := Lib.hid h
  clear h
  go_enter Try.func88, Try.ntmps88
  go_wp2_with fail
  refine calls_named3 (fun W hB g0 g1 g2 hz => ?_)
  have HB := Lib.hid hB
  have HX := Lib.hid (show Two W w.heap.size 43 (.int .u64 (vF x.A)) (.int .u64 (vF x.B)) from g0)
  have HR := Lib.hid (show Two W (w.heap.size + 1) 43 (.int .u64 0) (.int .u64 0) from g1)
  have HV := Lib.hid (show Two W (w.heap.size + 1 + 1) 43 (.int .u64 0) (.int .u64 0) from g2)
  clear hB g0 g1 g2
  refine (polyOne_lit _).mono ?_
  rintro e W1 ⟨rfl, hb⟩
  have HB1 := Lib.hid (below_step HB.out hb)
  have HX1 := Lib.hid (HX.out.keep hb)
  have HR1 := Lib.hid (HR.out.keep hb)
  have HV1 := Lib.hid (HV.out.keep hb)
  have HZ1 := Lib.hid HV1.out.lt
  clear hb HX HR HV HB
  go_wp2_with fail
  refine calls_named1 (fun W2 hb2 g3 hz2 => ?_)
  have HB2 := Lib.hid (below_step HB1.out hb2)
  have HX2 := Lib.hid (HX1.out.keep hb2)
  have HR2 := Lib.hid (HR1.out.keep hb2)
  have HV2 := Lib.hid (HV1.out.keep hb2)
  have HP2 := Lib.hid (show Two W2 W1.heap.size 43 (.int .u64 1) (.int .u64 0) from g3)
  clear hb2 g3 HB1 HX1 HR1 HV1
  refine (weighted_any A n c v _ (HS.out.keep HB2.out) hn).mono ?_
  rintro e W3 ⟨g, rfl, hr, hg, hb⟩
  have HC := Lib.hid hr
  have HG := Lib.hid (Nat.lt_of_lt_of_le HP2.out.lt hg)
  have HB3 := Lib.hid (below_step HB2.out hb)
  have HX3 := Lib.hid (HX2.out.keep hb)
  have HR3 := Lib.hid (HR2.out.keep hb)
  have HV3 := Lib.hid (HV2.out.keep hb)
  have HP3 := Lib.hid (HP2.out.keep hb)
  clear hr hg hb HB2 HX2 HR2 HV2 HP2
  go_wp2_with fail
  go_loopw [14] (fun s wr => ∃ k : Nat, k ≤ n ∧ s = .int .i64 k ∧ Two wr w.heap.size 43 (.int .u64 (vF x.A)) (.int .u64 (vF x.B)) ∧ Two wr (w.heap.size + 1) 43 (.int .u64 0) (.int .u64 0) ∧ Two wr (w.heap.size + 1 + 1) 43 (.int .u64 (vF (lagAt (wtsE v) 0 k x).A)) (.int .u64 (vF (lagAt (wtsE v) 0 k x).B)) ∧ Two wr W1.heap.size 43 (.int .u64 (vF (prodAt 0 k x).A)) (.int .u64 (vF (prodAt 0 k x).B)) ∧ Row wr g (wtsE v) ∧ Below w.heap.size w wr) (fun s _ => n - (intOf s).toNat)
  case atStart => exact ⟨0, Nat.zero_le _, rfl, HX3.out, HR3.out, HV3.out, HP3.out, HC.out, HB3.out⟩
  case round =>
    clear HX3 HR3 HV3 HP3 HC HB3
    obtain ⟨k, hk, rfl, hx, hr, hv, hp, hc, hb⟩ := hrel
    have HX := Lib.hid hx
    have HR := Lib.hid hr
    have HV := Lib.hid hv
    have HP := Lib.hid hp
    have HC := Lib.hid hc
    have HB := Lib.hid hb
    clear hx hr hv hp hc hb
    by_cases hlt : k < n
    · obtain ⟨u, hu⟩ : ∃ u, (wtsE v)[k]? = some u := ⟨_, List.getElem?_eq_getElem (by unfold wtsE; rw [tabE_length]; have := HL.out; omega)⟩
      have c0 := (HC.out.at_ hu).1
      have c1 := (HC.out.at_ hu).2
      have HU := Lib.hid hu
      clear hu
      generalize hsum : lagAt (wtsE v) 0 k x = su at HV
      generalize hprod : prodAt 0 k x = pr at HP
      have HSU := Lib.hid hsum
      have HPR := Lib.hid hprod
      clear hsum hprod
      go_wp2_with fail
      refine wp_named1 (fun W4 hb4 g4 hz4 => ?_)
      have HX4 := Lib.hid (HX.out.keep hb4)
      have HR4 := Lib.hid (HR.out.keep hb4)
      have HV4 := Lib.hid (HV.out.keep hb4)
      have HP4 := Lib.hid (HP.out.keep hb4)
      have HC4 := Lib.hid (HC.out.keep hb4)
      have HB4 := Lib.hid (below_step HB.out hb4)
      have HU4 := Lib.hid (show Two W4 wr.heap.size 43 (.int .u64 (vF u.A)) (.int .u64 (vF u.B)) from g4)
      have HWR := Lib.hid HC.out.lt
      clear hb4 g4 c0 c1
      have k0 := Later.cell HX4.out.c0
      have k1 := Later.cell HX4.out.c1
      refine wp_decl (l2 := [_]) (l3 := [_]) (zs := [.cells #[.int .u64 0, .int .u64 0] 43]) 4 (by kernel_rfl) (lexOK_of (by kernel_rfl) (by kernel_rfl)) rfl (Nat.le_of_ble_eq_true rfl) (by simp) (by kernel_rfl) (by kernel_rfl) rfl
        (all_cons rfl all_nil) (mk_same 43 _ run_allocE (all_cons rfl all_nil) (all_cons rfl all_nil)) ?_
      simp only [List.take_succ_cons, List.take_zero]
      repeat (refine wpCalm_step (fun K hK => ?_); go_simp; first
        | (refine hK _ ?_; clear hK K)
        | (apply Exists.intro
           refine ⟨fun _ => ?_, hK _ ?_⟩
           · first
             | (go_at_call 97; with_reducible exact Calls.calm (node_any _ _ (by omega) (by omega)))
             | (go_at_call 60; with_reducible exact Calls.calm (extSub_any _ _ _))
           clear hK K))
      refine wpCalm_nil ?_
      refine fun b9 X hX => ?_
      have p9 := hX.get 4 b9 _ rfl rfl
      have hb := hX.below
      have a9 : wr.heap.size < b9 := Nat.lt_of_lt_of_le hz4 p9.2
      have T9 := Lib.hid (show Two X b9 43 (.int .u64 0) (.int .u64 0) from p9.1)
      have z0 := T9.out.c0
      have z1 := T9.out.c1
      have e0 := T9.out.f0
      have e1 := T9.out.f1
      have HX5 := Lib.hid (HX4.out.keep hb)
      have HR5 := Lib.hid (HR4.out.keep hb)
      have HV5 := Lib.hid (HV4.out.keep hb)
      have HP5 := Lib.hid (HP4.out.keep hb)
      have HC5 := Lib.hid (HC4.out.keep hb)
      have HU5 := Lib.hid (HU4.out.keep hb)
      have HB5 := Lib.hid (below_step HB4.out hb)
      clear hb hX p9 k0 k1
      have A9 := Lib.hid a9
      clear a9
      simp only [ptr]
      go_wp2_with fail
      have a1 := HZ1.out
      have a2 := HG.out
      have a3 := HWR.out
      have a9 := A9.out
      refine wp_named (fun W => Two W w.heap.size 43 (.int .u64 (vF (x).A)) (.int .u64 (vF (x).B)) ∧ Two W (w.heap.size + 1) 43 (.int .u64 0) (.int .u64 0) ∧ Two W (w.heap.size + 1 + 1) 43 (.int .u64 (vF (su).A)) (.int .u64 (vF (su).B)) ∧ Two W W1.heap.size 43 (.int .u64 (vF (pr).A)) (.int .u64 (vF (pr).B)) ∧ Row W g (wtsE v) ∧ Two W wr.heap.size 43 (.int .u64 (vF (u).A)) (.int .u64 (vF (u).B)) ∧ Two W b9 43 (.int .u64 (vF (x - nd k).A)) (.int .u64 (vF (x - nd k).B)) ∧ Below w.heap.size w W)
        ⟨(HX5.out.far _ (by simp; try omega)).far _ (by simp; try omega), (HR5.out.far _ (by simp; try omega)).far _ (by simp; try omega), (HV5.out.far _ (by simp; try omega)).far _ (by simp; try omega), (HP5.out.far _ (by simp; try omega)).far _ (by simp; try omega), (HC5.out.far _ (by simp; try omega)).far _ (by simp; try omega), (HU5.out.far _ (by simp; try omega)).far _ (by simp; try omega), (T9.out.set0 _).set1 _, (HB5.out.setCell (by simp; try omega) _).setCell (by simp; try omega) _⟩ ?_
      rintro W6 ⟨hx6, hr6, hv6, hp6, hc6, hu6, h96, hb6⟩
      have HX6 := Lib.hid hx6
      have HR6 := Lib.hid hr6
      have HV6 := Lib.hid hv6
      have HP6 := Lib.hid hp6
      have HC6 := Lib.hid hc6
      have HU6 := Lib.hid hu6
      have H96 := Lib.hid h96
      have HB6 := Lib.hid hb6
      clear hx6 hr6 hv6 hp6 hc6 hu6 h96 hb6 z0 z1 e0 e1 HX5 HR5 HV5 HP5 HC5 HU5 HB5 T9 a1 a2 a3 a9
      generalize hfac : x - nd k = fac at H96
      have HFA := Lib.hid hfac
      clear hfac
      have l0 := Later.cell HV6.out.c0
      have l1 := Later.cell HV6.out.c1
      have l2 := Later.cell H96.out.c0
      have l3 := Later.cell H96.out.c1
      have l4 := Later.cell HP6.out.c0
      have l5 := Later.cell HP6.out.c1
      have l6 := Later.cell HU6.out.c0
      have l7 := Later.cell HU6.out.c1
      refine wp_later_tail 7 (by kernel_rfl) (by kernel_rfl) ?_
      simp only [List.take_succ_cons, List.take_zero, List.drop_succ_cons, List.drop_zero]
      repeat (go_big_quiet_step (first
        | (go_at_call 63; with_reducible exact Calls.later (extMul_any _ _ _))
        | (go_at_call 47; with_reducible exact Calls.later (extAdd_any _ _ _))))
      refine wpQuiet_nil ?_
      intro X7
      clear l0 l1 l2 l3 l4 l5 l6 l7
      have hb := X7.below
      have HX7 := Lib.hid (HX6.out.keep hb)
      have HR7 := Lib.hid (HR6.out.keep hb)
      have HV7 := Lib.hid (HV6.out.keep hb)
      have HP7 := Lib.hid (HP6.out.keep hb)
      have HC7 := Lib.hid (HC6.out.keep hb)
      have HU7 := Lib.hid (HU6.out.keep hb)
      have H97 := Lib.hid (H96.out.keep hb)
      have HB7 := Lib.hid (below_step HB6.out hb)
      clear hb HX6 HR6 HV6 HP6 HC6 HU6 H96 HB6
      have z0 := HV7.out.c0
      have z1 := HV7.out.c1
      have e0 := HV7.out.f0
      have e1 := HV7.out.f1
      go_upto_region 8 with (fail)
      have a1 := HZ1.out
      have a2 := HG.out
      have a3 := HWR.out
      have a9 := A9.out
      refine wp_named (fun W => Two W w.heap.size 43 (.int .u64 (vF (x).A)) (.int .u64 (vF (x).B)) ∧ Two W (w.heap.size + 1) 43 (.int .u64 0) (.int .u64 0) ∧ Two W (w.heap.size + 1 + 1) 43 (.int .u64 (vF (su * fac + pr * u).A)) (.int .u64 (vF (su * fac + pr * u).B)) ∧ Two W W1.heap.size 43 (.int .u64 (vF (pr).A)) (.int .u64 (vF (pr).B)) ∧ Row W g (wtsE v) ∧ Two W b9 43 (.int .u64 (vF (fac).A)) (.int .u64 (vF (fac).B)) ∧ Below w.heap.size w W)
        ⟨(HX7.out.far _ (by simp; try omega)).far _ (by simp; try omega), (HR7.out.far _ (by simp; try omega)).far _ (by simp; try omega), (HV7.out.set0 _).set1 _, (HP7.out.far _ (by simp; try omega)).far _ (by simp; try omega), (HC7.out.far _ (by simp; try omega)).far _ (by simp; try omega), (H97.out.far _ (by simp; try omega)).far _ (by simp; try omega), (HB7.out.setCell (by simp; try omega) _).setCell (by simp; try omega) _⟩ ?_
      rintro W8 ⟨hx8, hr8, hv8, hp8, hc8, h98, hb8⟩
      have HX8 := Lib.hid hx8
      have HR8 := Lib.hid hr8
      have HV8 := Lib.hid hv8
      have HP8 := Lib.hid hp8
      have HC8 := Lib.hid hc8
      have H98 := Lib.hid h98
      have HB8 := Lib.hid hb8
      clear hx8 hr8 hv8 hp8 hc8 h98 hb8 z0 z1 e0 e1 HX7 HR7 HV7 HP7 HC7 HU7 H97 HB7 a1 a2 a3 a9
      have p0 := HP8.out.c0
      have p1 := HP8.out.c1
      have f0 := H98.out.c0
      have f1 := H98.out.c1
      go_wp2_with fail
      refine (extMul_any pr fac _).mono ?_
      rintro e W9 ⟨rfl, hb⟩
      have HX9 := Lib.hid (HX8.out.keep hb)
      have HR9 := Lib.hid (HR8.out.keep hb)
      have HV9 := Lib.hid (HV8.out.keep hb)
      have HP9 := Lib.hid (HP8.out.keep hb)
      have HC9 := Lib.hid (HC8.out.keep hb)
      have HB9 := Lib.hid (below_step HB8.out hb)
      clear hb p0 p1 f0 f1
      have p0 := HP9.out.c0
      have p1 := HP9.out.c1
      have f0 := HP9.out.f0
      have f1 := HP9.out.f1
      go_wp2_with fail
      go_roundw
      case rel =>
        have a1 := HZ1.out
        have a2 := HG.out
        have eL : lagAt (wtsE v) 0 (k + 1) x = su * fac + pr * u := by rw [lagAt, Nat.zero_add, HSU.out, HPR.out, HFA.out, cfE_some HU.out]
        have eP : prodAt 0 (k + 1) x = pr * fac := by rw [prodAt, Nat.zero_add, HPR.out, HFA.out]
        exact ⟨k + 1, by omega, by go_num, (HX9.out.far _ (by simp; try omega)).far _ (by simp; try omega), (HR9.out.far _ (by simp; try omega)).far _ (by simp; try omega), by rw [eL]; exact (HV9.out.far _ (by simp; try omega)).far _ (by simp; try omega), by rw [eP]; exact (HP9.out.set0 _).set1 _, (HC9.out.far _ (by simp; try omega)).far _ (by simp; try omega), (HB9.out.setCell (by simp; try omega) _).setCell (by simp; try omega) _⟩
      case measure => simp [intOf]; omega
    · have hkn : k = n := by omega
      subst hkn
      have v0 := HV.out.c0
      have v1 := HV.out.c1
      have r0 := HR.out.c0
      have r1 := HR.out.c1
      have f0 := HR.out.f0
      have f1 := HR.out.f1
      go_wp2_with fail
      refine bodyPost_ret (v := .agg #[.int .u64 (vF (lagAt (wtsE v) 0 k x).A), .int .u64 (vF (lagAt (wtsE v) 0 k x).B)]) (by simp [results, Try.results88, go_sem, r0, r1]) rfl ⟨by unfold atE; rw [← HL.out], ?_⟩
      exact (HB.out.setCell (Nat.le_succ _) _).setCell (Nat.le_succ _) _

end Go.Proofs.Ytombcjdhjcmhhaa
