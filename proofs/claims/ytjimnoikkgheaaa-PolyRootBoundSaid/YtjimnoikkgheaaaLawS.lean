/- Contracts of the fixed examples of the laws of package poly; no conditions. -/
import Derived.Test.YtjimnoikkgheaaaLawA
import Derived.Test.YtjimnoikkgheaaaPolD
import Derived.Test.YtjimnoikkgheaaaPolF
import Derived.Test.YtjimnoikkgheaaaPolJ
import Derived.Test.YtjimnoikkgheaaaPolK
import Derived.Test.YtjimnoikkgheaaaZmk
namespace Go.Proofs.Ytjimnoikkgheaaa
open Go.RowKit Gold


theorem san_quo : quoE [ndZ (-1), ndZ (0), ndZ (1)] (ndZ 2) = [ndZ (2), ndZ (1)] := by decide +kernel
theorem san_rest : evE [ndZ (-1), ndZ (0), ndZ (1)] (ndZ 2) = ndZ 3 := by decide +kernel
theorem san_roots : rootsAt [ndZ (-1), ndZ (0), ndZ (1)] [ndZ (0), ndZ (1), ndZ (-1), ndZ (2), ndZ (1)] 5 = [1, 2, 4] := by decide +kernel
theorem san_all : rootsAt [] [ndZ (5)] 1 = [0] := by decide +kernel
theorem san_mul : mulE (trimE [ndZ (1), ndZ (1)]) (trimE [ndZ (1), ndZ (-1)]) = [ndZ (1), ndZ (0), ndZ (-1)] := by decide +kernel
theorem san_interp : interpE [ndZ (1), ndZ (2), ndZ (5)] = [ndZ (1), ndZ (0), ndZ (1)] := by
  symm
  refine IsInterp.eq (by decide) ⟨by decide +kernel, by decide, fun k hk => ?_⟩
  match k, hk with
  | 0, _ => decide +kernel
  | 1, _ => decide +kernel
  | 2, _ => decide +kernel
  | k + 3, hk => exact absurd hk (by simp)
theorem san_interp2 : interpE [ndZ (0), ndZ (1), ndZ (4)] = [ndZ (0), ndZ (0), ndZ (1)] := by
  symm
  refine IsInterp.eq (by decide) ⟨by decide +kernel, by decide, fun k hk => ?_⟩
  match k, hk with
  | 0, _ => decide +kernel
  | 1, _ => decide +kernel
  | 2, _ => decide +kernel
  | k + 3, hk => exact absurd hk (by simp)
theorem san_at : atE [ndZ (0), ndZ (1), ndZ (4)] (ndZ (-3)) = ndZ 9 := by
  rw [← evE_interpE, san_interp2]
  decide +kernel
theorem san_degree : (((trimE [ndZ (4), ndZ (0), ndZ (7), ndZ (0)]).length : Nat) : Int) - 1 = 2 := by decide +kernel
theorem san_none : ((trimE ([] : List E2)).length : Int) - 1 = -1 := by decide +kernel
theorem san_trim : trimE [ndZ (4), ndZ (0), ndZ (0)] = [ndZ (4)] := by decide +kernel
theorem san_eval : evE [ndZ (1), ndZ (2), ndZ (3)] (ndZ 10) = ndZ 321 := by decide +kernel
theorem san_sub : subE [ndZ (1), ndZ (2)] [ndZ (1), ndZ (2)] = [] := by decide +kernel
theorem san_add : addE [ndZ (1), ndZ (2)] [ndZ (1)] = [ndZ (2), ndZ (2)] := by decide +kernel
theorem san_scale : scaleE [ndZ (1), ndZ (2)] (ndZ (-2)) = [ndZ (-2), ndZ (-4)] := by decide +kernel

set_option maxHeartbeats 8000000 in
set_option maxRecDepth 100000 in
theorem sanity3_any (w : World) : Calls Try.prog 11 #[] w fun e w' => e = .returned (.bool true) ∧ Below w.heap.size w w' := by
  go_enter Try.func11, Try.ntmps11
  go_wp2_with fail
  refine calls_named1 (fun V1 hbV gV hzV => ?_)
  have hz := Sz.of (zs := [(-1), 0, 1]) gV (by decide)
  have HB1 := Lib.hid hbV
  clear hbV gV hzV
  refine (ints_any (some ⟨w.heap.size, 0, none⟩) 3 3 [(-1), 0, 1] _ hz (by intro z hz'; simp at hz'; omega) (by omega)).mono ?_
  rintro e W2 ⟨Aa, ca, rfl, hs, hb⟩
  have HB2 := Lib.hid (below_step HB1.out hb)
  clear HB1
  have a2x := Lib.hid hs
  clear hs
  clear hb
  go_wp2_with fail
  clear hz
  refine (rFromInt_any (2) _ (by omega) (by omega)).mono ?_
  rintro e W3 ⟨rfl, hb⟩
  have a3 := Lib.hid (a2x.out.keep hb)
  clear a2x
  have HB3 := Lib.hid (below_step HB2.out hb)
  clear HB2
  clear hb
  go_wp2_with fail
  refine (polyDivRoot_any Aa 3 ca [ndZ (-1), ndZ (0), ndZ (1)] (ndZ 2) _ a3.out (by omega)).mono ?_
  rw [san_quo, san_rest]
  rintro e W4 ⟨Aq, mq, cq, rfl, hmq, hs, hb⟩
  have a4 := Lib.hid (a3.out.keep hb)
  clear a3
  have HB4 := Lib.hid (below_step HB3.out hb)
  clear HB3
  have q4x := Lib.hid hs
  clear hs
  clear hb
  go_wp2_with fail
  clear a4
  refine calls_named2 (fun V5 hbV g0 g1 hzV => ?_)
  have HT := Lib.hid (show Two V5 W4.heap.size 25 (.int .u64 (vF (ndZ 3).A)) (.int .u64 (vF (ndZ 3).B)) from g0)
  have hz := Sz.of (zs := [(-1), 0, 1]) g1 (by decide)
  have q5 := Lib.hid (q4x.out.keep hbV)
  clear q4x
  have HB5 := Lib.hid (below_step HB4.out hbV)
  clear HB4
  clear hbV g0 g1 hzV
  refine (ints_any (some ⟨W4.heap.size + 1, 0, none⟩) 3 3 [(-1), 0, 1] _ hz (by intro z hz'; simp at hz'; omega) (by omega)).mono ?_
  rintro e W6 ⟨Aa, ca, rfl, hs, hb⟩
  have q6 := Lib.hid (q5.out.keep hb)
  clear q5
  have t6 := Lib.hid (HT.out.keep hb)
  clear HT
  have HB6 := Lib.hid (below_step HB5.out hb)
  clear HB5
  have a6x := Lib.hid hs
  clear hs
  clear hb
  go_wp2_with fail
  clear hz
  refine calls_named1 (fun V7 hbV gV hzV => ?_)
  have hz := Sz.of (zs := [0, 1, (-1), 2, 1]) gV (by decide)
  have q7 := Lib.hid (q6.out.keep hbV)
  clear q6
  have t7 := Lib.hid (t6.out.keep hbV)
  clear t6
  have a7 := Lib.hid (a6x.out.keep hbV)
  clear a6x
  have HB7 := Lib.hid (below_step HB6.out hbV)
  clear HB6
  clear hbV gV hzV
  refine (ints_any (some ⟨W6.heap.size, 0, none⟩) 5 5 [0, 1, (-1), 2, 1] _ hz (by intro z hz'; simp at hz'; omega) (by omega)).mono ?_
  rintro e W8 ⟨Ab, cb, rfl, hs, hb⟩
  have q8 := Lib.hid (q7.out.keep hb)
  clear q7
  have t8 := Lib.hid (t7.out.keep hb)
  clear t7
  have a8 := Lib.hid (a7.out.keep hb)
  clear a7
  have HB8 := Lib.hid (below_step HB7.out hb)
  clear HB7
  have b8x := Lib.hid hs
  clear hs
  clear hb
  go_wp2_with fail
  clear hz
  refine (polyRoots_any Aa 3 ca [ndZ (-1), ndZ (0), ndZ (1)] Ab 5 cb [ndZ (0), ndZ (1), ndZ (-1), ndZ (2), ndZ (1)] _ a8.out b8x.out (by omega)).mono ?_
  rw [san_roots]
  rintro e W9 ⟨Ar, nr, cr, rfl, hs, hb⟩
  have q9 := Lib.hid (q8.out.keep hb)
  clear q8
  have t9 := Lib.hid (t8.out.keep hb)
  clear t8
  have a9 := Lib.hid (a8.out.keep hb)
  clear a8
  have b9 := Lib.hid (b8x.out.keep hb)
  clear b8x
  have HB9 := Lib.hid (below_step HB8.out hb)
  clear HB8
  have r9x := Lib.hid hs
  clear hs
  clear hb
  go_wp2_with fail
  clear a9
  clear b9
  refine calls_named1 (fun V10 hbV gV hzV => ?_)
  have hz := Sz.of (zs := [5]) gV (by decide)
  have q10 := Lib.hid (q9.out.keep hbV)
  clear q9
  have t10 := Lib.hid (t9.out.keep hbV)
  clear t9
  have r10 := Lib.hid (r9x.out.keep hbV)
  clear r9x
  have HB10 := Lib.hid (below_step HB9.out hbV)
  clear HB9
  clear hbV gV hzV
  refine (ints_any (some ⟨W9.heap.size, 0, none⟩) 1 1 [5] _ hz (by intro z hz'; simp at hz'; omega) (by omega)).mono ?_
  rintro e W11 ⟨Ab, cb, rfl, hs, hb⟩
  have q11 := Lib.hid (q10.out.keep hb)
  clear q10
  have t11 := Lib.hid (t10.out.keep hb)
  clear t10
  have r11 := Lib.hid (r10.out.keep hb)
  clear r10
  have HB11 := Lib.hid (below_step HB10.out hb)
  clear HB10
  have b11x := Lib.hid hs
  clear hs
  clear hb
  go_wp2_with fail
  clear hz
  refine (polyRoots_any none 0 0 [] Ab 1 cb [ndZ (5)] _ (Sl.nil _) b11x.out (by omega)).mono ?_
  rw [san_all]
  rintro e W12 ⟨Al, nl, cl, rfl, hs, hb⟩
  have q12 := Lib.hid (q11.out.keep hb)
  clear q11
  have t12 := Lib.hid (t11.out.keep hb)
  clear t11
  have r12 := Lib.hid (r11.out.keep hb)
  clear r11
  have b12 := Lib.hid (b11x.out.keep hb)
  clear b11x
  have HB12 := Lib.hid (below_step HB11.out hb)
  clear HB11
  have l12x := Lib.hid hs
  clear hs
  clear hb
  obtain rfl : nr = 3 := r12.out.len
  obtain rfl : nl = 1 := l12x.out.len
  go_wp2_with fail
  clear b12
  have T0 := t12.out
  have lt0 := Later.cell T0.c0
  have lt1 := Later.cell T0.c1
  obtain ⟨ad, had, hc0⟩ := r12.out.cells 0 1 rfl
  subst had
  obtain ⟨_, had, hc1⟩ := r12.out.cells 1 2 rfl
  cases had
  obtain ⟨_, had, hc2⟩ := r12.out.cells 2 4 rfl
  cases had
  have lr0 := Later.cell (show W12.cell? ad = some (.int .i64 1) from hc0)
  have lr1 := Later.cell (show W12.cell? ⟨ad.block, ad.off + 1, none⟩ = some (.int .i64 2) from hc1)
  have lr2 := Later.cell (show W12.cell? ⟨ad.block, ad.off + 2, none⟩ = some (.int .i64 4) from hc2)
  clear t12
  clear l12x
  simp only [List.append_eq, List.cons_append, List.nil_append]
  refine wp_floatN (by kernel_rfl) (lexOK_of (by kernel_rfl) (by kernel_rfl)) (chainOF_of (by kernel_rfl)) (fun V13 hb hS => ?_)
  have q13 := Lib.hid (q12.out.keep hb)
  clear q12
  have r13 := Lib.hid (r12.out.keep hb)
  clear r12
  have HB13 := Lib.hid (below_step HB12.out hb)
  clear HB12
  clear hb
  have HS13' := Lib.hid hS
  clear hS
  refine wpF_ints2 1 1 rfl (by kernel_rfl) (fun b14 V14 hb hg => ?_)
  have q14 := Lib.hid (q13.out.keep hb)
  clear q13
  have r14 := Lib.hid (r13.out.keep hb)
  clear r13
  have HB14 := Lib.hid (below_step HB13.out hb)
  clear HB13
  have HS14 := Lib.hid (HS13'.out.ext hb)
  clear HS13'
  clear hb
  have Z1_15 := Lib.hid hg
  clear hg
  simp only [Act.put, List.setIfInBounds_toArray, List.set_cons_zero, List.set_cons_succ]
  refine wpF_call 44 Try.func44 (by kernel_rfl) (by kernel_rfl) _ _ #[.slice (some ⟨b14, 0, none⟩) 2 2] rfl (by kernel_rfl) (by kernel_rfl) HS14.out (fun V16 hV => ?_)
  refine (ints_any (some ⟨b14, 0, none⟩) 2 2 [1, 1] _ (Z1_15.out.keep hV) (by intro z hz'; simp at hz'; omega) (by omega)).mono ?_
  rintro e W16 ⟨A2, c2, rfl, hs, hb⟩
  have hb2 := ext_trans hV hb
  have q16 := Lib.hid (q14.out.keep hb2)
  clear q14
  have r16 := Lib.hid (r14.out.keep hb2)
  clear r14
  have Z1_16 := Lib.hid (Z1_15.out.keep hb2)
  clear Z1_15
  have HB16 := Lib.hid (below_step HB14.out hb2)
  clear HB14
  have HS16 := Lib.hid (HS14.out.ext hb2)
  clear HS14
  have L2_17 := Lib.hid hs
  clear hs
  refine ⟨_, rfl, hb, ?_⟩
  clear hb hb2 hV
  simp only [Act.put, List.setIfInBounds_toArray, List.set_cons_zero, List.set_cons_succ]
  clear Z1_16
  refine wpF_ints2 1 (-1) rfl (by kernel_rfl) (fun b18 V18 hb hg => ?_)
  have q18 := Lib.hid (q16.out.keep hb)
  clear q16
  have r18 := Lib.hid (r16.out.keep hb)
  clear r16
  have L2_18 := Lib.hid (L2_17.out.keep hb)
  clear L2_17
  have HB18 := Lib.hid (below_step HB16.out hb)
  clear HB16
  have HS18 := Lib.hid (HS16.out.ext hb)
  clear HS16
  clear hb
  have Z3_19 := Lib.hid hg
  clear hg
  simp only [Act.put, List.setIfInBounds_toArray, List.set_cons_zero, List.set_cons_succ]
  refine wpF_call 44 Try.func44 (by kernel_rfl) (by kernel_rfl) _ _ #[.slice (some ⟨b18, 0, none⟩) 2 2] rfl (by kernel_rfl) (by kernel_rfl) HS18.out (fun V20 hV => ?_)
  refine (ints_any (some ⟨b18, 0, none⟩) 2 2 [1, (-1)] _ (Z3_19.out.keep hV) (by intro z hz'; simp at hz'; omega) (by omega)).mono ?_
  rintro e W20 ⟨A4, c4, rfl, hs, hb⟩
  have hb2 := ext_trans hV hb
  have q20 := Lib.hid (q18.out.keep hb2)
  clear q18
  have r20 := Lib.hid (r18.out.keep hb2)
  clear r18
  have L2_20 := Lib.hid (L2_18.out.keep hb2)
  clear L2_18
  have Z3_20 := Lib.hid (Z3_19.out.keep hb2)
  clear Z3_19
  have HB20 := Lib.hid (below_step HB18.out hb2)
  clear HB18
  have HS20 := Lib.hid (HS18.out.ext hb2)
  clear HS18
  have L4_21 := Lib.hid hs
  clear hs
  refine ⟨_, rfl, hb, ?_⟩
  clear hb hb2 hV
  simp only [Act.put, List.setIfInBounds_toArray, List.set_cons_zero, List.set_cons_succ]
  clear Z3_20
  refine wpF_call 23 Try.func23 (by kernel_rfl) (by kernel_rfl) _ _ #[.slice A2 2 c2, .slice A4 2 c4] rfl (by kernel_rfl) (by kernel_rfl) HS20.out (fun V22 hV => ?_)
  refine (polyMul_any A2 2 c2 [ndZ (1), ndZ (1)] A4 2 c4 [ndZ (1), ndZ (-1)] _ (L2_20.out.keep hV) (L4_21.out.keep hV) (by omega) (by omega)).mono ?_
  rw [san_mul]
  rintro e W22 ⟨A5, m5, c5, rfl, hm5, hs, hb⟩
  have hb2 := ext_trans hV hb
  have q22 := Lib.hid (q20.out.keep hb2)
  clear q20
  have r22 := Lib.hid (r20.out.keep hb2)
  clear r20
  have L2_22 := Lib.hid (L2_20.out.keep hb2)
  clear L2_20
  have L4_22 := Lib.hid (L4_21.out.keep hb2)
  clear L4_21
  have HB22 := Lib.hid (below_step HB20.out hb2)
  clear HB20
  have HS22 := Lib.hid (HS20.out.ext hb2)
  clear HS20
  have L5_23 := Lib.hid hs
  clear hs
  refine ⟨_, rfl, hb, ?_⟩
  clear hb hb2 hV
  simp only [Act.put, List.setIfInBounds_toArray, List.set_cons_zero, List.set_cons_succ]
  clear L2_22
  clear L4_22
  refine wpF_ints3 1 0 (-1) rfl (by kernel_rfl) (fun b24 V24 hb hg => ?_)
  have q24 := Lib.hid (q22.out.keep hb)
  clear q22
  have r24 := Lib.hid (r22.out.keep hb)
  clear r22
  have L5_24 := Lib.hid (L5_23.out.keep hb)
  clear L5_23
  have HB24 := Lib.hid (below_step HB22.out hb)
  clear HB22
  have HS24 := Lib.hid (HS22.out.ext hb)
  clear HS22
  clear hb
  have Z6_25 := Lib.hid hg
  clear hg
  simp only [Act.put, List.setIfInBounds_toArray, List.set_cons_zero, List.set_cons_succ]
  refine wpF_call 44 Try.func44 (by kernel_rfl) (by kernel_rfl) _ _ #[.slice (some ⟨b24, 0, none⟩) 3 3] rfl (by kernel_rfl) (by kernel_rfl) HS24.out (fun V26 hV => ?_)
  refine (ints_any (some ⟨b24, 0, none⟩) 3 3 [1, 0, (-1)] _ (Z6_25.out.keep hV) (by intro z hz'; simp at hz'; omega) (by omega)).mono ?_
  rintro e W26 ⟨A7, c7, rfl, hs, hb⟩
  have hb2 := ext_trans hV hb
  have q26 := Lib.hid (q24.out.keep hb2)
  clear q24
  have r26 := Lib.hid (r24.out.keep hb2)
  clear r24
  have L5_26 := Lib.hid (L5_24.out.keep hb2)
  clear L5_24
  have Z6_26 := Lib.hid (Z6_25.out.keep hb2)
  clear Z6_25
  have HB26 := Lib.hid (below_step HB24.out hb2)
  clear HB24
  have HS26 := Lib.hid (HS24.out.ext hb2)
  clear HS24
  have L7_27 := Lib.hid hs
  clear hs
  refine ⟨_, rfl, hb, ?_⟩
  clear hb hb2 hV
  simp only [Act.put, List.setIfInBounds_toArray, List.set_cons_zero, List.set_cons_succ]
  clear Z6_26
  refine wpF_call 14 Try.func14 (by kernel_rfl) (by kernel_rfl) _ _ #[.slice A5 m5 c5, .slice A7 3 c7] rfl (by kernel_rfl) (by kernel_rfl) HS26.out (fun V28 hV => ?_)
  refine (same_yes A5 m5 c5 A7 3 c7 [ndZ (1), ndZ (0), ndZ (-1)] _ (L5_26.out.keep hV) (L7_27.out.keep hV)).mono ?_
  rintro e W28 ⟨rfl, hb⟩
  have hb2 := ext_trans hV hb
  have q28 := Lib.hid (q26.out.keep hb2)
  clear q26
  have r28 := Lib.hid (r26.out.keep hb2)
  clear r26
  have L5_28 := Lib.hid (L5_26.out.keep hb2)
  clear L5_26
  have L7_28 := Lib.hid (L7_27.out.keep hb2)
  clear L7_27
  have HB28 := Lib.hid (below_step HB26.out hb2)
  clear HB26
  have HS28 := Lib.hid (HS26.out.ext hb2)
  clear HS26
  refine ⟨_, rfl, hb, ?_⟩
  clear hb hb2 hV
  simp only [Act.put, List.setIfInBounds_toArray, List.set_cons_zero, List.set_cons_succ]
  clear L5_28
  clear L7_28
  refine wpF_seg 1 (by kernel_rfl) ?_
  simp only [List.take_succ_cons, List.take_zero, List.drop_succ_cons, List.drop_zero]
  repeat (go_big_quiet_step (fail))
  refine wpQuiet_nil ?_
  refine wpF_ints3 1 2 5 rfl (by kernel_rfl) (fun b29 V29 hb hg => ?_)
  have q29 := Lib.hid (q28.out.keep hb)
  clear q28
  have r29 := Lib.hid (r28.out.keep hb)
  clear r28
  have HB29 := Lib.hid (below_step HB28.out hb)
  clear HB28
  have HS29 := Lib.hid (HS28.out.ext hb)
  clear HS28
  clear hb
  have Z9_30 := Lib.hid hg
  clear hg
  simp only [Act.put, List.setIfInBounds_toArray, List.set_cons_zero, List.set_cons_succ]
  refine wpF_call 44 Try.func44 (by kernel_rfl) (by kernel_rfl) _ _ #[.slice (some ⟨b29, 0, none⟩) 3 3] rfl (by kernel_rfl) (by kernel_rfl) HS29.out (fun V31 hV => ?_)
  refine (ints_any (some ⟨b29, 0, none⟩) 3 3 [1, 2, 5] _ (Z9_30.out.keep hV) (by intro z hz'; simp at hz'; omega) (by omega)).mono ?_
  rintro e W31 ⟨A10, c10, rfl, hs, hb⟩
  have hb2 := ext_trans hV hb
  have q31 := Lib.hid (q29.out.keep hb2)
  clear q29
  have r31 := Lib.hid (r29.out.keep hb2)
  clear r29
  have Z9_31 := Lib.hid (Z9_30.out.keep hb2)
  clear Z9_30
  have HB31 := Lib.hid (below_step HB29.out hb2)
  clear HB29
  have HS31 := Lib.hid (HS29.out.ext hb2)
  clear HS29
  have L10_32 := Lib.hid hs
  clear hs
  refine ⟨_, rfl, hb, ?_⟩
  clear hb hb2 hV
  simp only [Act.put, List.setIfInBounds_toArray, List.set_cons_zero, List.set_cons_succ]
  clear Z9_31
  refine wpF_call 33 Try.func33 (by kernel_rfl) (by kernel_rfl) _ _ #[.slice A10 3 c10] rfl (by kernel_rfl) (by kernel_rfl) HS31.out (fun V33 hV => ?_)
  refine (polyInterp_any A10 3 c10 [ndZ (1), ndZ (2), ndZ (5)] _ (L10_32.out.keep hV) (by omega)).mono ?_
  rw [san_interp]
  rintro e W33 ⟨A11, m11, c11, rfl, hm11, hs, hb⟩
  have hb2 := ext_trans hV hb
  have q33 := Lib.hid (q31.out.keep hb2)
  clear q31
  have r33 := Lib.hid (r31.out.keep hb2)
  clear r31
  have L10_33 := Lib.hid (L10_32.out.keep hb2)
  clear L10_32
  have HB33 := Lib.hid (below_step HB31.out hb2)
  clear HB31
  have HS33 := Lib.hid (HS31.out.ext hb2)
  clear HS31
  have L11_34 := Lib.hid hs
  clear hs
  refine ⟨_, rfl, hb, ?_⟩
  clear hb hb2 hV
  simp only [Act.put, List.setIfInBounds_toArray, List.set_cons_zero, List.set_cons_succ]
  clear L10_33
  refine wpF_ints3 1 0 1 rfl (by kernel_rfl) (fun b35 V35 hb hg => ?_)
  have q35 := Lib.hid (q33.out.keep hb)
  clear q33
  have r35 := Lib.hid (r33.out.keep hb)
  clear r33
  have L11_35 := Lib.hid (L11_34.out.keep hb)
  clear L11_34
  have HB35 := Lib.hid (below_step HB33.out hb)
  clear HB33
  have HS35 := Lib.hid (HS33.out.ext hb)
  clear HS33
  clear hb
  have Z12_36 := Lib.hid hg
  clear hg
  simp only [Act.put, List.setIfInBounds_toArray, List.set_cons_zero, List.set_cons_succ]
  refine wpF_call 44 Try.func44 (by kernel_rfl) (by kernel_rfl) _ _ #[.slice (some ⟨b35, 0, none⟩) 3 3] rfl (by kernel_rfl) (by kernel_rfl) HS35.out (fun V37 hV => ?_)
  refine (ints_any (some ⟨b35, 0, none⟩) 3 3 [1, 0, 1] _ (Z12_36.out.keep hV) (by intro z hz'; simp at hz'; omega) (by omega)).mono ?_
  rintro e W37 ⟨A13, c13, rfl, hs, hb⟩
  have hb2 := ext_trans hV hb
  have q37 := Lib.hid (q35.out.keep hb2)
  clear q35
  have r37 := Lib.hid (r35.out.keep hb2)
  clear r35
  have L11_37 := Lib.hid (L11_35.out.keep hb2)
  clear L11_35
  have Z12_37 := Lib.hid (Z12_36.out.keep hb2)
  clear Z12_36
  have HB37 := Lib.hid (below_step HB35.out hb2)
  clear HB35
  have HS37 := Lib.hid (HS35.out.ext hb2)
  clear HS35
  have L13_38 := Lib.hid hs
  clear hs
  refine ⟨_, rfl, hb, ?_⟩
  clear hb hb2 hV
  simp only [Act.put, List.setIfInBounds_toArray, List.set_cons_zero, List.set_cons_succ]
  clear Z12_37
  refine wpF_call 14 Try.func14 (by kernel_rfl) (by kernel_rfl) _ _ #[.slice A11 m11 c11, .slice A13 3 c13] rfl (by kernel_rfl) (by kernel_rfl) HS37.out (fun V39 hV => ?_)
  refine (same_yes A11 m11 c11 A13 3 c13 [ndZ (1), ndZ (0), ndZ (1)] _ (L11_37.out.keep hV) (L13_38.out.keep hV)).mono ?_
  rintro e W39 ⟨rfl, hb⟩
  have hb2 := ext_trans hV hb
  have q39 := Lib.hid (q37.out.keep hb2)
  clear q37
  have r39 := Lib.hid (r37.out.keep hb2)
  clear r37
  have L11_39 := Lib.hid (L11_37.out.keep hb2)
  clear L11_37
  have L13_39 := Lib.hid (L13_38.out.keep hb2)
  clear L13_38
  have HB39 := Lib.hid (below_step HB37.out hb2)
  clear HB37
  have HS39 := Lib.hid (HS37.out.ext hb2)
  clear HS37
  refine ⟨_, rfl, hb, ?_⟩
  clear hb hb2 hV
  simp only [Act.put, List.setIfInBounds_toArray, List.set_cons_zero, List.set_cons_succ]
  clear L11_39
  clear L13_39
  refine wpF_seg 3 (by kernel_rfl) ?_
  simp only [List.take_succ_cons, List.take_zero, List.drop_succ_cons, List.drop_zero]
  repeat (go_big_quiet_step (fail))
  refine wpQuiet_nil ?_
  refine wpF_ints2 2 1 rfl (by kernel_rfl) (fun b40 V40 hb hg => ?_)
  have q40 := Lib.hid (q39.out.keep hb)
  clear q39
  have r40 := Lib.hid (r39.out.keep hb)
  clear r39
  have HB40 := Lib.hid (below_step HB39.out hb)
  clear HB39
  have HS40 := Lib.hid (HS39.out.ext hb)
  clear HS39
  clear hb
  have Z15_41 := Lib.hid hg
  clear hg
  simp only [Act.put, List.setIfInBounds_toArray, List.set_cons_zero, List.set_cons_succ]
  refine wpF_call 44 Try.func44 (by kernel_rfl) (by kernel_rfl) _ _ #[.slice (some ⟨b40, 0, none⟩) 2 2] rfl (by kernel_rfl) (by kernel_rfl) HS40.out (fun V42 hV => ?_)
  refine (ints_any (some ⟨b40, 0, none⟩) 2 2 [2, 1] _ (Z15_41.out.keep hV) (by intro z hz'; simp at hz'; omega) (by omega)).mono ?_
  rintro e W42 ⟨A16, c16, rfl, hs, hb⟩
  have hb2 := ext_trans hV hb
  have q42 := Lib.hid (q40.out.keep hb2)
  clear q40
  have r42 := Lib.hid (r40.out.keep hb2)
  clear r40
  have Z15_42 := Lib.hid (Z15_41.out.keep hb2)
  clear Z15_41
  have HB42 := Lib.hid (below_step HB40.out hb2)
  clear HB40
  have HS42 := Lib.hid (HS40.out.ext hb2)
  clear HS40
  have L16_43 := Lib.hid hs
  clear hs
  refine ⟨_, rfl, hb, ?_⟩
  clear hb hb2 hV
  simp only [Act.put, List.setIfInBounds_toArray, List.set_cons_zero, List.set_cons_succ]
  clear Z15_42
  refine wpF_call 14 Try.func14 (by kernel_rfl) (by kernel_rfl) _ _ #[.slice Aq mq cq, .slice A16 2 c16] rfl (by kernel_rfl) (by kernel_rfl) HS42.out (fun V44 hV => ?_)
  refine (same_yes Aq mq cq A16 2 c16 [ndZ (2), ndZ (1)] _ (q42.out.keep hV) (L16_43.out.keep hV)).mono ?_
  rintro e W44 ⟨rfl, hb⟩
  have hb2 := ext_trans hV hb
  have q44 := Lib.hid (q42.out.keep hb2)
  clear q42
  have r44 := Lib.hid (r42.out.keep hb2)
  clear r42
  have L16_44 := Lib.hid (L16_43.out.keep hb2)
  clear L16_43
  have HB44 := Lib.hid (below_step HB42.out hb2)
  clear HB42
  have HS44 := Lib.hid (HS42.out.ext hb2)
  clear HS42
  refine ⟨_, rfl, hb, ?_⟩
  clear hb hb2 hV
  simp only [Act.put, List.setIfInBounds_toArray, List.set_cons_zero, List.set_cons_succ]
  clear q44
  clear L16_44
  refine wpF_seg 3 (by kernel_rfl) ?_
  simp only [List.take_succ_cons, List.take_zero, List.drop_succ_cons, List.drop_zero]
  repeat (go_big_quiet_step (fail))
  refine wpQuiet_nil ?_
  refine wpF_call 40 Try.func40 (by kernel_rfl) (by kernel_rfl) _ _ #[.int .i64 (3)] rfl (by kernel_rfl) (by kernel_rfl) HS44.out (fun V45 hV => ?_)
  refine (rFromNd_any (3) _ (by omega) (by omega)).mono ?_
  rintro e W45 ⟨rfl, hb⟩
  have hb2 := ext_trans hV hb
  have r45 := Lib.hid (r44.out.keep hb2)
  clear r44
  have HB45 := Lib.hid (below_step HB44.out hb2)
  clear HB44
  have HS45 := Lib.hid (HS44.out.ext hb2)
  clear HS44
  refine ⟨_, rfl, hb, ?_⟩
  clear hb hb2 hV
  simp only [Act.put, List.setIfInBounds_toArray, List.set_cons_zero, List.set_cons_succ]
  have hq53 := run_eqE_same ((ndZ (3)))
  refine wpF_seg 21 (by kernel_rfl) ?_
  simp only [List.take_succ_cons, List.take_zero, List.drop_succ_cons, List.drop_zero]
  repeat (go_big_quiet_step (fail))
  refine wpQuiet_nil ?_
  refine wpF_call 17 Try.func17 (by kernel_rfl) (by kernel_rfl) _ _ #[.slice none 0 0] rfl (by kernel_rfl) (by kernel_rfl) HS45.out (fun V46 hV => ?_)
  refine (degree_any none 0 0 [] _ (Sl.nil _)).mono ?_
  rw [san_none]
  rintro e W46 ⟨rfl, hb⟩
  have hb2 := ext_trans hV hb
  have r46 := Lib.hid (r45.out.keep hb2)
  clear r45
  have HB46 := Lib.hid (below_step HB45.out hb2)
  clear HB45
  have HS46 := Lib.hid (HS45.out.ext hb2)
  clear HS45
  refine ⟨_, rfl, hb, ?_⟩
  clear hb hb2 hV
  simp only [Act.put, List.setIfInBounds_toArray, List.set_cons_zero, List.set_cons_succ]
  clear r46
  refine wpF_seg 3 (by kernel_rfl) ?_
  simp only [List.take_succ_cons, List.take_zero, List.drop_succ_cons, List.drop_zero]
  repeat (go_big_quiet_step (fail))
  refine wpQuiet_nil ?_
  refine wpF_ints4 4 0 7 0 rfl (by kernel_rfl) (fun b47 V47 hb hg => ?_)
  have HB47 := Lib.hid (below_step HB46.out hb)
  clear HB46
  have HS47 := Lib.hid (HS46.out.ext hb)
  clear HS46
  clear hb
  have Z20_48 := Lib.hid hg
  clear hg
  simp only [Act.put, List.setIfInBounds_toArray, List.set_cons_zero, List.set_cons_succ]
  refine wpF_call 44 Try.func44 (by kernel_rfl) (by kernel_rfl) _ _ #[.slice (some ⟨b47, 0, none⟩) 4 4] rfl (by kernel_rfl) (by kernel_rfl) HS47.out (fun V49 hV => ?_)
  refine (ints_any (some ⟨b47, 0, none⟩) 4 4 [4, 0, 7, 0] _ (Z20_48.out.keep hV) (by intro z hz'; simp at hz'; omega) (by omega)).mono ?_
  rintro e W49 ⟨A21, c21, rfl, hs, hb⟩
  have hb2 := ext_trans hV hb
  have Z20_49 := Lib.hid (Z20_48.out.keep hb2)
  clear Z20_48
  have HB49 := Lib.hid (below_step HB47.out hb2)
  clear HB47
  have HS49 := Lib.hid (HS47.out.ext hb2)
  clear HS47
  have L21_50 := Lib.hid hs
  clear hs
  refine ⟨_, rfl, hb, ?_⟩
  clear hb hb2 hV
  simp only [Act.put, List.setIfInBounds_toArray, List.set_cons_zero, List.set_cons_succ]
  clear Z20_49
  refine wpF_call 17 Try.func17 (by kernel_rfl) (by kernel_rfl) _ _ #[.slice A21 4 c21] rfl (by kernel_rfl) (by kernel_rfl) HS49.out (fun V51 hV => ?_)
  refine (degree_any A21 4 c21 [ndZ (4), ndZ (0), ndZ (7), ndZ (0)] _ (L21_50.out.keep hV)).mono ?_
  rw [san_degree]
  rintro e W51 ⟨rfl, hb⟩
  have hb2 := ext_trans hV hb
  have L21_51 := Lib.hid (L21_50.out.keep hb2)
  clear L21_50
  have HB51 := Lib.hid (below_step HB49.out hb2)
  clear HB49
  have HS51 := Lib.hid (HS49.out.ext hb2)
  clear HS49
  refine ⟨_, rfl, hb, ?_⟩
  clear hb hb2 hV
  simp only [Act.put, List.setIfInBounds_toArray, List.set_cons_zero, List.set_cons_succ]
  clear L21_51
  refine wpF_seg 3 (by kernel_rfl) ?_
  simp only [List.take_succ_cons, List.take_zero, List.drop_succ_cons, List.drop_zero]
  repeat (go_big_quiet_step (fail))
  refine wpQuiet_nil ?_
  refine wpF_ints3 4 0 0 rfl (by kernel_rfl) (fun b52 V52 hb hg => ?_)
  have HB52 := Lib.hid (below_step HB51.out hb)
  clear HB51
  have HS52 := Lib.hid (HS51.out.ext hb)
  clear HS51
  clear hb
  have Z23_53 := Lib.hid hg
  clear hg
  simp only [Act.put, List.setIfInBounds_toArray, List.set_cons_zero, List.set_cons_succ]
  refine wpF_call 44 Try.func44 (by kernel_rfl) (by kernel_rfl) _ _ #[.slice (some ⟨b52, 0, none⟩) 3 3] rfl (by kernel_rfl) (by kernel_rfl) HS52.out (fun V54 hV => ?_)
  refine (ints_any (some ⟨b52, 0, none⟩) 3 3 [4, 0, 0] _ (Z23_53.out.keep hV) (by intro z hz'; simp at hz'; omega) (by omega)).mono ?_
  rintro e W54 ⟨A24, c24, rfl, hs, hb⟩
  have hb2 := ext_trans hV hb
  have Z23_54 := Lib.hid (Z23_53.out.keep hb2)
  clear Z23_53
  have HB54 := Lib.hid (below_step HB52.out hb2)
  clear HB52
  have HS54 := Lib.hid (HS52.out.ext hb2)
  clear HS52
  have L24_55 := Lib.hid hs
  clear hs
  refine ⟨_, rfl, hb, ?_⟩
  clear hb hb2 hV
  simp only [Act.put, List.setIfInBounds_toArray, List.set_cons_zero, List.set_cons_succ]
  clear Z23_54
  refine wpF_call 15 Try.func15 (by kernel_rfl) (by kernel_rfl) _ _ #[.slice A24 3 c24] rfl (by kernel_rfl) (by kernel_rfl) HS54.out (fun V56 hV => ?_)
  refine (polyTrim_any A24 3 c24 [ndZ (4), ndZ (0), ndZ (0)] _ (L24_55.out.keep hV) (by omega)).mono ?_
  rw [san_trim]
  rintro e W56 ⟨A25, m25, c25, rfl, hm25, hs, hb⟩
  have hb2 := ext_trans hV hb
  have L24_56 := Lib.hid (L24_55.out.keep hb2)
  clear L24_55
  have HB56 := Lib.hid (below_step HB54.out hb2)
  clear HB54
  have HS56 := Lib.hid (HS54.out.ext hb2)
  clear HS54
  have L25_57 := Lib.hid hs
  clear hs
  refine ⟨_, rfl, hb, ?_⟩
  clear hb hb2 hV
  simp only [Act.put, List.setIfInBounds_toArray, List.set_cons_zero, List.set_cons_succ]
  clear L24_56
  refine wpF_ints1 4 rfl (by kernel_rfl) (fun b58 V58 hb hg => ?_)
  have L25_58 := Lib.hid (L25_57.out.keep hb)
  clear L25_57
  have HB58 := Lib.hid (below_step HB56.out hb)
  clear HB56
  have HS58 := Lib.hid (HS56.out.ext hb)
  clear HS56
  clear hb
  have Z26_59 := Lib.hid hg
  clear hg
  simp only [Act.put, List.setIfInBounds_toArray, List.set_cons_zero, List.set_cons_succ]
  refine wpF_call 44 Try.func44 (by kernel_rfl) (by kernel_rfl) _ _ #[.slice (some ⟨b58, 0, none⟩) 1 1] rfl (by kernel_rfl) (by kernel_rfl) HS58.out (fun V60 hV => ?_)
  refine (ints_any (some ⟨b58, 0, none⟩) 1 1 [4] _ (Z26_59.out.keep hV) (by intro z hz'; simp at hz'; omega) (by omega)).mono ?_
  rintro e W60 ⟨A27, c27, rfl, hs, hb⟩
  have hb2 := ext_trans hV hb
  have L25_60 := Lib.hid (L25_58.out.keep hb2)
  clear L25_58
  have Z26_60 := Lib.hid (Z26_59.out.keep hb2)
  clear Z26_59
  have HB60 := Lib.hid (below_step HB58.out hb2)
  clear HB58
  have HS60 := Lib.hid (HS58.out.ext hb2)
  clear HS58
  have L27_61 := Lib.hid hs
  clear hs
  refine ⟨_, rfl, hb, ?_⟩
  clear hb hb2 hV
  simp only [Act.put, List.setIfInBounds_toArray, List.set_cons_zero, List.set_cons_succ]
  clear Z26_60
  refine wpF_call 14 Try.func14 (by kernel_rfl) (by kernel_rfl) _ _ #[.slice A25 m25 c25, .slice A27 1 c27] rfl (by kernel_rfl) (by kernel_rfl) HS60.out (fun V62 hV => ?_)
  refine (same_yes A25 m25 c25 A27 1 c27 [ndZ (4)] _ (L25_60.out.keep hV) (L27_61.out.keep hV)).mono ?_
  rintro e W62 ⟨rfl, hb⟩
  have hb2 := ext_trans hV hb
  have L25_62 := Lib.hid (L25_60.out.keep hb2)
  clear L25_60
  have L27_62 := Lib.hid (L27_61.out.keep hb2)
  clear L27_61
  have HB62 := Lib.hid (below_step HB60.out hb2)
  clear HB60
  have HS62 := Lib.hid (HS60.out.ext hb2)
  clear HS60
  refine ⟨_, rfl, hb, ?_⟩
  clear hb hb2 hV
  simp only [Act.put, List.setIfInBounds_toArray, List.set_cons_zero, List.set_cons_succ]
  clear L25_62
  clear L27_62
  refine wpF_seg 2 (by kernel_rfl) ?_
  simp only [List.take_succ_cons, List.take_zero, List.drop_succ_cons, List.drop_zero]
  repeat (go_big_quiet_step (fail))
  refine wpQuiet_nil ?_
  refine wpF_ints3 1 2 3 rfl (by kernel_rfl) (fun b63 V63 hb hg => ?_)
  have HB63 := Lib.hid (below_step HB62.out hb)
  clear HB62
  have HS63 := Lib.hid (HS62.out.ext hb)
  clear HS62
  clear hb
  have Z29_64 := Lib.hid hg
  clear hg
  simp only [Act.put, List.setIfInBounds_toArray, List.set_cons_zero, List.set_cons_succ]
  refine wpF_call 44 Try.func44 (by kernel_rfl) (by kernel_rfl) _ _ #[.slice (some ⟨b63, 0, none⟩) 3 3] rfl (by kernel_rfl) (by kernel_rfl) HS63.out (fun V65 hV => ?_)
  refine (ints_any (some ⟨b63, 0, none⟩) 3 3 [1, 2, 3] _ (Z29_64.out.keep hV) (by intro z hz'; simp at hz'; omega) (by omega)).mono ?_
  rintro e W65 ⟨A30, c30, rfl, hs, hb⟩
  have hb2 := ext_trans hV hb
  have Z29_65 := Lib.hid (Z29_64.out.keep hb2)
  clear Z29_64
  have HB65 := Lib.hid (below_step HB63.out hb2)
  clear HB63
  have HS65 := Lib.hid (HS63.out.ext hb2)
  clear HS63
  have L30_66 := Lib.hid hs
  clear hs
  refine ⟨_, rfl, hb, ?_⟩
  clear hb hb2 hV
  simp only [Act.put, List.setIfInBounds_toArray, List.set_cons_zero, List.set_cons_succ]
  clear Z29_65
  refine wpF_call 40 Try.func40 (by kernel_rfl) (by kernel_rfl) _ _ #[.int .i64 (10)] rfl (by kernel_rfl) (by kernel_rfl) HS65.out (fun V67 hV => ?_)
  refine (rFromNd_any (10) _ (by omega) (by omega)).mono ?_
  rintro e W67 ⟨rfl, hb⟩
  have hb2 := ext_trans hV hb
  have L30_67 := Lib.hid (L30_66.out.keep hb2)
  clear L30_66
  have HB67 := Lib.hid (below_step HB65.out hb2)
  clear HB65
  have HS67 := Lib.hid (HS65.out.ext hb2)
  clear HS65
  refine ⟨_, rfl, hb, ?_⟩
  clear hb hb2 hV
  simp only [Act.put, List.setIfInBounds_toArray, List.set_cons_zero, List.set_cons_succ]
  refine wpF_call 27 Try.func27 (by kernel_rfl) (by kernel_rfl) _ _ #[.slice A30 3 c30, .agg #[.int .u64 (vF ((ndZ (10))).A), .int .u64 (vF ((ndZ (10))).B)]] rfl (by kernel_rfl) (by kernel_rfl) HS67.out (fun V68 hV => ?_)
  refine (polyEval_any A30 3 c30 [ndZ (1), ndZ (2), ndZ (3)] (ndZ (10)) _ (L30_67.out.keep hV)).mono ?_
  rw [san_eval]
  rintro e W68 ⟨rfl, hb⟩
  have hb2 := ext_trans hV hb
  have L30_68 := Lib.hid (L30_67.out.keep hb2)
  clear L30_67
  have HB68 := Lib.hid (below_step HB67.out hb2)
  clear HB67
  have HS68 := Lib.hid (HS67.out.ext hb2)
  clear HS67
  refine ⟨_, rfl, hb, ?_⟩
  clear hb hb2 hV
  simp only [Act.put, List.setIfInBounds_toArray, List.set_cons_zero, List.set_cons_succ]
  clear L30_68
  refine wpF_call 40 Try.func40 (by kernel_rfl) (by kernel_rfl) _ _ #[.int .i64 (321)] rfl (by kernel_rfl) (by kernel_rfl) HS68.out (fun V69 hV => ?_)
  refine (rFromNd_any (321) _ (by omega) (by omega)).mono ?_
  rintro e W69 ⟨rfl, hb⟩
  have hb2 := ext_trans hV hb
  have HB69 := Lib.hid (below_step HB68.out hb2)
  clear HB68
  have HS69 := Lib.hid (HS68.out.ext hb2)
  clear HS68
  refine ⟨_, rfl, hb, ?_⟩
  clear hb hb2 hV
  simp only [Act.put, List.setIfInBounds_toArray, List.set_cons_zero, List.set_cons_succ]
  have hq97 := run_eqE_same ((ndZ (321)))
  refine wpF_seg 3 (by kernel_rfl) ?_
  simp only [List.take_succ_cons, List.take_zero, List.drop_succ_cons, List.drop_zero]
  repeat (go_big_quiet_step (fail))
  refine wpQuiet_nil ?_
  refine wpF_ints3 0 1 4 rfl (by kernel_rfl) (fun b70 V70 hb hg => ?_)
  have HB70 := Lib.hid (below_step HB69.out hb)
  clear HB69
  have HS70 := Lib.hid (HS69.out.ext hb)
  clear HS69
  clear hb
  have Z34_71 := Lib.hid hg
  clear hg
  simp only [Act.put, List.setIfInBounds_toArray, List.set_cons_zero, List.set_cons_succ]
  refine wpF_call 44 Try.func44 (by kernel_rfl) (by kernel_rfl) _ _ #[.slice (some ⟨b70, 0, none⟩) 3 3] rfl (by kernel_rfl) (by kernel_rfl) HS70.out (fun V72 hV => ?_)
  refine (ints_any (some ⟨b70, 0, none⟩) 3 3 [0, 1, 4] _ (Z34_71.out.keep hV) (by intro z hz'; simp at hz'; omega) (by omega)).mono ?_
  rintro e W72 ⟨A35, c35, rfl, hs, hb⟩
  have hb2 := ext_trans hV hb
  have Z34_72 := Lib.hid (Z34_71.out.keep hb2)
  clear Z34_71
  have HB72 := Lib.hid (below_step HB70.out hb2)
  clear HB70
  have HS72 := Lib.hid (HS70.out.ext hb2)
  clear HS70
  have L35_73 := Lib.hid hs
  clear hs
  refine ⟨_, rfl, hb, ?_⟩
  clear hb hb2 hV
  simp only [Act.put, List.setIfInBounds_toArray, List.set_cons_zero, List.set_cons_succ]
  clear Z34_72
  refine wpF_call 40 Try.func40 (by kernel_rfl) (by kernel_rfl) _ _ #[.int .i64 (-3)] rfl (by kernel_rfl) (by kernel_rfl) HS72.out (fun V74 hV => ?_)
  refine (rFromNd_any (-3) _ (by omega) (by omega)).mono ?_
  rintro e W74 ⟨rfl, hb⟩
  have hb2 := ext_trans hV hb
  have L35_74 := Lib.hid (L35_73.out.keep hb2)
  clear L35_73
  have HB74 := Lib.hid (below_step HB72.out hb2)
  clear HB72
  have HS74 := Lib.hid (HS72.out.ext hb2)
  clear HS72
  refine ⟨_, rfl, hb, ?_⟩
  clear hb hb2 hV
  simp only [Act.put, List.setIfInBounds_toArray, List.set_cons_zero, List.set_cons_succ]
  refine wpF_call 35 Try.func35 (by kernel_rfl) (by kernel_rfl) _ _ #[.slice A35 3 c35, .agg #[.int .u64 (vF ((ndZ (-3))).A), .int .u64 (vF ((ndZ (-3))).B)]] rfl (by kernel_rfl) (by kernel_rfl) HS74.out (fun V75 hV => ?_)
  refine (polyAt_any A35 3 c35 [ndZ (0), ndZ (1), ndZ (4)] (ndZ (-3)) _ (L35_74.out.keep hV) (by omega)).mono ?_
  rw [san_at]
  rintro e W75 ⟨rfl, hb⟩
  have hb2 := ext_trans hV hb
  have L35_75 := Lib.hid (L35_74.out.keep hb2)
  clear L35_74
  have HB75 := Lib.hid (below_step HB74.out hb2)
  clear HB74
  have HS75 := Lib.hid (HS74.out.ext hb2)
  clear HS74
  refine ⟨_, rfl, hb, ?_⟩
  clear hb hb2 hV
  simp only [Act.put, List.setIfInBounds_toArray, List.set_cons_zero, List.set_cons_succ]
  clear L35_75
  refine wpF_call 40 Try.func40 (by kernel_rfl) (by kernel_rfl) _ _ #[.int .i64 (9)] rfl (by kernel_rfl) (by kernel_rfl) HS75.out (fun V76 hV => ?_)
  refine (rFromNd_any (9) _ (by omega) (by omega)).mono ?_
  rintro e W76 ⟨rfl, hb⟩
  have hb2 := ext_trans hV hb
  have HB76 := Lib.hid (below_step HB75.out hb2)
  clear HB75
  have HS76 := Lib.hid (HS75.out.ext hb2)
  clear HS75
  refine ⟨_, rfl, hb, ?_⟩
  clear hb hb2 hV
  simp only [Act.put, List.setIfInBounds_toArray, List.set_cons_zero, List.set_cons_succ]
  have hq105 := run_eqE_same ((ndZ (9)))
  refine wpF_seg 3 (by kernel_rfl) ?_
  simp only [List.take_succ_cons, List.take_zero, List.drop_succ_cons, List.drop_zero]
  repeat (go_big_quiet_step (fail))
  refine wpQuiet_nil ?_
  refine wpF_ints2 1 2 rfl (by kernel_rfl) (fun b77 V77 hb hg => ?_)
  have HB77 := Lib.hid (below_step HB76.out hb)
  clear HB76
  have HS77 := Lib.hid (HS76.out.ext hb)
  clear HS76
  clear hb
  have Z39_78 := Lib.hid hg
  clear hg
  simp only [Act.put, List.setIfInBounds_toArray, List.set_cons_zero, List.set_cons_succ]
  refine wpF_call 44 Try.func44 (by kernel_rfl) (by kernel_rfl) _ _ #[.slice (some ⟨b77, 0, none⟩) 2 2] rfl (by kernel_rfl) (by kernel_rfl) HS77.out (fun V79 hV => ?_)
  refine (ints_any (some ⟨b77, 0, none⟩) 2 2 [1, 2] _ (Z39_78.out.keep hV) (by intro z hz'; simp at hz'; omega) (by omega)).mono ?_
  rintro e W79 ⟨A40, c40, rfl, hs, hb⟩
  have hb2 := ext_trans hV hb
  have Z39_79 := Lib.hid (Z39_78.out.keep hb2)
  clear Z39_78
  have HB79 := Lib.hid (below_step HB77.out hb2)
  clear HB77
  have HS79 := Lib.hid (HS77.out.ext hb2)
  clear HS77
  have L40_80 := Lib.hid hs
  clear hs
  refine ⟨_, rfl, hb, ?_⟩
  clear hb hb2 hV
  simp only [Act.put, List.setIfInBounds_toArray, List.set_cons_zero, List.set_cons_succ]
  clear Z39_79
  refine wpF_ints2 1 2 rfl (by kernel_rfl) (fun b81 V81 hb hg => ?_)
  have L40_81 := Lib.hid (L40_80.out.keep hb)
  clear L40_80
  have HB81 := Lib.hid (below_step HB79.out hb)
  clear HB79
  have HS81 := Lib.hid (HS79.out.ext hb)
  clear HS79
  clear hb
  have Z41_82 := Lib.hid hg
  clear hg
  simp only [Act.put, List.setIfInBounds_toArray, List.set_cons_zero, List.set_cons_succ]
  refine wpF_call 44 Try.func44 (by kernel_rfl) (by kernel_rfl) _ _ #[.slice (some ⟨b81, 0, none⟩) 2 2] rfl (by kernel_rfl) (by kernel_rfl) HS81.out (fun V83 hV => ?_)
  refine (ints_any (some ⟨b81, 0, none⟩) 2 2 [1, 2] _ (Z41_82.out.keep hV) (by intro z hz'; simp at hz'; omega) (by omega)).mono ?_
  rintro e W83 ⟨A42, c42, rfl, hs, hb⟩
  have hb2 := ext_trans hV hb
  have L40_83 := Lib.hid (L40_81.out.keep hb2)
  clear L40_81
  have Z41_83 := Lib.hid (Z41_82.out.keep hb2)
  clear Z41_82
  have HB83 := Lib.hid (below_step HB81.out hb2)
  clear HB81
  have HS83 := Lib.hid (HS81.out.ext hb2)
  clear HS81
  have L42_84 := Lib.hid hs
  clear hs
  refine ⟨_, rfl, hb, ?_⟩
  clear hb hb2 hV
  simp only [Act.put, List.setIfInBounds_toArray, List.set_cons_zero, List.set_cons_succ]
  clear Z41_83
  refine wpF_call 21 Try.func21 (by kernel_rfl) (by kernel_rfl) _ _ #[.slice A40 2 c40, .slice A42 2 c42] rfl (by kernel_rfl) (by kernel_rfl) HS83.out (fun V85 hV => ?_)
  refine (polySub_any A40 2 c40 [ndZ (1), ndZ (2)] A42 2 c42 [ndZ (1), ndZ (2)] _ (L40_83.out.keep hV) (L42_84.out.keep hV) (by omega) (by omega)).mono ?_
  rw [san_sub]
  rintro e W85 ⟨A43, m43, c43, rfl, hm43, hs, hb⟩
  have hb2 := ext_trans hV hb
  have L40_85 := Lib.hid (L40_83.out.keep hb2)
  clear L40_83
  have L42_85 := Lib.hid (L42_84.out.keep hb2)
  clear L42_84
  have HB85 := Lib.hid (below_step HB83.out hb2)
  clear HB83
  have HS85 := Lib.hid (HS83.out.ext hb2)
  clear HS83
  have L43_86 := Lib.hid hs
  clear hs
  refine ⟨_, rfl, hb, ?_⟩
  clear hb hb2 hV
  simp only [Act.put, List.setIfInBounds_toArray, List.set_cons_zero, List.set_cons_succ]
  obtain rfl : m43 = 0 := L43_86.out.len
  clear L40_85
  clear L42_85
  refine wpF_len A43 0 c43 rfl rfl (fun W => by go_simp) (by kernel_rfl) HS85.out (fun V87 hb => ?_)
  have L43_87 := Lib.hid (L43_86.out.keep hb)
  clear L43_86
  have HB87 := Lib.hid (below_step HB85.out hb)
  clear HB85
  have HS87 := Lib.hid (HS85.out.ext hb)
  clear HS85
  clear hb
  simp only [Act.put, List.setIfInBounds_toArray, List.set_cons_zero, List.set_cons_succ]
  clear L43_87
  refine wpF_seg 3 (by kernel_rfl) ?_
  simp only [List.take_succ_cons, List.take_zero, List.drop_succ_cons, List.drop_zero]
  repeat (go_big_quiet_step (fail))
  refine wpQuiet_nil ?_
  refine wpF_ints2 1 2 rfl (by kernel_rfl) (fun b88 V88 hb hg => ?_)
  have HB88 := Lib.hid (below_step HB87.out hb)
  clear HB87
  have HS88 := Lib.hid (HS87.out.ext hb)
  clear HS87
  clear hb
  have Z44_89 := Lib.hid hg
  clear hg
  simp only [Act.put, List.setIfInBounds_toArray, List.set_cons_zero, List.set_cons_succ]
  refine wpF_call 44 Try.func44 (by kernel_rfl) (by kernel_rfl) _ _ #[.slice (some ⟨b88, 0, none⟩) 2 2] rfl (by kernel_rfl) (by kernel_rfl) HS88.out (fun V90 hV => ?_)
  refine (ints_any (some ⟨b88, 0, none⟩) 2 2 [1, 2] _ (Z44_89.out.keep hV) (by intro z hz'; simp at hz'; omega) (by omega)).mono ?_
  rintro e W90 ⟨A45, c45, rfl, hs, hb⟩
  have hb2 := ext_trans hV hb
  have Z44_90 := Lib.hid (Z44_89.out.keep hb2)
  clear Z44_89
  have HB90 := Lib.hid (below_step HB88.out hb2)
  clear HB88
  have HS90 := Lib.hid (HS88.out.ext hb2)
  clear HS88
  have L45_91 := Lib.hid hs
  clear hs
  refine ⟨_, rfl, hb, ?_⟩
  clear hb hb2 hV
  simp only [Act.put, List.setIfInBounds_toArray, List.set_cons_zero, List.set_cons_succ]
  clear Z44_90
  refine wpF_ints1 1 rfl (by kernel_rfl) (fun b92 V92 hb hg => ?_)
  have L45_92 := Lib.hid (L45_91.out.keep hb)
  clear L45_91
  have HB92 := Lib.hid (below_step HB90.out hb)
  clear HB90
  have HS92 := Lib.hid (HS90.out.ext hb)
  clear HS90
  clear hb
  have Z46_93 := Lib.hid hg
  clear hg
  simp only [Act.put, List.setIfInBounds_toArray, List.set_cons_zero, List.set_cons_succ]
  refine wpF_call 44 Try.func44 (by kernel_rfl) (by kernel_rfl) _ _ #[.slice (some ⟨b92, 0, none⟩) 1 1] rfl (by kernel_rfl) (by kernel_rfl) HS92.out (fun V94 hV => ?_)
  refine (ints_any (some ⟨b92, 0, none⟩) 1 1 [1] _ (Z46_93.out.keep hV) (by intro z hz'; simp at hz'; omega) (by omega)).mono ?_
  rintro e W94 ⟨A47, c47, rfl, hs, hb⟩
  have hb2 := ext_trans hV hb
  have L45_94 := Lib.hid (L45_92.out.keep hb2)
  clear L45_92
  have Z46_94 := Lib.hid (Z46_93.out.keep hb2)
  clear Z46_93
  have HB94 := Lib.hid (below_step HB92.out hb2)
  clear HB92
  have HS94 := Lib.hid (HS92.out.ext hb2)
  clear HS92
  have L47_95 := Lib.hid hs
  clear hs
  refine ⟨_, rfl, hb, ?_⟩
  clear hb hb2 hV
  simp only [Act.put, List.setIfInBounds_toArray, List.set_cons_zero, List.set_cons_succ]
  clear Z46_94
  refine wpF_call 19 Try.func19 (by kernel_rfl) (by kernel_rfl) _ _ #[.slice A45 2 c45, .slice A47 1 c47] rfl (by kernel_rfl) (by kernel_rfl) HS94.out (fun V96 hV => ?_)
  refine (polyAdd_any A45 2 c45 [ndZ (1), ndZ (2)] A47 1 c47 [ndZ (1)] _ (L45_94.out.keep hV) (L47_95.out.keep hV) (by omega) (by omega)).mono ?_
  rw [san_add]
  rintro e W96 ⟨A48, m48, c48, rfl, hm48, hs, hb⟩
  have hb2 := ext_trans hV hb
  have L45_96 := Lib.hid (L45_94.out.keep hb2)
  clear L45_94
  have L47_96 := Lib.hid (L47_95.out.keep hb2)
  clear L47_95
  have HB96 := Lib.hid (below_step HB94.out hb2)
  clear HB94
  have HS96 := Lib.hid (HS94.out.ext hb2)
  clear HS94
  have L48_97 := Lib.hid hs
  clear hs
  refine ⟨_, rfl, hb, ?_⟩
  clear hb hb2 hV
  simp only [Act.put, List.setIfInBounds_toArray, List.set_cons_zero, List.set_cons_succ]
  clear L45_96
  clear L47_96
  refine wpF_ints2 2 2 rfl (by kernel_rfl) (fun b98 V98 hb hg => ?_)
  have L48_98 := Lib.hid (L48_97.out.keep hb)
  clear L48_97
  have HB98 := Lib.hid (below_step HB96.out hb)
  clear HB96
  have HS98 := Lib.hid (HS96.out.ext hb)
  clear HS96
  clear hb
  have Z49_99 := Lib.hid hg
  clear hg
  simp only [Act.put, List.setIfInBounds_toArray, List.set_cons_zero, List.set_cons_succ]
  refine wpF_call 44 Try.func44 (by kernel_rfl) (by kernel_rfl) _ _ #[.slice (some ⟨b98, 0, none⟩) 2 2] rfl (by kernel_rfl) (by kernel_rfl) HS98.out (fun V100 hV => ?_)
  refine (ints_any (some ⟨b98, 0, none⟩) 2 2 [2, 2] _ (Z49_99.out.keep hV) (by intro z hz'; simp at hz'; omega) (by omega)).mono ?_
  rintro e W100 ⟨A50, c50, rfl, hs, hb⟩
  have hb2 := ext_trans hV hb
  have L48_100 := Lib.hid (L48_98.out.keep hb2)
  clear L48_98
  have Z49_100 := Lib.hid (Z49_99.out.keep hb2)
  clear Z49_99
  have HB100 := Lib.hid (below_step HB98.out hb2)
  clear HB98
  have HS100 := Lib.hid (HS98.out.ext hb2)
  clear HS98
  have L50_101 := Lib.hid hs
  clear hs
  refine ⟨_, rfl, hb, ?_⟩
  clear hb hb2 hV
  simp only [Act.put, List.setIfInBounds_toArray, List.set_cons_zero, List.set_cons_succ]
  clear Z49_100
  refine wpF_call 14 Try.func14 (by kernel_rfl) (by kernel_rfl) _ _ #[.slice A48 m48 c48, .slice A50 2 c50] rfl (by kernel_rfl) (by kernel_rfl) HS100.out (fun V102 hV => ?_)
  refine (same_yes A48 m48 c48 A50 2 c50 [ndZ (2), ndZ (2)] _ (L48_100.out.keep hV) (L50_101.out.keep hV)).mono ?_
  rintro e W102 ⟨rfl, hb⟩
  have hb2 := ext_trans hV hb
  have L48_102 := Lib.hid (L48_100.out.keep hb2)
  clear L48_100
  have L50_102 := Lib.hid (L50_101.out.keep hb2)
  clear L50_101
  have HB102 := Lib.hid (below_step HB100.out hb2)
  clear HB100
  have HS102 := Lib.hid (HS100.out.ext hb2)
  clear HS100
  refine ⟨_, rfl, hb, ?_⟩
  clear hb hb2 hV
  simp only [Act.put, List.setIfInBounds_toArray, List.set_cons_zero, List.set_cons_succ]
  clear L48_102
  clear L50_102
  refine wpF_seg 2 (by kernel_rfl) ?_
  simp only [List.take_succ_cons, List.take_zero, List.drop_succ_cons, List.drop_zero]
  repeat (go_big_quiet_step (fail))
  refine wpQuiet_nil ?_
  refine wpF_ints2 1 2 rfl (by kernel_rfl) (fun b103 V103 hb hg => ?_)
  have HB103 := Lib.hid (below_step HB102.out hb)
  clear HB102
  have HS103 := Lib.hid (HS102.out.ext hb)
  clear HS102
  clear hb
  have Z52_104 := Lib.hid hg
  clear hg
  simp only [Act.put, List.setIfInBounds_toArray, List.set_cons_zero, List.set_cons_succ]
  refine wpF_call 44 Try.func44 (by kernel_rfl) (by kernel_rfl) _ _ #[.slice (some ⟨b103, 0, none⟩) 2 2] rfl (by kernel_rfl) (by kernel_rfl) HS103.out (fun V105 hV => ?_)
  refine (ints_any (some ⟨b103, 0, none⟩) 2 2 [1, 2] _ (Z52_104.out.keep hV) (by intro z hz'; simp at hz'; omega) (by omega)).mono ?_
  rintro e W105 ⟨A53, c53, rfl, hs, hb⟩
  have hb2 := ext_trans hV hb
  have Z52_105 := Lib.hid (Z52_104.out.keep hb2)
  clear Z52_104
  have HB105 := Lib.hid (below_step HB103.out hb2)
  clear HB103
  have HS105 := Lib.hid (HS103.out.ext hb2)
  clear HS103
  have L53_106 := Lib.hid hs
  clear hs
  refine ⟨_, rfl, hb, ?_⟩
  clear hb hb2 hV
  simp only [Act.put, List.setIfInBounds_toArray, List.set_cons_zero, List.set_cons_succ]
  clear Z52_105
  refine wpF_call 40 Try.func40 (by kernel_rfl) (by kernel_rfl) _ _ #[.int .i64 (-2)] rfl (by kernel_rfl) (by kernel_rfl) HS105.out (fun V107 hV => ?_)
  refine (rFromNd_any (-2) _ (by omega) (by omega)).mono ?_
  rintro e W107 ⟨rfl, hb⟩
  have hb2 := ext_trans hV hb
  have L53_107 := Lib.hid (L53_106.out.keep hb2)
  clear L53_106
  have HB107 := Lib.hid (below_step HB105.out hb2)
  clear HB105
  have HS107 := Lib.hid (HS105.out.ext hb2)
  clear HS105
  refine ⟨_, rfl, hb, ?_⟩
  clear hb hb2 hV
  simp only [Act.put, List.setIfInBounds_toArray, List.set_cons_zero, List.set_cons_succ]
  refine wpF_call 25 Try.func25 (by kernel_rfl) (by kernel_rfl) _ _ #[.slice A53 2 c53, .agg #[.int .u64 (vF ((ndZ (-2))).A), .int .u64 (vF ((ndZ (-2))).B)]] rfl (by kernel_rfl) (by kernel_rfl) HS107.out (fun V108 hV => ?_)
  refine (polyScale_any A53 2 c53 [ndZ (1), ndZ (2)] (ndZ (-2)) _ (L53_107.out.keep hV) (by omega)).mono ?_
  rw [san_scale]
  rintro e W108 ⟨A55, m55, c55, rfl, hm55, hs, hb⟩
  have hb2 := ext_trans hV hb
  have L53_108 := Lib.hid (L53_107.out.keep hb2)
  clear L53_107
  have HB108 := Lib.hid (below_step HB107.out hb2)
  clear HB107
  have HS108 := Lib.hid (HS107.out.ext hb2)
  clear HS107
  have L55_109 := Lib.hid hs
  clear hs
  refine ⟨_, rfl, hb, ?_⟩
  clear hb hb2 hV
  simp only [Act.put, List.setIfInBounds_toArray, List.set_cons_zero, List.set_cons_succ]
  clear L53_108
  refine wpF_ints2 (-2) (-4) rfl (by kernel_rfl) (fun b110 V110 hb hg => ?_)
  have L55_110 := Lib.hid (L55_109.out.keep hb)
  clear L55_109
  have HB110 := Lib.hid (below_step HB108.out hb)
  clear HB108
  have HS110 := Lib.hid (HS108.out.ext hb)
  clear HS108
  clear hb
  have Z56_111 := Lib.hid hg
  clear hg
  simp only [Act.put, List.setIfInBounds_toArray, List.set_cons_zero, List.set_cons_succ]
  refine wpF_call 44 Try.func44 (by kernel_rfl) (by kernel_rfl) _ _ #[.slice (some ⟨b110, 0, none⟩) 2 2] rfl (by kernel_rfl) (by kernel_rfl) HS110.out (fun V112 hV => ?_)
  refine (ints_any (some ⟨b110, 0, none⟩) 2 2 [(-2), (-4)] _ (Z56_111.out.keep hV) (by intro z hz'; simp at hz'; omega) (by omega)).mono ?_
  rintro e W112 ⟨A57, c57, rfl, hs, hb⟩
  have hb2 := ext_trans hV hb
  have L55_112 := Lib.hid (L55_110.out.keep hb2)
  clear L55_110
  have Z56_112 := Lib.hid (Z56_111.out.keep hb2)
  clear Z56_111
  have HB112 := Lib.hid (below_step HB110.out hb2)
  clear HB110
  have HS112 := Lib.hid (HS110.out.ext hb2)
  clear HS110
  have L57_113 := Lib.hid hs
  clear hs
  refine ⟨_, rfl, hb, ?_⟩
  clear hb hb2 hV
  simp only [Act.put, List.setIfInBounds_toArray, List.set_cons_zero, List.set_cons_succ]
  clear Z56_112
  refine wpF_call 14 Try.func14 (by kernel_rfl) (by kernel_rfl) _ _ #[.slice A55 m55 c55, .slice A57 2 c57] rfl (by kernel_rfl) (by kernel_rfl) HS112.out (fun V114 hV => ?_)
  refine (same_yes A55 m55 c55 A57 2 c57 [ndZ (-2), ndZ (-4)] _ (L55_112.out.keep hV) (L57_113.out.keep hV)).mono ?_
  rintro e W114 ⟨rfl, hb⟩
  have hb2 := ext_trans hV hb
  have L55_114 := Lib.hid (L55_112.out.keep hb2)
  clear L55_112
  have L57_114 := Lib.hid (L57_113.out.keep hb2)
  clear L57_113
  have HB114 := Lib.hid (below_step HB112.out hb2)
  clear HB112
  have HS114 := Lib.hid (HS112.out.ext hb2)
  clear HS112
  refine ⟨_, rfl, hb, ?_⟩
  clear hb hb2 hV
  simp only [Act.put, List.setIfInBounds_toArray, List.set_cons_zero, List.set_cons_succ]
  clear L55_114
  clear L57_114
  refine wpF_seg 2 (by kernel_rfl) ?_
  simp only [List.take_succ_cons, List.take_zero, List.drop_succ_cons, List.drop_zero]
  repeat (go_big_quiet_step (fail))
  refine wpQuiet_nil ?_
  refine wpF_nil (fun V115 hb => ?_)
  have HB115 := Lib.hid (below_step HB114.out hb)
  clear HB114
  clear hb
  go_wp2_with fail
  go_ret
  exact ⟨rfl, HB115.out⟩

end Go.Proofs.Ytjimnoikkgheaaa
