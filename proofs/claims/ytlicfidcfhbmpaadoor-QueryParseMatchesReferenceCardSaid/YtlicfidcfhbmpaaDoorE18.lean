/- Several texts in one: Yt. -/
import Derived.Test.YtlicfidcfhbmpaaDoorE17
set_option linter.unusedVariables false
set_option linter.unusedSimpArgs false
set_option linter.unusedSectionVars false
namespace Go.Proofs.YtlicfidcfhbmpaaDoor
set_option maxRecDepth 8000
open Go.RowKit Go.Proofs.YtlicfidcfhbmpaaDoor.K
attribute [local irreducible] wpList wpQuiet
section
variable {w : World} {A A1 A2 : Option Addr} {c n1 c1 n2 c2 : Nat} {xs ys : List Qu.Ci}
theorem fsR1 (h : Sg hdC 1 w A 1 c [Hd.mk A1 n1 c1]) (h1 : Sg ciC 3 w A1 n1 c1 xs) : FsR w A 1 c [Hd.mk A1 n1 c1] [xs] := ⟨h, rfl, fun i d zs hi hx => by
 rcases i with _ | i
 ·simp at hi hx
  subst hi hx
  exact h1
 ·simp at hi⟩
theorem fsR2 (h : Sg hdC 1 w A 2 c [Hd.mk A1 n1 c1, Hd.mk A2 n2 c2]) (h1 : Sg ciC 3 w A1 n1 c1 xs) (h2 : Sg ciC 3 w A2 n2 c2 ys) : FsR w A 2 c [Hd.mk A1 n1 c1, Hd.mk A2 n2 c2] [xs, ys] := ⟨h, rfl, fun i d zs hi hx => by
 rcases i with _ | _ | i
 ·simp at hi hx
  subst hi hx
  exact h1
 ·simp at hi hx
  subst hi hx
  exact h2
 ·simp at hi⟩
theorem sg_none : Sg ciC 3 w none 0 0 [] := Sg.ownS (base := 0) (e := 0) own_nil
end
set_option maxRecDepth 100000 in
set_option maxHeartbeats 64000000 in
theorem sanity13_any (w : World) (hG : Gc w) : Calls Tryd.prog 11 #[] w fun e w' => e = .returned (.bool true) ∧ Below w.heap.size w w' := by
 have HG := zh hG
 clear hG
 go_enter Tryd.func11, Tryd.ntmps11
 go_upto_region 1 with fail
 refine wp_region_lit ?_
 refine wpList_call (by kernel_rfl) 20 Tryd.func20 (by kernel_rfl) (by kernel_rfl) _ _ #[.string (sB ([109, 111, 109, 101, 110, 116, 32, 118, 97, 108, 117, 101, 32, 50, 32, 119, 104, 101, 114, 101, 32, 119, 104, 111, 32, 61, 32, 51, 32, 97, 110, 100, 32, 119, 104, 101, 110, 32, 105, 110, 32, 48, 46, 46, 57, 57]))] rfl (by kernel_rfl) ?_
 refine (parse_as ([109, 111, 109, 101, 110, 116, 32, 118, 97, 108, 117, 101, 32, 50, 32, 119, 104, 101, 114, 101, 32, 119, 104, 111, 32, 61, 32, 51, 32, 97, 110, 100, 32, 119, 104, 101, 110, 32, 105, 110, 32, 48, 46, 46, 57, 57]) w HG.out ⟨3, 3, 2, [[Qu.Cd.mk 0 3 3, Qu.Cd.mk 1 0 99]]⟩ 0 0 (by decide +kernel)).mono ?_
 rintro e V1 ⟨Aq, nq, cq, rfl, hfo, hb⟩
 have B0 := zh hb
 have HOq := zh hfo
 clear hb hfo
 refine ⟨_, rfl, ?_⟩
 simp only [Act.put, zA]
 refine zr (.tuple #[.agg #[.int .i64 3, .int .i64 3, .int .i64 2, .slice Aq nq cq], .int .i64 0, .int .i64 0]) V1 rfl ?_
 simp only [Act.put, zA]
 refine zr (.agg #[.int .i64 3, .int .i64 3, .int .i64 2, .slice Aq nq cq]) V1 rfl ?_
 simp only [Act.put, zA]
 refine zr (.int .i64 0) V1 rfl ?_
 simp only [Act.put, zA]
 refine zr (.int .i64 0) V1 rfl ?_
 simp only [Act.put, zA]
 refine wpList_new #[.int .i64 0, .int .i64 0, .int .i64 0, .slice none 0 0] 24 (by kernel_rfl) (xo_alloc #[.int .i64 0, .int .i64 0, .int .i64 0, .slice none 0 0] (by kernel_rfl) rfl) ?_
 intro b1 V2 hge h0 hb
 have Ge0 : Hid (V1.heap.size ≤ b1) := zh hge
 have B1 := zh hb
 have Fv1_1 : Hid (V2.heap[b1]? = some (.cells #[.int .i64 0, .int .i64 0, .int .i64 0, .slice none 0 0] 24 (0, 0))) := zh (h0)
 have Lt2 : Hid (b1 < V2.heap.size) := zh (xp_lt Fv1_1.out)
 clear hge h0 hb
 simp only [ptr, Act.put, zA]
 refine wpList_storeW b1 #[.int .i64 0, .int .i64 0, .int .i64 0, .slice none 0 0] #[.int .i64 3, .int .i64 3, .int .i64 2, .slice Aq nq cq] 24 (by kernel_rfl) Fv1_1.out (xo_storeW b1 #[.int .i64 0, .int .i64 0, .int .i64 0, .slice none 0 0] #[.int .i64 3, .int .i64 3, .int .i64 2, .slice Aq nq cq] Fv1_1.out (by kernel_rfl) rfl (by simp [Value.oneCell']) rfl rfl rfl) ?_
 intro X2_3 h1 hfar hbel hsz
 have hbr := hbel _ _ Ge0.out B1.out
 clear B1
 have B1 := zh hbr
 clear hbr
 clear Fv1_1
 have Fv1_1 : Hid (X2_3.heap[b1]? = some (.cells #[.int .i64 3, .int .i64 3, .int .i64 2, .slice Aq nq cq] 24 (0, 0))) := zh (h1)
 have HszX2_3 := zh hsz
 clear h1 hfar hbel hsz
 simp only [ptr, Act.put, zA]
 refine zr (.int .i64 0) X2_3 rfl ?_
 simp only [Act.put, zA]
 refine zr (.int .i64 0) X2_3 rfl ?_
 simp only [Act.put, zA]
 refine wpList_nil ?_
 obtain ⟨hn, hsq, hfr⟩ := FsOwn.fsR (HOq.out.keep B1.out)
 obtain rfl : nq = 1 := hn
 have HFq := zh hfr
 clear hfr
 go_upto_region 2 with fail
 refine wp_region_lit ?_
 refine zr (.agg #[.int .i64 0, .int .i64 3, .int .i64 3]) X2_3 (by unfold execOp; go_simp <;> rfl) ?_
 simp only [Act.put, zA]
 refine zr (.agg #[.int .i64 1, .int .i64 0, .int .i64 99]) X2_3 (by unfold execOp; go_simp <;> rfl) ?_
 simp only [Act.put, zA]
 refine wpList_mk (by kernel_rfl) ([(Qu.Ci.mk 0 3 3), (Qu.Ci.mk 1 0 99)].flatMap ciC).toArray 46 2 2 (xg_lit (E := ciC) (bytes := 24) (.agg #[.int .i64 0, .int .i64 0, .int .i64 0]) [.tmp 18, .tmp 19] [(Qu.Ci.mk 0 3 3), (Qu.Ci.mk 1 0 99)] 2 Tryd.underlying28 (by kernel_rfl) rfl (by decide) (by decide) rfl rfl) ?_
 intro g20 V3 hge h0 hb
 have N4_0 : Hid (b1 ≠ g20) := zh (xp_lt0 Fv1_1.out hge)
 have Ge5 : Hid (X2_3.heap.size ≤ g20) := zh hge
 have B2 := zh hb
 have Fv6_20 : Hid (RowG ciC V3 g20 46 ([(Qu.Ci.mk 0 3 3), (Qu.Ci.mk 1 0 99)])) := zh (h0)
 have Lt7 : Hid (g20 < V3.heap.size) := zh (xp_lt Fv6_20.out)
 clear hge h0 hb
 simp only [ptr, Act.put, zA]
 refine wpList_mk (by kernel_rfl) ([(Hd.mk (some ⟨g20, 0, none⟩) 2 2)].flatMap hdC).toArray 28 1 1 (xg_lit (E := hdC) (bytes := 24) (.slice none 0 0) [.tmp 20] [(Hd.mk (some ⟨g20, 0, none⟩) 2 2)] 1 Tryd.underlying22 (by kernel_rfl) rfl (by decide) (by decide) rfl rfl) ?_
 intro g21 V4 hge h0 hb
 have N8_0 : Hid (b1 ≠ g21) := zh (xp_lt0 (heap_keep Fv1_1.out B2.out) hge)
 have N9_1 : Hid (g20 ≠ g21) := zh (xp_lt0 Fv6_20.out hge)
 have Ge10 : Hid (V3.heap.size ≤ g21) := zh hge
 have B3 := zh hb
 have Fv11_21 : Hid (RowG hdC V4 g21 28 ([(Hd.mk (some ⟨g20, 0, none⟩) 2 2)])) := zh (h0)
 have Lt12 : Hid (g21 < V4.heap.size) := zh (xp_lt Fv11_21.out)
 clear hge h0 hb
 simp only [ptr, Act.put, zA]
 have HL21 : Hid (FsR V4 (some ⟨g21, 0, none⟩) 1 1 [(Hd.mk (some ⟨g20, 0, none⟩) 2 2)] [[(Qu.Ci.mk 0 3 3), (Qu.Ci.mk 1 0 99)]]) := zh (fsR1 (RowG.sg (n := 1) (c := 1) Fv11_21.out (show ([(Hd.mk (some ⟨g20, 0, none⟩) 2 2)]).length = 1 from rfl) (Nat.le_refl _) (by omega)) (RowG.sg (n := 2) (c := 2) (Fv6_20.out.keep B3.out) (show ([(Qu.Ci.mk 0 3 3), (Qu.Ci.mk 1 0 99)]).length = 2 from rfl) (Nat.le_refl _) (by omega)))
 refine zr (.agg #[.int .i64 3, .int .i64 3, .int .i64 2, .slice (some ⟨g21, 0, none⟩) 1 1]) V4 (by unfold execOp; go_simp <;> rfl) ?_
 simp only [Act.put, zA]
 refine wpList_new #[.int .i64 0, .int .i64 0, .int .i64 0, .slice none 0 0] 24 (by kernel_rfl) (xo_alloc #[.int .i64 0, .int .i64 0, .int .i64 0, .slice none 0 0] (by kernel_rfl) rfl) ?_
 intro b4 V5 hge h0 hb
 have C2_4 := zb B2 B3
 have N13_0 : Hid (b1 ≠ b4) := zh (xp_lt0 (heap_keep Fv1_1.out C2_4.out) hge)
 have N14_1 : Hid (g20 ≠ b4) := zh (xp_lt0 (Fv6_20.out.keep B3.out) hge)
 have N15_2 : Hid (g21 ≠ b4) := zh (xp_lt0 Fv11_21.out hge)
 have Ge16 : Hid (V4.heap.size ≤ b4) := zh hge
 have B4 := zh hb
 have Fv17_4 : Hid (V5.heap[b4]? = some (.cells #[.int .i64 0, .int .i64 0, .int .i64 0, .slice none 0 0] 24 (0, 0))) := zh (h0)
 have Lt18 : Hid (b4 < V5.heap.size) := zh (xp_lt Fv17_4.out)
 clear hge h0 hb
 simp only [ptr, Act.put, zA]
 refine wpList_storeW b4 #[.int .i64 0, .int .i64 0, .int .i64 0, .slice none 0 0] #[.int .i64 3, .int .i64 3, .int .i64 2, .slice (some ⟨g21, 0, none⟩) 1 1] 24 (by kernel_rfl) Fv17_4.out (xo_storeW b4 #[.int .i64 0, .int .i64 0, .int .i64 0, .slice none 0 0] #[.int .i64 3, .int .i64 3, .int .i64 2, .slice (some ⟨g21, 0, none⟩) 1 1] Fv17_4.out (by kernel_rfl) rfl (by simp [Value.oneCell']) rfl rfl rfl) ?_
 intro X5_19 h1 hfar hbel hsz
 have hbr := hbel _ _ Ge16.out B4.out
 clear B4
 have B4 := zh hbr
 clear hbr
 clear Fv17_4
 have Fv17_4 : Hid (X5_19.heap[b4]? = some (.cells #[.int .i64 3, .int .i64 3, .int .i64 2, .slice (some ⟨g21, 0, none⟩) 1 1] 24 (0, 0))) := zh (h1)
 have HszX5_19 := zh hsz
 clear h1 hfar hbel hsz
 simp only [ptr, Act.put, zA]
 refine wpList_nil ?_
 go_upto_region 3 with fail
 refine wp_region_lit ?_
 have C0_2 := zb B0 B1
 have C0_3 := zb C0_2 B2
 have C0_4 := zb C0_3 B3
 have C0_5 := zb C0_4 B4
 refine wpList_call (by kernel_rfl) 20 Tryd.func20 (by kernel_rfl) (by kernel_rfl) _ _ #[.string (sB ([32, 112, 97, 105, 114, 115, 9, 119, 104, 101, 114, 101, 32, 107, 105, 110, 100, 61, 49, 32, 119, 105, 116, 104, 10, 32, 119, 104, 101, 114, 101, 32, 107, 105, 110, 100, 32, 61, 32, 48, 48, 50, 32]))] rfl (by kernel_rfl) ?_
 refine (parse_as ([32, 112, 97, 105, 114, 115, 9, 119, 104, 101, 114, 101, 32, 107, 105, 110, 100, 61, 49, 32, 119, 105, 116, 104, 10, 32, 119, 104, 101, 114, 101, 32, 107, 105, 110, 100, 32, 61, 32, 48, 48, 50, 32]) X5_19 (HG.out.keep C0_5.out) ⟨7, 0, 0, [[Qu.Cd.mk 2 1 1], [Qu.Cd.mk 2 2 2]]⟩ 0 0 (by decide +kernel)).mono ?_
 rintro e V6 ⟨Ap, np, cp, rfl, hfo, hb⟩
 have B5 := zh hb
 have HOp := zh hfo
 clear hb hfo
 refine ⟨_, rfl, ?_⟩
 simp only [Act.put, zA]
 refine zr (.tuple #[.agg #[.int .i64 7, .int .i64 0, .int .i64 0, .slice Ap np cp], .int .i64 0, .int .i64 0]) V6 rfl ?_
 simp only [Act.put, zA]
 refine zr (.agg #[.int .i64 7, .int .i64 0, .int .i64 0, .slice Ap np cp]) V6 rfl ?_
 simp only [Act.put, zA]
 refine zr (.int .i64 0) V6 rfl ?_
 simp only [Act.put, zA]
 refine zr (.int .i64 0) V6 rfl ?_
 simp only [Act.put, zA]
 refine wpList_new #[.int .i64 0, .int .i64 0, .int .i64 0, .slice none 0 0] 24 (by kernel_rfl) (xo_alloc #[.int .i64 0, .int .i64 0, .int .i64 0, .slice none 0 0] (by kernel_rfl) rfl) ?_
 intro b5 V7 hge h0 hb
 have C2_5 := zb C2_4 B4
 have C2_6 := zb C2_5 B5
 have N20_0 : Hid (b1 ≠ b5) := zh (xp_lt0 (heap_keep Fv1_1.out C2_6.out) hge)
 have C3_5 := zb B3 B4
 have C3_6 := zb C3_5 B5
 have N21_1 : Hid (g20 ≠ b5) := zh (xp_lt0 (Fv6_20.out.keep C3_6.out) hge)
 have C4_6 := zb B4 B5
 have N22_2 : Hid (g21 ≠ b5) := zh (xp_lt0 (Fv11_21.out.keep C4_6.out) hge)
 have N23_3 : Hid (b4 ≠ b5) := zh (xp_lt0 (heap_keep Fv17_4.out B5.out) hge)
 have Ge24 : Hid (V6.heap.size ≤ b5) := zh hge
 have B6 := zh hb
 have Fv25_5 : Hid (V7.heap[b5]? = some (.cells #[.int .i64 0, .int .i64 0, .int .i64 0, .slice none 0 0] 24 (0, 0))) := zh (h0)
 have Lt26 : Hid (b5 < V7.heap.size) := zh (xp_lt Fv25_5.out)
 clear hge h0 hb
 simp only [ptr, Act.put, zA]
 refine wpList_storeW b5 #[.int .i64 0, .int .i64 0, .int .i64 0, .slice none 0 0] #[.int .i64 7, .int .i64 0, .int .i64 0, .slice Ap np cp] 24 (by kernel_rfl) Fv25_5.out (xo_storeW b5 #[.int .i64 0, .int .i64 0, .int .i64 0, .slice none 0 0] #[.int .i64 7, .int .i64 0, .int .i64 0, .slice Ap np cp] Fv25_5.out (by kernel_rfl) rfl (by simp [Value.oneCell']) rfl rfl rfl) ?_
 intro X7_27 h1 hfar hbel hsz
 have hbr := hbel _ _ Ge24.out B6.out
 clear B6
 have B6 := zh hbr
 clear hbr
 clear Fv25_5
 have Fv25_5 : Hid (X7_27.heap[b5]? = some (.cells #[.int .i64 7, .int .i64 0, .int .i64 0, .slice Ap np cp] 24 (0, 0))) := zh (h1)
 have HszX7_27 := zh hsz
 clear h1 hfar hbel hsz
 simp only [ptr, Act.put, zA]
 refine zr (.int .i64 0) X7_27 rfl ?_
 simp only [Act.put, zA]
 refine zr (.int .i64 0) X7_27 rfl ?_
 simp only [Act.put, zA]
 refine wpList_nil ?_
 obtain ⟨hn, hsp, hfr⟩ := FsOwn.fsR (HOp.out.keep B6.out)
 obtain rfl : np = 2 := hn
 have HFp := zh hfr
 clear hfr
 go_upto_region 4 with fail
 refine wp_region_lit ?_
 refine zr (.agg #[.int .i64 2, .int .i64 1, .int .i64 1]) X7_27 (by unfold execOp; go_simp <;> rfl) ?_
 simp only [Act.put, zA]
 refine wpList_mk (by kernel_rfl) ([(Qu.Ci.mk 2 1 1)].flatMap ciC).toArray 46 1 1 (xg_lit (E := ciC) (bytes := 24) (.agg #[.int .i64 0, .int .i64 0, .int .i64 0]) [.tmp 28] [(Qu.Ci.mk 2 1 1)] 1 Tryd.underlying28 (by kernel_rfl) rfl (by decide) (by decide) rfl rfl) ?_
 intro g29 V8 hge h0 hb
 have C2_7 := zb C2_6 B6
 have N28_0 : Hid (b1 ≠ g29) := zh (xp_lt0 (heap_keep Fv1_1.out C2_7.out) hge)
 have C3_7 := zb C3_6 B6
 have N29_1 : Hid (g20 ≠ g29) := zh (xp_lt0 (Fv6_20.out.keep C3_7.out) hge)
 have C4_7 := zb C4_6 B6
 have N30_2 : Hid (g21 ≠ g29) := zh (xp_lt0 (Fv11_21.out.keep C4_7.out) hge)
 have C5_7 := zb B5 B6
 have N31_3 : Hid (b4 ≠ g29) := zh (xp_lt0 (heap_keep Fv17_4.out C5_7.out) hge)
 have N32_4 : Hid (b5 ≠ g29) := zh (xp_lt0 Fv25_5.out hge)
 have Ge33 : Hid (X7_27.heap.size ≤ g29) := zh hge
 have B7 := zh hb
 have Fv34_29 : Hid (RowG ciC V8 g29 46 ([(Qu.Ci.mk 2 1 1)])) := zh (h0)
 have Lt35 : Hid (g29 < V8.heap.size) := zh (xp_lt Fv34_29.out)
 clear hge h0 hb
 simp only [ptr, Act.put, zA]
 refine zr (.agg #[.int .i64 2, .int .i64 2, .int .i64 2]) V8 (by unfold execOp; go_simp <;> rfl) ?_
 simp only [Act.put, zA]
 refine wpList_mk (by kernel_rfl) ([(Qu.Ci.mk 2 2 2)].flatMap ciC).toArray 46 1 1 (xg_lit (E := ciC) (bytes := 24) (.agg #[.int .i64 0, .int .i64 0, .int .i64 0]) [.tmp 30] [(Qu.Ci.mk 2 2 2)] 1 Tryd.underlying28 (by kernel_rfl) rfl (by decide) (by decide) rfl rfl) ?_
 intro g31 V9 hge h0 hb
 have C2_8 := zb C2_7 B7
 have N36_0 : Hid (b1 ≠ g31) := zh (xp_lt0 (heap_keep Fv1_1.out C2_8.out) hge)
 have C3_8 := zb C3_7 B7
 have N37_1 : Hid (g20 ≠ g31) := zh (xp_lt0 (Fv6_20.out.keep C3_8.out) hge)
 have C4_8 := zb C4_7 B7
 have N38_2 : Hid (g21 ≠ g31) := zh (xp_lt0 (Fv11_21.out.keep C4_8.out) hge)
 have C5_8 := zb C5_7 B7
 have N39_3 : Hid (b4 ≠ g31) := zh (xp_lt0 (heap_keep Fv17_4.out C5_8.out) hge)
 have N40_4 : Hid (b5 ≠ g31) := zh (xp_lt0 (heap_keep Fv25_5.out B7.out) hge)
 have N41_5 : Hid (g29 ≠ g31) := zh (xp_lt0 Fv34_29.out hge)
 have Ge42 : Hid (V8.heap.size ≤ g31) := zh hge
 have B8 := zh hb
 have Fv43_31 : Hid (RowG ciC V9 g31 46 ([(Qu.Ci.mk 2 2 2)])) := zh (h0)
 have Lt44 : Hid (g31 < V9.heap.size) := zh (xp_lt Fv43_31.out)
 clear hge h0 hb
 simp only [ptr, Act.put, zA]
 refine wpList_mk (by kernel_rfl) ([(Hd.mk (some ⟨g29, 0, none⟩) 1 1), (Hd.mk (some ⟨g31, 0, none⟩) 1 1)].flatMap hdC).toArray 28 2 2 (xg_lit (E := hdC) (bytes := 24) (.slice none 0 0) [.tmp 29, .tmp 31] [(Hd.mk (some ⟨g29, 0, none⟩) 1 1), (Hd.mk (some ⟨g31, 0, none⟩) 1 1)] 2 Tryd.underlying22 (by kernel_rfl) rfl (by decide) (by decide) rfl rfl) ?_
 intro g32 V10 hge h0 hb
 have C2_9 := zb C2_8 B8
 have N45_0 : Hid (b1 ≠ g32) := zh (xp_lt0 (heap_keep Fv1_1.out C2_9.out) hge)
 have C3_9 := zb C3_8 B8
 have N46_1 : Hid (g20 ≠ g32) := zh (xp_lt0 (Fv6_20.out.keep C3_9.out) hge)
 have C4_9 := zb C4_8 B8
 have N47_2 : Hid (g21 ≠ g32) := zh (xp_lt0 (Fv11_21.out.keep C4_9.out) hge)
 have C5_9 := zb C5_8 B8
 have N48_3 : Hid (b4 ≠ g32) := zh (xp_lt0 (heap_keep Fv17_4.out C5_9.out) hge)
 have C7_9 := zb B7 B8
 have N49_4 : Hid (b5 ≠ g32) := zh (xp_lt0 (heap_keep Fv25_5.out C7_9.out) hge)
 have N50_5 : Hid (g29 ≠ g32) := zh (xp_lt0 (Fv34_29.out.keep B8.out) hge)
 have N51_6 : Hid (g31 ≠ g32) := zh (xp_lt0 Fv43_31.out hge)
 have Ge52 : Hid (V9.heap.size ≤ g32) := zh hge
 have B9 := zh hb
 have Fv53_32 : Hid (RowG hdC V10 g32 28 ([(Hd.mk (some ⟨g29, 0, none⟩) 1 1), (Hd.mk (some ⟨g31, 0, none⟩) 1 1)])) := zh (h0)
 have Lt54 : Hid (g32 < V10.heap.size) := zh (xp_lt Fv53_32.out)
 clear hge h0 hb
 simp only [ptr, Act.put, zA]
 have C8_10 := zb B8 B9
 have HL32 : Hid (FsR V10 (some ⟨g32, 0, none⟩) 2 2 [(Hd.mk (some ⟨g29, 0, none⟩) 1 1), (Hd.mk (some ⟨g31, 0, none⟩) 1 1)] [[(Qu.Ci.mk 2 1 1)], [(Qu.Ci.mk 2 2 2)]]) := zh (fsR2 (RowG.sg (n := 2) (c := 2) Fv53_32.out (show ([(Hd.mk (some ⟨g29, 0, none⟩) 1 1), (Hd.mk (some ⟨g31, 0, none⟩) 1 1)]).length = 2 from rfl) (Nat.le_refl _) (by omega)) (RowG.sg (n := 1) (c := 1) (Fv34_29.out.keep C8_10.out) (show ([(Qu.Ci.mk 2 1 1)]).length = 1 from rfl) (Nat.le_refl _) (by omega)) (RowG.sg (n := 1) (c := 1) (Fv43_31.out.keep B9.out) (show ([(Qu.Ci.mk 2 2 2)]).length = 1 from rfl) (Nat.le_refl _) (by omega)))
 refine zr (.agg #[.int .i64 7, .int .i64 0, .int .i64 0, .slice (some ⟨g32, 0, none⟩) 2 2]) V10 (by unfold execOp; go_simp <;> rfl) ?_
 simp only [Act.put, zA]
 refine wpList_new #[.int .i64 0, .int .i64 0, .int .i64 0, .slice none 0 0] 24 (by kernel_rfl) (xo_alloc #[.int .i64 0, .int .i64 0, .int .i64 0, .slice none 0 0] (by kernel_rfl) rfl) ?_
 intro b8 V11 hge h0 hb
 have C2_10 := zb C2_9 B9
 have N55_0 : Hid (b1 ≠ b8) := zh (xp_lt0 (heap_keep Fv1_1.out C2_10.out) hge)
 have C3_10 := zb C3_9 B9
 have N56_1 : Hid (g20 ≠ b8) := zh (xp_lt0 (Fv6_20.out.keep C3_10.out) hge)
 have C4_10 := zb C4_9 B9
 have N57_2 : Hid (g21 ≠ b8) := zh (xp_lt0 (Fv11_21.out.keep C4_10.out) hge)
 have C5_10 := zb C5_9 B9
 have N58_3 : Hid (b4 ≠ b8) := zh (xp_lt0 (heap_keep Fv17_4.out C5_10.out) hge)
 have C7_10 := zb C7_9 B9
 have N59_4 : Hid (b5 ≠ b8) := zh (xp_lt0 (heap_keep Fv25_5.out C7_10.out) hge)
 have N60_5 : Hid (g29 ≠ b8) := zh (xp_lt0 (Fv34_29.out.keep C8_10.out) hge)
 have N61_6 : Hid (g31 ≠ b8) := zh (xp_lt0 (Fv43_31.out.keep B9.out) hge)
 have N62_7 : Hid (g32 ≠ b8) := zh (xp_lt0 Fv53_32.out hge)
 have Ge63 : Hid (V10.heap.size ≤ b8) := zh hge
 have B10 := zh hb
 have Fv64_8 : Hid (V11.heap[b8]? = some (.cells #[.int .i64 0, .int .i64 0, .int .i64 0, .slice none 0 0] 24 (0, 0))) := zh (h0)
 have Lt65 : Hid (b8 < V11.heap.size) := zh (xp_lt Fv64_8.out)
 clear hge h0 hb
 simp only [ptr, Act.put, zA]
 refine wpList_storeW b8 #[.int .i64 0, .int .i64 0, .int .i64 0, .slice none 0 0] #[.int .i64 7, .int .i64 0, .int .i64 0, .slice (some ⟨g32, 0, none⟩) 2 2] 24 (by kernel_rfl) Fv64_8.out (xo_storeW b8 #[.int .i64 0, .int .i64 0, .int .i64 0, .slice none 0 0] #[.int .i64 7, .int .i64 0, .int .i64 0, .slice (some ⟨g32, 0, none⟩) 2 2] Fv64_8.out (by kernel_rfl) rfl (by simp [Value.oneCell']) rfl rfl rfl) ?_
 intro X11_66 h1 hfar hbel hsz
 have hbr := hbel _ _ Ge63.out B10.out
 clear B10
 have B10 := zh hbr
 clear hbr
 clear Fv64_8
 have Fv64_8 : Hid (X11_66.heap[b8]? = some (.cells #[.int .i64 7, .int .i64 0, .int .i64 0, .slice (some ⟨g32, 0, none⟩) 2 2] 24 (0, 0))) := zh (h1)
 have HszX11_66 := zh hsz
 clear h1 hfar hbel hsz
 simp only [ptr, Act.put, zA]
 refine wpList_nil ?_
 go_upto_region 5 with fail
 refine wp_region_lit ?_
 have C0_6 := zb C0_5 B5
 have C0_7 := zb C0_6 B6
 have C0_8 := zb C0_7 B7
 have C0_9 := zb C0_8 B8
 have C0_10 := zb C0_9 B9
 have C0_11 := zb C0_10 B10
 refine wpList_call (by kernel_rfl) 20 Tryd.func20 (by kernel_rfl) (by kernel_rfl) _ _ #[.string (sB ([99, 111, 117, 110, 116]))] rfl (by kernel_rfl) ?_
 refine (parse_as ([99, 111, 117, 110, 116]) X11_66 (HG.out.keep C0_11.out) ⟨1, 0, 0, [[]]⟩ 0 0 (by decide +kernel)).mono ?_
 rintro e V12 ⟨Ac, nc, cc, rfl, hfo, hb⟩
 have B11 := zh hb
 have HOc := zh hfo
 clear hb hfo
 refine ⟨_, rfl, ?_⟩
 simp only [Act.put, zA]
 refine zr (.tuple #[.agg #[.int .i64 1, .int .i64 0, .int .i64 0, .slice Ac nc cc], .int .i64 0, .int .i64 0]) V12 rfl ?_
 simp only [Act.put, zA]
 refine zr (.agg #[.int .i64 1, .int .i64 0, .int .i64 0, .slice Ac nc cc]) V12 rfl ?_
 simp only [Act.put, zA]
 refine zr (.int .i64 0) V12 rfl ?_
 simp only [Act.put, zA]
 refine zr (.int .i64 0) V12 rfl ?_
 simp only [Act.put, zA]
 refine wpList_new #[.int .i64 0, .int .i64 0, .int .i64 0, .slice none 0 0] 24 (by kernel_rfl) (xo_alloc #[.int .i64 0, .int .i64 0, .int .i64 0, .slice none 0 0] (by kernel_rfl) rfl) ?_
 intro b9 V13 hge h0 hb
 have C2_11 := zb C2_10 B10
 have C2_12 := zb C2_11 B11
 have N67_0 : Hid (b1 ≠ b9) := zh (xp_lt0 (heap_keep Fv1_1.out C2_12.out) hge)
 have C3_11 := zb C3_10 B10
 have C3_12 := zb C3_11 B11
 have N68_1 : Hid (g20 ≠ b9) := zh (xp_lt0 (Fv6_20.out.keep C3_12.out) hge)
 have C4_11 := zb C4_10 B10
 have C4_12 := zb C4_11 B11
 have N69_2 : Hid (g21 ≠ b9) := zh (xp_lt0 (Fv11_21.out.keep C4_12.out) hge)
 have C5_11 := zb C5_10 B10
 have C5_12 := zb C5_11 B11
 have N70_3 : Hid (b4 ≠ b9) := zh (xp_lt0 (heap_keep Fv17_4.out C5_12.out) hge)
 have C7_11 := zb C7_10 B10
 have C7_12 := zb C7_11 B11
 have N71_4 : Hid (b5 ≠ b9) := zh (xp_lt0 (heap_keep Fv25_5.out C7_12.out) hge)
 have C8_11 := zb C8_10 B10
 have C8_12 := zb C8_11 B11
 have N72_5 : Hid (g29 ≠ b9) := zh (xp_lt0 (Fv34_29.out.keep C8_12.out) hge)
 have C9_11 := zb B9 B10
 have C9_12 := zb C9_11 B11
 have N73_6 : Hid (g31 ≠ b9) := zh (xp_lt0 (Fv43_31.out.keep C9_12.out) hge)
 have C10_12 := zb B10 B11
 have N74_7 : Hid (g32 ≠ b9) := zh (xp_lt0 (Fv53_32.out.keep C10_12.out) hge)
 have N75_8 : Hid (b8 ≠ b9) := zh (xp_lt0 (heap_keep Fv64_8.out B11.out) hge)
 have Ge76 : Hid (V12.heap.size ≤ b9) := zh hge
 have B12 := zh hb
 have Fv77_9 : Hid (V13.heap[b9]? = some (.cells #[.int .i64 0, .int .i64 0, .int .i64 0, .slice none 0 0] 24 (0, 0))) := zh (h0)
 have Lt78 : Hid (b9 < V13.heap.size) := zh (xp_lt Fv77_9.out)
 clear hge h0 hb
 simp only [ptr, Act.put, zA]
 refine wpList_storeW b9 #[.int .i64 0, .int .i64 0, .int .i64 0, .slice none 0 0] #[.int .i64 1, .int .i64 0, .int .i64 0, .slice Ac nc cc] 24 (by kernel_rfl) Fv77_9.out (xo_storeW b9 #[.int .i64 0, .int .i64 0, .int .i64 0, .slice none 0 0] #[.int .i64 1, .int .i64 0, .int .i64 0, .slice Ac nc cc] Fv77_9.out (by kernel_rfl) rfl (by simp [Value.oneCell']) rfl rfl rfl) ?_
 intro X13_79 h1 hfar hbel hsz
 have hbr := hbel _ _ Ge76.out B12.out
 clear B12
 have B12 := zh hbr
 clear hbr
 clear Fv77_9
 have Fv77_9 : Hid (X13_79.heap[b9]? = some (.cells #[.int .i64 1, .int .i64 0, .int .i64 0, .slice Ac nc cc] 24 (0, 0))) := zh (h1)
 have HszX13_79 := zh hsz
 clear h1 hfar hbel hsz
 simp only [ptr, Act.put, zA]
 refine zr (.int .i64 0) X13_79 rfl ?_
 simp only [Act.put, zA]
 refine zr (.int .i64 0) X13_79 rfl ?_
 simp only [Act.put, zA]
 refine wpList_nil ?_
 obtain ⟨hn, hsc, hfr⟩ := FsOwn.fsR (HOc.out.keep B12.out)
 obtain rfl : nc = 1 := hn
 have HFc := zh hfr
 clear hfr
 go_upto_region 6 with fail
 refine wp_region_lit ?_
 refine zr (.agg #[.int .i64 3, .int .i64 99, .int .i64 1, .int .i64 7]) X13_79 (by unfold execOp; go_simp <;> rfl) ?_
 simp only [Act.put, zA]
 refine wpList_new #[.int .i64 0, .int .i64 0, .int .i64 0, .int .i64 0] 26 (by kernel_rfl) (xo_alloc #[.int .i64 0, .int .i64 0, .int .i64 0, .int .i64 0] (by kernel_rfl) rfl) ?_
 intro b12 V14 hge h0 hb
 have C2_13 := zb C2_12 B12
 have N80_0 : Hid (b1 ≠ b12) := zh (xp_lt0 (heap_keep Fv1_1.out C2_13.out) hge)
 have C3_13 := zb C3_12 B12
 have N81_1 : Hid (g20 ≠ b12) := zh (xp_lt0 (Fv6_20.out.keep C3_13.out) hge)
 have C4_13 := zb C4_12 B12
 have N82_2 : Hid (g21 ≠ b12) := zh (xp_lt0 (Fv11_21.out.keep C4_13.out) hge)
 have C5_13 := zb C5_12 B12
 have N83_3 : Hid (b4 ≠ b12) := zh (xp_lt0 (heap_keep Fv17_4.out C5_13.out) hge)
 have C7_13 := zb C7_12 B12
 have N84_4 : Hid (b5 ≠ b12) := zh (xp_lt0 (heap_keep Fv25_5.out C7_13.out) hge)
 have C8_13 := zb C8_12 B12
 have N85_5 : Hid (g29 ≠ b12) := zh (xp_lt0 (Fv34_29.out.keep C8_13.out) hge)
 have C9_13 := zb C9_12 B12
 have N86_6 : Hid (g31 ≠ b12) := zh (xp_lt0 (Fv43_31.out.keep C9_13.out) hge)
 have C10_13 := zb C10_12 B12
 have N87_7 : Hid (g32 ≠ b12) := zh (xp_lt0 (Fv53_32.out.keep C10_13.out) hge)
 have C11_13 := zb B11 B12
 have N88_8 : Hid (b8 ≠ b12) := zh (xp_lt0 (heap_keep Fv64_8.out C11_13.out) hge)
 have N89_9 : Hid (b9 ≠ b12) := zh (xp_lt0 Fv77_9.out hge)
 have Ge90 : Hid (X13_79.heap.size ≤ b12) := zh hge
 have B13 := zh hb
 have Fv91_12 : Hid (V14.heap[b12]? = some (.cells #[.int .i64 0, .int .i64 0, .int .i64 0, .int .i64 0] 26 (0, 0))) := zh (h0)
 have Lt92 : Hid (b12 < V14.heap.size) := zh (xp_lt Fv91_12.out)
 clear hge h0 hb
 simp only [ptr, Act.put, zA]
 refine wpList_storeW b12 #[.int .i64 0, .int .i64 0, .int .i64 0, .int .i64 0] #[.int .i64 3, .int .i64 99, .int .i64 1, .int .i64 7] 26 (by kernel_rfl) Fv91_12.out (xo_storeW b12 #[.int .i64 0, .int .i64 0, .int .i64 0, .int .i64 0] #[.int .i64 3, .int .i64 99, .int .i64 1, .int .i64 7] Fv91_12.out (by kernel_rfl) rfl (by simp [Value.oneCell']) rfl rfl rfl) ?_
 intro X14_93 h1 hfar hbel hsz
 have hbr := hbel _ _ Ge90.out B13.out
 clear B13
 have B13 := zh hbr
 clear hbr
 clear Fv91_12
 have Fv91_12 : Hid (X14_93.heap[b12]? = some (.cells #[.int .i64 3, .int .i64 99, .int .i64 1, .int .i64 7] 26 (0, 0))) := zh (h1)
 have HszX14_93 := zh hsz
 clear h1 hfar hbel hsz
 simp only [ptr, Act.put, zA]
 refine wpList_nil ?_
 go_upto_region 7 with fail
 refine wp_region_lit ?_
 refine zr (.pointer (some ⟨b1, 3, none⟩)) X14_93 (xo_fld0 3 b1 3 (by kernel_rfl) rfl rfl) ?_
 simp only [Act.put, zA]
 have C2_14 := zb C2_13 B13
 refine zr (.slice Aq 1 cq) X14_93 (xo_load1 ⟨b1, 3, none⟩ _ (cells_at (heap_keep Fv1_1.out C2_14.out) 3 rfl) Tryd.underlying22 rfl rfl rfl) ?_
 simp only [Act.put, zA]
 refine zr (.int .i64 1) X14_93 (xo_len Aq 1 cq Tryd.underlying22 rfl rfl) ?_
 simp only [Act.put, zA]
 refine zr (.bool false) X14_93 (xo_neqF .i64 1 1 (by omega) rfl rfl rfl) ?_
 simp only [Act.put, zA]
 refine wpList_nil ?_
 obtain ⟨hq, hq0⟩ : ∃ h, hsq[0]? = some h := ⟨_, List.getElem?_eq_getElem (by have := (HFq.out.keep C2_14.out).sg.len; omega)⟩
 have HQ0 := zh hq0
 clear hq0
 go_upto_region 9 with fail
 try simp only [List.append_eq, List.cons_append, List.nil_append]
 refine wp_floatP [0, 1, 2, 3, 4, 5, 6, 7, 8, 9, 10, 11, 12, 13, 14, 15, 16, 17, 18, 19, 20, 21, 22, 23, 24, 25, 26, 27, 28, 29, 30, 31, 32, 33, 34, 35, 36, 37, 38, 39, 40, 41, 42, 43, 44, 45, 46, 47, 48, 49, 50, 51, 52, 53, 54, 55, 56, 57, 58, 59, 60, 61, 62, 63, 64, 65, 66, 67, 68, 69, 70, 71, 72, 73, 74, 75, 76, 77, 78, 79, 80, 81, 82, 83, 84, 85, 86, 87, 88, 89, 90, 91, 92, 93, 94, 95, 96, 97, 98, 99, 100, 101, 102, 103, 104, 105, 106, 107, 108, 109, 110, 111, 112, 113] (l' := [_, _, _, _, _, _, _, _, _, _, _, _, _, _, _, _, _, _, _, _, _, _, _, _, _, _, _, _, _, _, _, _, _, _, _, _, _, _, _, _, _, _, _, _, _, _, _, _, _, _, _, _, _, _, _, _, _, _, _, _, _, _, _, _, _, _, _, _, _, _, _, _, _, _, _, _, _, _, _, _, _, _, _, _, _, _, _, _, _, _, _, _, _, _, _, _, _, _, _, _, _, _, _, _, _, _, _, _, _, _, _, _, _, _]) (by kernel_rfl) (lexOK_of (by kernel_rfl) (by kernel_rfl)) (ordOK_of (by kernel_rfl) (by kernel_rfl)) rfl rfl ?_
 simp only [List.getElem_toArray, List.getElem_cons_succ, List.getElem_cons_zero]
 intro V15 hb hSW
 have B14 := zh hb
 have HF15 := zh hSW
 clear hb hSW
 refine wpF_seg 2 (by kernel_rfl) ?_
 simp only [List.take_succ_cons, List.take_zero, List.drop_succ_cons, List.drop_zero]
 refine zv (.agg #[.int .i64 3, .int .i64 3, .int .i64 2, .slice Aq 1 cq]) (fun v hv => (xo_loadW b1 _ (heap_keep (heap_keep Fv1_1.out C2_14.out) (laterF hv)) Tryd.underlying24 rfl (by kernel_rfl) rfl rfl)) ?_
 simp only [Act.put, zA]
 have C5_14 := zb C5_13 B13
 refine zv (.agg #[.int .i64 3, .int .i64 3, .int .i64 2, .slice (some ⟨g21, 0, none⟩) 1 1]) (fun v hv => (xo_loadW b4 _ (heap_keep (heap_keep Fv17_4.out C5_14.out) (laterF hv)) Tryd.underlying24 rfl (by kernel_rfl) rfl rfl)) ?_
 simp only [Act.put, zA]
 refine wpQuiet_nil ?_
 refine wpF_call 22 Tryd.func22 (by kernel_rfl) (by kernel_rfl) _ _ #[.agg #[.int .i64 3, .int .i64 3, .int .i64 2, .slice Aq 1 cq], .agg #[.int .i64 3, .int .i64 3, .int .i64 2, .slice (some ⟨g21, 0, none⟩) 1 1]] rfl (by kernel_rfl) (by kernel_rfl) HF15.out (fun V16 hb => ?_)
 have B15 := zh hb
 have HF16 := zh (HF15.out.ext hb)
 clear hb
 have C2_15 := zb C2_14 B14
 have C2_16 := zb C2_15 B15
 have C4_14 := zb C4_13 B13
 have C4_15 := zb C4_14 B14
 have C4_16 := zb C4_15 B15
 refine (same_yes 3 3 2 Aq 1 cq hsq (some ⟨g21, 0, none⟩) 1 [(Hd.mk (some ⟨g20, 0, none⟩) 2 2)] ([[Qu.Cd.mk 0 3 3, Qu.Cd.mk 1 0 99]].map (List.map Qu.Cd.ci)) V16 (HFq.out.keep C2_16.out) (HL21.out.keep C4_16.out)).mono ?_
 rintro e V17 ⟨rfl, hb⟩
 have B16 := zh hb
 have HF17 := zh (HF16.out.ext hb)
 refine ⟨_, rfl, hb, ?_⟩
 clear hb 
 simp only [Act.put, zA]
 refine wpF_seg 7 (by kernel_rfl) ?_
 simp only [List.take_succ_cons, List.take_zero, List.drop_succ_cons, List.drop_zero]
 refine zv (.bool true) (fun v hv => rfl) ?_
 simp only [Act.put, zA]
 refine zv (.int .i64 0) (fun v hv => rfl) ?_
 simp only [Act.put, zA]
 refine zv (.bool true) (fun v hv => (xo_eqlT .i64 0 0 (by omega) rfl rfl rfl)) ?_
 simp only [Act.put, zA]
 refine zv (.bool true) (fun v hv => rfl) ?_
 simp only [Act.put, zA]
 refine zv (.bool true) (fun v hv => rfl) ?_
 simp only [Act.put, zA]
 have C7_14 := zb C7_13 B13
 refine zv (.agg #[.int .i64 7, .int .i64 0, .int .i64 0, .slice Ap 2 cp]) (fun v hv => (xo_loadW b5 _ (heap_keep (heap_keep Fv25_5.out C7_14.out) (laterF hv)) Tryd.underlying24 rfl (by kernel_rfl) rfl rfl)) ?_
 simp only [Act.put, zA]
 have C11_14 := zb C11_13 B13
 refine zv (.agg #[.int .i64 7, .int .i64 0, .int .i64 0, .slice (some ⟨g32, 0, none⟩) 2 2]) (fun v hv => (xo_loadW b8 _ (heap_keep (heap_keep Fv64_8.out C11_14.out) (laterF hv)) Tryd.underlying24 rfl (by kernel_rfl) rfl rfl)) ?_
 simp only [Act.put, zA]
 refine wpQuiet_nil ?_
 refine wpF_call 22 Tryd.func22 (by kernel_rfl) (by kernel_rfl) _ _ #[.agg #[.int .i64 7, .int .i64 0, .int .i64 0, .slice Ap 2 cp], .agg #[.int .i64 7, .int .i64 0, .int .i64 0, .slice (some ⟨g32, 0, none⟩) 2 2]] rfl (by kernel_rfl) (by kernel_rfl) HF17.out (fun V18 hb => ?_)
 have B17 := zh hb
 have HF18 := zh (HF17.out.ext hb)
 clear hb
 have C7_15 := zb C7_14 B14
 have C7_16 := zb C7_15 B15
 have C7_17 := zb C7_16 B16
 have C7_18 := zb C7_17 B17
 have C10_14 := zb C10_13 B13
 have C10_15 := zb C10_14 B14
 have C10_16 := zb C10_15 B15
 have C10_17 := zb C10_16 B16
 have C10_18 := zb C10_17 B17
 refine (same_yes 7 0 0 Ap 2 cp hsp (some ⟨g32, 0, none⟩) 2 [(Hd.mk (some ⟨g29, 0, none⟩) 1 1), (Hd.mk (some ⟨g31, 0, none⟩) 1 1)] ([[Qu.Cd.mk 2 1 1], [Qu.Cd.mk 2 2 2]].map (List.map Qu.Cd.ci)) V18 (HFp.out.keep C7_18.out) (HL32.out.keep C10_18.out)).mono ?_
 rintro e V19 ⟨rfl, hb⟩
 have B18 := zh hb
 have HF19 := zh (HF18.out.ext hb)
 refine ⟨_, rfl, hb, ?_⟩
 clear hb 
 simp only [Act.put, zA]
 refine wpF_seg 7 (by kernel_rfl) ?_
 simp only [List.take_succ_cons, List.take_zero, List.drop_succ_cons, List.drop_zero]
 refine zv (.bool true) (fun v hv => rfl) ?_
 simp only [Act.put, zA]
 refine zv (.bool true) (fun v hv => rfl) ?_
 simp only [Act.put, zA]
 refine zv (.int .i64 0) (fun v hv => rfl) ?_
 simp only [Act.put, zA]
 refine zv (.bool true) (fun v hv => (xo_eqlT .i64 0 0 (by omega) rfl rfl rfl)) ?_
 simp only [Act.put, zA]
 refine zv (.bool true) (fun v hv => rfl) ?_
 simp only [Act.put, zA]
 refine zv (.bool true) (fun v hv => rfl) ?_
 simp only [Act.put, zA]
 refine zv (.agg #[.int .i64 1, .int .i64 0, .int .i64 0, .slice Ac 1 cc]) (fun v hv => (xo_loadW b9 _ (heap_keep (heap_keep Fv77_9.out B13.out) (laterF hv)) Tryd.underlying24 rfl (by kernel_rfl) rfl rfl)) ?_
 simp only [Act.put, zA]
 refine wpQuiet_nil ?_
 refine wpF_make (.cells #[] 46, fun b => .slice (some ⟨b, 0, none⟩) 0 0) (by kernel_rfl) (by kernel_rfl) (by kernel_rfl) (fun V => xo_empty (size := 3) Tryd.underlying28 (by kernel_rfl) rfl V) (fun g62 V20 hb h0 hbz => ?_)
 have Ge94 : Hid (X14_93.heap.size ≤ g62) := zh hbz
 have B19 := zh hb
 have HF20 := zh (HF19.out.ext hb)
 have Fv95_62 : Hid (RowG ciC V20 g62 46 ([])) := zh (h0)
 have N96 : Hid (b1 ≠ g62) := zh (Nat.ne_of_lt (Nat.lt_of_lt_of_le (xp_lt (heap_keep Fv1_1.out C2_14.out)) hbz))
 have C3_14 := zb C3_13 B13
 have N97 : Hid (g20 ≠ g62) := zh (Nat.ne_of_lt (Nat.lt_of_lt_of_le (xp_lt (Fv6_20.out.keep C3_14.out)) hbz))
 have N98 : Hid (g21 ≠ g62) := zh (Nat.ne_of_lt (Nat.lt_of_lt_of_le (xp_lt (Fv11_21.out.keep C4_14.out)) hbz))
 have N99 : Hid (b4 ≠ g62) := zh (Nat.ne_of_lt (Nat.lt_of_lt_of_le (xp_lt (heap_keep Fv17_4.out C5_14.out)) hbz))
 have N100 : Hid (b5 ≠ g62) := zh (Nat.ne_of_lt (Nat.lt_of_lt_of_le (xp_lt (heap_keep Fv25_5.out C7_14.out)) hbz))
 have C8_14 := zb C8_13 B13
 have N101 : Hid (g29 ≠ g62) := zh (Nat.ne_of_lt (Nat.lt_of_lt_of_le (xp_lt (Fv34_29.out.keep C8_14.out)) hbz))
 have C9_14 := zb C9_13 B13
 have N102 : Hid (g31 ≠ g62) := zh (Nat.ne_of_lt (Nat.lt_of_lt_of_le (xp_lt (Fv43_31.out.keep C9_14.out)) hbz))
 have N103 : Hid (g32 ≠ g62) := zh (Nat.ne_of_lt (Nat.lt_of_lt_of_le (xp_lt (Fv53_32.out.keep C10_14.out)) hbz))
 have N104 : Hid (b8 ≠ g62) := zh (Nat.ne_of_lt (Nat.lt_of_lt_of_le (xp_lt (heap_keep Fv64_8.out C11_14.out)) hbz))
 have N105 : Hid (b9 ≠ g62) := zh (Nat.ne_of_lt (Nat.lt_of_lt_of_le (xp_lt (heap_keep Fv77_9.out B13.out)) hbz))
 have N106 : Hid (b12 ≠ g62) := zh (Nat.ne_of_lt (Nat.lt_of_lt_of_le (xp_lt Fv91_12.out) hbz))
 clear hb h0 hbz
 simp only [ptr, Act.put, zA]
 refine wpF_make (.cells ([(Hd.mk (some ⟨g62, 0, none⟩) 0 0)].flatMap hdC).toArray 28, fun b => .slice (some ⟨b, 0, none⟩) 1 1) (by kernel_rfl) (by kernel_rfl) (by kernel_rfl) (fun V => xg_lit (E := hdC) (bytes := 24) (.slice none 0 0) [.tmp 62] [(Hd.mk (some ⟨g62, 0, none⟩) 0 0)] 1 Tryd.underlying22 (by kernel_rfl) rfl (by decide) (by decide) rfl rfl) (fun g63 V21 hb h0 hbz => ?_)
 have Ge107 : Hid (X14_93.heap.size ≤ g63) := zh hbz
 have B20 := zh hb
 have HF21 := zh (HF20.out.ext hb)
 have Fv108_63 : Hid (RowG hdC V21 g63 28 ([(Hd.mk (some ⟨g62, 0, none⟩) 0 0)])) := zh (h0)
 have N109 : Hid (b1 ≠ g63) := zh (Nat.ne_of_lt (Nat.lt_of_lt_of_le (xp_lt (heap_keep Fv1_1.out C2_14.out)) hbz))
 have N110 : Hid (g20 ≠ g63) := zh (Nat.ne_of_lt (Nat.lt_of_lt_of_le (xp_lt (Fv6_20.out.keep C3_14.out)) hbz))
 have N111 : Hid (g21 ≠ g63) := zh (Nat.ne_of_lt (Nat.lt_of_lt_of_le (xp_lt (Fv11_21.out.keep C4_14.out)) hbz))
 have N112 : Hid (b4 ≠ g63) := zh (Nat.ne_of_lt (Nat.lt_of_lt_of_le (xp_lt (heap_keep Fv17_4.out C5_14.out)) hbz))
 have N113 : Hid (b5 ≠ g63) := zh (Nat.ne_of_lt (Nat.lt_of_lt_of_le (xp_lt (heap_keep Fv25_5.out C7_14.out)) hbz))
 have N114 : Hid (g29 ≠ g63) := zh (Nat.ne_of_lt (Nat.lt_of_lt_of_le (xp_lt (Fv34_29.out.keep C8_14.out)) hbz))
 have N115 : Hid (g31 ≠ g63) := zh (Nat.ne_of_lt (Nat.lt_of_lt_of_le (xp_lt (Fv43_31.out.keep C9_14.out)) hbz))
 have N116 : Hid (g32 ≠ g63) := zh (Nat.ne_of_lt (Nat.lt_of_lt_of_le (xp_lt (Fv53_32.out.keep C10_14.out)) hbz))
 have N117 : Hid (b8 ≠ g63) := zh (Nat.ne_of_lt (Nat.lt_of_lt_of_le (xp_lt (heap_keep Fv64_8.out C11_14.out)) hbz))
 have N118 : Hid (b9 ≠ g63) := zh (Nat.ne_of_lt (Nat.lt_of_lt_of_le (xp_lt (heap_keep Fv77_9.out B13.out)) hbz))
 have N119 : Hid (b12 ≠ g63) := zh (Nat.ne_of_lt (Nat.lt_of_lt_of_le (xp_lt Fv91_12.out) hbz))
 have N120 : Hid (g62 ≠ g63) := zh (ne_types (Fv95_62.out.keep B20.out) Fv108_63.out (by decide))
 clear hb h0 hbz
 simp only [ptr, Act.put, zA]
 have HL63 : Hid (FsR V21 (some ⟨g63, 0, none⟩) 1 1 [(Hd.mk (some ⟨g62, 0, none⟩) 0 0)] [[]]) := zh (fsR1 (RowG.sg (n := 1) (c := 1) Fv108_63.out (show ([(Hd.mk (some ⟨g62, 0, none⟩) 0 0)]).length = 1 from rfl) (Nat.le_refl _) (by omega)) (RowG.sg (n := 0) (c := 0) (Fv95_62.out.keep B20.out) (rfl) (Nat.le_refl _) (by omega)))
 refine wpF_seg 1 (by kernel_rfl) ?_
 simp only [List.take_succ_cons, List.take_zero, List.drop_succ_cons, List.drop_zero]
 refine zv (.agg #[.int .i64 1, .int .i64 0, .int .i64 0, .slice (some ⟨g63, 0, none⟩) 1 1]) (fun v hv => (by unfold execOp; go_simp <;> rfl)) ?_
 simp only [Act.put, zA]
 refine wpQuiet_nil ?_
 refine wpF_call 22 Tryd.func22 (by kernel_rfl) (by kernel_rfl) _ _ #[.agg #[.int .i64 1, .int .i64 0, .int .i64 0, .slice Ac 1 cc], .agg #[.int .i64 1, .int .i64 0, .int .i64 0, .slice (some ⟨g63, 0, none⟩) 1 1]] rfl (by kernel_rfl) (by kernel_rfl) HF21.out (fun V22 hb => ?_)
 have B21 := zh hb
 have HF22 := zh (HF21.out.ext hb)
 clear hb
 have C13_15 := zb B13 B14
 have C13_16 := zb C13_15 B15
 have C13_17 := zb C13_16 B16
 have C13_18 := zb C13_17 B17
 have C13_19 := zb C13_18 B18
 have C13_20 := zb C13_19 B19
 have C13_21 := zb C13_20 B20
 have C13_22 := zb C13_21 B21
 refine (same_yes 1 0 0 Ac 1 cc hsc (some ⟨g63, 0, none⟩) 1 [(Hd.mk (some ⟨g62, 0, none⟩) 0 0)] ([[]].map (List.map Qu.Cd.ci)) V22 (HFc.out.keep C13_22.out) (HL63.out.keep B21.out)).mono ?_
 rintro e V23 ⟨rfl, hb⟩
 have B22 := zh hb
 have HF23 := zh (HF22.out.ext hb)
 refine ⟨_, rfl, hb, ?_⟩
 clear hb 
 simp only [Act.put, zA]
 refine wpF_seg 7 (by kernel_rfl) ?_
 simp only [List.take_succ_cons, List.take_zero, List.drop_succ_cons, List.drop_zero]
 refine zv (.bool true) (fun v hv => rfl) ?_
 simp only [Act.put, zA]
 refine zv (.bool true) (fun v hv => rfl) ?_
 simp only [Act.put, zA]
 refine zv (.int .i64 0) (fun v hv => rfl) ?_
 simp only [Act.put, zA]
 refine zv (.bool true) (fun v hv => (xo_eqlT .i64 0 0 (by omega) rfl rfl rfl)) ?_
 simp only [Act.put, zA]
 refine zv (.bool true) (fun v hv => rfl) ?_
 simp only [Act.put, zA]
 refine zv (.bool true) (fun v hv => rfl) ?_
 simp only [Act.put, zA]
 refine zv (.agg #[.int .i64 3, .int .i64 3, .int .i64 2, .slice (some ⟨g21, 0, none⟩) 1 1]) (fun v hv => (xo_loadW b4 _ (heap_keep (heap_keep Fv17_4.out C5_14.out) (laterF hv)) Tryd.underlying24 rfl (by kernel_rfl) rfl rfl)) ?_
 simp only [Act.put, zA]
 refine wpQuiet_nil ?_
 refine wpF_call 18 Tryd.func18 (by kernel_rfl) (by kernel_rfl) _ _ #[.agg #[.int .i64 3, .int .i64 3, .int .i64 2, .slice (some ⟨g21, 0, none⟩) 1 1]] rfl (by kernel_rfl) (by kernel_rfl) HF23.out (fun V24 hb => ?_)
 have B23 := zh hb
 have HF24 := zh (HF23.out.ext hb)
 clear hb
 have C4_17 := zb C4_16 B16
 have C4_18 := zb C4_17 B17
 have C4_19 := zb C4_18 B18
 have C4_20 := zb C4_19 B19
 have C4_21 := zb C4_20 B20
 have C4_22 := zb C4_21 B21
 have C4_23 := zb C4_22 B22
 have C4_24 := zb C4_23 B23
 have C0_12 := zb C0_11 B11
 have C0_13 := zb C0_12 B12
 have C0_14 := zb C0_13 B13
 have C0_15 := zb C0_14 B14
 have C0_16 := zb C0_15 B15
 have C0_17 := zb C0_16 B16
 have C0_18 := zb C0_17 B17
 have C0_19 := zb C0_18 B18
 have C0_20 := zb C0_19 B19
 have C0_21 := zb C0_20 B20
 have C0_22 := zb C0_21 B21
 have C0_23 := zb C0_22 B22
 have C0_24 := zb C0_23 B23
 refine (format_any 3 3 2 (some ⟨g21, 0, none⟩) 1 1 [(Hd.mk (some ⟨g20, 0, none⟩) 2 2)] [[Qu.Cd.mk 0 3 3, Qu.Cd.mk 1 0 99]] (by decide +kernel) V24 (HG.out.keep C0_24.out) (HL21.out.keep C4_24.out)).mono ?_
 rintro e V25 ⟨rfl, hb⟩
 have B24 := zh hb
 have HF25 := zh (HF24.out.ext hb)
 refine ⟨_, rfl, hb, ?_⟩
 clear hb 
 simp only [Act.put, zA]
 refine wpF_seg 4 (by kernel_rfl) ?_
 simp only [List.take_succ_cons, List.take_zero, List.drop_succ_cons, List.drop_zero]
 refine zv (.bool true) (fun v hv => (xs_eqT (Qu.fmtN ⟨3, 3, 2, [[Qu.Cd.mk 0 3 3, Qu.Cd.mk 1 0 99]]⟩) ([109, 111, 109, 101, 110, 116, 32, 118, 97, 108, 117, 101, 32, 50, 32, 119, 104, 101, 114, 101, 32, 119, 104, 111, 32, 105, 110, 32, 51, 46, 46, 51, 32, 97, 110, 100, 32, 119, 104, 101, 110, 32, 105, 110, 32, 48, 46, 46, 57, 57]) (by decide +kernel) Tryd.underlying9 rfl rfl rfl)) ?_
 simp only [Act.put, zA]
 refine zv (.bool true) (fun v hv => rfl) ?_
 simp only [Act.put, zA]
 refine zv (.bool true) (fun v hv => rfl) ?_
 simp only [Act.put, zA]
 refine zv (.agg #[.int .i64 7, .int .i64 0, .int .i64 0, .slice (some ⟨g32, 0, none⟩) 2 2]) (fun v hv => (xo_loadW b8 _ (heap_keep (heap_keep Fv64_8.out C11_14.out) (laterF hv)) Tryd.underlying24 rfl (by kernel_rfl) rfl rfl)) ?_
 simp only [Act.put, zA]
 refine wpQuiet_nil ?_
 refine wpF_call 18 Tryd.func18 (by kernel_rfl) (by kernel_rfl) _ _ #[.agg #[.int .i64 7, .int .i64 0, .int .i64 0, .slice (some ⟨g32, 0, none⟩) 2 2]] rfl (by kernel_rfl) (by kernel_rfl) HF25.out (fun V26 hb => ?_)
 have B25 := zh hb
 have HF26 := zh (HF25.out.ext hb)
 clear hb
 have C10_19 := zb C10_18 B18
 have C10_20 := zb C10_19 B19
 have C10_21 := zb C10_20 B20
 have C10_22 := zb C10_21 B21
 have C10_23 := zb C10_22 B22
 have C10_24 := zb C10_23 B23
 have C10_25 := zb C10_24 B24
 have C10_26 := zb C10_25 B25
 have C0_25 := zb C0_24 B24
 have C0_26 := zb C0_25 B25
 refine (format_any 7 0 0 (some ⟨g32, 0, none⟩) 2 2 [(Hd.mk (some ⟨g29, 0, none⟩) 1 1), (Hd.mk (some ⟨g31, 0, none⟩) 1 1)] [[Qu.Cd.mk 2 1 1], [Qu.Cd.mk 2 2 2]] (by decide +kernel) V26 (HG.out.keep C0_26.out) (HL32.out.keep C10_26.out)).mono ?_
 rintro e V27 ⟨rfl, hb⟩
 have B26 := zh hb
 have HF27 := zh (HF26.out.ext hb)
 refine ⟨_, rfl, hb, ?_⟩
 clear hb 
 simp only [Act.put, zA]
 refine wpF_seg 4 (by kernel_rfl) ?_
 simp only [List.take_succ_cons, List.take_zero, List.drop_succ_cons, List.drop_zero]
 refine zv (.bool true) (fun v hv => (xs_eqT (Qu.fmtN ⟨7, 0, 0, [[Qu.Cd.mk 2 1 1], [Qu.Cd.mk 2 2 2]]⟩) ([112, 97, 105, 114, 115, 32, 119, 104, 101, 114, 101, 32, 107, 105, 110, 100, 32, 105, 110, 32, 49, 46, 46, 49, 32, 119, 105, 116, 104, 32, 119, 104, 101, 114, 101, 32, 107, 105, 110, 100, 32, 105, 110, 32, 50, 46, 46, 50]) (by decide +kernel) Tryd.underlying9 rfl rfl rfl)) ?_
 simp only [Act.put, zA]
 refine zv (.bool true) (fun v hv => rfl) ?_
 simp only [Act.put, zA]
 refine zv (.bool true) (fun v hv => rfl) ?_
 simp only [Act.put, zA]
 refine zv (.agg #[.int .i64 1, .int .i64 0, .int .i64 0, .slice Ac 1 cc]) (fun v hv => (xo_loadW b9 _ (heap_keep (heap_keep Fv77_9.out B13.out) (laterF hv)) Tryd.underlying24 rfl (by kernel_rfl) rfl rfl)) ?_
 simp only [Act.put, zA]
 refine wpQuiet_nil ?_
 refine wpF_call 18 Tryd.func18 (by kernel_rfl) (by kernel_rfl) _ _ #[.agg #[.int .i64 1, .int .i64 0, .int .i64 0, .slice Ac 1 cc]] rfl (by kernel_rfl) (by kernel_rfl) HF27.out (fun V28 hb => ?_)
 have B27 := zh hb
 have HF28 := zh (HF27.out.ext hb)
 clear hb
 have C13_23 := zb C13_22 B22
 have C13_24 := zb C13_23 B23
 have C13_25 := zb C13_24 B24
 have C13_26 := zb C13_25 B25
 have C13_27 := zb C13_26 B26
 have C13_28 := zb C13_27 B27
 have C0_27 := zb C0_26 B26
 have C0_28 := zb C0_27 B27
 refine (format_any 1 0 0 Ac 1 cc hsc [[]] (by decide +kernel) V28 (HG.out.keep C0_28.out) (HFc.out.keep C13_28.out)).mono ?_
 rintro e V29 ⟨rfl, hb⟩
 have B28 := zh hb
 have HF29 := zh (HF28.out.ext hb)
 refine ⟨_, rfl, hb, ?_⟩
 clear hb 
 simp only [Act.put, zA]
 refine wpF_seg 4 (by kernel_rfl) ?_
 simp only [List.take_succ_cons, List.take_zero, List.drop_succ_cons, List.drop_zero]
 refine zv (.bool true) (fun v hv => (xs_eqT (Qu.fmtN ⟨1, 0, 0, [[]]⟩) ([99, 111, 117, 110, 116]) (by decide +kernel) Tryd.underlying9 rfl rfl rfl)) ?_
 simp only [Act.put, zA]
 refine zv (.bool true) (fun v hv => rfl) ?_
 simp only [Act.put, zA]
 refine zv (.bool true) (fun v hv => rfl) ?_
 simp only [Act.put, zA]
 refine zv (.agg #[.int .i64 3, .int .i64 3, .int .i64 2, .slice (some ⟨g21, 0, none⟩) 1 1]) (fun v hv => (xo_loadW b4 _ (heap_keep (heap_keep Fv17_4.out C5_14.out) (laterF hv)) Tryd.underlying24 rfl (by kernel_rfl) rfl rfl)) ?_
 simp only [Act.put, zA]
 refine wpQuiet_nil ?_
 refine wpF_call 12 Tryd.func12 (by kernel_rfl) (by kernel_rfl) _ _ #[.agg #[.int .i64 3, .int .i64 3, .int .i64 2, .slice (some ⟨g21, 0, none⟩) 1 1]] rfl (by kernel_rfl) (by kernel_rfl) HF29.out (fun V30 hb => ?_)
 have B29 := zh hb
 have HF30 := zh (HF29.out.ext hb)
 clear hb
 have C4_25 := zb C4_24 B24
 have C4_26 := zb C4_25 B25
 have C4_27 := zb C4_26 B26
 have C4_28 := zb C4_27 B27
 have C4_29 := zb C4_28 B28
 have C4_30 := zb C4_29 B29
 have C0_29 := zb C0_28 B28
 have C0_30 := zb C0_29 B29
 refine (valid_as 3 3 2 (some ⟨g21, 0, none⟩) 1 1 [(Hd.mk (some ⟨g20, 0, none⟩) 2 2)] ([[Qu.Cd.mk 0 3 3, Qu.Cd.mk 1 0 99]].map (List.map Qu.Cd.ci)) true (by decide +kernel) V30 (HG.out.keep C0_30.out) (HL21.out.keep C4_30.out)).mono ?_
 rintro e V31 ⟨rfl, hb⟩
 have B30 := zh hb
 have HF31 := zh (HF30.out.ext hb)
 refine ⟨_, rfl, hb, ?_⟩
 clear hb 
 simp only [Act.put, zA]
 refine wpF_seg 3 (by kernel_rfl) ?_
 simp only [List.take_succ_cons, List.take_zero, List.drop_succ_cons, List.drop_zero]
 refine zv (.bool true) (fun v hv => rfl) ?_
 simp only [Act.put, zA]
 refine zv (.bool true) (fun v hv => rfl) ?_
 simp only [Act.put, zA]
 refine zv (.agg #[.int .i64 7, .int .i64 0, .int .i64 0, .slice (some ⟨g32, 0, none⟩) 2 2]) (fun v hv => (xo_loadW b8 _ (heap_keep (heap_keep Fv64_8.out C11_14.out) (laterF hv)) Tryd.underlying24 rfl (by kernel_rfl) rfl rfl)) ?_
 simp only [Act.put, zA]
 refine wpQuiet_nil ?_
 refine wpF_call 12 Tryd.func12 (by kernel_rfl) (by kernel_rfl) _ _ #[.agg #[.int .i64 7, .int .i64 0, .int .i64 0, .slice (some ⟨g32, 0, none⟩) 2 2]] rfl (by kernel_rfl) (by kernel_rfl) HF31.out (fun V32 hb => ?_)
 have B31 := zh hb
 have HF32 := zh (HF31.out.ext hb)
 clear hb
 have C10_27 := zb C10_26 B26
 have C10_28 := zb C10_27 B27
 have C10_29 := zb C10_28 B28
 have C10_30 := zb C10_29 B29
 have C10_31 := zb C10_30 B30
 have C10_32 := zb C10_31 B31
 have C0_31 := zb C0_30 B30
 have C0_32 := zb C0_31 B31
 refine (valid_as 7 0 0 (some ⟨g32, 0, none⟩) 2 2 [(Hd.mk (some ⟨g29, 0, none⟩) 1 1), (Hd.mk (some ⟨g31, 0, none⟩) 1 1)] ([[Qu.Cd.mk 2 1 1], [Qu.Cd.mk 2 2 2]].map (List.map Qu.Cd.ci)) true (by decide +kernel) V32 (HG.out.keep C0_32.out) (HL32.out.keep C10_32.out)).mono ?_
 rintro e V33 ⟨rfl, hb⟩
 have B32 := zh hb
 have HF33 := zh (HF32.out.ext hb)
 refine ⟨_, rfl, hb, ?_⟩
 clear hb 
 simp only [Act.put, zA]
 refine wpF_seg 3 (by kernel_rfl) ?_
 simp only [List.take_succ_cons, List.take_zero, List.drop_succ_cons, List.drop_zero]
 refine zv (.bool true) (fun v hv => rfl) ?_
 simp only [Act.put, zA]
 refine zv (.bool true) (fun v hv => rfl) ?_
 simp only [Act.put, zA]
 refine zv (.agg #[.int .i64 0, .int .i64 0, .int .i64 0, .slice none 0 0]) (fun v hv => (by unfold execOp; go_simp <;> rfl)) ?_
 simp only [Act.put, zA]
 refine wpQuiet_nil ?_
 refine wpF_call 12 Tryd.func12 (by kernel_rfl) (by kernel_rfl) _ _ #[.agg #[.int .i64 0, .int .i64 0, .int .i64 0, .slice none 0 0]] rfl (by kernel_rfl) (by kernel_rfl) HF33.out (fun V34 hb => ?_)
 have B33 := zh hb
 have HF34 := zh (HF33.out.ext hb)
 clear hb
 have C0_33 := zb C0_32 B32
 have C0_34 := zb C0_33 B33
 refine (valid_as 0 0 0 none 0 0 [] [] false (by decide +kernel) V34 (HG.out.keep C0_34.out) fsR_nil).mono ?_
 rintro e V35 ⟨rfl, hb⟩
 have B34 := zh hb
 have HF35 := zh (HF34.out.ext hb)
 refine ⟨_, rfl, hb, ?_⟩
 clear hb 
 simp only [Act.put, zA]
 refine wpF_seg 3 (by kernel_rfl) ?_
 simp only [List.take_succ_cons, List.take_zero, List.drop_succ_cons, List.drop_zero]
 refine zv (.bool true) (fun v hv => rfl) ?_
 simp only [Act.put, zA]
 refine zv (.bool true) (fun v hv => rfl) ?_
 simp only [Act.put, zA]
 refine zv (.bool true) (fun v hv => rfl) ?_
 simp only [Act.put, zA]
 refine wpQuiet_nil ?_
 refine wpF_make (.cells #[] 46, fun b => .slice (some ⟨b, 0, none⟩) 0 0) (by kernel_rfl) (by kernel_rfl) (by kernel_rfl) (fun V => xo_empty (size := 3) Tryd.underlying28 (by kernel_rfl) rfl V) (fun g100 V36 hb h0 hbz => ?_)
 have Ge121 : Hid (X14_93.heap.size ≤ g100) := zh hbz
 have B35 := zh hb
 have HF36 := zh (HF35.out.ext hb)
 have Fv122_100 : Hid (RowG ciC V36 g100 46 ([])) := zh (h0)
 have N123 : Hid (b1 ≠ g100) := zh (Nat.ne_of_lt (Nat.lt_of_lt_of_le (xp_lt (heap_keep Fv1_1.out C2_14.out)) hbz))
 have N124 : Hid (g20 ≠ g100) := zh (Nat.ne_of_lt (Nat.lt_of_lt_of_le (xp_lt (Fv6_20.out.keep C3_14.out)) hbz))
 have N125 : Hid (g21 ≠ g100) := zh (Nat.ne_of_lt (Nat.lt_of_lt_of_le (xp_lt (Fv11_21.out.keep C4_14.out)) hbz))
 have N126 : Hid (b4 ≠ g100) := zh (Nat.ne_of_lt (Nat.lt_of_lt_of_le (xp_lt (heap_keep Fv17_4.out C5_14.out)) hbz))
 have N127 : Hid (b5 ≠ g100) := zh (Nat.ne_of_lt (Nat.lt_of_lt_of_le (xp_lt (heap_keep Fv25_5.out C7_14.out)) hbz))
 have N128 : Hid (g29 ≠ g100) := zh (Nat.ne_of_lt (Nat.lt_of_lt_of_le (xp_lt (Fv34_29.out.keep C8_14.out)) hbz))
 have N129 : Hid (g31 ≠ g100) := zh (Nat.ne_of_lt (Nat.lt_of_lt_of_le (xp_lt (Fv43_31.out.keep C9_14.out)) hbz))
 have N130 : Hid (g32 ≠ g100) := zh (Nat.ne_of_lt (Nat.lt_of_lt_of_le (xp_lt (Fv53_32.out.keep C10_14.out)) hbz))
 have N131 : Hid (b8 ≠ g100) := zh (Nat.ne_of_lt (Nat.lt_of_lt_of_le (xp_lt (heap_keep Fv64_8.out C11_14.out)) hbz))
 have N132 : Hid (b9 ≠ g100) := zh (Nat.ne_of_lt (Nat.lt_of_lt_of_le (xp_lt (heap_keep Fv77_9.out B13.out)) hbz))
 have N133 : Hid (b12 ≠ g100) := zh (Nat.ne_of_lt (Nat.lt_of_lt_of_le (xp_lt Fv91_12.out) hbz))
 have C21_23 := zb B21 B22
 have C21_24 := zb C21_23 B23
 have C21_25 := zb C21_24 B24
 have C21_26 := zb C21_25 B25
 have C21_27 := zb C21_26 B26
 have C21_28 := zb C21_27 B27
 have C21_29 := zb C21_28 B28
 have C21_30 := zb C21_29 B29
 have C21_31 := zb C21_30 B30
 have C21_32 := zb C21_31 B31
 have C21_33 := zb C21_32 B32
 have C21_34 := zb C21_33 B33
 have C21_35 := zb C21_34 B34
 have C21_36 := zb C21_35 B35
 have N135 : Hid (g63 ≠ g100) := zh (ne_types (Fv108_63.out.keep C21_36.out) Fv122_100.out (by decide))
 clear hb h0 hbz
 simp only [ptr, Act.put, zA]
 refine wpF_make (.cells ([(Hd.mk (some ⟨g100, 0, none⟩) 0 0)].flatMap hdC).toArray 28, fun b => .slice (some ⟨b, 0, none⟩) 1 1) (by kernel_rfl) (by kernel_rfl) (by kernel_rfl) (fun V => xg_lit (E := hdC) (bytes := 24) (.slice none 0 0) [.tmp 100] [(Hd.mk (some ⟨g100, 0, none⟩) 0 0)] 1 Tryd.underlying22 (by kernel_rfl) rfl (by decide) (by decide) rfl rfl) (fun g101 V37 hb h0 hbz => ?_)
 have Ge136 : Hid (X14_93.heap.size ≤ g101) := zh hbz
 have B36 := zh hb
 have HF37 := zh (HF36.out.ext hb)
 have Fv137_101 : Hid (RowG hdC V37 g101 28 ([(Hd.mk (some ⟨g100, 0, none⟩) 0 0)])) := zh (h0)
 have N138 : Hid (b1 ≠ g101) := zh (Nat.ne_of_lt (Nat.lt_of_lt_of_le (xp_lt (heap_keep Fv1_1.out C2_14.out)) hbz))
 have N139 : Hid (g20 ≠ g101) := zh (Nat.ne_of_lt (Nat.lt_of_lt_of_le (xp_lt (Fv6_20.out.keep C3_14.out)) hbz))
 have N140 : Hid (g21 ≠ g101) := zh (Nat.ne_of_lt (Nat.lt_of_lt_of_le (xp_lt (Fv11_21.out.keep C4_14.out)) hbz))
 have N141 : Hid (b4 ≠ g101) := zh (Nat.ne_of_lt (Nat.lt_of_lt_of_le (xp_lt (heap_keep Fv17_4.out C5_14.out)) hbz))
 have N142 : Hid (b5 ≠ g101) := zh (Nat.ne_of_lt (Nat.lt_of_lt_of_le (xp_lt (heap_keep Fv25_5.out C7_14.out)) hbz))
 have N143 : Hid (g29 ≠ g101) := zh (Nat.ne_of_lt (Nat.lt_of_lt_of_le (xp_lt (Fv34_29.out.keep C8_14.out)) hbz))
 have N144 : Hid (g31 ≠ g101) := zh (Nat.ne_of_lt (Nat.lt_of_lt_of_le (xp_lt (Fv43_31.out.keep C9_14.out)) hbz))
 have N145 : Hid (g32 ≠ g101) := zh (Nat.ne_of_lt (Nat.lt_of_lt_of_le (xp_lt (Fv53_32.out.keep C10_14.out)) hbz))
 have N146 : Hid (b8 ≠ g101) := zh (Nat.ne_of_lt (Nat.lt_of_lt_of_le (xp_lt (heap_keep Fv64_8.out C11_14.out)) hbz))
 have N147 : Hid (b9 ≠ g101) := zh (Nat.ne_of_lt (Nat.lt_of_lt_of_le (xp_lt (heap_keep Fv77_9.out B13.out)) hbz))
 have N148 : Hid (b12 ≠ g101) := zh (Nat.ne_of_lt (Nat.lt_of_lt_of_le (xp_lt Fv91_12.out) hbz))
 have C20_22 := zb B20 B21
 have C20_23 := zb C20_22 B22
 have C20_24 := zb C20_23 B23
 have C20_25 := zb C20_24 B24
 have C20_26 := zb C20_25 B25
 have C20_27 := zb C20_26 B26
 have C20_28 := zb C20_27 B27
 have C20_29 := zb C20_28 B28
 have C20_30 := zb C20_29 B29
 have C20_31 := zb C20_30 B30
 have C20_32 := zb C20_31 B31
 have C20_33 := zb C20_32 B32
 have C20_34 := zb C20_33 B33
 have C20_35 := zb C20_34 B34
 have C20_36 := zb C20_35 B35
 have C20_37 := zb C20_36 B36
 have N149 : Hid (g62 ≠ g101) := zh (ne_types (Fv95_62.out.keep C20_37.out) Fv137_101.out (by decide))
 have N151 : Hid (g100 ≠ g101) := zh (ne_types (Fv122_100.out.keep B36.out) Fv137_101.out (by decide))
 clear hb h0 hbz
 simp only [ptr, Act.put, zA]
 have HL101 : Hid (FsR V37 (some ⟨g101, 0, none⟩) 1 1 [(Hd.mk (some ⟨g100, 0, none⟩) 0 0)] [[]]) := zh (fsR1 (RowG.sg (n := 1) (c := 1) Fv137_101.out (show ([(Hd.mk (some ⟨g100, 0, none⟩) 0 0)]).length = 1 from rfl) (Nat.le_refl _) (by omega)) (RowG.sg (n := 0) (c := 0) (Fv122_100.out.keep B36.out) (rfl) (Nat.le_refl _) (by omega)))
 refine wpF_seg 1 (by kernel_rfl) ?_
 simp only [List.take_succ_cons, List.take_zero, List.drop_succ_cons, List.drop_zero]
 refine zv (.agg #[.int .i64 3, .int .i64 0, .int .i64 7, .slice (some ⟨g101, 0, none⟩) 1 1]) (fun v hv => (by unfold execOp; go_simp <;> rfl)) ?_
 simp only [Act.put, zA]
 refine wpQuiet_nil ?_
 refine wpF_call 12 Tryd.func12 (by kernel_rfl) (by kernel_rfl) _ _ #[.agg #[.int .i64 3, .int .i64 0, .int .i64 7, .slice (some ⟨g101, 0, none⟩) 1 1]] rfl (by kernel_rfl) (by kernel_rfl) HF37.out (fun V38 hb => ?_)
 have B37 := zh hb
 have HF38 := zh (HF37.out.ext hb)
 clear hb
 have C0_35 := zb C0_34 B34
 have C0_36 := zb C0_35 B35
 have C0_37 := zb C0_36 B36
 have C0_38 := zb C0_37 B37
 refine (valid_as 3 0 7 (some ⟨g101, 0, none⟩) 1 1 [(Hd.mk (some ⟨g100, 0, none⟩) 0 0)] [[]] false (by decide +kernel) V38 (HG.out.keep C0_38.out) (HL101.out.keep B37.out)).mono ?_
 rintro e V39 ⟨rfl, hb⟩
 have B38 := zh hb
 have HF39 := zh (HF38.out.ext hb)
 refine ⟨_, rfl, hb, ?_⟩
 clear hb 
 simp only [Act.put, zA]
 refine wpF_seg 4 (by kernel_rfl) ?_
 simp only [List.take_succ_cons, List.take_zero, List.drop_succ_cons, List.drop_zero]
 refine zv (.bool true) (fun v hv => rfl) ?_
 simp only [Act.put, zA]
 refine zv (.bool true) (fun v hv => rfl) ?_
 simp only [Act.put, zA]
 refine zv (.bool true) (fun v hv => rfl) ?_
 simp only [Act.put, zA]
 refine zv (.agg #[.int .i64 0, .int .i64 0, .int .i64 16]) (fun v hv => (by unfold execOp; go_simp <;> rfl)) ?_
 simp only [Act.put, zA]
 refine wpQuiet_nil ?_
 refine wpF_make (.cells ([(Qu.Ci.mk 0 0 16)].flatMap ciC).toArray 46, fun b => .slice (some ⟨b, 0, none⟩) 1 1) (by kernel_rfl) (by kernel_rfl) (by kernel_rfl) (fun V => xg_lit (E := ciC) (bytes := 24) (.agg #[.int .i64 0, .int .i64 0, .int .i64 0]) [.tmp 107] [(Qu.Ci.mk 0 0 16)] 1 Tryd.underlying28 (by kernel_rfl) rfl (by decide) (by decide) rfl rfl) (fun g108 V40 hb h0 hbz => ?_)
 have Ge152 : Hid (X14_93.heap.size ≤ g108) := zh hbz
 have B39 := zh hb
 have HF40 := zh (HF39.out.ext hb)
 have Fv153_108 : Hid (RowG ciC V40 g108 46 ([(Qu.Ci.mk 0 0 16)])) := zh (h0)
 have N154 : Hid (b1 ≠ g108) := zh (Nat.ne_of_lt (Nat.lt_of_lt_of_le (xp_lt (heap_keep Fv1_1.out C2_14.out)) hbz))
 have N155 : Hid (g20 ≠ g108) := zh (Nat.ne_of_lt (Nat.lt_of_lt_of_le (xp_lt (Fv6_20.out.keep C3_14.out)) hbz))
 have N156 : Hid (g21 ≠ g108) := zh (Nat.ne_of_lt (Nat.lt_of_lt_of_le (xp_lt (Fv11_21.out.keep C4_14.out)) hbz))
 have N157 : Hid (b4 ≠ g108) := zh (Nat.ne_of_lt (Nat.lt_of_lt_of_le (xp_lt (heap_keep Fv17_4.out C5_14.out)) hbz))
 have N158 : Hid (b5 ≠ g108) := zh (Nat.ne_of_lt (Nat.lt_of_lt_of_le (xp_lt (heap_keep Fv25_5.out C7_14.out)) hbz))
 have N159 : Hid (g29 ≠ g108) := zh (Nat.ne_of_lt (Nat.lt_of_lt_of_le (xp_lt (Fv34_29.out.keep C8_14.out)) hbz))
 have N160 : Hid (g31 ≠ g108) := zh (Nat.ne_of_lt (Nat.lt_of_lt_of_le (xp_lt (Fv43_31.out.keep C9_14.out)) hbz))
 have N161 : Hid (g32 ≠ g108) := zh (Nat.ne_of_lt (Nat.lt_of_lt_of_le (xp_lt (Fv53_32.out.keep C10_14.out)) hbz))
 have N162 : Hid (b8 ≠ g108) := zh (Nat.ne_of_lt (Nat.lt_of_lt_of_le (xp_lt (heap_keep Fv64_8.out C11_14.out)) hbz))
 have N163 : Hid (b9 ≠ g108) := zh (Nat.ne_of_lt (Nat.lt_of_lt_of_le (xp_lt (heap_keep Fv77_9.out B13.out)) hbz))
 have N164 : Hid (b12 ≠ g108) := zh (Nat.ne_of_lt (Nat.lt_of_lt_of_le (xp_lt Fv91_12.out) hbz))
 have C21_37 := zb C21_36 B36
 have C21_38 := zb C21_37 B37
 have C21_39 := zb C21_38 B38
 have C21_40 := zb C21_39 B39
 have N166 : Hid (g63 ≠ g108) := zh (ne_types (Fv108_63.out.keep C21_40.out) Fv153_108.out (by decide))
 have C37_39 := zb B37 B38
 have C37_40 := zb C37_39 B39
 have N168 : Hid (g101 ≠ g108) := zh (ne_types (Fv137_101.out.keep C37_40.out) Fv153_108.out (by decide))
 clear hb h0 hbz
 simp only [ptr, Act.put, zA]
 refine wpF_make (.cells ([(Hd.mk (some ⟨g108, 0, none⟩) 1 1)].flatMap hdC).toArray 28, fun b => .slice (some ⟨b, 0, none⟩) 1 1) (by kernel_rfl) (by kernel_rfl) (by kernel_rfl) (fun V => xg_lit (E := hdC) (bytes := 24) (.slice none 0 0) [.tmp 108] [(Hd.mk (some ⟨g108, 0, none⟩) 1 1)] 1 Tryd.underlying22 (by kernel_rfl) rfl (by decide) (by decide) rfl rfl) (fun g109 V41 hb h0 hbz => ?_)
 have Ge169 : Hid (X14_93.heap.size ≤ g109) := zh hbz
 have B40 := zh hb
 have HF41 := zh (HF40.out.ext hb)
 have Fv170_109 : Hid (RowG hdC V41 g109 28 ([(Hd.mk (some ⟨g108, 0, none⟩) 1 1)])) := zh (h0)
 have N171 : Hid (b1 ≠ g109) := zh (Nat.ne_of_lt (Nat.lt_of_lt_of_le (xp_lt (heap_keep Fv1_1.out C2_14.out)) hbz))
 have N172 : Hid (g20 ≠ g109) := zh (Nat.ne_of_lt (Nat.lt_of_lt_of_le (xp_lt (Fv6_20.out.keep C3_14.out)) hbz))
 have N173 : Hid (g21 ≠ g109) := zh (Nat.ne_of_lt (Nat.lt_of_lt_of_le (xp_lt (Fv11_21.out.keep C4_14.out)) hbz))
 have N174 : Hid (b4 ≠ g109) := zh (Nat.ne_of_lt (Nat.lt_of_lt_of_le (xp_lt (heap_keep Fv17_4.out C5_14.out)) hbz))
 have N175 : Hid (b5 ≠ g109) := zh (Nat.ne_of_lt (Nat.lt_of_lt_of_le (xp_lt (heap_keep Fv25_5.out C7_14.out)) hbz))
 have N176 : Hid (g29 ≠ g109) := zh (Nat.ne_of_lt (Nat.lt_of_lt_of_le (xp_lt (Fv34_29.out.keep C8_14.out)) hbz))
 have N177 : Hid (g31 ≠ g109) := zh (Nat.ne_of_lt (Nat.lt_of_lt_of_le (xp_lt (Fv43_31.out.keep C9_14.out)) hbz))
 have N178 : Hid (g32 ≠ g109) := zh (Nat.ne_of_lt (Nat.lt_of_lt_of_le (xp_lt (Fv53_32.out.keep C10_14.out)) hbz))
 have N179 : Hid (b8 ≠ g109) := zh (Nat.ne_of_lt (Nat.lt_of_lt_of_le (xp_lt (heap_keep Fv64_8.out C11_14.out)) hbz))
 have N180 : Hid (b9 ≠ g109) := zh (Nat.ne_of_lt (Nat.lt_of_lt_of_le (xp_lt (heap_keep Fv77_9.out B13.out)) hbz))
 have N181 : Hid (b12 ≠ g109) := zh (Nat.ne_of_lt (Nat.lt_of_lt_of_le (xp_lt Fv91_12.out) hbz))
 have C20_38 := zb C20_37 B37
 have C20_39 := zb C20_38 B38
 have C20_40 := zb C20_39 B39
 have C20_41 := zb C20_40 B40
 have N182 : Hid (g62 ≠ g109) := zh (ne_types (Fv95_62.out.keep C20_41.out) Fv170_109.out (by decide))
 have C36_38 := zb B36 B37
 have C36_39 := zb C36_38 B38
 have C36_40 := zb C36_39 B39
 have C36_41 := zb C36_40 B40
 have N184 : Hid (g100 ≠ g109) := zh (ne_types (Fv122_100.out.keep C36_41.out) Fv170_109.out (by decide))
 have N186 : Hid (g108 ≠ g109) := zh (ne_types (Fv153_108.out.keep B40.out) Fv170_109.out (by decide))
 clear hb h0 hbz
 simp only [ptr, Act.put, zA]
 have HL109 : Hid (FsR V41 (some ⟨g109, 0, none⟩) 1 1 [(Hd.mk (some ⟨g108, 0, none⟩) 1 1)] [[(Qu.Ci.mk 0 0 16)]]) := zh (fsR1 (RowG.sg (n := 1) (c := 1) Fv170_109.out (show ([(Hd.mk (some ⟨g108, 0, none⟩) 1 1)]).length = 1 from rfl) (Nat.le_refl _) (by omega)) (RowG.sg (n := 1) (c := 1) (Fv153_108.out.keep B40.out) (show ([(Qu.Ci.mk 0 0 16)]).length = 1 from rfl) (Nat.le_refl _) (by omega)))
 refine wpF_seg 1 (by kernel_rfl) ?_
 simp only [List.take_succ_cons, List.take_zero, List.drop_succ_cons, List.drop_zero]
 refine zv (.agg #[.int .i64 1, .int .i64 0, .int .i64 0, .slice (some ⟨g109, 0, none⟩) 1 1]) (fun v hv => (by unfold execOp; go_simp <;> rfl)) ?_
 simp only [Act.put, zA]
 refine wpQuiet_nil ?_
 refine wpF_call 12 Tryd.func12 (by kernel_rfl) (by kernel_rfl) _ _ #[.agg #[.int .i64 1, .int .i64 0, .int .i64 0, .slice (some ⟨g109, 0, none⟩) 1 1]] rfl (by kernel_rfl) (by kernel_rfl) HF41.out (fun V42 hb => ?_)
 have B41 := zh hb
 have HF42 := zh (HF41.out.ext hb)
 clear hb
 have C0_39 := zb C0_38 B38
 have C0_40 := zb C0_39 B39
 have C0_41 := zb C0_40 B40
 have C0_42 := zb C0_41 B41
 refine (valid_as 1 0 0 (some ⟨g109, 0, none⟩) 1 1 [(Hd.mk (some ⟨g108, 0, none⟩) 1 1)] [[(Qu.Ci.mk 0 0 16)]] false (by decide +kernel) V42 (HG.out.keep C0_42.out) (HL109.out.keep B41.out)).mono ?_
 rintro e V43 ⟨rfl, hb⟩
 have B42 := zh hb
 have HF43 := zh (HF42.out.ext hb)
 refine ⟨_, rfl, hb, ?_⟩
 clear hb 
 simp only [Act.put, zA]
 refine wpF_seg 3 (by kernel_rfl) ?_
 simp only [List.take_succ_cons, List.take_zero, List.drop_succ_cons, List.drop_zero]
 refine zv (.bool true) (fun v hv => rfl) ?_
 simp only [Act.put, zA]
 refine zv (.bool true) (fun v hv => rfl) ?_
 simp only [Act.put, zA]
 refine zv (.bool true) (fun v hv => rfl) ?_
 simp only [Act.put, zA]
 refine wpQuiet_nil ?_
 refine wpF_call 28 Tryd.func28 (by kernel_rfl) (by kernel_rfl) _ _ #[.string (sB ([116, 111, 116, 97, 108, 32, 118, 97, 108, 117, 101, 32, 119, 104, 101, 114, 101, 32, 119, 104, 111, 32, 105, 110, 32, 51, 46, 46, 50])), .int .i64 28, .int .i64 1] rfl (by kernel_rfl) (by kernel_rfl) HF43.out (fun V44 hb => ?_)
 have B43 := zh hb
 have HF44 := zh (HF43.out.ext hb)
 clear hb
 have C0_43 := zb C0_42 B42
 have C0_44 := zb C0_43 B43
 refine (fails_yes ([116, 111, 116, 97, 108, 32, 118, 97, 108, 117, 101, 32, 119, 104, 101, 114, 101, 32, 119, 104, 111, 32, 105, 110, 32, 51, 46, 46, 50]) 28 1 (by decide +kernel) V44 (HG.out.keep C0_44.out)).mono ?_
 rintro e V45 ⟨rfl, hb⟩
 have B44 := zh hb
 have HF45 := zh (HF44.out.ext hb)
 refine ⟨_, rfl, hb, ?_⟩
 clear hb 
 simp only [Act.put, zA]
 refine wpF_seg 2 (by kernel_rfl) ?_
 simp only [List.take_succ_cons, List.take_zero, List.drop_succ_cons, List.drop_zero]
 refine zv (.bool true) (fun v hv => rfl) ?_
 simp only [Act.put, zA]
 refine zv (.bool true) (fun v hv => rfl) ?_
 simp only [Act.put, zA]
 refine wpQuiet_nil ?_
 refine wpF_call 28 Tryd.func28 (by kernel_rfl) (by kernel_rfl) _ _ #[.string (sB ([99, 111, 117, 110, 116, 32, 119, 104, 101, 114, 101])), .int .i64 11, .int .i64 131] rfl (by kernel_rfl) (by kernel_rfl) HF45.out (fun V46 hb => ?_)
 have B45 := zh hb
 have HF46 := zh (HF45.out.ext hb)
 clear hb
 have C0_45 := zb C0_44 B44
 have C0_46 := zb C0_45 B45
 refine (fails_yes ([99, 111, 117, 110, 116, 32, 119, 104, 101, 114, 101]) 11 131 (by decide +kernel) V46 (HG.out.keep C0_46.out)).mono ?_
 rintro e V47 ⟨rfl, hb⟩
 have B46 := zh hb
 have HF47 := zh (HF46.out.ext hb)
 refine ⟨_, rfl, hb, ?_⟩
 clear hb 
 simp only [Act.put, zA]
 refine wpF_seg 2 (by kernel_rfl) ?_
 simp only [List.take_succ_cons, List.take_zero, List.drop_succ_cons, List.drop_zero]
 refine zv (.bool true) (fun v hv => rfl) ?_
 simp only [Act.put, zA]
 refine zv (.bool true) (fun v hv => rfl) ?_
 simp only [Act.put, zA]
 refine wpQuiet_nil ?_
 refine wpF_call 28 Tryd.func28 (by kernel_rfl) (by kernel_rfl) _ _ #[.string (sB ([])), .int .i64 0, .int .i64 131] rfl (by kernel_rfl) (by kernel_rfl) HF47.out (fun V48 hb => ?_)
 have B47 := zh hb
 have HF48 := zh (HF47.out.ext hb)
 clear hb
 have C0_47 := zb C0_46 B46
 have C0_48 := zb C0_47 B47
 refine (fails_yes ([]) 0 131 (by decide +kernel) V48 (HG.out.keep C0_48.out)).mono ?_
 rintro e V49 ⟨rfl, hb⟩
 have B48 := zh hb
 have HF49 := zh (HF48.out.ext hb)
 refine ⟨_, rfl, hb, ?_⟩
 clear hb 
 simp only [Act.put, zA]
 refine wpF_seg 2 (by kernel_rfl) ?_
 simp only [List.take_succ_cons, List.take_zero, List.drop_succ_cons, List.drop_zero]
 refine zv (.bool true) (fun v hv => rfl) ?_
 simp only [Act.put, zA]
 refine zv (.bool true) (fun v hv => rfl) ?_
 simp only [Act.put, zA]
 refine wpQuiet_nil ?_
 refine wpF_call 28 Tryd.func28 (by kernel_rfl) (by kernel_rfl) _ _ #[.string (sB ([99, 111, 117, 110, 116, 32, 119, 104, 111])), .int .i64 6, .int .i64 130] rfl (by kernel_rfl) (by kernel_rfl) HF49.out (fun V50 hb => ?_)
 have B49 := zh hb
 have HF50 := zh (HF49.out.ext hb)
 clear hb
 have C0_49 := zb C0_48 B48
 have C0_50 := zb C0_49 B49
 refine (fails_yes ([99, 111, 117, 110, 116, 32, 119, 104, 111]) 6 130 (by decide +kernel) V50 (HG.out.keep C0_50.out)).mono ?_
 rintro e V51 ⟨rfl, hb⟩
 have B50 := zh hb
 have HF51 := zh (HF50.out.ext hb)
 refine ⟨_, rfl, hb, ?_⟩
 clear hb 
 simp only [Act.put, zA]
 refine wpF_seg 2 (by kernel_rfl) ?_
 simp only [List.take_succ_cons, List.take_zero, List.drop_succ_cons, List.drop_zero]
 refine zv (.bool true) (fun v hv => rfl) ?_
 simp only [Act.put, zA]
 refine zv (.bool true) (fun v hv => rfl) ?_
 simp only [Act.put, zA]
 refine wpQuiet_nil ?_
 refine wpF_call 28 Tryd.func28 (by kernel_rfl) (by kernel_rfl) _ _ #[.string (sB ([115, 109, 97, 108, 108, 101, 115, 116, 32, 107, 105, 110, 100, 32, 48])), .int .i64 14, .int .i64 1] rfl (by kernel_rfl) (by kernel_rfl) HF51.out (fun V52 hb => ?_)
 have B51 := zh hb
 have HF52 := zh (HF51.out.ext hb)
 clear hb
 have C0_51 := zb C0_50 B50
 have C0_52 := zb C0_51 B51
 refine (fails_yes ([115, 109, 97, 108, 108, 101, 115, 116, 32, 107, 105, 110, 100, 32, 48]) 14 1 (by decide +kernel) V52 (HG.out.keep C0_52.out)).mono ?_
 rintro e V53 ⟨rfl, hb⟩
 have B52 := zh hb
 have HF53 := zh (HF52.out.ext hb)
 refine ⟨_, rfl, hb, ?_⟩
 clear hb 
 simp only [Act.put, zA]
 refine wpF_seg 2 (by kernel_rfl) ?_
 simp only [List.take_succ_cons, List.take_zero, List.drop_succ_cons, List.drop_zero]
 refine zv (.bool true) (fun v hv => rfl) ?_
 simp only [Act.put, zA]
 refine zv (.bool true) (fun v hv => rfl) ?_
 simp only [Act.put, zA]
 refine wpQuiet_nil ?_
 refine wpF_call 28 Tryd.func28 (by kernel_rfl) (by kernel_rfl) _ _ #[.string (sB ([99, 111, 117, 110, 116, 32, 119, 104, 101, 114, 101, 32, 119, 104, 111, 32, 105, 110, 32, 49, 46, 50])), .int .i64 20, .int .i64 130] rfl (by kernel_rfl) (by kernel_rfl) HF53.out (fun V54 hb => ?_)
 have B53 := zh hb
 have HF54 := zh (HF53.out.ext hb)
 clear hb
 have C0_53 := zb C0_52 B52
 have C0_54 := zb C0_53 B53
 refine (fails_yes ([99, 111, 117, 110, 116, 32, 119, 104, 101, 114, 101, 32, 119, 104, 111, 32, 105, 110, 32, 49, 46, 50]) 20 130 (by decide +kernel) V54 (HG.out.keep C0_54.out)).mono ?_
 rintro e V55 ⟨rfl, hb⟩
 have B54 := zh hb
 have HF55 := zh (HF54.out.ext hb)
 refine ⟨_, rfl, hb, ?_⟩
 clear hb 
 simp only [Act.put, zA]
 refine wpF_seg 2 (by kernel_rfl) ?_
 simp only [List.take_succ_cons, List.take_zero, List.drop_succ_cons, List.drop_zero]
 refine zv (.bool true) (fun v hv => rfl) ?_
 simp only [Act.put, zA]
 refine zv (.bool true) (fun v hv => rfl) ?_
 simp only [Act.put, zA]
 refine wpQuiet_nil ?_
 refine wpF_call 28 Tryd.func28 (by kernel_rfl) (by kernel_rfl) _ _ #[.string (sB ([112, 97, 105, 114, 115, 32, 119, 104, 101, 114, 101, 32, 119, 104, 111, 32, 61, 32, 49])), .int .i64 19, .int .i64 131] rfl (by kernel_rfl) (by kernel_rfl) HF55.out (fun V56 hb => ?_)
 have B55 := zh hb
 have HF56 := zh (HF55.out.ext hb)
 clear hb
 have C0_55 := zb C0_54 B54
 have C0_56 := zb C0_55 B55
 refine (fails_yes ([112, 97, 105, 114, 115, 32, 119, 104, 101, 114, 101, 32, 119, 104, 111, 32, 61, 32, 49]) 19 131 (by decide +kernel) V56 (HG.out.keep C0_56.out)).mono ?_
 rintro e V57 ⟨rfl, hb⟩
 have B56 := zh hb
 have HF57 := zh (HF56.out.ext hb)
 refine ⟨_, rfl, hb, ?_⟩
 clear hb 
 simp only [Act.put, zA]
 refine wpF_seg 2 (by kernel_rfl) ?_
 simp only [List.take_succ_cons, List.take_zero, List.drop_succ_cons, List.drop_zero]
 refine zv (.bool true) (fun v hv => rfl) ?_
 simp only [Act.put, zA]
 refine zv (.bool true) (fun v hv => rfl) ?_
 simp only [Act.put, zA]
 refine wpQuiet_nil ?_
 refine wpF_call 28 Tryd.func28 (by kernel_rfl) (by kernel_rfl) _ _ #[.string (sB ([99, 111, 117, 110, 116, 32, 119, 104, 101, 114, 101, 32, 119, 104, 111, 32, 61, 32, 49, 54])), .int .i64 18, .int .i64 1] rfl (by kernel_rfl) (by kernel_rfl) HF57.out (fun V58 hb => ?_)
 have B57 := zh hb
 have HF58 := zh (HF57.out.ext hb)
 clear hb
 have C0_57 := zb C0_56 B56
 have C0_58 := zb C0_57 B57
 refine (fails_yes ([99, 111, 117, 110, 116, 32, 119, 104, 101, 114, 101, 32, 119, 104, 111, 32, 61, 32, 49, 54]) 18 1 (by decide +kernel) V58 (HG.out.keep C0_58.out)).mono ?_
 rintro e V59 ⟨rfl, hb⟩
 have B58 := zh hb
 have HF59 := zh (HF58.out.ext hb)
 refine ⟨_, rfl, hb, ?_⟩
 clear hb 
 simp only [Act.put, zA]
 refine wpF_seg 7 (by kernel_rfl) ?_
 simp only [List.take_succ_cons, List.take_zero, List.drop_succ_cons, List.drop_zero]
 refine zv (.bool true) (fun v hv => rfl) ?_
 simp only [Act.put, zA]
 refine zv (.bool true) (fun v hv => rfl) ?_
 simp only [Act.put, zA]
 refine zv (.pointer (some ⟨b1, 3, none⟩)) (fun v hv => (xo_fld0 3 b1 3 (by kernel_rfl) rfl rfl)) ?_
 simp only [Act.put, zA]
 refine zv (.slice Aq 1 cq) (fun v hv => (xo_load1 ⟨b1, 3, none⟩ _ (cells_at (heap_keep (heap_keep Fv1_1.out C2_14.out) (laterF hv)) 3 rfl) Tryd.underlying22 rfl rfl rfl)) ?_
 simp only [Act.put, zA]
 refine zv (.pointer (some (gad Aq (0 * 1)))) (fun v hv => (xg_idx .i64 ((HFq.out.keep C2_14.out).keep (laterF hv)).sg HQ0.out Tryd.underlying22 (by kernel_rfl) rfl rfl rfl)) ?_
 simp only [Act.put, zA]
 refine zv (.slice hq.A hq.n hq.c) (fun v hv => (xg_load1 (E := hdC) (i := 0) (j := 0) ((HFq.out.keep C2_14.out).keep (laterF hv)).sg HQ0.out rfl rfl Tryd.underlying28 rfl rfl rfl)) ?_
 simp only [Act.put, zA]
 refine zv (.agg #[.int .i64 3, .int .i64 99, .int .i64 1, .int .i64 7]) (fun v hv => (xo_loadW b12 _ (heap_keep Fv91_12.out (laterF hv)) Tryd.underlying26 rfl (by kernel_rfl) rfl rfl)) ?_
 simp only [Act.put, zA]
 refine wpQuiet_nil ?_
 refine wpF_call 16 Tryd.func16 (by kernel_rfl) (by kernel_rfl) _ _ #[.slice hq.A hq.n hq.c, .agg #[.int .i64 3, .int .i64 99, .int .i64 1, .int .i64 7]] rfl (by kernel_rfl) (by kernel_rfl) HF59.out (fun V60 hb => ?_)
 have B59 := zh hb
 have HF60 := zh (HF59.out.ext hb)
 clear hb
 have C2_17 := zb C2_16 B16
 have C2_18 := zb C2_17 B17
 have C2_19 := zb C2_18 B18
 have C2_20 := zb C2_19 B19
 have C2_21 := zb C2_20 B20
 have C2_22 := zb C2_21 B21
 have C2_23 := zb C2_22 B22
 have C2_24 := zb C2_23 B23
 have C2_25 := zb C2_24 B24
 have C2_26 := zb C2_25 B25
 have C2_27 := zb C2_26 B26
 have C2_28 := zb C2_27 B27
 have C2_29 := zb C2_28 B28
 have C2_30 := zb C2_29 B29
 have C2_31 := zb C2_30 B30
 have C2_32 := zb C2_31 B31
 have C2_33 := zb C2_32 B32
 have C2_34 := zb C2_33 B33
 have C2_35 := zb C2_34 B34
 have C2_36 := zb C2_35 B35
 have C2_37 := zb C2_36 B36
 have C2_38 := zb C2_37 B37
 have C2_39 := zb C2_38 B38
 have C2_40 := zb C2_39 B39
 have C2_41 := zb C2_40 B40
 have C2_42 := zb C2_41 B41
 have C2_43 := zb C2_42 B42
 have C2_44 := zb C2_43 B43
 have C2_45 := zb C2_44 B44
 have C2_46 := zb C2_45 B45
 have C2_47 := zb C2_46 B46
 have C2_48 := zb C2_47 B47
 have C2_49 := zb C2_48 B48
 have C2_50 := zb C2_49 B49
 have C2_51 := zb C2_50 B50
 have C2_52 := zb C2_51 B51
 have C2_53 := zb C2_52 B52
 have C2_54 := zb C2_53 B53
 have C2_55 := zb C2_54 B54
 have C2_56 := zb C2_55 B55
 have C2_57 := zb C2_56 B56
 have C2_58 := zb C2_57 B57
 have C2_59 := zb C2_58 B58
 have C2_60 := zb C2_59 B59
 refine (match_as hq.A hq.n hq.c ([Qu.Cd.mk 0 3 3, Qu.Cd.mk 1 0 99].map Qu.Cd.ci) ⟨3, 99, 1, 7⟩ true (by decide +kernel) V60 ((HFq.out.keep C2_60.out).row 0 hq _ HQ0.out rfl)).mono ?_
 rintro e V61 ⟨rfl, hb⟩
 have B60 := zh hb
 have HF61 := zh (HF60.out.ext hb)
 refine ⟨_, rfl, hb, ?_⟩
 clear hb 
 simp only [Act.put, zA]
 refine wpF_seg 3 (by kernel_rfl) ?_
 simp only [List.take_succ_cons, List.take_zero, List.drop_succ_cons, List.drop_zero]
 refine zv (.bool true) (fun v hv => rfl) ?_
 simp only [Act.put, zA]
 refine zv (.bool true) (fun v hv => rfl) ?_
 simp only [Act.put, zA]
 refine zv (.agg #[.int .i64 3, .int .i64 8, .int .i64 9]) (fun v hv => (by unfold execOp; go_simp <;> rfl)) ?_
 simp only [Act.put, zA]
 refine wpQuiet_nil ?_
 refine wpF_make (.cells ([(Qu.Ci.mk 3 8 9)].flatMap ciC).toArray 46, fun b => .slice (some ⟨b, 0, none⟩) 1 1) (by kernel_rfl) (by kernel_rfl) (by kernel_rfl) (fun V => xg_lit (E := ciC) (bytes := 24) (.agg #[.int .i64 0, .int .i64 0, .int .i64 0]) [.tmp 147] [(Qu.Ci.mk 3 8 9)] 1 Tryd.underlying28 (by kernel_rfl) rfl (by decide) (by decide) rfl rfl) (fun g148 V62 hb h0 hbz => ?_)
 have Ge187 : Hid (X14_93.heap.size ≤ g148) := zh hbz
 have B61 := zh hb
 have HF62 := zh (HF61.out.ext hb)
 have Fv188_148 : Hid (RowG ciC V62 g148 46 ([(Qu.Ci.mk 3 8 9)])) := zh (h0)
 have N189 : Hid (b1 ≠ g148) := zh (Nat.ne_of_lt (Nat.lt_of_lt_of_le (xp_lt (heap_keep Fv1_1.out C2_14.out)) hbz))
 have N190 : Hid (g20 ≠ g148) := zh (Nat.ne_of_lt (Nat.lt_of_lt_of_le (xp_lt (Fv6_20.out.keep C3_14.out)) hbz))
 have N191 : Hid (g21 ≠ g148) := zh (Nat.ne_of_lt (Nat.lt_of_lt_of_le (xp_lt (Fv11_21.out.keep C4_14.out)) hbz))
 have N192 : Hid (b4 ≠ g148) := zh (Nat.ne_of_lt (Nat.lt_of_lt_of_le (xp_lt (heap_keep Fv17_4.out C5_14.out)) hbz))
 have N193 : Hid (b5 ≠ g148) := zh (Nat.ne_of_lt (Nat.lt_of_lt_of_le (xp_lt (heap_keep Fv25_5.out C7_14.out)) hbz))
 have N194 : Hid (g29 ≠ g148) := zh (Nat.ne_of_lt (Nat.lt_of_lt_of_le (xp_lt (Fv34_29.out.keep C8_14.out)) hbz))
 have N195 : Hid (g31 ≠ g148) := zh (Nat.ne_of_lt (Nat.lt_of_lt_of_le (xp_lt (Fv43_31.out.keep C9_14.out)) hbz))
 have N196 : Hid (g32 ≠ g148) := zh (Nat.ne_of_lt (Nat.lt_of_lt_of_le (xp_lt (Fv53_32.out.keep C10_14.out)) hbz))
 have N197 : Hid (b8 ≠ g148) := zh (Nat.ne_of_lt (Nat.lt_of_lt_of_le (xp_lt (heap_keep Fv64_8.out C11_14.out)) hbz))
 have N198 : Hid (b9 ≠ g148) := zh (Nat.ne_of_lt (Nat.lt_of_lt_of_le (xp_lt (heap_keep Fv77_9.out B13.out)) hbz))
 have N199 : Hid (b12 ≠ g148) := zh (Nat.ne_of_lt (Nat.lt_of_lt_of_le (xp_lt Fv91_12.out) hbz))
 have C21_41 := zb C21_40 B40
 have C21_42 := zb C21_41 B41
 have C21_43 := zb C21_42 B42
 have C21_44 := zb C21_43 B43
 have C21_45 := zb C21_44 B44
 have C21_46 := zb C21_45 B45
 have C21_47 := zb C21_46 B46
 have C21_48 := zb C21_47 B47
 have C21_49 := zb C21_48 B48
 have C21_50 := zb C21_49 B49
 have C21_51 := zb C21_50 B50
 have C21_52 := zb C21_51 B51
 have C21_53 := zb C21_52 B52
 have C21_54 := zb C21_53 B53
 have C21_55 := zb C21_54 B54
 have C21_56 := zb C21_55 B55
 have C21_57 := zb C21_56 B56
 have C21_58 := zb C21_57 B57
 have C21_59 := zb C21_58 B58
 have C21_60 := zb C21_59 B59
 have C21_61 := zb C21_60 B60
 have C21_62 := zb C21_61 B61
 have N201 : Hid (g63 ≠ g148) := zh (ne_types (Fv108_63.out.keep C21_62.out) Fv188_148.out (by decide))
 have C37_41 := zb C37_40 B40
 have C37_42 := zb C37_41 B41
 have C37_43 := zb C37_42 B42
 have C37_44 := zb C37_43 B43
 have C37_45 := zb C37_44 B44
 have C37_46 := zb C37_45 B45
 have C37_47 := zb C37_46 B46
 have C37_48 := zb C37_47 B47
 have C37_49 := zb C37_48 B48
 have C37_50 := zb C37_49 B49
 have C37_51 := zb C37_50 B50
 have C37_52 := zb C37_51 B51
 have C37_53 := zb C37_52 B52
 have C37_54 := zb C37_53 B53
 have C37_55 := zb C37_54 B54
 have C37_56 := zb C37_55 B55
 have C37_57 := zb C37_56 B56
 have C37_58 := zb C37_57 B57
 have C37_59 := zb C37_58 B58
 have C37_60 := zb C37_59 B59
 have C37_61 := zb C37_60 B60
 have C37_62 := zb C37_61 B61
 have N203 : Hid (g101 ≠ g148) := zh (ne_types (Fv137_101.out.keep C37_62.out) Fv188_148.out (by decide))
 have C41_43 := zb B41 B42
 have C41_44 := zb C41_43 B43
 have C41_45 := zb C41_44 B44
 have C41_46 := zb C41_45 B45
 have C41_47 := zb C41_46 B46
 have C41_48 := zb C41_47 B47
 have C41_49 := zb C41_48 B48
 have C41_50 := zb C41_49 B49
 have C41_51 := zb C41_50 B50
 have C41_52 := zb C41_51 B51
 have C41_53 := zb C41_52 B52
 have C41_54 := zb C41_53 B53
 have C41_55 := zb C41_54 B54
 have C41_56 := zb C41_55 B55
 have C41_57 := zb C41_56 B56
 have C41_58 := zb C41_57 B57
 have C41_59 := zb C41_58 B58
 have C41_60 := zb C41_59 B59
 have C41_61 := zb C41_60 B60
 have C41_62 := zb C41_61 B61
 have N205 : Hid (g109 ≠ g148) := zh (ne_types (Fv170_109.out.keep C41_62.out) Fv188_148.out (by decide))
 clear hb h0 hbz
 simp only [ptr, Act.put, zA]
 refine wpF_seg 1 (by kernel_rfl) ?_
 simp only [List.take_succ_cons, List.take_zero, List.drop_succ_cons, List.drop_zero]
 refine zv (.agg #[.int .i64 3, .int .i64 99, .int .i64 1, .int .i64 7]) (fun v hv => (xo_loadW b12 _ (heap_keep Fv91_12.out (laterF hv)) Tryd.underlying26 rfl (by kernel_rfl) rfl rfl)) ?_
 simp only [Act.put, zA]
 refine wpQuiet_nil ?_
 refine wpF_call 16 Tryd.func16 (by kernel_rfl) (by kernel_rfl) _ _ #[.slice (some ⟨g148, 0, none⟩) 1 1, .agg #[.int .i64 3, .int .i64 99, .int .i64 1, .int .i64 7]] rfl (by kernel_rfl) (by kernel_rfl) HF62.out (fun V63 hb => ?_)
 have B62 := zh hb
 have HF63 := zh (HF62.out.ext hb)
 clear hb
 refine (match_as (some ⟨g148, 0, none⟩) 1 1 [(Qu.Ci.mk 3 8 9)] ⟨3, 99, 1, 7⟩ false (by decide +kernel) V63 (RowG.sg (n := 1) (c := 1) (Fv188_148.out.keep B62.out) (show ([(Qu.Ci.mk 3 8 9)]).length = 1 from rfl) (Nat.le_refl _) (by omega))).mono ?_
 rintro e V64 ⟨rfl, hb⟩
 have B63 := zh hb
 have HF64 := zh (HF63.out.ext hb)
 refine ⟨_, rfl, hb, ?_⟩
 clear hb 
 simp only [Act.put, zA]
 refine wpF_seg 4 (by kernel_rfl) ?_
 simp only [List.take_succ_cons, List.take_zero, List.drop_succ_cons, List.drop_zero]
 refine zv (.bool true) (fun v hv => rfl) ?_
 simp only [Act.put, zA]
 refine zv (.bool true) (fun v hv => rfl) ?_
 simp only [Act.put, zA]
 refine zv (.bool true) (fun v hv => rfl) ?_
 simp only [Act.put, zA]
 refine zv (.agg #[.int .i64 3, .int .i64 99, .int .i64 1, .int .i64 7]) (fun v hv => (xo_loadW b12 _ (heap_keep Fv91_12.out (laterF hv)) Tryd.underlying26 rfl (by kernel_rfl) rfl rfl)) ?_
 simp only [Act.put, zA]
 refine wpQuiet_nil ?_
 refine wpF_call 16 Tryd.func16 (by kernel_rfl) (by kernel_rfl) _ _ #[.slice none 0 0, .agg #[.int .i64 3, .int .i64 99, .int .i64 1, .int .i64 7]] rfl (by kernel_rfl) (by kernel_rfl) HF64.out (fun V65 hb => ?_)
 have B64 := zh hb
 have HF65 := zh (HF64.out.ext hb)
 clear hb
 refine (match_as none 0 0 [] ⟨3, 99, 1, 7⟩ true rfl V65 sg_none).mono ?_
 rintro e V66 ⟨rfl, hb⟩
 have B65 := zh hb
 have HF66 := zh (HF65.out.ext hb)
 refine ⟨_, rfl, hb, ?_⟩
 clear hb 
 simp only [Act.put, zA]
 refine wpF_seg 2 (by kernel_rfl) ?_
 simp only [List.take_succ_cons, List.take_zero, List.drop_succ_cons, List.drop_zero]
 refine zv (.bool true) (fun v hv => rfl) ?_
 simp only [Act.put, zA]
 refine zv (.bool true) (fun v hv => rfl) ?_
 simp only [Act.put, zA]
 refine wpQuiet_nil ?_
 refine wpF_nil (fun V67 hb => ?_)
 have B66 := zh hb
 clear hb
 clear HF15
 clear HF16
 clear HF17
 clear HF18
 clear HF19
 clear HF20
 clear HF21
 clear HF22
 clear HF23
 clear HF24
 clear HF25
 clear HF26
 clear HF27
 clear HF28
 clear HF29
 clear HF30
 clear HF31
 clear HF32
 clear HF33
 clear HF34
 clear HF35
 clear HF36
 clear HF37
 clear HF38
 clear HF39
 clear HF40
 clear HF41
 clear HF42
 clear HF43
 clear HF44
 clear HF45
 clear HF46
 clear HF47
 clear HF48
 clear HF49
 clear HF50
 clear HF51
 clear HF52
 clear HF53
 clear HF54
 clear HF55
 clear HF56
 clear HF57
 clear HF58
 clear HF59
 clear HF60
 clear HF61
 clear HF62
 clear HF63
 clear HF64
 clear HF65
 clear HF66
 have C0_59 := zb C0_58 B58
 have C0_60 := zb C0_59 B59
 have C0_61 := zb C0_60 B60
 have C0_62 := zb C0_61 B61
 have C0_63 := zb C0_62 B62
 have C0_64 := zb C0_63 B63
 have C0_65 := zb C0_64 B64
 have C0_66 := zb C0_65 B65
 have C0_67 := zb C0_66 B66
 have hbf := C0_67.out
 go_wp2_with fail
 go_ret
 exact ⟨rfl, hbf⟩
end Go.Proofs.YtlicfidcfhbmpaaDoor

