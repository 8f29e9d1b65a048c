/- Stage 13: law QueryRoundTrip. -/
import Derived.Test.YtlicfidcfhbmpaaDoorTr17
import Derived.Test.YtlicfidcfhbmpaaDoorTr19
namespace Go.Proofs.YtlicfidcfhbmpaaDoor
set_option linter.unusedVariables false
set_option linter.unusedSimpArgs false
set_option linter.unusedSectionVars false
set_option maxRecDepth 8000
open Go.RowKit Go.Proofs.YtlicfidcfhbmpaaDoor.K
attribute [local irreducible] wpList wpQuiet
set_option maxRecDepth 100000 in
set_option maxHeartbeats 32000000 in
theorem qTrip_any (kind col k : Int) (A : Option Addr) (n c : Nat) (hs : List Hd) (fs : List (List Qu.Ci)) (w : World) (hG : Gc w) (hF : FsR w A n c hs fs) :
  Calls Tryd.prog 5 #[.agg #[.int .i64 kind, .int .i64 col, .int .i64 k, .slice A n c]] w fun e w' => e = .returned (.bool true) ∧ Below w.heap.size w w' := by
 have HG := Lib.hid hG
 have HFR := Lib.hid hF
 have hln := hF.sg.len
 have hlc := hF.sg.cap
 have hlt := hF.sg.top
 have hfl := hF.len
 clear hF hG
 obtain ⟨q, hq⟩ : ∃ q, mdQ kind col k fs = q := ⟨_, rfl⟩
 have HQ := Lib.hid hq
 have HOK : Hid (OkQ q) := Lib.hid (by rw [← hq]; exact mdQ_ok _ _ _ _)
 clear hq
 go_enter Tryd.func5, Tryd.ntmps5
 go_upto_region 1 with fail
 refine wp_named1 (fun V1 hb g0 hlt => ?_)
 have B0 := Lib.hid hb
 have Fv0_1 : Hid (V1.heap[w.heap.size]? = some (.cells #[.int .i64 kind, .int .i64 col, .int .i64 k, .slice A n c] 24 (0, 0))) := Lib.hid (g0)
 have Gb0 : Hid (w.heap.size ≤ w.heap.size) := Lib.hid (by omega)
 clear hb g0 hlt
 have Lt0 : Hid (w.heap.size < V1.heap.size) := Lib.hid (xp_lt Fv0_1.out)
 refine wp_region_lit ?_
 refine wpList_call (by kernel_rfl) 11 Tryd.func11 (by kernel_rfl) (by kernel_rfl) _ _ #[] rfl (by kernel_rfl) ?_
 refine (sanity13_any V1 (HG.out.keep B0.out)).mono ?_
 rintro e V2 ⟨rfl, hb⟩
 have B1 := Lib.hid hb
 clear hb 
 refine ⟨_, rfl, ?_⟩
 simp only [Act.put, zqA, zq0, zq1]
 refine zr (.bool true) V2 rfl ?_
 simp only [Act.put, zqA, zq0, zq1]
 refine wpList_nil ?_
 go_upto_region 2 with fail
 refine wp_region_lit ?_
 refine zr (.agg #[.int .i64 kind, .int .i64 col, .int .i64 k, .slice A n c]) V2 (xo_loadW w.heap.size _ (heap_keep Fv0_1.out B1.out) Tryd.underlying24 rfl (by kernel_rfl) rfl rfl) ?_
 simp only [Act.put, zqA, zq0, zq1]
 have C0_2 := Lib.hid (bel_step B0.out B1.out)
 refine wpList_call (by kernel_rfl) 14 Tryd.func14 (by kernel_rfl) (by kernel_rfl) _ _ #[.agg #[.int .i64 kind, .int .i64 col, .int .i64 k, .slice A n c]] rfl (by kernel_rfl) ?_
 refine (made_as kind col k A n c hs fs q HQ.out V2 (HFR.out.keep C0_2.out)).mono ?_
 rintro e V3 ⟨A2, n2, c2, rfl, hfo, hb⟩
 have B2 := Lib.hid hb
 obtain ⟨hn2, hs2, hfr⟩ := FsOwn.fsR hfo
 subst hn2
 clear hfo
 have HFR2 := Lib.hid hfr
 clear hb hfr
 refine ⟨_, rfl, ?_⟩
 simp only [Act.put, zqA, zq0, zq1]
 refine wpList_new #[.int .i64 0, .int .i64 0, .int .i64 0, .slice none 0 0] 24 (by kernel_rfl) (xo_alloc #[.int .i64 0, .int .i64 0, .int .i64 0, .slice none 0 0] (by kernel_rfl) rfl) ?_
 intro b4 V4 hge h0 hb
 have C1_3 := Lib.hid (bel_step B1.out B2.out)
 have N1_0 : Hid (w.heap.size ≠ b4) := Lib.hid (xp_lt0 (heap_keep Fv0_1.out C1_3.out) hge)
 have Ge2 : Hid (V3.heap.size ≤ b4) := Lib.hid hge
 have B3 := Lib.hid hb
 have Fv3_4 : Hid (V4.heap[b4]? = some (.cells #[.int .i64 0, .int .i64 0, .int .i64 0, .slice none 0 0] 24 (0, 0))) := Lib.hid (h0)
 have Lt4 : Hid (b4 < V4.heap.size) := Lib.hid (xp_lt Fv3_4.out)
 clear hge h0 hb
 simp only [ptr, Act.put, zqA, zq0, zq1]
 refine wpList_storeW b4 #[.int .i64 0, .int .i64 0, .int .i64 0, .slice none 0 0] #[.int .i64 (q.kind : Int), .int .i64 (q.col : Int), .int .i64 (q.k : Int), .slice A2 q.fs.length c2] 24 (by kernel_rfl) Fv3_4.out (xo_storeW b4 #[.int .i64 0, .int .i64 0, .int .i64 0, .slice none 0 0] #[.int .i64 (q.kind : Int), .int .i64 (q.col : Int), .int .i64 (q.k : Int), .slice A2 q.fs.length c2] Fv3_4.out (by kernel_rfl) rfl (by simp [Value.oneCell']) rfl rfl rfl) ?_
 intro X4_5 h1 hfar hbel hsz
 have hbr := hbel _ _ Ge2.out B3.out
 clear B3
 have B3 := Lib.hid hbr
 clear hbr
 clear Fv3_4
 have Fv3_4 : Hid (X4_5.heap[b4]? = some (.cells #[.int .i64 (q.kind : Int), .int .i64 (q.col : Int), .int .i64 (q.k : Int), .slice A2 q.fs.length c2] 24 (0, 0))) := Lib.hid (h1)
 have HszX4_5 := Lib.hid hsz
 clear h1 hfar hbel hsz
 simp only [ptr, Act.put, zqA, zq0, zq1]
 refine wpList_nil ?_
 go_upto_region 3 with fail
 refine wp_region_lit ?_
 refine zr (.agg #[.int .i64 (q.kind : Int), .int .i64 (q.col : Int), .int .i64 (q.k : Int), .slice A2 q.fs.length c2]) X4_5 (xo_loadW b4 _ Fv3_4.out Tryd.underlying24 rfl (by kernel_rfl) rfl rfl) ?_
 simp only [Act.put, zqA, zq0, zq1]
 have C0_3 := Lib.hid (bel_step C0_2.out B2.out)
 have C0_4 := Lib.hid (bel_step C0_3.out B3.out)
 refine wpList_call (by kernel_rfl) 18 Tryd.func18 (by kernel_rfl) (by kernel_rfl) _ _ #[.agg #[.int .i64 (q.kind : Int), .int .i64 (q.col : Int), .int .i64 (q.k : Int), .slice A2 q.fs.length c2]] rfl (by kernel_rfl) ?_
 refine (format_any q.kind q.col q.k A2 q.fs.length c2 hs2 q.fs (vQ_of q HOK.out) X4_5 (HG.out.keep C0_4.out) (HFR2.out.keep B3.out)).mono ?_
 rintro e V5 ⟨rfl, hb⟩
 have B4 := Lib.hid hb
 clear hb 
 refine ⟨_, rfl, ?_⟩
 simp only [Act.put, zqA, zq0, zq1]
 have C0_5 := Lib.hid (bel_step C0_4.out B4.out)
 refine wpList_call (by kernel_rfl) 20 Tryd.func20 (by kernel_rfl) (by kernel_rfl) _ _ #[.string (sB (Qu.fmtN ⟨q.kind, q.col, q.k, q.fs⟩))] rfl (by kernel_rfl) ?_
 refine (parse_as (Qu.fmtN ⟨q.kind, q.col, q.k, q.fs⟩) V5 (HG.out.keep C0_5.out) q 0 0 (parse_fmt q HOK.out)).mono ?_
 rintro e V6 ⟨A3, n3, c3, rfl, hfo, hb⟩
 have B5 := Lib.hid hb
 obtain ⟨hn3, hs3, hfr⟩ := FsOwn.fsR hfo
 subst hn3
 clear hfo
 have HFR3 := Lib.hid hfr
 clear hb hfr
 refine ⟨_, rfl, ?_⟩
 simp only [Act.put, zqA, zq0, zq1]
 refine zr (.tuple #[.agg #[.int .i64 (q.kind : Int), .int .i64 (q.col : Int), .int .i64 (q.k : Int), .slice A3 q.fs.length c3], .int .i64 0, .int .i64 0]) V6 rfl ?_
 simp only [Act.put, zqA, zq0, zq1]
 refine zr (.agg #[.int .i64 (q.kind : Int), .int .i64 (q.col : Int), .int .i64 (q.k : Int), .slice A3 q.fs.length c3]) V6 rfl ?_
 simp only [Act.put, zqA, zq0, zq1]
 refine zr (.int .i64 0) V6 rfl ?_
 simp only [Act.put, zqA, zq0, zq1]
 refine zr (.int .i64 0) V6 rfl ?_
 simp only [Act.put, zqA, zq0, zq1]
 refine wpList_new #[.int .i64 0, .int .i64 0, .int .i64 0, .slice none 0 0] 24 (by kernel_rfl) (xo_alloc #[.int .i64 0, .int .i64 0, .int .i64 0, .slice none 0 0] (by kernel_rfl) rfl) ?_
 intro b5 V7 hge h0 hb
 have C1_4 := Lib.hid (bel_step C1_3.out B3.out)
 have C1_5 := Lib.hid (bel_step C1_4.out B4.out)
 have C1_6 := Lib.hid (bel_step C1_5.out B5.out)
 have N6_0 : Hid (w.heap.size ≠ b5) := Lib.hid (xp_lt0 (heap_keep Fv0_1.out C1_6.out) hge)
 have C4_6 := Lib.hid (bel_step B4.out B5.out)
 have N7_1 : Hid (b4 ≠ b5) := Lib.hid (xp_lt0 (heap_keep Fv3_4.out C4_6.out) hge)
 have Ge8 : Hid (V6.heap.size ≤ b5) := Lib.hid hge
 have B6 := Lib.hid hb
 have Fv9_5 : Hid (V7.heap[b5]? = some (.cells #[.int .i64 0, .int .i64 0, .int .i64 0, .slice none 0 0] 24 (0, 0))) := Lib.hid (h0)
 have Lt10 : Hid (b5 < V7.heap.size) := Lib.hid (xp_lt Fv9_5.out)
 clear hge h0 hb
 simp only [ptr, Act.put, zqA, zq0, zq1]
 refine wpList_storeW b5 #[.int .i64 0, .int .i64 0, .int .i64 0, .slice none 0 0] #[.int .i64 (q.kind : Int), .int .i64 (q.col : Int), .int .i64 (q.k : Int), .slice A3 q.fs.length c3] 24 (by kernel_rfl) Fv9_5.out (xo_storeW b5 #[.int .i64 0, .int .i64 0, .int .i64 0, .slice none 0 0] #[.int .i64 (q.kind : Int), .int .i64 (q.col : Int), .int .i64 (q.k : Int), .slice A3 q.fs.length c3] Fv9_5.out (by kernel_rfl) rfl (by simp [Value.oneCell']) rfl rfl rfl) ?_
 intro X7_11 h1 hfar hbel hsz
 have hbr := hbel _ _ Ge8.out B6.out
 clear B6
 have B6 := Lib.hid hbr
 clear hbr
 clear Fv9_5
 have Fv9_5 : Hid (X7_11.heap[b5]? = some (.cells #[.int .i64 (q.kind : Int), .int .i64 (q.col : Int), .int .i64 (q.k : Int), .slice A3 q.fs.length c3] 24 (0, 0))) := Lib.hid (h1)
 have HszX7_11 := Lib.hid hsz
 clear h1 hfar hbel hsz
 simp only [ptr, Act.put, zqA, zq0, zq1]
 refine zr (.int .i64 0) X7_11 rfl ?_
 simp only [Act.put, zqA, zq0, zq1]
 refine zr (.int .i64 0) X7_11 rfl ?_
 simp only [Act.put, zqA, zq0, zq1]
 refine wpList_nil ?_
 go_upto_region 4 with fail
 refine wp_region_lit ?_
 refine zr (.agg #[.int .i64 (q.kind : Int), .int .i64 (q.col : Int), .int .i64 (q.k : Int), .slice A3 q.fs.length c3]) X7_11 (xo_loadW b5 _ Fv9_5.out Tryd.underlying24 rfl (by kernel_rfl) rfl rfl) ?_
 simp only [Act.put, zqA, zq0, zq1]
 have C4_7 := Lib.hid (bel_step C4_6.out B6.out)
 refine zr (.agg #[.int .i64 (q.kind : Int), .int .i64 (q.col : Int), .int .i64 (q.k : Int), .slice A2 q.fs.length c2]) X7_11 (xo_loadW b4 _ (heap_keep Fv3_4.out C4_7.out) Tryd.underlying24 rfl (by kernel_rfl) rfl rfl) ?_
 simp only [Act.put, zqA, zq0, zq1]
 have C3_5 := Lib.hid (bel_step B3.out B4.out)
 have C3_6 := Lib.hid (bel_step C3_5.out B5.out)
 have C3_7 := Lib.hid (bel_step C3_6.out B6.out)
 refine wpList_call (by kernel_rfl) 22 Tryd.func22 (by kernel_rfl) (by kernel_rfl) _ _ #[.agg #[.int .i64 (q.kind : Int), .int .i64 (q.col : Int), .int .i64 (q.k : Int), .slice A3 q.fs.length c3], .agg #[.int .i64 (q.kind : Int), .int .i64 (q.col : Int), .int .i64 (q.k : Int), .slice A2 q.fs.length c2]] rfl (by kernel_rfl) ?_
 refine (same_yes (q.kind : Int) (q.col : Int) (q.k : Int) A3 q.fs.length c3 hs3 A2 c2 hs2 (q.fs.map (List.map Qu.Cd.ci)) X7_11 (HFR3.out.keep B6.out) (HFR2.out.keep C3_7.out)).mono ?_
 rintro e V8 ⟨rfl, hb⟩
 have B7 := Lib.hid hb
 clear hb 
 refine ⟨_, rfl, ?_⟩
 simp only [Act.put, zqA, zq0, zq1]
 refine zr (.bool true) V8 rfl ?_
 simp only [Act.put, zqA, zq0, zq1]
 refine zr (.int .i64 0) V8 rfl ?_
 simp only [Act.put, zqA, zq0, zq1]
 refine zr (.bool true) V8 (xo_eqlT .i64 0 0 (by omega) rfl rfl rfl) ?_
 simp only [Act.put, zqA, zq0, zq1]
 refine zr (.bool true) V8 rfl ?_
 simp only [Act.put, zqA, zq0, zq1]
 refine zr (.bool true) V8 rfl ?_
 simp only [Act.put, zqA, zq0, zq1]
 refine zr (.int .i64 0) V8 rfl ?_
 simp only [Act.put, zqA, zq0, zq1]
 refine zr (.bool true) V8 (xo_eqlT .i64 0 0 (by omega) rfl rfl rfl) ?_
 simp only [Act.put, zqA, zq0, zq1]
 refine zr (.bool true) V8 rfl ?_
 simp only [Act.put, zqA, zq0, zq1]
 refine zr (.bool true) V8 rfl ?_
 simp only [Act.put, zqA, zq0, zq1]
 refine zr (.bool true) V8 rfl ?_
 simp only [Act.put, zqA, zq0, zq1]
 refine zr (.bool true) V8 rfl ?_
 simp only [Act.put, zqA, zq0, zq1]
 refine zr (.bool true) V8 rfl ?_
 simp only [Act.put, zqA, zq0, zq1]
 refine wpList_nil ?_
 have C0_6 := Lib.hid (bel_step C0_5.out B5.out)
 have C0_7 := Lib.hid (bel_step C0_6.out B6.out)
 have C0_8 := Lib.hid (bel_step C0_7.out B7.out)
 have hbf := C0_8.out
 go_wp2_with fail
 go_ret
 exact ⟨rfl, hbf⟩
end Go.Proofs.YtlicfidcfhbmpaaDoor
