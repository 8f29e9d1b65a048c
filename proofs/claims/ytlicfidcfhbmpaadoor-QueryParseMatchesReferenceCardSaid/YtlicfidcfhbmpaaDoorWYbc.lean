/- Stage 13: law QueryParseMatchesReference. -/
import Derived.Test.YtlicfidcfhbmpaaDoorE16
import Derived.Test.YtlicfidcfhbmpaaDoorE18
import Derived.Test.YtlicfidcfhbmpaaDoorE24
import Derived.Test.YtlicfidcfhbmpaaDoorE23
namespace Go.Proofs.YtlicfidcfhbmpaaDoor
set_option linter.unusedVariables false
set_option linter.unusedSimpArgs false
set_option linter.unusedSectionVars false
set_option maxRecDepth 8000
open Go.RowKit Go.Proofs.YtlicfidcfhbmpaaDoor.K
attribute [local irreducible] wpList wpQuiet
set_option maxRecDepth 100000 in
set_option maxHeartbeats 32000000 in
theorem qParseMatches_any (s : List UInt8) (hs : s.length ≤ 9223372036854775807) (w : World) (hG : Gc w) : Calls Tryd.prog 4 #[.string (sB s)] w fun e w' => e = .returned (.bool true) ∧ Below w.heap.size w w' := by
 have HG := zh hG
 clear hG
 obtain ⟨n, hn⟩ : ∃ n, s.length = n := ⟨_, rfl⟩
 have HN := zh hn
 clear hn
 obtain ⟨j, hj⟩ : ∃ j, min n 450 = j := ⟨_, rfl⟩
 have HJ := zh hj
 clear hj
 obtain ⟨t, ht⟩ : ∃ t, s.take j = t := ⟨_, rfl⟩
 have HT := zh ht
 clear ht
 have hjn : j ≤ n ∧ j ≤ 450 := by rw [← HJ.out]; omega
 have hnn : n ≤ 9223372036854775807 := by rw [← HN.out]; exact hs
 clear hs
 obtain ⟨⟨q, off, er⟩, hp⟩ : ∃ x, Qu.parseN t = x := ⟨_, rfl⟩
 have HP := zh hp
 have HRP := zh ((refP_parseN t).trans hp)
 clear hp
 go_enter Tryd.func4, Tryd.ntmps4
 go_upto_region 1 with fail
 refine wp_region_lit ?_
 refine wpList_call (by kernel_rfl) 11 Tryd.func11 (by kernel_rfl) (by kernel_rfl) _ _ #[] rfl (by kernel_rfl) ?_
 refine (sanity13_any w HG.out).mono ?_
 rintro e V1 ⟨rfl, hb⟩
 have B0 := zh hb
 clear hb 
 refine ⟨_, rfl, ?_⟩
 simp only [Act.put, zA]
 refine zr (.bool true) V1 rfl ?_
 simp only [Act.put, zA]
 refine wpList_nil ?_
 go_upto_region 2 with fail
 refine wp_region_lit ?_
 refine zr (.string (sB s)) V1 rfl ?_
 simp only [Act.put, zA]
 refine zr (.string (sB s)) V1 rfl ?_
 simp only [Act.put, zA]
 refine zr (.int .i64 (n : Int)) V1 (xs_lenN s n HN.out Tryd.underlying9 rfl rfl) ?_
 simp only [Act.put, zA]
 refine zr (.int .i64 (j : Int)) V1 (xo_min .i64 (n : Int) 450 (j : Int) (by have := HJ.out; split <;> omega) rfl rfl rfl) ?_
 simp only [Act.put, zA]
 refine zr (.string (sB t)) V1 (HT.out ▸ xs_take s j (by rw [HN.out]; omega) Tryd.underlying9 rfl rfl rfl) ?_
 simp only [Act.put, zA]
 refine zr (.string (sB t)) V1 rfl ?_
 simp only [Act.put, zA]
 refine wpList_nil ?_
 go_upto_region 3 with fail
 refine wp_region_lit ?_
 refine zr (.string (sB t)) V1 rfl ?_
 simp only [Act.put, zA]
 refine wpList_call (by kernel_rfl) 20 Tryd.func20 (by kernel_rfl) (by kernel_rfl) _ _ #[.string (sB t)] rfl (by kernel_rfl) ?_
 refine (parse_as t V1 (HG.out.keep B0.out) q off er HP.out).mono ?_
 rintro e V2 ⟨A, c2, c, rfl, hfo, hb⟩
 have B1 := zh hb
 obtain ⟨hn2, hs2, hfr⟩ := FsOwn.fsR hfo
 subst hn2
 clear hfo
 have HFR2 := zh hfr
 clear hb hfr
 refine ⟨_, rfl, ?_⟩
 simp only [Act.put, zA]
 refine zr (.tuple #[.agg #[.int .i64 (q.kind : Int), .int .i64 (q.col : Int), .int .i64 (q.k : Int), .slice A q.fs.length c], .int .i64 (off : Int), .int .i64 (er : Int)]) V2 rfl ?_
 simp only [Act.put, zA]
 refine zr (.agg #[.int .i64 (q.kind : Int), .int .i64 (q.col : Int), .int .i64 (q.k : Int), .slice A q.fs.length c]) V2 rfl ?_
 simp only [Act.put, zA]
 refine zr (.int .i64 (off : Int)) V2 rfl ?_
 simp only [Act.put, zA]
 refine zr (.int .i64 (er : Int)) V2 rfl ?_
 simp only [Act.put, zA]
 refine wpList_new #[.int .i64 0, .int .i64 0, .int .i64 0, .slice none 0 0] 24 (by kernel_rfl) (xo_alloc #[.int .i64 0, .int .i64 0, .int .i64 0, .slice none 0 0] (by kernel_rfl) rfl) ?_
 intro b4 V3 hge h0 hb
 have Ge0 : Hid (V2.heap.size ≤ b4) := zh hge
 have B2 := zh hb
 have Fv1_4 : Hid (V3.heap[b4]? = some (.cells #[.int .i64 0, .int .i64 0, .int .i64 0, .slice none 0 0] 24 (0, 0))) := zh (h0)
 have Lt2 : Hid (b4 < V3.heap.size) := zh (xp_lt Fv1_4.out)
 clear hge h0 hb
 simp only [ptr, Act.put, zA]
 refine wpList_storeW b4 #[.int .i64 0, .int .i64 0, .int .i64 0, .slice none 0 0] #[.int .i64 (q.kind : Int), .int .i64 (q.col : Int), .int .i64 (q.k : Int), .slice A q.fs.length c] 24 (by kernel_rfl) Fv1_4.out (xo_storeW b4 #[.int .i64 0, .int .i64 0, .int .i64 0, .slice none 0 0] #[.int .i64 (q.kind : Int), .int .i64 (q.col : Int), .int .i64 (q.k : Int), .slice A q.fs.length c] Fv1_4.out (by kernel_rfl) rfl (by simp [Value.oneCell']) rfl rfl rfl) ?_
 intro X3_3 h1 hfar hbel hsz
 have hbr := hbel _ _ Ge0.out B2.out
 clear B2
 have B2 := zh hbr
 clear hbr
 clear Fv1_4
 have Fv1_4 : Hid (X3_3.heap[b4]? = some (.cells #[.int .i64 (q.kind : Int), .int .i64 (q.col : Int), .int .i64 (q.k : Int), .slice A q.fs.length c] 24 (0, 0))) := zh (h1)
 have HszX3_3 := zh hsz
 clear h1 hfar hbel hsz
 simp only [ptr, Act.put, zA]
 refine zr (.int .i64 (off : Int)) X3_3 rfl ?_
 simp only [Act.put, zA]
 refine zr (.int .i64 (er : Int)) X3_3 rfl ?_
 simp only [Act.put, zA]
 refine wpList_nil ?_
 go_upto_region 4 with fail
 refine wp_region_lit ?_
 refine zr (.string (sB t)) X3_3 rfl ?_
 simp only [Act.put, zA]
 refine wpList_call (by kernel_rfl) 21 Tryd.func21 (by kernel_rfl) (by kernel_rfl) _ _ #[.string (sB t)] rfl (by kernel_rfl) ?_
 refine (rparse_as t X3_3 q off er HRP.out).mono ?_
 rintro e V4 ⟨A3, n3, c3, rfl, hfo, hb⟩
 have B3 := zh hb
 obtain ⟨hn3, hs3, hfr⟩ := FsOwn.fsR hfo
 subst hn3
 clear hfo
 have HFR3 := zh hfr
 clear hb hfr
 refine ⟨_, rfl, ?_⟩
 simp only [Act.put, zA]
 refine zr (.tuple #[.agg #[.int .i64 (q.kind : Int), .int .i64 (q.col : Int), .int .i64 (q.k : Int), .slice A3 q.fs.length c3], .int .i64 (off : Int), .int .i64 (er : Int)]) V4 rfl ?_
 simp only [Act.put, zA]
 refine zr (.agg #[.int .i64 (q.kind : Int), .int .i64 (q.col : Int), .int .i64 (q.k : Int), .slice A3 q.fs.length c3]) V4 rfl ?_
 simp only [Act.put, zA]
 refine zr (.int .i64 (off : Int)) V4 rfl ?_
 simp only [Act.put, zA]
 refine zr (.int .i64 (er : Int)) V4 rfl ?_
 simp only [Act.put, zA]
 refine wpList_new #[.int .i64 0, .int .i64 0, .int .i64 0, .slice none 0 0] 24 (by kernel_rfl) (xo_alloc #[.int .i64 0, .int .i64 0, .int .i64 0, .slice none 0 0] (by kernel_rfl) rfl) ?_
 intro b7 V5 hge h0 hb
 have N4_0 : Hid (b4 ≠ b7) := zh (xp_lt0 (heap_keep Fv1_4.out B3.out) hge)
 have Ge5 : Hid (V4.heap.size ≤ b7) := zh hge
 have B4 := zh hb
 have Fv6_7 : Hid (V5.heap[b7]? = some (.cells #[.int .i64 0, .int .i64 0, .int .i64 0, .slice none 0 0] 24 (0, 0))) := zh (h0)
 have Lt7 : Hid (b7 < V5.heap.size) := zh (xp_lt Fv6_7.out)
 clear hge h0 hb
 simp only [ptr, Act.put, zA]
 refine wpList_storeW b7 #[.int .i64 0, .int .i64 0, .int .i64 0, .slice none 0 0] #[.int .i64 (q.kind : Int), .int .i64 (q.col : Int), .int .i64 (q.k : Int), .slice A3 q.fs.length c3] 24 (by kernel_rfl) Fv6_7.out (xo_storeW b7 #[.int .i64 0, .int .i64 0, .int .i64 0, .slice none 0 0] #[.int .i64 (q.kind : Int), .int .i64 (q.col : Int), .int .i64 (q.k : Int), .slice A3 q.fs.length c3] Fv6_7.out (by kernel_rfl) rfl (by simp [Value.oneCell']) rfl rfl rfl) ?_
 intro X5_8 h1 hfar hbel hsz
 have hbr := hbel _ _ Ge5.out B4.out
 clear B4
 have B4 := zh hbr
 clear hbr
 clear Fv6_7
 have Fv6_7 : Hid (X5_8.heap[b7]? = some (.cells #[.int .i64 (q.kind : Int), .int .i64 (q.col : Int), .int .i64 (q.k : Int), .slice A3 q.fs.length c3] 24 (0, 0))) := zh (h1)
 have HszX5_8 := zh hsz
 clear h1 hfar hbel hsz
 simp only [ptr, Act.put, zA]
 refine zr (.int .i64 (off : Int)) X5_8 rfl ?_
 simp only [Act.put, zA]
 refine zr (.int .i64 (er : Int)) X5_8 rfl ?_
 simp only [Act.put, zA]
 refine wpList_nil ?_
 have hci9 : ((off : Int) = (off : Int)) := by omega
 have hci10 : ((er : Int) = (er : Int)) := by omega
 go_upto_region 5 with fail
 refine wp_region_lit ?_
 have C3_5 := zb B3 B4
 refine zr (.agg #[.int .i64 (q.kind : Int), .int .i64 (q.col : Int), .int .i64 (q.k : Int), .slice A q.fs.length c]) X5_8 (xo_loadW b4 _ (heap_keep Fv1_4.out C3_5.out) Tryd.underlying24 rfl (by kernel_rfl) rfl rfl) ?_
 simp only [Act.put, zA]
 refine zr (.agg #[.int .i64 (q.kind : Int), .int .i64 (q.col : Int), .int .i64 (q.k : Int), .slice A3 q.fs.length c3]) X5_8 (xo_loadW b7 _ Fv6_7.out Tryd.underlying24 rfl (by kernel_rfl) rfl rfl) ?_
 simp only [Act.put, zA]
 have C2_4 := zb B2 B3
 have C2_5 := zb C2_4 B4
 refine wpList_call (by kernel_rfl) 22 Tryd.func22 (by kernel_rfl) (by kernel_rfl) _ _ #[.agg #[.int .i64 (q.kind : Int), .int .i64 (q.col : Int), .int .i64 (q.k : Int), .slice A q.fs.length c], .agg #[.int .i64 (q.kind : Int), .int .i64 (q.col : Int), .int .i64 (q.k : Int), .slice A3 q.fs.length c3]] rfl (by kernel_rfl) ?_
 refine (same_yes (q.kind : Int) (q.col : Int) (q.k : Int) A q.fs.length c hs2 A3 c3 hs3 (q.fs.map (List.map Qu.Cd.ci)) X5_8 (HFR2.out.keep C2_5.out) (HFR3.out.keep B4.out)).mono ?_
 rintro e V6 ⟨rfl, hb⟩
 have B5 := zh hb
 clear hb 
 refine ⟨_, rfl, ?_⟩
 simp only [Act.put, zA]
 refine zr (.bool true) V6 rfl ?_
 simp only [Act.put, zA]
 refine zr (.int .i64 (off : Int)) V6 rfl ?_
 simp only [Act.put, zA]
 refine zr (.int .i64 (off : Int)) V6 rfl ?_
 simp only [Act.put, zA]
 refine zr (.bool true) V6 (xo_eqlT .i64 (off : Int) (off : Int) (by omega) rfl rfl rfl) ?_
 simp only [Act.put, zA]
 refine zr (.bool true) V6 rfl ?_
 simp only [Act.put, zA]
 refine zr (.bool true) V6 rfl ?_
 simp only [Act.put, zA]
 refine zr (.int .i64 (er : Int)) V6 rfl ?_
 simp only [Act.put, zA]
 refine zr (.int .i64 (er : Int)) V6 rfl ?_
 simp only [Act.put, zA]
 refine zr (.bool true) V6 (xo_eqlT .i64 (er : Int) (er : Int) (by omega) rfl rfl rfl) ?_
 simp only [Act.put, zA]
 refine zr (.bool true) V6 rfl ?_
 simp only [Act.put, zA]
 refine zr (.bool true) V6 rfl ?_
 simp only [Act.put, zA]
 refine zr (.bool true) V6 rfl ?_
 simp only [Act.put, zA]
 refine zr (.bool true) V6 rfl ?_
 simp only [Act.put, zA]
 refine zr (.bool true) V6 rfl ?_
 simp only [Act.put, zA]
 refine wpList_nil ?_
 have C0_2 := zb B0 B1
 have C0_3 := zb C0_2 B2
 have C0_4 := zb C0_3 B3
 have C0_5 := zb C0_4 B4
 have C0_6 := zb C0_5 B5
 have hbf := C0_6.out
 go_wp2_with fail
 go_ret
 exact ⟨rfl, hbf⟩
end Go.Proofs.YtlicfidcfhbmpaaDoor
