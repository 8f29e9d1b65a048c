/- Stage 13: law QueryParsedValid. -/
import Derived.Test.YtlicfidcfhbmpaaDoorTp20
import Derived.Test.YtlicfidcfhbmpaaDoorTp17
import Derived.Test.YtlicfidcfhbmpaaDoorTp19
import Derived.Test.YtlicfidcfhbmpaaDoorTp16
namespace Go.Proofs.YtlicfidcfhbmpaaDoor
set_option linter.unusedVariables false
set_option linter.unusedSimpArgs false
set_option linter.unusedSectionVars false
set_option maxRecDepth 8000
open Go.RowKit Go.Proofs.YtlicfidcfhbmpaaDoor.K
attribute [local irreducible] wpList wpQuiet
namespace K
set_option linter.unusedVariables false
set_option linter.unusedSimpArgs false
set_option linter.unusedSectionVars false
theorem xs_take {P : Program} {ev : Operand → Value} {o : Oper} {w : World} {ty : TypeId} {x z : Operand} (l : List UInt8) (j : Nat) (hj : j ≤ l.length) (hu : P.underlying ty = some .string) (ho : o.op = .slice ty x none (some z) none) (hx : ev x = .string (sB l)) (hz : ev z = .int .i64 (j : Int)) : (execOp ev o).run P w = .ok (.value (.string (sB (l.take j)))) w := by
 have b1 : (Instr.sliceBound (.int .i64 (j : Int)) (sB l).size .sliceAlen).run P w = .ok j w := by
  have : (j : Int) ≤ ((sB l).size : Int) := by rw [sB_size]; omega
  simp [Instr.sliceBound, asIntOf, Sem.run_bind, this]
 unfold execOp
 simp only [ho, Option.map, Sem.run_bind, Instr.sliceAt, hx, hz]
 rw [run_underlying hu, Result.andThen_ok]
 simp only [Instr.slice, Sem.run_bind]
 rw [run_underlying hu, Result.andThen_ok]
 simp [Instr.sliceBounds, Sem.run_bind, Sem.run_pure, b1, sB_cut]
end K
set_option maxRecDepth 100000 in
set_option maxHeartbeats 32000000 in
theorem qParsed_any (s : List UInt8) (hs : s.length ≤ 9223372036854775807) (w : World) (hG : Gc w) : Calls Tryd.prog 6 #[.string (sB s)] w fun e w' => e = .returned (.bool true) ∧ Below w.heap.size w w' := by
 have HG := Lib.hid hG
 clear hG
 obtain ⟨n, hn⟩ : ∃ n, s.length = n := ⟨_, rfl⟩
 have HN := Lib.hid hn
 clear hn
 obtain ⟨j, hj⟩ : ∃ j, min n 450 = j := ⟨_, rfl⟩
 have HJ := Lib.hid hj
 clear hj
 obtain ⟨t, ht⟩ : ∃ t, s.take j = t := ⟨_, rfl⟩
 have HT := Lib.hid ht
 clear ht
 obtain ⟨tl, htl⟩ : ∃ tl, t.length = tl := ⟨_, rfl⟩
 have HTL := Lib.hid htl
 clear htl
 have hjn : j ≤ n ∧ j ≤ 450 := by rw [← HJ.out]; omega
 have hnn : n ≤ 9223372036854775807 := by rw [← HN.out]; exact hs
 have htl : tl ≤ 450 := by rw [← HTL.out, ← HT.out, List.length_take]; omega
 clear hs
 obtain ⟨⟨q, off, er⟩, hp⟩ : ∃ x, Qu.parseN t = x := ⟨_, rfl⟩
 have HP := Lib.hid hp
 have hcs := parseN_cases t q off er hp
 rw [HTL.out] at hcs
 clear hp
 go_enter Tryd.func6, Tryd.ntmps6
 go_upto_region 1 with fail
 refine wp_region_lit ?_
 refine wpList_call (by kernel_rfl) 11 Tryd.func11 (by kernel_rfl) (by kernel_rfl) _ _ #[] rfl (by kernel_rfl) ?_
 refine (sanity13_any w HG.out).mono ?_
 rintro e V1 ⟨rfl, hb⟩
 have B0 := Lib.hid hb
 clear hb 
 refine ⟨_, rfl, ?_⟩
 simp only [Act.put, zA, zB, zC]
 refine zr (.bool true) V1 rfl ?_
 simp only [Act.put, zA, zB, zC]
 refine wpList_nil ?_
 go_upto_region 2 with fail
 refine wp_region_lit ?_
 refine zr (.string (sB s)) V1 rfl ?_
 simp only [Act.put, zA, zB, zC]
 refine zr (.string (sB s)) V1 rfl ?_
 simp only [Act.put, zA, zB, zC]
 refine zr (.int .i64 (n : Int)) V1 (xs_lenN s n HN.out Tryd.underlying9 rfl rfl) ?_
 simp only [Act.put, zA, zB, zC]
 refine zr (.int .i64 (j : Int)) V1 (xo_min .i64 (n : Int) 450 (j : Int) (by have := HJ.out; split <;> omega) rfl rfl rfl) ?_
 simp only [Act.put, zA, zB, zC]
 refine zr (.string (sB t)) V1 (HT.out ▸ xs_take s j (by rw [HN.out]; omega) Tryd.underlying9 rfl rfl rfl) ?_
 simp only [Act.put, zA, zB, zC]
 refine zr (.string (sB t)) V1 rfl ?_
 simp only [Act.put, zA, zB, zC]
 refine wpList_nil ?_
 go_upto_region 3 with fail
 refine wp_region_lit ?_
 refine zr (.string (sB t)) V1 rfl ?_
 simp only [Act.put, zA, zB, zC]
 refine wpList_call (by kernel_rfl) 20 Tryd.func20 (by kernel_rfl) (by kernel_rfl) _ _ #[.string (sB t)] rfl (by kernel_rfl) ?_
 refine (parse_as t V1 (HG.out.keep B0.out) q off er HP.out).mono ?_
 rintro e V2 ⟨A, c2, c, rfl, hfo, hb⟩
 have B1 := Lib.hid hb
 obtain ⟨hn2, hs2, hfr⟩ := FsOwn.fsR hfo
 subst hn2
 clear hfo
 have HFR2 := Lib.hid hfr
 clear hb hfr
 refine ⟨_, rfl, ?_⟩
 simp only [Act.put, zA, zB, zC]
 refine zr (.tuple #[.agg #[.int .i64 (q.kind : Int), .int .i64 (q.col : Int), .int .i64 (q.k : Int), .slice A q.fs.length c], .int .i64 (off : Int), .int .i64 (er : Int)]) V2 rfl ?_
 simp only [Act.put, zA, zB, zC]
 refine zr (.agg #[.int .i64 (q.kind : Int), .int .i64 (q.col : Int), .int .i64 (q.k : Int), .slice A q.fs.length c]) V2 rfl ?_
 simp only [Act.put, zA, zB, zC]
 refine zr (.int .i64 (off : Int)) V2 rfl ?_
 simp only [Act.put, zA, zB, zC]
 refine zr (.int .i64 (er : Int)) V2 rfl ?_
 simp only [Act.put, zA, zB, zC]
 refine wpList_new #[.int .i64 0, .int .i64 0, .int .i64 0, .slice none 0 0] 24 (by kernel_rfl) (xo_alloc #[.int .i64 0, .int .i64 0, .int .i64 0, .slice none 0 0] (by kernel_rfl) rfl) ?_
 intro b4 V3 hge h0 hb
 have Ge0 : Hid (V2.heap.size ≤ b4) := Lib.hid hge
 have B2 := Lib.hid hb
 have Fv1_4 : Hid (V3.heap[b4]? = some (.cells #[.int .i64 0, .int .i64 0, .int .i64 0, .slice none 0 0] 24 (0, 0))) := Lib.hid (h0)
 have Lt2 : Hid (b4 < V3.heap.size) := Lib.hid (xp_lt Fv1_4.out)
 clear hge h0 hb
 simp only [ptr, Act.put, zA, zB, zC]
 refine wpList_storeW b4 #[.int .i64 0, .int .i64 0, .int .i64 0, .slice none 0 0] #[.int .i64 (q.kind : Int), .int .i64 (q.col : Int), .int .i64 (q.k : Int), .slice A q.fs.length c] 24 (by kernel_rfl) Fv1_4.out (xo_storeW b4 #[.int .i64 0, .int .i64 0, .int .i64 0, .slice none 0 0] #[.int .i64 (q.kind : Int), .int .i64 (q.col : Int), .int .i64 (q.k : Int), .slice A q.fs.length c] Fv1_4.out (by kernel_rfl) rfl (by simp [Value.oneCell']) rfl rfl rfl) ?_
 intro X3_3 h1 hfar hbel hsz
 have hbr := hbel _ _ Ge0.out B2.out
 clear B2
 have B2 := Lib.hid hbr
 clear hbr
 clear Fv1_4
 have Fv1_4 : Hid (X3_3.heap[b4]? = some (.cells #[.int .i64 (q.kind : Int), .int .i64 (q.col : Int), .int .i64 (q.k : Int), .slice A q.fs.length c] 24 (0, 0))) := Lib.hid (h1)
 have HszX3_3 := Lib.hid hsz
 clear h1 hfar hbel hsz
 simp only [ptr, Act.put, zA, zB, zC]
 refine zr (.int .i64 (off : Int)) X3_3 rfl ?_
 simp only [Act.put, zA, zB, zC]
 refine zr (.int .i64 (er : Int)) X3_3 rfl ?_
 simp only [Act.put, zA, zB, zC]
 refine wpList_nil ?_
 rcases hcs with ⟨he, hok, ho, hl⟩ | ⟨hq, hcs⟩
 ·have HOK := Lib.hid hok
  subst he ho
  clear hok
  go_upto_region 4 with fail
  refine wp_region_lit ?_
  refine zr (.int .i64 0) X3_3 rfl ?_
  simp only [Act.put, zA, zB, zC]
  refine zr (.bool false) X3_3 (xo_neqF .i64 0 0 (by omega) rfl rfl rfl) ?_
  simp only [Act.put, zA, zB, zC]
  refine wpList_nil ?_
  have hci4 : ((tl : Int) ≤ 400) := by omega
  go_upto_region 7 with fail
  refine wp_region_lit ?_
  refine zr (.agg #[.int .i64 (q.kind : Int), .int .i64 (q.col : Int), .int .i64 (q.k : Int), .slice A q.fs.length c]) X3_3 (xo_loadW b4 _ Fv1_4.out Tryd.underlying24 rfl (by kernel_rfl) rfl rfl) ?_
  simp only [Act.put, zA, zB, zC]
  refine wpList_call (by kernel_rfl) 13 Tryd.func13 (by kernel_rfl) (by kernel_rfl) _ _ #[.agg #[.int .i64 (q.kind : Int), .int .i64 (q.col : Int), .int .i64 (q.k : Int), .slice A q.fs.length c]] rfl (by kernel_rfl) ?_
  refine (rvalid_as13 (q.kind : Int) (q.col : Int) (q.k : Int) A q.fs.length c hs2 (q.fs.map (List.map Qu.Cd.ci)) true (vQ_of q HOK.out) X3_3 (HFR2.out.keep B2.out)).mono ?_
  rintro e V4 ⟨rfl, hb⟩
  have B3 := Lib.hid hb
  clear hb 
  refine ⟨_, rfl, ?_⟩
  simp only [Act.put, zA, zB, zC]
  refine zr (.bool false) V4 rfl ?_
  simp only [Act.put, zA, zB, zC]
  refine wpList_nil ?_
  go_upto_region 9 with fail
  refine wp_region_lit ?_
  refine zr (.agg #[.int .i64 (q.kind : Int), .int .i64 (q.col : Int), .int .i64 (q.k : Int), .slice A q.fs.length c]) V4 (xo_loadW b4 _ (heap_keep Fv1_4.out B3.out) Tryd.underlying24 rfl (by kernel_rfl) rfl rfl) ?_
  simp only [Act.put, zA, zB, zC]
  have C0_2 := zb B0 B1
  have C0_3 := zb C0_2 B2
  have C0_4 := zb C0_3 B3
  have C2_4 := zb B2 B3
  refine wpList_call (by kernel_rfl) 18 Tryd.func18 (by kernel_rfl) (by kernel_rfl) _ _ #[.agg #[.int .i64 (q.kind : Int), .int .i64 (q.col : Int), .int .i64 (q.k : Int), .slice A q.fs.length c]] rfl (by kernel_rfl) ?_
  refine (format_any q.kind q.col q.k A q.fs.length c hs2 q.fs (vQ_of q HOK.out) V4 (HG.out.keep C0_4.out) (HFR2.out.keep C2_4.out)).mono ?_
  rintro e V5 ⟨rfl, hb⟩
  have B4 := Lib.hid hb
  clear hb 
  refine ⟨_, rfl, ?_⟩
  simp only [Act.put, zA, zB, zC]
  have C0_5 := zb C0_4 B4
  refine wpList_call (by kernel_rfl) 20 Tryd.func20 (by kernel_rfl) (by kernel_rfl) _ _ #[.string (sB (Qu.fmtN ⟨q.kind, q.col, q.k, q.fs⟩))] rfl (by kernel_rfl) ?_
  refine (parse_as (Qu.fmtN ⟨q.kind, q.col, q.k, q.fs⟩) V5 (HG.out.keep C0_5.out) q 0 0 (parse_fmt q HOK.out)).mono ?_
  rintro e V6 ⟨A3, n3, c3, rfl, hfo, hb⟩
  have B5 := Lib.hid hb
  obtain ⟨hn3, hs3, hfr⟩ := FsOwn.fsR hfo
  subst hn3
  clear hfo
  have HFR3 := Lib.hid hfr
  clear hb hfr
  refine ⟨_, rfl, ?_⟩
  simp only [Act.put, zA, zB, zC]
  refine zr (.tuple #[.agg #[.int .i64 (q.kind : Int), .int .i64 (q.col : Int), .int .i64 (q.k : Int), .slice A3 q.fs.length c3], .int .i64 0, .int .i64 0]) V6 rfl ?_
  simp only [Act.put, zA, zB, zC]
  refine zr (.agg #[.int .i64 (q.kind : Int), .int .i64 (q.col : Int), .int .i64 (q.k : Int), .slice A3 q.fs.length c3]) V6 rfl ?_
  simp only [Act.put, zA, zB, zC]
  refine zr (.int .i64 0) V6 rfl ?_
  simp only [Act.put, zA, zB, zC]
  refine zr (.int .i64 0) V6 rfl ?_
  simp only [Act.put, zA, zB, zC]
  refine wpList_new #[.int .i64 0, .int .i64 0, .int .i64 0, .slice none 0 0] 24 (by kernel_rfl) (xo_alloc #[.int .i64 0, .int .i64 0, .int .i64 0, .slice none 0 0] (by kernel_rfl) rfl) ?_
  intro b8 V7 hge h0 hb
  have C3_5 := zb B3 B4
  have C3_6 := zb C3_5 B5
  have N5_0 : Hid (b4 ≠ b8) := Lib.hid (xp_lt0 (heap_keep Fv1_4.out C3_6.out) hge)
  have Ge6 : Hid (V6.heap.size ≤ b8) := Lib.hid hge
  have B6 := Lib.hid hb
  have Fv7_8 : Hid (V7.heap[b8]? = some (.cells #[.int .i64 0, .int .i64 0, .int .i64 0, .slice none 0 0] 24 (0, 0))) := Lib.hid (h0)
  have Lt8 : Hid (b8 < V7.heap.size) := Lib.hid (xp_lt Fv7_8.out)
  clear hge h0 hb
  simp only [ptr, Act.put, zA, zB, zC]
  refine wpList_storeW b8 #[.int .i64 0, .int .i64 0, .int .i64 0, .slice none 0 0] #[.int .i64 (q.kind : Int), .int .i64 (q.col : Int), .int .i64 (q.k : Int), .slice A3 q.fs.length c3] 24 (by kernel_rfl) Fv7_8.out (xo_storeW b8 #[.int .i64 0, .int .i64 0, .int .i64 0, .slice none 0 0] #[.int .i64 (q.kind : Int), .int .i64 (q.col : Int), .int .i64 (q.k : Int), .slice A3 q.fs.length c3] Fv7_8.out (by kernel_rfl) rfl (by simp [Value.oneCell']) rfl rfl rfl) ?_
  intro X7_9 h1 hfar hbel hsz
  have hbr := hbel _ _ Ge6.out B6.out
  clear B6
  have B6 := Lib.hid hbr
  clear hbr
  clear Fv7_8
  have Fv7_8 : Hid (X7_9.heap[b8]? = some (.cells #[.int .i64 (q.kind : Int), .int .i64 (q.col : Int), .int .i64 (q.k : Int), .slice A3 q.fs.length c3] 24 (0, 0))) := Lib.hid (h1)
  have HszX7_9 := Lib.hid hsz
  clear h1 hfar hbel hsz
  simp only [ptr, Act.put, zA, zB, zC]
  refine zr (.int .i64 0) X7_9 rfl ?_
  simp only [Act.put, zA, zB, zC]
  refine zr (.int .i64 0) X7_9 rfl ?_
  simp only [Act.put, zA, zB, zC]
  refine wpList_nil ?_
  go_upto_region 10 with fail
  refine wp_region_lit ?_
  refine zr (.int .i64 0) X7_9 rfl ?_
  simp only [Act.put, zA, zB, zC]
  refine zr (.bool true) X7_9 (xo_eqlT .i64 0 0 (by omega) rfl rfl rfl) ?_
  simp only [Act.put, zA, zB, zC]
  refine zr (.bool true) X7_9 rfl ?_
  simp only [Act.put, zA, zB, zC]
  refine zr (.string (sB t)) X7_9 rfl ?_
  simp only [Act.put, zA, zB, zC]
  refine zr (.int .i64 (tl : Int)) X7_9 (xs_lenN t tl HTL.out Tryd.underlying9 rfl rfl) ?_
  simp only [Act.put, zA, zB, zC]
  refine zr (.bool true) X7_9 (xo_leqT .i64 (tl : Int) 400 (by omega) rfl rfl rfl) ?_
  simp only [Act.put, zA, zB, zC]
  refine zr (.bool true) X7_9 rfl ?_
  simp only [Act.put, zA, zB, zC]
  refine zr (.bool true) X7_9 rfl ?_
  simp only [Act.put, zA, zB, zC]
  refine zr (.int .i64 0) X7_9 rfl ?_
  simp only [Act.put, zA, zB, zC]
  refine zr (.bool true) X7_9 (xo_eqlT .i64 0 0 (by omega) rfl rfl rfl) ?_
  simp only [Act.put, zA, zB, zC]
  refine zr (.bool true) X7_9 rfl ?_
  simp only [Act.put, zA, zB, zC]
  refine zr (.bool true) X7_9 rfl ?_
  simp only [Act.put, zA, zB, zC]
  refine zr (.agg #[.int .i64 (q.kind : Int), .int .i64 (q.col : Int), .int .i64 (q.k : Int), .slice A3 q.fs.length c3]) X7_9 (xo_loadW b8 _ Fv7_8.out Tryd.underlying24 rfl (by kernel_rfl) rfl rfl) ?_
  simp only [Act.put, zA, zB, zC]
  have C3_7 := zb C3_6 B6
  refine zr (.agg #[.int .i64 (q.kind : Int), .int .i64 (q.col : Int), .int .i64 (q.k : Int), .slice A q.fs.length c]) X7_9 (xo_loadW b4 _ (heap_keep Fv1_4.out C3_7.out) Tryd.underlying24 rfl (by kernel_rfl) rfl rfl) ?_
  simp only [Act.put, zA, zB, zC]
  have C2_5 := zb C2_4 B4
  have C2_6 := zb C2_5 B5
  have C2_7 := zb C2_6 B6
  refine wpList_call (by kernel_rfl) 22 Tryd.func22 (by kernel_rfl) (by kernel_rfl) _ _ #[.agg #[.int .i64 (q.kind : Int), .int .i64 (q.col : Int), .int .i64 (q.k : Int), .slice A3 q.fs.length c3], .agg #[.int .i64 (q.kind : Int), .int .i64 (q.col : Int), .int .i64 (q.k : Int), .slice A q.fs.length c]] rfl (by kernel_rfl) ?_
  refine (same_yes (q.kind : Int) (q.col : Int) (q.k : Int) A3 q.fs.length c3 hs3 A c hs2 (q.fs.map (List.map Qu.Cd.ci)) X7_9 (HFR3.out.keep B6.out) (HFR2.out.keep C2_7.out)).mono ?_
  rintro e V8 ⟨rfl, hb⟩
  have B7 := Lib.hid hb
  clear hb 
  refine ⟨_, rfl, ?_⟩
  simp only [Act.put, zA, zB, zC]
  refine zr (.bool true) V8 rfl ?_
  simp only [Act.put, zA, zB, zC]
  refine zr (.bool true) V8 rfl ?_
  simp only [Act.put, zA, zB, zC]
  refine zr (.bool true) V8 rfl ?_
  simp only [Act.put, zA, zB, zC]
  refine zr (.bool true) V8 rfl ?_
  simp only [Act.put, zA, zB, zC]
  refine zr (.bool true) V8 rfl ?_
  simp only [Act.put, zA, zB, zC]
  refine wpList_nil ?_
  have C0_6 := zb C0_5 B5
  have C0_7 := zb C0_6 B6
  have C0_8 := zb C0_7 B7
  have hbf := C0_8.out
  go_wp2_with fail
  go_ret
  exact ⟨rfl, hbf⟩
 ·subst hq
  have HFZ := Lib.hid (show FsR X3_3 A 0 c hs2 [] from (HFR2.out.keep B2.out))
  clear HFR2
  have hr0 : X3_3.heap[b4]? = some (.cells #[.int .i64 0, .int .i64 0, .int .i64 0, .slice A 0 c] 24 (0, 0)) := Fv1_4.out
  clear Fv1_4
  have Fv1_4 := Lib.hid hr0
  clear hr0
  rcases hcs with ⟨he, ho⟩ | ⟨he | he, ho⟩ | ⟨he, ho, hl⟩
  ·subst he
   have ho2 := ho.symm
   clear ho
   subst ho2
   go_upto_region 4 with fail
   refine wp_region_lit ?_
   refine zr (.int .i64 131) X3_3 rfl ?_
   simp only [Act.put, zA, zB, zC]
   refine zr (.bool true) X3_3 (xo_neqT .i64 131 0 (by omega) rfl rfl rfl) ?_
   simp only [Act.put, zA, zB, zC]
   refine wpList_nil ?_
   go_upto_region 5 with fail
   refine wp_region_lit ?_
   refine zr (.int .i64 131) X3_3 rfl ?_
   simp only [Act.put, zA, zB, zC]
   refine zr (.bool false) X3_3 (xo_eqlF .i64 131 130 (by omega) rfl rfl rfl) ?_
   simp only [Act.put, zA, zB, zC]
   refine zr (.bool false) X3_3 rfl ?_
   simp only [Act.put, zA, zB, zC]
   refine zr (.int .i64 131) X3_3 rfl ?_
   simp only [Act.put, zA, zB, zC]
   refine zr (.bool false) X3_3 (xo_eqlF .i64 131 1 (by omega) rfl rfl rfl) ?_
   simp only [Act.put, zA, zB, zC]
   refine zr (.bool false) X3_3 rfl ?_
   simp only [Act.put, zA, zB, zC]
   refine zr (.bool false) X3_3 rfl ?_
   simp only [Act.put, zA, zB, zC]
   refine zl ?_
   try simp only [Act.put, zA, zB, zC]
   refine zl ?_
   try simp only [Act.put, zA, zB, zC]
   refine zr (.bool false) X3_3 rfl ?_
   simp only [Act.put, zA, zB, zC]
   refine zr (.bool false) X3_3 rfl ?_
   simp only [Act.put, zA, zB, zC]
   refine zl ?_
   try simp only [Act.put, zA, zB, zC]
   refine zl ?_
   try simp only [Act.put, zA, zB, zC]
   refine zl ?_
   try simp only [Act.put, zA, zB, zC]
   refine zl ?_
   try simp only [Act.put, zA, zB, zC]
   refine zr (.bool false) X3_3 rfl ?_
   simp only [Act.put, zA, zB, zC]
   refine zr (.bool false) X3_3 rfl ?_
   simp only [Act.put, zA, zB, zC]
   refine zr (.int .i64 131) X3_3 rfl ?_
   simp only [Act.put, zA, zB, zC]
   refine zr (.bool true) X3_3 (xo_eqlT .i64 131 131 (by omega) rfl rfl rfl) ?_
   simp only [Act.put, zA, zB, zC]
   refine zr (.bool true) X3_3 rfl ?_
   simp only [Act.put, zA, zB, zC]
   refine zr (.int .i64 (tl : Int)) X3_3 rfl ?_
   simp only [Act.put, zA, zB, zC]
   refine zr (.string (sB t)) X3_3 rfl ?_
   simp only [Act.put, zA, zB, zC]
   refine zr (.int .i64 (tl : Int)) X3_3 (xs_lenN t tl HTL.out Tryd.underlying9 rfl rfl) ?_
   simp only [Act.put, zA, zB, zC]
   refine zr (.bool true) X3_3 (xo_eqlT .i64 (tl : Int) (tl : Int) (by omega) rfl rfl rfl) ?_
   simp only [Act.put, zA, zB, zC]
   refine zr (.bool true) X3_3 rfl ?_
   simp only [Act.put, zA, zB, zC]
   refine zr (.bool true) X3_3 rfl ?_
   simp only [Act.put, zA, zB, zC]
   refine zr (.bool true) X3_3 rfl ?_
   simp only [Act.put, zA, zB, zC]
   refine zl ?_
   try simp only [Act.put, zA, zB, zC]
   refine zl ?_
   try simp only [Act.put, zA, zB, zC]
   refine zl ?_
   try simp only [Act.put, zA, zB, zC]
   refine zl ?_
   try simp only [Act.put, zA, zB, zC]
   refine zl ?_
   try simp only [Act.put, zA, zB, zC]
   refine zl ?_
   try simp only [Act.put, zA, zB, zC]
   refine zl ?_
   try simp only [Act.put, zA, zB, zC]
   refine zl ?_
   try simp only [Act.put, zA, zB, zC]
   refine zl ?_
   try simp only [Act.put, zA, zB, zC]
   refine zl ?_
   try simp only [Act.put, zA, zB, zC]
   refine zl ?_
   try simp only [Act.put, zA, zB, zC]
   refine zr (.bool true) X3_3 rfl ?_
   simp only [Act.put, zA, zB, zC]
   refine zr (.bool true) X3_3 rfl ?_
   simp only [Act.put, zA, zB, zC]
   refine wpList_nil ?_
   go_upto_region 6 with fail
   refine wp_region_lit ?_
   refine zr (.bool true) X3_3 rfl ?_
   simp only [Act.put, zA, zB, zC]
   refine zr (.bool true) X3_3 rfl ?_
   simp only [Act.put, zA, zB, zC]
   refine zr (.agg #[.int .i64 0, .int .i64 0, .int .i64 0, .slice A 0 c]) X3_3 (xo_loadW b4 _ Fv1_4.out Tryd.underlying24 rfl (by kernel_rfl) rfl rfl) ?_
   simp only [Act.put, zA, zB, zC]
   refine zr (.agg #[.int .i64 0, .int .i64 0, .int .i64 0, .slice none 0 0]) X3_3 (by unfold execOp; go_simp <;> rfl) ?_
   simp only [Act.put, zA, zB, zC]
   refine wpList_call (by kernel_rfl) 22 Tryd.func22 (by kernel_rfl) (by kernel_rfl) _ _ #[.agg #[.int .i64 0, .int .i64 0, .int .i64 0, .slice A 0 c], .agg #[.int .i64 0, .int .i64 0, .int .i64 0, .slice none 0 0]] rfl (by kernel_rfl) ?_
   refine (same_yes 0 0 0 A 0 c hs2 none 0 [] [] X3_3 HFZ.out fsR_nil).mono ?_
   rintro e V4 ⟨rfl, hb⟩
   have B3 := Lib.hid hb
   clear hb 
   refine ⟨_, rfl, ?_⟩
   simp only [Act.put, zA, zB, zC]
   refine zr (.bool true) V4 rfl ?_
   simp only [Act.put, zA, zB, zC]
   refine zr (.bool true) V4 rfl ?_
   simp only [Act.put, zA, zB, zC]
   refine zr (.bool true) V4 rfl ?_
   simp only [Act.put, zA, zB, zC]
   refine zr (.bool true) V4 rfl ?_
   simp only [Act.put, zA, zB, zC]
   refine zr (.bool true) V4 rfl ?_
   simp only [Act.put, zA, zB, zC]
   refine wpList_nil ?_
   have C0_2 := zb B0 B1
   have C0_3 := zb C0_2 B2
   have C0_4 := zb C0_3 B3
   have hbf := C0_4.out
   go_wp2_with fail
   go_ret
   exact ⟨rfl, hbf⟩
  ·subst he
   have hci4 : ((off : Int) ≥ 0) := by omega
   have hci5 : ((off : Int) < (tl : Int)) := by omega
   go_upto_region 4 with fail
   refine wp_region_lit ?_
   refine zr (.int .i64 130) X3_3 rfl ?_
   simp only [Act.put, zA, zB, zC]
   refine zr (.bool true) X3_3 (xo_neqT .i64 130 0 (by omega) rfl rfl rfl) ?_
   simp only [Act.put, zA, zB, zC]
   refine wpList_nil ?_
   go_upto_region 5 with fail
   refine wp_region_lit ?_
   refine zr (.int .i64 130) X3_3 rfl ?_
   simp only [Act.put, zA, zB, zC]
   refine zr (.bool true) X3_3 (xo_eqlT .i64 130 130 (by omega) rfl rfl rfl) ?_
   simp only [Act.put, zA, zB, zC]
   refine zr (.bool true) X3_3 rfl ?_
   simp only [Act.put, zA, zB, zC]
   refine zl ?_
   try simp only [Act.put, zA, zB, zC]
   refine zl ?_
   try simp only [Act.put, zA, zB, zC]
   refine zr (.bool true) X3_3 rfl ?_
   simp only [Act.put, zA, zB, zC]
   refine zr (.bool true) X3_3 rfl ?_
   simp only [Act.put, zA, zB, zC]
   refine zr (.int .i64 (off : Int)) X3_3 rfl ?_
   simp only [Act.put, zA, zB, zC]
   refine zr (.bool true) X3_3 (xo_geqT .i64 (off : Int) 0 (by omega) rfl rfl rfl) ?_
   simp only [Act.put, zA, zB, zC]
   refine zr (.bool true) X3_3 rfl ?_
   simp only [Act.put, zA, zB, zC]
   refine zr (.bool true) X3_3 rfl ?_
   simp only [Act.put, zA, zB, zC]
   refine zr (.int .i64 (off : Int)) X3_3 rfl ?_
   simp only [Act.put, zA, zB, zC]
   refine zr (.string (sB t)) X3_3 rfl ?_
   simp only [Act.put, zA, zB, zC]
   refine zr (.int .i64 (tl : Int)) X3_3 (xs_lenN t tl HTL.out Tryd.underlying9 rfl rfl) ?_
   simp only [Act.put, zA, zB, zC]
   refine zr (.bool true) X3_3 (xo_lssT .i64 (off : Int) (tl : Int) (by omega) rfl rfl rfl) ?_
   simp only [Act.put, zA, zB, zC]
   refine zr (.bool true) X3_3 rfl ?_
   simp only [Act.put, zA, zB, zC]
   refine zr (.bool true) X3_3 rfl ?_
   simp only [Act.put, zA, zB, zC]
   refine zl ?_
   try simp only [Act.put, zA, zB, zC]
   refine zl ?_
   try simp only [Act.put, zA, zB, zC]
   refine zl ?_
   try simp only [Act.put, zA, zB, zC]
   refine zl ?_
   try simp only [Act.put, zA, zB, zC]
   refine zl ?_
   try simp only [Act.put, zA, zB, zC]
   refine zl ?_
   try simp only [Act.put, zA, zB, zC]
   refine zl ?_
   try simp only [Act.put, zA, zB, zC]
   refine zl ?_
   try simp only [Act.put, zA, zB, zC]
   refine zr (.bool true) X3_3 rfl ?_
   simp only [Act.put, zA, zB, zC]
   refine zr (.bool true) X3_3 rfl ?_
   simp only [Act.put, zA, zB, zC]
   refine zl ?_
   try simp only [Act.put, zA, zB, zC]
   refine zl ?_
   try simp only [Act.put, zA, zB, zC]
   refine zl ?_
   try simp only [Act.put, zA, zB, zC]
   refine zl ?_
   try simp only [Act.put, zA, zB, zC]
   refine zl ?_
   try simp only [Act.put, zA, zB, zC]
   refine zl ?_
   try simp only [Act.put, zA, zB, zC]
   refine zl ?_
   try simp only [Act.put, zA, zB, zC]
   refine zl ?_
   try simp only [Act.put, zA, zB, zC]
   refine zl ?_
   try simp only [Act.put, zA, zB, zC]
   refine zl ?_
   try simp only [Act.put, zA, zB, zC]
   refine zl ?_
   try simp only [Act.put, zA, zB, zC]
   refine zr (.bool true) X3_3 rfl ?_
   simp only [Act.put, zA, zB, zC]
   refine zr (.bool true) X3_3 rfl ?_
   simp only [Act.put, zA, zB, zC]
   refine wpList_nil ?_
   go_upto_region 6 with fail
   refine wp_region_lit ?_
   refine zr (.bool true) X3_3 rfl ?_
   simp only [Act.put, zA, zB, zC]
   refine zr (.bool true) X3_3 rfl ?_
   simp only [Act.put, zA, zB, zC]
   refine zr (.agg #[.int .i64 0, .int .i64 0, .int .i64 0, .slice A 0 c]) X3_3 (xo_loadW b4 _ Fv1_4.out Tryd.underlying24 rfl (by kernel_rfl) rfl rfl) ?_
   simp only [Act.put, zA, zB, zC]
   refine zr (.agg #[.int .i64 0, .int .i64 0, .int .i64 0, .slice none 0 0]) X3_3 (by unfold execOp; go_simp <;> rfl) ?_
   simp only [Act.put, zA, zB, zC]
   refine wpList_call (by kernel_rfl) 22 Tryd.func22 (by kernel_rfl) (by kernel_rfl) _ _ #[.agg #[.int .i64 0, .int .i64 0, .int .i64 0, .slice A 0 c], .agg #[.int .i64 0, .int .i64 0, .int .i64 0, .slice none 0 0]] rfl (by kernel_rfl) ?_
   refine (same_yes 0 0 0 A 0 c hs2 none 0 [] [] X3_3 HFZ.out fsR_nil).mono ?_
   rintro e V4 ⟨rfl, hb⟩
   have B3 := Lib.hid hb
   clear hb 
   refine ⟨_, rfl, ?_⟩
   simp only [Act.put, zA, zB, zC]
   refine zr (.bool true) V4 rfl ?_
   simp only [Act.put, zA, zB, zC]
   refine zr (.bool true) V4 rfl ?_
   simp only [Act.put, zA, zB, zC]
   refine zr (.bool true) V4 rfl ?_
   simp only [Act.put, zA, zB, zC]
   refine zr (.bool true) V4 rfl ?_
   simp only [Act.put, zA, zB, zC]
   refine zr (.bool true) V4 rfl ?_
   simp only [Act.put, zA, zB, zC]
   refine wpList_nil ?_
   have C0_2 := zb B0 B1
   have C0_3 := zb C0_2 B2
   have C0_4 := zb C0_3 B3
   have hbf := C0_4.out
   go_wp2_with fail
   go_ret
   exact ⟨rfl, hbf⟩
  ·subst he
   have hci4 : ((off : Int) ≥ 0) := by omega
   have hci5 : ((off : Int) < (tl : Int)) := by omega
   go_upto_region 4 with fail
   refine wp_region_lit ?_
   refine zr (.int .i64 1) X3_3 rfl ?_
   simp only [Act.put, zA, zB, zC]
   refine zr (.bool true) X3_3 (xo_neqT .i64 1 0 (by omega) rfl rfl rfl) ?_
   simp only [Act.put, zA, zB, zC]
   refine wpList_nil ?_
   go_upto_region 5 with fail
   refine wp_region_lit ?_
   refine zr (.int .i64 1) X3_3 rfl ?_
   simp only [Act.put, zA, zB, zC]
   refine zr (.bool false) X3_3 (xo_eqlF .i64 1 130 (by omega) rfl rfl rfl) ?_
   simp only [Act.put, zA, zB, zC]
   refine zr (.bool false) X3_3 rfl ?_
   simp only [Act.put, zA, zB, zC]
   refine zr (.int .i64 1) X3_3 rfl ?_
   simp only [Act.put, zA, zB, zC]
   refine zr (.bool true) X3_3 (xo_eqlT .i64 1 1 (by omega) rfl rfl rfl) ?_
   simp only [Act.put, zA, zB, zC]
   refine zr (.bool true) X3_3 rfl ?_
   simp only [Act.put, zA, zB, zC]
   refine zr (.bool true) X3_3 rfl ?_
   simp only [Act.put, zA, zB, zC]
   refine zr (.int .i64 (off : Int)) X3_3 rfl ?_
   simp only [Act.put, zA, zB, zC]
   refine zr (.bool true) X3_3 (xo_geqT .i64 (off : Int) 0 (by omega) rfl rfl rfl) ?_
   simp only [Act.put, zA, zB, zC]
   refine zr (.bool true) X3_3 rfl ?_
   simp only [Act.put, zA, zB, zC]
   refine zr (.bool true) X3_3 rfl ?_
   simp only [Act.put, zA, zB, zC]
   refine zr (.int .i64 (off : Int)) X3_3 rfl ?_
   simp only [Act.put, zA, zB, zC]
   refine zr (.string (sB t)) X3_3 rfl ?_
   simp only [Act.put, zA, zB, zC]
   refine zr (.int .i64 (tl : Int)) X3_3 (xs_lenN t tl HTL.out Tryd.underlying9 rfl rfl) ?_
   simp only [Act.put, zA, zB, zC]
   refine zr (.bool true) X3_3 (xo_lssT .i64 (off : Int) (tl : Int) (by omega) rfl rfl rfl) ?_
   simp only [Act.put, zA, zB, zC]
   refine zr (.bool true) X3_3 rfl ?_
   simp only [Act.put, zA, zB, zC]
   refine zr (.bool true) X3_3 rfl ?_
   simp only [Act.put, zA, zB, zC]
   refine zl ?_
   try simp only [Act.put, zA, zB, zC]
   refine zl ?_
   try simp only [Act.put, zA, zB, zC]
   refine zl ?_
   try simp only [Act.put, zA, zB, zC]
   refine zl ?_
   try simp only [Act.put, zA, zB, zC]
   refine zl ?_
   try simp only [Act.put, zA, zB, zC]
   refine zl ?_
   try simp only [Act.put, zA, zB, zC]
   refine zl ?_
   try simp only [Act.put, zA, zB, zC]
   refine zl ?_
   try simp only [Act.put, zA, zB, zC]
   refine zr (.bool true) X3_3 rfl ?_
   simp only [Act.put, zA, zB, zC]
   refine zr (.bool true) X3_3 rfl ?_
   simp only [Act.put, zA, zB, zC]
   refine zl ?_
   try simp only [Act.put, zA, zB, zC]
   refine zl ?_
   try simp only [Act.put, zA, zB, zC]
   refine zl ?_
   try simp only [Act.put, zA, zB, zC]
   refine zl ?_
   try simp only [Act.put, zA, zB, zC]
   refine zl ?_
   try simp only [Act.put, zA, zB, zC]
   refine zl ?_
   try simp only [Act.put, zA, zB, zC]
   refine zl ?_
   try simp only [Act.put, zA, zB, zC]
   refine zl ?_
   try simp only [Act.put, zA, zB, zC]
   refine zl ?_
   try simp only [Act.put, zA, zB, zC]
   refine zl ?_
   try simp only [Act.put, zA, zB, zC]
   refine zl ?_
   try simp only [Act.put, zA, zB, zC]
   refine zr (.bool true) X3_3 rfl ?_
   simp only [Act.put, zA, zB, zC]
   refine zr (.bool true) X3_3 rfl ?_
   simp only [Act.put, zA, zB, zC]
   refine wpList_nil ?_
   go_upto_region 6 with fail
   refine wp_region_lit ?_
   refine zr (.bool true) X3_3 rfl ?_
   simp only [Act.put, zA, zB, zC]
   refine zr (.bool true) X3_3 rfl ?_
   simp only [Act.put, zA, zB, zC]
   refine zr (.agg #[.int .i64 0, .int .i64 0, .int .i64 0, .slice A 0 c]) X3_3 (xo_loadW b4 _ Fv1_4.out Tryd.underlying24 rfl (by kernel_rfl) rfl rfl) ?_
   simp only [Act.put, zA, zB, zC]
   refine zr (.agg #[.int .i64 0, .int .i64 0, .int .i64 0, .slice none 0 0]) X3_3 (by unfold execOp; go_simp <;> rfl) ?_
   simp only [Act.put, zA, zB, zC]
   refine wpList_call (by kernel_rfl) 22 Tryd.func22 (by kernel_rfl) (by kernel_rfl) _ _ #[.agg #[.int .i64 0, .int .i64 0, .int .i64 0, .slice A 0 c], .agg #[.int .i64 0, .int .i64 0, .int .i64 0, .slice none 0 0]] rfl (by kernel_rfl) ?_
   refine (same_yes 0 0 0 A 0 c hs2 none 0 [] [] X3_3 HFZ.out fsR_nil).mono ?_
   rintro e V4 ⟨rfl, hb⟩
   have B3 := Lib.hid hb
   clear hb 
   refine ⟨_, rfl, ?_⟩
   simp only [Act.put, zA, zB, zC]
   refine zr (.bool true) V4 rfl ?_
   simp only [Act.put, zA, zB, zC]
   refine zr (.bool true) V4 rfl ?_
   simp only [Act.put, zA, zB, zC]
   refine zr (.bool true) V4 rfl ?_
   simp only [Act.put, zA, zB, zC]
   refine zr (.bool true) V4 rfl ?_
   simp only [Act.put, zA, zB, zC]
   refine zr (.bool true) V4 rfl ?_
   simp only [Act.put, zA, zB, zC]
   refine wpList_nil ?_
   have C0_2 := zb B0 B1
   have C0_3 := zb C0_2 B2
   have C0_4 := zb C0_3 B3
   have hbf := C0_4.out
   go_wp2_with fail
   go_ret
   exact ⟨rfl, hbf⟩
  ·subst he ho
   have hci4 : ((tl : Int) > 400) := by omega
   go_upto_region 4 with fail
   refine wp_region_lit ?_
   refine zr (.int .i64 2) X3_3 rfl ?_
   simp only [Act.put, zA, zB, zC]
   refine zr (.bool true) X3_3 (xo_neqT .i64 2 0 (by omega) rfl rfl rfl) ?_
   simp only [Act.put, zA, zB, zC]
   refine wpList_nil ?_
   go_upto_region 5 with fail
   refine wp_region_lit ?_
   refine zr (.int .i64 2) X3_3 rfl ?_
   simp only [Act.put, zA, zB, zC]
   refine zr (.bool false) X3_3 (xo_eqlF .i64 2 130 (by omega) rfl rfl rfl) ?_
   simp only [Act.put, zA, zB, zC]
   refine zr (.bool false) X3_3 rfl ?_
   simp only [Act.put, zA, zB, zC]
   refine zr (.int .i64 2) X3_3 rfl ?_
   simp only [Act.put, zA, zB, zC]
   refine zr (.bool false) X3_3 (xo_eqlF .i64 2 1 (by omega) rfl rfl rfl) ?_
   simp only [Act.put, zA, zB, zC]
   refine zr (.bool false) X3_3 rfl ?_
   simp only [Act.put, zA, zB, zC]
   refine zr (.bool false) X3_3 rfl ?_
   simp only [Act.put, zA, zB, zC]
   refine zl ?_
   try simp only [Act.put, zA, zB, zC]
   refine zl ?_
   try simp only [Act.put, zA, zB, zC]
   refine zr (.bool false) X3_3 rfl ?_
   simp only [Act.put, zA, zB, zC]
   refine zr (.bool false) X3_3 rfl ?_
   simp only [Act.put, zA, zB, zC]
   refine zl ?_
   try simp only [Act.put, zA, zB, zC]
   refine zl ?_
   try simp only [Act.put, zA, zB, zC]
   refine zl ?_
   try simp only [Act.put, zA, zB, zC]
   refine zl ?_
   try simp only [Act.put, zA, zB, zC]
   refine zr (.bool false) X3_3 rfl ?_
   simp only [Act.put, zA, zB, zC]
   refine zr (.bool false) X3_3 rfl ?_
   simp only [Act.put, zA, zB, zC]
   refine zr (.int .i64 2) X3_3 rfl ?_
   simp only [Act.put, zA, zB, zC]
   refine zr (.bool false) X3_3 (xo_eqlF .i64 2 131 (by omega) rfl rfl rfl) ?_
   simp only [Act.put, zA, zB, zC]
   refine zr (.bool false) X3_3 rfl ?_
   simp only [Act.put, zA, zB, zC]
   refine zl ?_
   try simp only [Act.put, zA, zB, zC]
   refine zl ?_
   try simp only [Act.put, zA, zB, zC]
   refine zl ?_
   try simp only [Act.put, zA, zB, zC]
   refine zl ?_
   try simp only [Act.put, zA, zB, zC]
   refine zr (.bool false) X3_3 rfl ?_
   simp only [Act.put, zA, zB, zC]
   refine zr (.bool false) X3_3 rfl ?_
   simp only [Act.put, zA, zB, zC]
   refine zr (.bool false) X3_3 rfl ?_
   simp only [Act.put, zA, zB, zC]
   refine zr (.int .i64 2) X3_3 rfl ?_
   simp only [Act.put, zA, zB, zC]
   refine zr (.bool true) X3_3 (xo_eqlT .i64 2 2 (by omega) rfl rfl rfl) ?_
   simp only [Act.put, zA, zB, zC]
   refine zr (.bool true) X3_3 rfl ?_
   simp only [Act.put, zA, zB, zC]
   refine zr (.int .i64 0) X3_3 rfl ?_
   simp only [Act.put, zA, zB, zC]
   refine zr (.bool true) X3_3 (xo_eqlT .i64 0 0 (by omega) rfl rfl rfl) ?_
   simp only [Act.put, zA, zB, zC]
   refine zr (.bool true) X3_3 rfl ?_
   simp only [Act.put, zA, zB, zC]
   refine zr (.bool true) X3_3 rfl ?_
   simp only [Act.put, zA, zB, zC]
   refine zr (.string (sB t)) X3_3 rfl ?_
   simp only [Act.put, zA, zB, zC]
   refine zr (.int .i64 (tl : Int)) X3_3 (xs_lenN t tl HTL.out Tryd.underlying9 rfl rfl) ?_
   simp only [Act.put, zA, zB, zC]
   refine zr (.bool true) X3_3 (xo_gtrT .i64 (tl : Int) 400 (by omega) rfl rfl rfl) ?_
   simp only [Act.put, zA, zB, zC]
   refine zr (.bool true) X3_3 rfl ?_
   simp only [Act.put, zA, zB, zC]
   refine zr (.bool true) X3_3 rfl ?_
   simp only [Act.put, zA, zB, zC]
   refine zr (.bool true) X3_3 rfl ?_
   simp only [Act.put, zA, zB, zC]
   refine wpList_nil ?_
   go_upto_region 6 with fail
   refine wp_region_lit ?_
   refine zr (.bool true) X3_3 rfl ?_
   simp only [Act.put, zA, zB, zC]
   refine zr (.bool true) X3_3 rfl ?_
   simp only [Act.put, zA, zB, zC]
   refine zr (.agg #[.int .i64 0, .int .i64 0, .int .i64 0, .slice A 0 c]) X3_3 (xo_loadW b4 _ Fv1_4.out Tryd.underlying24 rfl (by kernel_rfl) rfl rfl) ?_
   simp only [Act.put, zA, zB, zC]
   refine zr (.agg #[.int .i64 0, .int .i64 0, .int .i64 0, .slice none 0 0]) X3_3 (by unfold execOp; go_simp <;> rfl) ?_
   simp only [Act.put, zA, zB, zC]
   refine wpList_call (by kernel_rfl) 22 Tryd.func22 (by kernel_rfl) (by kernel_rfl) _ _ #[.agg #[.int .i64 0, .int .i64 0, .int .i64 0, .slice A 0 c], .agg #[.int .i64 0, .int .i64 0, .int .i64 0, .slice none 0 0]] rfl (by kernel_rfl) ?_
   refine (same_yes 0 0 0 A 0 c hs2 none 0 [] [] X3_3 HFZ.out fsR_nil).mono ?_
   rintro e V4 ⟨rfl, hb⟩
   have B3 := Lib.hid hb
   clear hb 
   refine ⟨_, rfl, ?_⟩
   simp only [Act.put, zA, zB, zC]
   refine zr (.bool true) V4 rfl ?_
   simp only [Act.put, zA, zB, zC]
   refine zr (.bool true) V4 rfl ?_
   simp only [Act.put, zA, zB, zC]
   refine zr (.bool true) V4 rfl ?_
   simp only [Act.put, zA, zB, zC]
   refine zr (.bool true) V4 rfl ?_
   simp only [Act.put, zA, zB, zC]
   refine zr (.bool true) V4 rfl ?_
   simp only [Act.put, zA, zB, zC]
   refine wpList_nil ?_
   have C0_2 := zb B0 B1
   have C0_3 := zb C0_2 B2
   have C0_4 := zb C0_3 B3
   have hbf := C0_4.out
   go_wp2_with fail
   go_ret
   exact ⟨rfl, hbf⟩
end Go.Proofs.YtlicfidcfhbmpaaDoor
