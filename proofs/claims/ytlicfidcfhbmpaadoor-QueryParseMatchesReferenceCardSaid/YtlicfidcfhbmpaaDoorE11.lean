/- Several texts in one: Yn. -/
import Derived.Test.YtlicfidcfhbmpaaDoorE10
set_option linter.unusedVariables false
set_option linter.unusedSimpArgs false
set_option linter.unusedSectionVars false
namespace Go.Proofs.YtlicfidcfhbmpaaDoor
set_option maxRecDepth 8000
open Go.RowKit Go.Proofs.YtlicfidcfhbmpaaDoor.K
attribute [local irreducible] wpList wpQuiet
namespace K
theorem results_row_tmp2 {P : Program} {fn : Func} {p u x : Tmp} {ty : TypeId} (h : fn.results = #[.cell p ty, .tmp u, .tmp x]) (tmps : Array Value) (w : World) (g : Nat) (t : TypeId) (cs : Array Value) (d : TypeDesc) (v y : Value)
  (hp : tmps.getD p undef = .pointer (some ⟨g, 0, none⟩)) (hv : tmps.getD u undef = v) (hy : tmps.getD x undef = y) (hg : w.heap[g]? = some (.cells cs t (0, 0)))
  (hu : P.underlying ty = some d) (hd : (match d with | .struct _ | .array _ _ => true | _ => false) = true) (hi : (P.info? ty).map (·.size) = some cs.size) :
  (results fn tmps).run P w = .ok (.tuple #[.agg cs, v, y]) w := by
 have hp' : tmps[p]?.getD undef = .pointer (some ⟨g, 0, none⟩) := by simpa using hp
 have hv' : tmps[u]?.getD undef = v := by simpa using hv
 have hy' : tmps[x]?.getD undef = y := by simpa using hy
 simp [results, h, hp', hv', hy', asAddr, Result.andThen, run_loadVar_row w g t ty cs (0, 0) d hg hu hd hi]
/-- all that lay in w lies there still -/
structure BW (w w' : World) : Prop where
 b : Below w.heap.size w w'
section
variable {w w1 w2 : World}
theorem BW.refl (w : World) : BW w w := ⟨Below.refl _ _⟩
theorem BW.keep (h : BW w w1) (hb : Below w1.heap.size w1 w2) : BW w w2 := ⟨bel_step h.b hb⟩
theorem BW.farC {p q : Nat} (h : BW w w1) (hp : w.heap.size ≤ p) (hq : w.heap.size ≤ q) (k : FarC p q w1 w2) : BW w w2 :=
 ⟨⟨k.os.trans h.b.os, k.tape.trans h.b.tape, k.output.trans h.b.output, Nat.le_trans h.b.size k.size, fun j hj => by
  obtain ⟨o, ho⟩ : ∃ o, w1.heap[j]? = some o := ⟨_, Array.getElem?_eq_getElem (by have := h.b.size; omega)⟩
  rw [← h.b.block j hj, ho]
  exact k.far j o (by omega) (by omega) ho⟩⟩
theorem BW.store {b : Nat} (h : BW w w1) (hb : w.heap.size ≤ b) (hbel : ∀ B v0, B ≤ b → Below B v0 w1 → Below B v0 w2) : BW w w2 := ⟨hbel _ _ hb h.b⟩
end
end K
theorem Gc.lt {w : World} (h : Gc w) : 0 < w.heap.size := by
 have h1 := h 0 _ rfl
 unfold World.cell? at h1
 cases ho : w.heap[0]? with
 | none => simp [ho] at h1
 | some o => exact (Array.getElem?_eq_some_iff.1 ho).1
theorem fsOwn_nil {w : World} {base : Nat} : FsOwn w base (.slice none 0 0) [] := ⟨none, 0, [], rfl, own_nil, OwnsC.nil⟩
set_option maxRecDepth 100000 in
set_option maxHeartbeats 32000000 in
theorem parse_as (s : List UInt8) (w : World) (hG : Gc w) (q : Qu.Qy) (off er : Nat) (hr : Qu.parseN s = (q, off, er)) :
  Calls Tryd.prog 20 #[.string (sB s)] w fun e w' => ∃ A n c, e = .returned (.tuple #[.agg #[.int .i64 (q.kind : Int), .int .i64 (q.col : Int), .int .i64 (q.k : Int), .slice A n c], .int .i64 (off : Int), .int .i64 (er : Int)]) ∧ FsOwn w' w.heap.size (.slice A n c) q.fs ∧ Below w.heap.size w w' := by
 obtain ⟨V, hV0, hV⟩ := base_world w
 have B0 := zh hV
 clear hV
 have HBW := zh (BW.refl w)
 have HW1 := zh hG.lt
 have HG := zh hG
 clear hG
 have HR := zh hr
 clear hr
 obtain ⟨n, hn⟩ : ∃ n, s.length = n := ⟨_, rfl⟩
 have HN := zh hn
 clear hn
 go_enter Tryd.func20, Tryd.ntmps20
 go_upto_region 1 with fail
 refine wp_named1 (fun V2 hb g0 hlt => ?_)
 have B1 := zh hb
 have Fx0 : Hid (V2.heap[w.heap.size]? = some (.cells #[.int .i64 0, .int .i64 0, .int .i64 0, .slice none 0 0] 24 (0, 0))) := zh (g0)
 have Gb0 : Hid (w.heap.size ≤ w.heap.size) := zh (by omega)
 have Lx0 : Hid (w.heap.size < V2.heap.size) := zh (xp_lt Fx0.out)
 have Nz0 : Hid (0 ≠ w.heap.size) := zh (by have := HW1.out; omega)
 clear hb g0 hlt
 by_cases hlong : 400 < n
 ·have hci0 : ((n : Int) > 400) := by omega
  refine wp_region_lit ?_
  refine zr (.string (sB s)) V2 rfl ?_
  simp only [Act.put, zA]
  refine zr (.int .i64 (n : Int)) V2 (xs_lenN s n HN.out Tryd.underlying9 rfl rfl) ?_
  simp only [Act.put, zA]
  refine zr (.bool true) V2 (xo_gtrT .i64 (n : Int) 400 (by omega) rfl rfl rfl) ?_
  simp only [Act.put, zA]
  refine wpList_nil ?_
  go_upto_region 2 with fail
  refine wp_region_lit ?_
  refine zr (.agg #[.int .i64 0, .int .i64 0, .int .i64 0, .slice none 0 0]) V2 (by unfold execOp; go_simp <;> rfl) ?_
  simp only [Act.put, zA]
  refine wpList_storeW w.heap.size #[.int .i64 0, .int .i64 0, .int .i64 0, .slice none 0 0] #[.int .i64 0, .int .i64 0, .int .i64 0, .slice none 0 0] 24 (by kernel_rfl) Fx0.out (xo_storeW w.heap.size #[.int .i64 0, .int .i64 0, .int .i64 0, .slice none 0 0] #[.int .i64 0, .int .i64 0, .int .i64 0, .slice none 0 0] Fx0.out (by kernel_rfl) rfl (by simp [Value.oneCell']) rfl rfl rfl) ?_
  intro X2_1 h1 hfar hbel hsz
  have hbr := hbel _ _ Gb0.out B1.out
  clear B1
  have B1 := zh hbr
  clear hbr
  clear Fx0
  have Fx0 : Hid (X2_1.heap[w.heap.size]? = some (.cells #[.int .i64 0, .int .i64 0, .int .i64 0, .slice none 0 0] 24 (0, 0))) := zh (h1)
  have HszX2_1 := zh hsz
  clear h1 hfar hbel hsz
  simp only [ptr, Act.put, zA]
  refine zr (.int .i64 0) X2_1 rfl ?_
  simp only [Act.put, zA]
  refine zr (.int .i64 2) X2_1 rfl ?_
  simp only [Act.put, zA]
  refine wpList_nil ?_
  have hx := HR.out
  rw [show Qu.parseN s = (Qu.zeroQ, 0, 2) by unfold Qu.parseN; rw [if_pos (by rw [HN.out]; exact hlong)]] at hx
  injection hx with hq hx2
  injection hx2 with hof her
  subst hq hof her
  have hfo := fsOwn_nil (w := X2_1) (base := w.heap.size)
  have hbw := (HBW.out.keep B1.out).b
  go_wp2_with fail
  refine bodyPost_ret (v := .tuple #[.agg #[.int .i64 0, .int .i64 0, .int .i64 0, .slice none 0 0], .int .i64 0, .int .i64 2]) ?_ rfl ⟨_, _, _, rfl, hfo, hbw⟩
  exact results_row_tmp2 rfl _ _ w.heap.size 24 _ _ _ _ rfl rfl rfl Fx0.out Tryd.underlying24 rfl (by kernel_rfl)
 ·have hci0 : ¬ ((n : Int) > 400) := by omega
  refine wp_region_lit ?_
  refine zr (.string (sB s)) V2 rfl ?_
  simp only [Act.put, zA]
  refine zr (.int .i64 (n : Int)) V2 (xs_lenN s n HN.out Tryd.underlying9 rfl rfl) ?_
  simp only [Act.put, zA]
  refine zr (.bool false) V2 (xo_gtrF .i64 (n : Int) 400 (by omega) rfl rfl rfl) ?_
  simp only [Act.put, zA]
  refine wpList_nil ?_
  go_upto_region 3 with fail
  refine wp_region_lit ?_
  refine zr (.string (sB s)) V2 rfl ?_
  simp only [Act.put, zA]
  refine zr (.agg #[.string (sB s), .int .i64 0]) V2 (by unfold execOp; go_simp <;> rfl) ?_
  simp only [Act.put, zA]
  refine wpList_new #[.string ByteArray.empty, .int .i64 0] 66 (by kernel_rfl) (xo_alloc #[.string ByteArray.empty, .int .i64 0] (by kernel_rfl) rfl) ?_
  intro b5 V3 hge h0 hb
  have N1_0 : Hid (w.heap.size ≠ b5) := zh (xp_lt0 Fx0.out hge)
  have Ge2 : Hid (V2.heap.size ≤ b5) := zh hge
  have B2 := zh hb
  have Fv3_5 : Hid (V3.heap[b5]? = some (.cells #[.string ByteArray.empty, .int .i64 0] 66 (0, 0))) := zh (h0)
  have Lt4 : Hid (b5 < V3.heap.size) := zh (xp_lt Fv3_5.out)
  clear hge h0 hb
  simp only [ptr, Act.put, zA]
  refine wpList_storeW b5 #[.string ByteArray.empty, .int .i64 0] #[.string (sB s), .int .i64 0] 66 (by kernel_rfl) Fv3_5.out (xo_storeW b5 #[.string ByteArray.empty, .int .i64 0] #[.string (sB s), .int .i64 0] Fv3_5.out (by kernel_rfl) rfl (by simp [Value.oneCell']) rfl rfl rfl) ?_
  intro X3_5 h1 hfar hbel hsz
  have hbr := hbel _ _ Ge2.out B2.out
  clear B2
  have B2 := zh hbr
  clear hbr
  clear Fv3_5
  have Fv3_5 : Hid (X3_5.heap[b5]? = some (.cells #[.string (sB s), .int .i64 0] 66 (0, 0))) := zh (h1)
  have HszX3_5 := zh hsz
  clear h1 hfar hbel hsz
  simp only [ptr, Act.put, zA]
  refine wpList_nil ?_
  go_upto_region 4 with fail
  refine wp_region_lit ?_
  refine zr (.func (.func 41) #[.pointer (some ⟨b5, 0, none⟩)] #[]) X3_5 (by unfold execOp; go_simp) ?_
  simp only [Act.put, zA]
  refine zr (.agg #[.func (.func 41) #[.pointer (some ⟨b5, 0, none⟩)] #[], .int .i64 0, .string ByteArray.empty, .int .i64 0]) X3_5 (by unfold execOp; go_simp <;> rfl) ?_
  simp only [Act.put, zA]
  refine wpList_new #[.nilFunc, .int .i64 0, .string ByteArray.empty, .int .i64 0] 72 (by kernel_rfl) (xo_alloc #[.nilFunc, .int .i64 0, .string ByteArray.empty, .int .i64 0] (by kernel_rfl) rfl) ?_
  intro b6 V4 hge h0 hb
  have N6_0 : Hid (w.heap.size ≠ b6) := zh (xp_lt0 (heap_keep Fx0.out B2.out) hge)
  have N7_1 : Hid (b5 ≠ b6) := zh (xp_lt0 Fv3_5.out hge)
  have Ge8 : Hid (X3_5.heap.size ≤ b6) := zh hge
  have B3 := zh hb
  have Fv9_6 : Hid (V4.heap[b6]? = some (.cells #[.nilFunc, .int .i64 0, .string ByteArray.empty, .int .i64 0] 72 (0, 0))) := zh (h0)
  have Lt10 : Hid (b6 < V4.heap.size) := zh (xp_lt Fv9_6.out)
  clear hge h0 hb
  simp only [ptr, Act.put, zA]
  refine wpList_storeW b6 #[.nilFunc, .int .i64 0, .string ByteArray.empty, .int .i64 0] #[.func (.func 41) #[.pointer (some ⟨b5, 0, none⟩)] #[], .int .i64 0, .string ByteArray.empty, .int .i64 0] 72 (by kernel_rfl) Fv9_6.out (xo_storeW b6 #[.nilFunc, .int .i64 0, .string ByteArray.empty, .int .i64 0] #[.func (.func 41) #[.pointer (some ⟨b5, 0, none⟩)] #[], .int .i64 0, .string ByteArray.empty, .int .i64 0] Fv9_6.out (by kernel_rfl) rfl (by simp [Value.oneCell']) rfl rfl rfl) ?_
  intro X4_11 h1 hfar hbel hsz
  have hbr := hbel _ _ Ge8.out B3.out
  clear B3
  have B3 := zh hbr
  clear hbr
  clear Fv9_6
  have Fv9_6 : Hid (X4_11.heap[b6]? = some (.cells #[.func (.func 41) #[.pointer (some ⟨b5, 0, none⟩)] #[], .int .i64 0, .string ByteArray.empty, .int .i64 0] 72 (0, 0))) := zh (h1)
  have HszX4_11 := zh hsz
  clear h1 hfar hbel hsz
  simp only [ptr, Act.put, zA]
  refine wpList_nil ?_
  have HS4 : Hid (s.length ≤ 1000) := zh (by rw [HN.out]; omega)
  have G5 : Hid (w.heap.size ≤ b5) := zh (Nat.le_trans (HBW.out.keep B1.out).b.size Ge2.out)
  have C1_3 := zb B1 B2
  have G6 : Hid (w.heap.size ≤ b6) := zh (Nat.le_trans (HBW.out.keep C1_3.out).b.size Ge8.out)
  have N65 : Hid (b6 ≠ b5) := zh (Ne.symm N7_1.out)
  go_upto_region 5 with fail
  refine wp_region_lit ?_
  refine wpList_call (by kernel_rfl) 42 Tryd.func42 (by kernel_rfl) (by kernel_rfl) _ _ #[.pointer (some ⟨b6, 0, none⟩)] rfl (by kernel_rfl) ?_
  refine (advance_any s HS4.out b6 b5 ⟨⟨0, []⟩, 0, 0⟩ ⟨Nat.zero_le _, Nat.zero_le _, Nat.zero_le _⟩ X4_11 ⟨(heap_keep Fv3_5.out B3.out), Fv9_6.out, N65.out, (by have := G6.out; have := HW1.out; omega), (by have := G5.out; have := HW1.out; omega)⟩).mono ?_
  rintro e W4_12 ⟨rfl, hps, hfc⟩
  have C2_4 := zb B2 B3
  have YFx0 : W4_12.heap[w.heap.size]? = some (.cells #[.int .i64 0, .int .i64 0, .int .i64 0, .slice none 0 0] 24 (0, 0)) := hfc.far _ _ N6_0.out N1_0.out (heap_keep Fx0.out C2_4.out)
  have C1_4 := zb C1_3 B3
  have YHBW : BW w W4_12 := BW.farC (HBW.out.keep C1_4.out) G6.out G5.out hfc
  have YHG : Gc W4_12 := rng_farC (HG.out.keep C1_4.out) (by have := G6.out; have := HW1.out; omega) (by have := G5.out; have := HW1.out; omega) hfc.toFarH
  have C0_2 := zb B0 B1
  have C0_3 := zb C0_2 B2
  have C0_4 := zb C0_3 B3
  have hb := farc_bel hV0 C0_4.out hfc
  have hbr := hb
  clear B0
  have B0 := zh hbr
  clear hbr
  clear hb
  clear Fx0
  have Fx0 : Hid (W4_12.heap[w.heap.size]? = some (.cells #[.int .i64 0, .int .i64 0, .int .i64 0, .slice none 0 0] 24 (0, 0))) := zh YFx0
  clear YFx0
  clear HBW
  have HBW : Hid (BW w W4_12) := zh YHBW
  clear YHBW
  clear HG
  have HG : Hid (Gc W4_12) := zh YHG
  clear YHG
  have Gv13 : Hid (V.heap.size ≤ w.heap.size) := zh (by omega)
  have Lt14 : Hid (w.heap.size < W4_12.heap.size) := zh (xp_lt Fx0.out)
  clear Fv3_5
  have Fv3_5 : Hid (W4_12.heap[b5]? = some (.cells #[.string (sB s), .int .i64 (((Qu.nxt s 0).pos : Nat) : Int)] 66 (0, 0))) := zh (hps.sc)
  have Gv15 : Hid (V.heap.size ≤ b5) := zh (by omega)
  have Lt16 : Hid (b5 < W4_12.heap.size) := zh (xp_lt Fv3_5.out)
  clear Fv9_6
  have Fv9_6 : Hid (W4_12.heap[b6]? = some (.cells #[.func (.func 41) #[.pointer (some ⟨b5, 0, none⟩)] #[], .int .i64 ((Qu.nxt s 0).tok.cls : Int), .string (sB ((Qu.nxt s 0).tok.tx)), .int .i64 (((Qu.nxt s 0).off : Nat) : Int)] 72 (0, 0))) := zh (hps.pr)
  have Gv17 : Hid (V.heap.size ≤ b6) := zh (by omega)
  have Lt18 : Hid (b6 < W4_12.heap.size) := zh (xp_lt Fv9_6.out)
  clear hfc hps 
  refine ⟨_, rfl, ?_⟩
  simp only [Act.put, zA]
  refine wpList_nil ?_
  obtain ⟨r, hr⟩ : ∃ r, Qu.queryN s (Qu.nxt s 0) = r := ⟨_, rfl⟩
  have HQ := zh hr
  clear hr
  go_upto_region 6 with fail
  refine wp_region_lit ?_
  have hsz0 := zh HBW.out.b.size
  refine wpList_call (by kernel_rfl) 43 Tryd.func43 (by kernel_rfl) (by kernel_rfl) _ _ #[.pointer (some ⟨b6, 0, none⟩)] rfl (by kernel_rfl) ?_
  refine (query_as s HS4.out b6 b5 (Qu.nxt s 0) (Qu.nxt_ok (Nat.zero_le _)) W4_12 ⟨Fv3_5.out, Fv9_6.out, N65.out, (by have := G6.out; have := HW1.out; omega), (by have := G5.out; have := HW1.out; omega)⟩ HG.out r HQ.out).mono ?_
  rintro e W1_19 ⟨Av, nv, cv, rfl, how, hps, hfc⟩
  have YFx0 : W1_19.heap[w.heap.size]? = some (.cells #[.int .i64 0, .int .i64 0, .int .i64 0, .slice none 0 0] 24 (0, 0)) := hfc.far _ _ N6_0.out N1_0.out Fx0.out
  have YHBW : BW w W1_19 := BW.farC HBW.out G6.out G5.out hfc
  have YHG : Gc W1_19 := rng_farC HG.out (by have := G6.out; have := HW1.out; omega) (by have := G5.out; have := HW1.out; omega) hfc.toFarH
  have hb := farc_bel hV0 B0.out hfc
  have hbr := hb
  clear B0
  have B0 := zh hbr
  clear hbr
  clear hb
  clear Fx0
  have Fx0 : Hid (W1_19.heap[w.heap.size]? = some (.cells #[.int .i64 0, .int .i64 0, .int .i64 0, .slice none 0 0] 24 (0, 0))) := zh YFx0
  clear YFx0
  clear HBW
  have HBW : Hid (BW w W1_19) := zh YHBW
  clear YHBW
  clear HG
  have HG : Hid (Gc W1_19) := zh YHG
  clear YHG
  have Gv20 : Hid (V.heap.size ≤ w.heap.size) := zh (by omega)
  have Lt21 : Hid (w.heap.size < W1_19.heap.size) := zh (xp_lt Fx0.out)
  have hfs := FsIf.mono how hsz0.out
  clear how
  try clear HFs
  have HFs := zh hfs
  clear Fv3_5
  have Fv3_5 : Hid (W1_19.heap[b5]? = some (.cells #[.string (sB s), .int .i64 ((r.st.pos : Nat) : Int)] 66 (0, 0))) := zh (hps.sc)
  have Gv22 : Hid (V.heap.size ≤ b5) := zh (by omega)
  have Lt23 : Hid (b5 < W1_19.heap.size) := zh (xp_lt Fv3_5.out)
  clear Fv9_6
  have Fv9_6 : Hid (W1_19.heap[b6]? = some (.cells #[.func (.func 41) #[.pointer (some ⟨b5, 0, none⟩)] #[], .int .i64 (r.st.tok.cls : Int), .string (sB r.st.tok.tx), .int .i64 ((r.st.off : Nat) : Int)] 72 (0, 0))) := zh (hps.pr)
  have Gv24 : Hid (V.heap.size ≤ b6) := zh (by omega)
  have Lt25 : Hid (b6 < W1_19.heap.size) := zh (xp_lt Fv9_6.out)
  clear hfc hps hfs
  refine ⟨_, rfl, ?_⟩
  simp only [Act.put, zA]
  refine zr (.tuple #[.agg #[.int .i64 (r.val.kind : Int), .int .i64 (r.val.col : Int), .int .i64 (r.val.k : Int), .slice Av nv cv], .int .i64 (r.err : Int)]) W1_19 rfl ?_
  simp only [Act.put, zA]
  refine zr (.agg #[.int .i64 (r.val.kind : Int), .int .i64 (r.val.col : Int), .int .i64 (r.val.k : Int), .slice Av nv cv]) W1_19 rfl ?_
  simp only [Act.put, zA]
  refine zr (.int .i64 (r.err : Int)) W1_19 rfl ?_
  simp only [Act.put, zA]
  refine wpList_new #[.int .i64 0, .int .i64 0, .int .i64 0, .slice none 0 0] 24 (by kernel_rfl) (xo_alloc #[.int .i64 0, .int .i64 0, .int .i64 0, .slice none 0 0] (by kernel_rfl) rfl) ?_
  intro b7 V2 hge h0 hb
  have N26_0 : Hid (w.heap.size ≠ b7) := zh (xp_lt0 Fx0.out hge)
  have N27_1 : Hid (b5 ≠ b7) := zh (xp_lt0 Fv3_5.out hge)
  have N28_2 : Hid (b6 ≠ b7) := zh (xp_lt0 Fv9_6.out hge)
  have Ge29 : Hid (W1_19.heap.size ≤ b7) := zh hge
  have B1 := zh hb
  have Fv30_7 : Hid (V2.heap[b7]? = some (.cells #[.int .i64 0, .int .i64 0, .int .i64 0, .slice none 0 0] 24 (0, 0))) := zh (h0)
  have Lt31 : Hid (b7 < V2.heap.size) := zh (xp_lt Fv30_7.out)
  clear hge h0 hb
  simp only [ptr, Act.put, zA]
  refine wpList_storeW b7 #[.int .i64 0, .int .i64 0, .int .i64 0, .slice none 0 0] #[.int .i64 (r.val.kind : Int), .int .i64 (r.val.col : Int), .int .i64 (r.val.k : Int), .slice Av nv cv] 24 (by kernel_rfl) Fv30_7.out (xo_storeW b7 #[.int .i64 0, .int .i64 0, .int .i64 0, .slice none 0 0] #[.int .i64 (r.val.kind : Int), .int .i64 (r.val.col : Int), .int .i64 (r.val.k : Int), .slice Av nv cv] Fv30_7.out (by kernel_rfl) rfl (by simp [Value.oneCell']) rfl rfl rfl) ?_
  intro X2_32 h1 hfar hbel hsz
  have hbr := hbel _ _ Ge29.out B1.out
  clear B1
  have B1 := zh hbr
  clear hbr
  clear Fv30_7
  have Fv30_7 : Hid (X2_32.heap[b7]? = some (.cells #[.int .i64 (r.val.kind : Int), .int .i64 (r.val.col : Int), .int .i64 (r.val.k : Int), .slice Av nv cv] 24 (0, 0))) := zh (h1)
  have HszX2_32 := zh hsz
  clear h1 hfar hbel hsz
  simp only [ptr, Act.put, zA]
  refine zr (.int .i64 (r.err : Int)) X2_32 rfl ?_
  simp only [Act.put, zA]
  refine wpList_nil ?_
  by_cases hre : r.err = 0
  ·go_upto_region 7 with fail
   refine wp_region_lit ?_
   refine zr (.int .i64 (r.err : Int)) X2_32 rfl ?_
   simp only [Act.put, zA]
   refine zr (.bool false) X2_32 (xo_neqF .i64 ((r.err : Nat) : Int) 0 (by omega) rfl rfl rfl) ?_
   simp only [Act.put, zA]
   refine wpList_nil ?_
   go_upto_region 9 with fail
   refine wp_region_lit ?_
   refine zr (.agg #[.int .i64 (r.val.kind : Int), .int .i64 (r.val.col : Int), .int .i64 (r.val.k : Int), .slice Av nv cv]) X2_32 (xo_loadW b7 _ Fv30_7.out Tryd.underlying24 rfl (by kernel_rfl) rfl rfl) ?_
   simp only [Act.put, zA]
   refine wpList_storeW w.heap.size #[.int .i64 0, .int .i64 0, .int .i64 0, .slice none 0 0] #[.int .i64 (r.val.kind : Int), .int .i64 (r.val.col : Int), .int .i64 (r.val.k : Int), .slice Av nv cv] 24 (by kernel_rfl) (heap_keep Fx0.out B1.out) (xo_storeW w.heap.size #[.int .i64 0, .int .i64 0, .int .i64 0, .slice none 0 0] #[.int .i64 (r.val.kind : Int), .int .i64 (r.val.col : Int), .int .i64 (r.val.k : Int), .slice Av nv cv] (heap_keep Fx0.out B1.out) (by kernel_rfl) rfl (by simp [Value.oneCell']) rfl rfl rfl) ?_
   intro X2_33 h1 hfar hbel hsz
   have YHBW : BW w X2_33 := BW.store (HBW.out.keep B1.out) Gb0.out hbel
   have YHG : Gc X2_33 := rng_store (HG.out.keep B1.out) (by have := Gb0.out; have := HW1.out; omega) hfar
   have YHFs : FsIf r.err X2_33 w.heap.size (.slice Av nv cv) r.val.fs := FsIf.store (HFs.out.keep B1.out) (heap_keep Fx0.out B1.out) (by decide) (by decide) hfar
   have YFv3_5 : X2_33.heap[b5]? = some (.cells #[.string (sB s), .int .i64 ((r.st.pos : Nat) : Int)] 66 (0, 0)) := hfar _ _ (Ne.symm N1_0.out) (heap_keep Fv3_5.out B1.out)
   have YFv9_6 : X2_33.heap[b6]? = some (.cells #[.func (.func 41) #[.pointer (some ⟨b5, 0, none⟩)] #[], .int .i64 (r.st.tok.cls : Int), .string (sB r.st.tok.tx), .int .i64 ((r.st.off : Nat) : Int)] 72 (0, 0)) := hfar _ _ (Ne.symm N6_0.out) (heap_keep Fv9_6.out B1.out)
   have YFv30_7 : X2_33.heap[b7]? = some (.cells #[.int .i64 (r.val.kind : Int), .int .i64 (r.val.col : Int), .int .i64 (r.val.k : Int), .slice Av nv cv] 24 (0, 0)) := hfar _ _ (Ne.symm N26_0.out) Fv30_7.out
   have Gs34 : Hid (V.heap.size ≤ b7) := zh (Nat.le_trans B0.out.size Ge29.out)
   have C0_2 := zb B0 B1
   have hbr := hbel _ _ Gv20.out C0_2.out
   clear B0
   have B0 := zh hbr
   clear hbr
   clear Fv3_5
   have Fv3_5 : Hid (X2_33.heap[b5]? = some (.cells #[.string (sB s), .int .i64 ((r.st.pos : Nat) : Int)] 66 (0, 0))) := zh YFv3_5
   clear YFv3_5
   clear Fv9_6
   have Fv9_6 : Hid (X2_33.heap[b6]? = some (.cells #[.func (.func 41) #[.pointer (some ⟨b5, 0, none⟩)] #[], .int .i64 (r.st.tok.cls : Int), .string (sB r.st.tok.tx), .int .i64 ((r.st.off : Nat) : Int)] 72 (0, 0))) := zh YFv9_6
   clear YFv9_6
   clear Fv30_7
   have Fv30_7 : Hid (X2_33.heap[b7]? = some (.cells #[.int .i64 (r.val.kind : Int), .int .i64 (r.val.col : Int), .int .i64 (r.val.k : Int), .slice Av nv cv] 24 (0, 0))) := zh YFv30_7
   clear YFv30_7
   clear HBW
   have HBW := zh YHBW
   clear YHBW
   clear HG
   have HG := zh YHG
   clear YHG
   clear HFs
   have HFs := zh YHFs
   clear YHFs
   clear Fx0
   have Fx0 : Hid (X2_33.heap[w.heap.size]? = some (.cells #[.int .i64 (r.val.kind : Int), .int .i64 (r.val.col : Int), .int .i64 (r.val.k : Int), .slice Av nv cv] 24 (0, 0))) := zh (h1)
   have HszX2_33 := zh hsz
   clear h1 hfar hbel hsz
   simp only [ptr, Act.put, zA]
   refine zr (.int .i64 0) X2_33 rfl ?_
   simp only [Act.put, zA]
   refine zr (.int .i64 0) X2_33 rfl ?_
   simp only [Act.put, zA]
   refine wpList_nil ?_
   have hx := HR.out
   rw [show Qu.parseN s = (r.val, 0, 0) by unfold Qu.parseN; rw [if_neg (by rw [HN.out]; exact hlong), HQ.out, if_pos hre]] at hx
   injection hx with hq hx2
   injection hx2 with hof her
   subst hq hof her
   have hfo := HFs.out hre
   have hbw := HBW.out.b
   go_wp2_with fail
   refine bodyPost_ret (v := .tuple #[.agg #[.int .i64 (r.val.kind : Int), .int .i64 (r.val.col : Int), .int .i64 (r.val.k : Int), .slice Av nv cv], .int .i64 0, .int .i64 0]) ?_ rfl ⟨_, _, _, rfl, hfo, hbw⟩
   exact results_row_tmp2 rfl _ _ w.heap.size 24 _ _ _ _ rfl rfl rfl Fx0.out Tryd.underlying24 rfl (by kernel_rfl)
  ·go_upto_region 7 with fail
   refine wp_region_lit ?_
   refine zr (.int .i64 (r.err : Int)) X2_32 rfl ?_
   simp only [Act.put, zA]
   refine zr (.bool true) X2_32 (xo_neqT .i64 ((r.err : Nat) : Int) 0 (by omega) rfl rfl rfl) ?_
   simp only [Act.put, zA]
   refine wpList_nil ?_
   have hS0 := (heap_keep Fv9_6.out B1.out)
   go_upto_region 8 with fail
   try simp only [List.append_eq, List.cons_append, List.nil_append]
   refine wp_ordT (fun W => W.heap[b6]? = some (.cells #[.func (.func 41) #[.pointer (some ⟨b5, 0, none⟩)] #[], .int .i64 (r.st.tok.cls : Int), .string (sB r.st.tok.tx), .int .i64 ((r.st.off : Nat) : Int)] 72 (0, 0))) (.q 0 (.q 1 (.q 2 (.q 3 (.one 4 (.q 5 (.q 6 .nil))))))) (by kernel_rfl) (by kernel_rfl) (fun _ _ dt _ _ h => by first | exact h.elim | (cases dt <;> exact h)) (by kernel_rfl) (by kernel_rfl) hS0 ?_
   have hb : Below X2_32.heap.size X2_32 X2_32.drew := (Below.refl _ _).drew
   generalize X2_32.drew = V3 at hb ⊢
   have B2 := zh hb
   clear hb
   refine wpOT_q (.agg #[.int .i64 0, .int .i64 0, .int .i64 0, .slice none 0 0]) rfl (by kernel_rfl) (fun v hW => (by unfold execOp; go_simp <;> rfl)) ?_
   simp only [ptr, Act.put, zA]
   refine wpOT_q (.pointer (some ⟨b6, 3, none⟩)) rfl (by kernel_rfl) (fun v hW => (xo_fld0 2 b6 3 (by kernel_rfl) rfl rfl)) ?_
   simp only [ptr, Act.put, zA]
   refine wpOT_q (.int .i64 ((r.st.off : Nat) : Int)) rfl (by kernel_rfl) (fun v hW => (xo_load1 ⟨b6, 3, none⟩ _ (cells_at hW 3 rfl) Tryd.underlying3 rfl rfl rfl)) ?_
   simp only [ptr, Act.put, zA]
   refine wpOT_q (.int .i64 (r.err : Int)) rfl (by kernel_rfl) (fun v hW => rfl) ?_
   simp only [ptr, Act.put, zA]
   refine wpOT_one rfl (by kernel_rfl) ?_
   have C1_3 := zb B1 B2
   refine hOp_storeW w.heap.size #[.int .i64 0, .int .i64 0, .int .i64 0, .slice none 0 0] #[.int .i64 0, .int .i64 0, .int .i64 0, .slice none 0 0] 24 (heap_keep Fx0.out C1_3.out) (xo_storeW w.heap.size #[.int .i64 0, .int .i64 0, .int .i64 0, .slice none 0 0] #[.int .i64 0, .int .i64 0, .int .i64 0, .slice none 0 0] (heap_keep Fx0.out C1_3.out) (by kernel_rfl) rfl (by simp [Value.oneCell']) rfl rfl rfl) ?_
   intro X3_33 h1 hfar hbel hsz
   have YHBW : BW w X3_33 := BW.store (HBW.out.keep C1_3.out) Gb0.out hbel
   have YHG : Gc X3_33 := rng_store (HG.out.keep C1_3.out) (by have := Gb0.out; have := HW1.out; omega) hfar
   have YHFs : FsIf r.err X3_33 w.heap.size (.slice Av nv cv) r.val.fs := FsIf.store (HFs.out.keep C1_3.out) (heap_keep Fx0.out C1_3.out) (by decide) (by decide) hfar
   have YFv3_5 : X3_33.heap[b5]? = some (.cells #[.string (sB s), .int .i64 ((r.st.pos : Nat) : Int)] 66 (0, 0)) := hfar _ _ (Ne.symm N1_0.out) (heap_keep Fv3_5.out C1_3.out)
   have YFv9_6 : X3_33.heap[b6]? = some (.cells #[.func (.func 41) #[.pointer (some ⟨b5, 0, none⟩)] #[], .int .i64 (r.st.tok.cls : Int), .string (sB r.st.tok.tx), .int .i64 ((r.st.off : Nat) : Int)] 72 (0, 0)) := hfar _ _ (Ne.symm N6_0.out) (heap_keep Fv9_6.out C1_3.out)
   have YFv30_7 : X3_33.heap[b7]? = some (.cells #[.int .i64 (r.val.kind : Int), .int .i64 (r.val.col : Int), .int .i64 (r.val.k : Int), .slice Av nv cv] 24 (0, 0)) := hfar _ _ (Ne.symm N26_0.out) (heap_keep Fv30_7.out B2.out)
   have Gs34 : Hid (V.heap.size ≤ b7) := zh (Nat.le_trans B0.out.size Ge29.out)
   have C0_2 := zb B0 B1
   have C0_3 := zb C0_2 B2
   have hbr := hbel _ _ Gv20.out C0_3.out
   clear B0
   have B0 := zh hbr
   clear hbr
   clear Fv3_5
   have Fv3_5 : Hid (X3_33.heap[b5]? = some (.cells #[.string (sB s), .int .i64 ((r.st.pos : Nat) : Int)] 66 (0, 0))) := zh YFv3_5
   clear YFv3_5
   clear Fv9_6
   have Fv9_6 : Hid (X3_33.heap[b6]? = some (.cells #[.func (.func 41) #[.pointer (some ⟨b5, 0, none⟩)] #[], .int .i64 (r.st.tok.cls : Int), .string (sB r.st.tok.tx), .int .i64 ((r.st.off : Nat) : Int)] 72 (0, 0))) := zh YFv9_6
   clear YFv9_6
   clear Fv30_7
   have Fv30_7 : Hid (X3_33.heap[b7]? = some (.cells #[.int .i64 (r.val.kind : Int), .int .i64 (r.val.col : Int), .int .i64 (r.val.k : Int), .slice Av nv cv] 24 (0, 0))) := zh YFv30_7
   clear YFv30_7
   clear HBW
   have HBW := zh YHBW
   clear YHBW
   clear HG
   have HG := zh YHG
   clear YHG
   clear HFs
   have HFs := zh YHFs
   clear YHFs
   clear Fx0
   have Fx0 : Hid (X3_33.heap[w.heap.size]? = some (.cells #[.int .i64 0, .int .i64 0, .int .i64 0, .slice none 0 0] 24 (0, 0))) := zh (h1)
   have HszX3_33 := zh hsz
   clear h1 hfar hbel hsz
   simp only [ptr, Act.put, zA]
   refine ⟨Fv9_6.out, ?_⟩
   try simp only [ptr, Act.put, zA]
   refine wpOT_q (.int .i64 ((r.st.off : Nat) : Int)) rfl (by kernel_rfl) (fun v hW => rfl) ?_
   simp only [ptr, Act.put, zA]
   refine wpOT_q (.int .i64 (r.err : Int)) rfl (by kernel_rfl) (fun v hW => rfl) ?_
   simp only [ptr, Act.put, zA]
   refine wpOT_nil ?_
   have hx := HR.out
   rw [show Qu.parseN s = (Qu.zeroQ, r.st.off, r.err) by unfold Qu.parseN; rw [if_neg (by rw [HN.out]; exact hlong), HQ.out, if_neg hre]] at hx
   injection hx with hq hx2
   injection hx2 with hof her
   subst hq hof her
   have hfo := fsOwn_nil (w := X3_33) (base := w.heap.size)
   have hbw := HBW.out.b
   go_wp2_with fail
   refine bodyPost_ret (v := .tuple #[.agg #[.int .i64 0, .int .i64 0, .int .i64 0, .slice none 0 0], .int .i64 (r.st.off : Int), .int .i64 (r.err : Int)]) ?_ rfl ⟨_, _, _, rfl, hfo, hbw⟩
   exact results_row_tmp2 rfl _ _ w.heap.size 24 _ _ _ _ rfl rfl rfl Fx0.out Tryd.underlying24 rfl (by kernel_rfl)
end Go.Proofs.YtlicfidcfhbmpaaDoor

