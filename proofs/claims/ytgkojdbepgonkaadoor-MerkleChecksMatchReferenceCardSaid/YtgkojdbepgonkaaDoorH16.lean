/- Several texts in one: Mks, Mkp, Mkq. -/
import Derived.Test.YtgkojdbepgonkaaDoorH15
/- The root that results from a leaf and the nodes above it: climbed. -/
namespace Go.Proofs.YtgkojdbepgonkaaDoor
set_option maxRecDepth 8000
set_option linter.unusedVariables false
set_option linter.unusedSimpArgs false
open Go.RowKit
open Go.Shelf
attribute [local go_sem] Oper.semAt_some
attribute [local simp] z32_ne z32_run
attribute [-simp] Tryd.zeroValue34 Tryd.isAgg34 Tryd.sizeOf34
theorem wpListIn_val {F : Fence} {N : Nat} {P : Program} {ops : Array Oper} {rest : List Oper} {o : Oper} {a : Act} {Q : Exit → Act → World → Prop} {w : World} (hgd : o.guard = none) (hd : ∀ c, o.op ≠ .defer c) (hab : ∀ (ev : Operand → Value), o.about P w ev = none) (v : Value) (w' : World) (hr : (execOp a.eval o).run P w = .ok (.value v) w') (h : wpListIn F N P ops Q rest (a.put o.dst v) w') : wpListIn F N P ops Q (o :: rest) a w :=
  wpListIn_plain hgd fun K hK => by
    unfold Oper.wpIn
    refine ⟨fun f hf => (by rw [hab] at hf; cases hf), ?_⟩
    rw [Oper.semAt_plain F _ _ hd, hr]
    exact hK _ _ h
theorem wpListIn_skip0 {F : Fence} {N : Nat} {P : Program} {ops : Array Oper} {rest : List Oper} {o : Oper} {a : Act} {Q : Exit → Act → World → Prop} {w : World} (hgd : o.guard = none) (hd : ∀ c, o.op ≠ .defer c) (hab : ∀ (ev : Operand → Value), o.about P w ev = none) (w' : World) (hr : (execOp a.eval o).run P w = .ok .skip w') (h : wpListIn F N P ops Q rest (a.put o.dst undef) w') : wpListIn F N P ops Q (o :: rest) a w :=
  wpListIn_plain hgd fun K hK => by
    unfold Oper.wpIn
    refine ⟨fun f hf => (by rw [hab] at hf; cases hf), ?_⟩
    rw [Oper.semAt_plain F _ _ hd, hr]
    exact hK _ _ h
theorem SameX.trans' {x N : Nat} {A B C : World} (h : SameX x A B) (k : Below N B C) (hN : A.heap.size ≤ N) : SameX x A C := ⟨Nat.le_trans h.1 k.size, fun b hb hx => (k.block b (by omega)).trans (h.2 b hb hx)⟩
set_option maxRecDepth 100000 in
set_option maxHeartbeats 4000000 in
theorem climbed_any (cnt : Nat) (i : Int) (B : Option Addr) (nb cb : Nat) (b : List Nat) (Pp : Option Addr) (np cp : Nat) (x : Nat) (R : Option Addr) (k e : Nat) (ns : List (List Nat)) (w0 w : World) (hc1 : 1 ≤ cnt) (hc2 : cnt ≤ 65536) (hB : Sb w0 B nb cb b) (hnb : nb ≤ 140737488351232) (hG : Gl w0)
    (hb0 : Below w0.heap.size w0 w) (hx0 : w0.heap.size ≤ x) (hx : One w x 26 (.slice R k e)) (hD : Db w R k e ns) (hl : (sibN 0 cnt i).length ≤ ns.length) :
    Calls Tryd.prog 63 #[.agg #[.int .i64 (cnt : Int), .int .i64 i, .slice B nb cb, .slice Pp np cp], .func (.func 96) #[] #[.pointer (some ⟨x, 0, none⟩)]] w fun e2 w' => e2 = .returned (.agg (celB (climbN i (sibN 0 cnt i) ns (lfN b))).toArray) ∧ Below w0.heap.size w0 w' := by
  have hxl := hx.lt
  have hsz0 := hb0.size
  have HB := Lib.hid hB
  have HG := Lib.hid hG
  have HB0 := Lib.hid hb0
  have HX := Lib.hid hx
  have HD := Lib.hid hD
  have HL := Lib.hid hl
  clear hB hG hb0 hx hD hl
  obtain ⟨q, hq⟩ : ∃ q, lfN b = q := ⟨_, rfl⟩
  have hq32 : q.length = 32 := by rw [← hq]; exact lfN_length b
  have hqb : ∀ z ∈ q, z < 256 := by rw [← hq]; exact lfN_lt b
  rw [hq]
  have HQ := Lib.hid (show shaN (0 :: b) = q from hq)
  clear hq
  obtain ⟨xs, hxs⟩ : ∃ xs, sibN 0 cnt i = xs := ⟨_, rfl⟩
  rw [hxs] at HL ⊢
  have HXS := Lib.hid hxs
  clear hxs
  refine (callsIn_wide (n := 3)).1 ?_
  refine callsIn_of_wp_marks Tryd.func63 rfl trivial ?_ rfl
  simp only [Tryd.ntmps63, List.size_toArray, List.length_cons, List.length_nil, Nat.reduceAdd, Nat.reduceSub, Array.replicate_succ, Array.replicate_zero, List.push_toArray, List.append_toArray, List.nil_append, List.cons_append]
  obtain ⟨W1, hW1⟩ : ∃ W1, ((w.alloc (.cells #[.int .i64 (cnt : Int), .int .i64 i, .slice B nb cb, .slice Pp np cp] 31)).alloc (.cells #[.func (.func 96) #[] #[.pointer (some ⟨x, 0, none⟩)]] 97)).alloc (.cells z32 34) = W1 := ⟨_, rfl⟩
  have g0 : W1.heap[w.heap.size]? = some (.cells #[.int .i64 (cnt : Int), .int .i64 i, .slice B nb cb, .slice Pp np cp] 31 (0, 0)) := by rw [← hW1]; exact heap_old _ (heap_old _ (heap_new _ _))
  have g1 : W1.heap[w.heap.size + 1]? = some (.cells #[.func (.func 96) #[] #[.pointer (some ⟨x, 0, none⟩)]] 97 (0, 0)) := by
    rw [← hW1]
    exact heap_old _ (by simpa using heap_new (w.alloc (.cells #[.int .i64 (cnt : Int), .int .i64 i, .slice B nb cb, .slice Pp np cp] 31)) (.cells #[.func (.func 96) #[] #[.pointer (some ⟨x, 0, none⟩)]] 97))
  have g2 : RowB W1 34 (w.heap.size + 1 + 1) (List.replicate 32 0) := by
    rw [← hW1]
    have h := heap_new ((w.alloc (.cells #[.int .i64 (cnt : Int), .int .i64 i, .slice B nb cb, .slice Pp np cp] 31)).alloc (.cells #[.func (.func 96) #[] #[.pointer (some ⟨x, 0, none⟩)]] 97)) (.cells z32 34)
    rw [alloc_sz, alloc_sz] at h
    exact h
  have hb1 : Below w.heap.size w W1 := by rw [← hW1]; exact (((Below.refl _ _).alloc (Nat.le_refl _) _).alloc (by simp) _).alloc (by simp; omega) _
  have d2 := cells_at g0 2 (v := .slice B nb cb) rfl
  have G0 := Lib.hid g0
  have G1 := Lib.hid g1
  have G2 := Lib.hid g2
  have HB1 := Lib.hid hb1
  have hs1 := hb1.size
  have hs11 : w.heap.size + 1 + 1 < W1.heap.size := (Array.getElem?_eq_some_iff.1 g2).1
  clear g0 g1 g2 hb1
  gi_wp2
  have HB01 := Lib.hid (HB0.out.trans (HB1.out.mono (show w0.heap.size ≤ w.heap.size from hsz0)))
  refine ⟨trivial, (callsIn_wide.2 (leaf_any B nb cb b W1 (HB.out.keep HB01.out) hnb (HG.out.keep HB01.out) q HQ.out)).mono ?_⟩
  rintro e2 W2 ⟨rfl, hb2⟩
  have H5 : Hid (RowB (W2.alloc (.cells z32 34)) 34 W2.heap.size (List.replicate 32 0)) := Lib.hid (heap_new W2 _)
  have hsc := run_storeB (P := Tryd.prog) (ws := q) H5.out (by rw [hq32, List.length_replicate])
  have hsz : (celB q).length = 32 := by rw [celB_length, hq32]
  gi_wp2
  simp only [Tryd.sizeOf34, Result.andThen, ↓reduceIte, hsc]
  rw [Oper.uponIn_skip]
  have hb3 : Below W2.heap.size W2 ((W2.alloc (.cells z32 34)).setRow W2.heap.size (celB q).toArray) := bel_setRow ((Below.refl _ _).alloc (Nat.le_refl _) _) (Nat.le_refl _) _
  have H53 := Lib.hid (H5.out.row q)
  have hs2 := hb2.size
  clear hsc hsz H5 hW1 d2
  obtain ⟨W3, hW3⟩ : ∃ W3, (W2.alloc (.cells z32 34)).setRow W2.heap.size (celB q).toArray = W3 := ⟨_, rfl⟩
  rw [hW3] at hb3 H53 ⊢
  clear hW3
  obtain ⟨bd, hbd⟩ : ∃ bd, W2.heap.size = bd := ⟨_, rfl⟩
  have hs3 : bd < W3.heap.size := by rw [← hbd]; exact (Array.getElem?_eq_some_iff.1 H53.out).1
  have hb13 : Below W1.heap.size W1 W3 := hb2.trans (hb3.mono hs2)
  have G03 := Lib.hid (heap_keep G0.out hb13)
  have G13 := Lib.hid (heap_keep G1.out hb13)
  have G23 : Hid (RowB W3 34 (w.heap.size + 1 + 1) (List.replicate 32 0)) := Lib.hid (G2.out.keep hb13)
  have HB3 := Lib.hid (bel_step HB1.out hb13)
  have hbd1 : W1.heap.size ≤ bd := by rw [← hbd]; exact hs2
  rw [hbd] at H53 ⊢
  clear G0 G1 G2 HB1 HB01 hb2 hb3 hb13 hbd hs2
  have d0 := cells_at G03.out 0 (v := .int .i64 (cnt : Int)) rfl
  have d1 := cells_at G03.out 1 (v := .int .i64 i) rfl
  gi_wp2
  refine wpIn_normal ?_
  have l0 := LaterS.get (S := Below W3.heap.size W3) (fun W hS => cell_keep d0 hS)
  have l1 := LaterS.get (S := Below W3.heap.size W3) (fun W hS => cell_keep d1 hS)
  have hS0 : Below W3.heap.size W3 W3.drew := (Below.refl _ _).drew
  haveI := LaterS.inh hS0
  refine wp_ordA (Below W3.heap.size W3) [(0, true), (1, true), (3, true), (4, true), (2, false), (5, false)] (by kernel_rfl) (by kernel_rfl) (fun _ _ _ _ _ h => h.elim) rfl (by kernel_rfl) hS0 ?_
  simp only [Act.put]
  refine wpO_q rfl (by kernel_rfl) ?_
  go_big_quiet_step (fail)
  refine wpQuiet_nil ?_
  refine wpO_q rfl (by kernel_rfl) ?_
  go_big_quiet_step (fail)
  refine wpQuiet_nil ?_
  refine wpO_q rfl (by kernel_rfl) ?_
  go_big_quiet_step (fail)
  refine wpQuiet_nil ?_
  refine wpO_q rfl (by kernel_rfl) ?_
  go_big_quiet_step (fail)
  refine wpQuiet_nil ?_
  clear l0 l1 d0 d1
  refine wpO_op rfl (by kernel_rfl) ?_
  refine hOp_call 54 Tryd.func54 (by kernel_rfl) (by kernel_rfl) _ _ #[.int .i64 (cnt : Int)] rfl (by kernel_rfl) ?_
  refine (whole_any cnt _).mono ?_
  rintro e3 W4 ⟨rfl, hb4⟩
  have hb34 : Below W3.heap.size W3 W4 := hS0.trans (hb4.mono (Nat.le_refl _))
  refine ⟨_, rfl, hb34, ?_⟩
  simp only [Act.put, List.setIfInBounds_toArray, List.set_cons_zero, List.set_cons_succ]
  refine wpO_op rfl (by kernel_rfl) ?_
  refine hOp_call 62 Tryd.func62 (by kernel_rfl) (by kernel_rfl) _ _ #[.agg #[.int .i64 ((0 : Nat) : Int), .int .i64 (cnt : Int)], .int .i64 i] rfl (by kernel_rfl) ?_
  refine (siblings_any 0 cnt i W4).mono ?_
  rintro e3 W5 ⟨b3, b4, rfl, hsb, hge1, hge2, hb5⟩
  have hb35 : Below W3.heap.size W3 W5 := bel_step hb34 hb5
  refine ⟨_, rfl, hb35, ?_⟩
  simp only [Act.put, List.setIfInBounds_toArray, List.set_cons_zero, List.set_cons_succ]
  refine wpO_nil ?_
  have hs4 := hb34.size
  have hs5 := hb35.size
  have G05 := Lib.hid (heap_keep G03.out hb35)
  have G15 := Lib.hid (heap_keep G13.out hb35)
  have G25 : Hid (RowB W5 34 (w.heap.size + 1 + 1) (List.replicate 32 0)) := Lib.hid (G23.out.keep hb35)
  have H5 : Hid (RowB W5 34 bd q) := Lib.hid (H53.out.keep hb35)
  have HB5 := Lib.hid (bel_step HB3.out hb35)
  have HSB := Lib.hid hsb
  have HX5 := Lib.hid (HX.out.keep HB5.out)
  have HB05 := Lib.hid (HB0.out.trans (HB5.out.mono hsz0))
  clear hb4 hb34 hb5 hb35 hsb G03 G13 G23 H53 HB3 hS0
  refine onlyN_ok ?_
  gi_wp2
  have hit := siblings_iter cnt 0 cnt i b3 b4 (Nat.le_refl _) hc1 (by omega)
  rw [HXS.out] at hit
  have HIT := Lib.hid hit
  clear hit
  have HQD := Lib.hid (show (∀ d ∈ ns, d.length = 32 ∧ ∀ x ∈ d, x < 256) from HD.out.dig)
  have hL1 : OkL w.heap.size [(w.heap.size, .cells #[.int .i64 (cnt : Int), .int .i64 i, .slice B nb cb, .slice Pp np cp] 31 (0, 0)), (w.heap.size + 1, .cells #[.func (.func 96) #[] #[.pointer (some ⟨x, 0, none⟩)]] 97 (0, 0)), (b3, .cells #[.int .i64 ((0 : Nat) : Int), .int .i64 (cnt : Int)] 94 (0, 0)), (b4, .cells #[.int .i64 i] 3 (0, 0))] := by
    intro p hp
    simp only [List.mem_cons, List.not_mem_nil, or_false] at hp
    rcases hp with rfl | rfl | rfl | rfl
    · exact ⟨Nat.le_refl _, rfl, rfl⟩
    · exact ⟨Nat.le_succ _, rfl, rfl⟩
    · exact ⟨by show w.heap.size ≤ b3; omega, rfl, rfl⟩
    · exact ⟨by show w.heap.size ≤ b4; omega, rfl, rfl⟩
  have hl1 : Lies [(w.heap.size, .cells #[.int .i64 (cnt : Int), .int .i64 i, .slice B nb cb, .slice Pp np cp] 31 (0, 0)), (w.heap.size + 1, .cells #[.func (.func 96) #[] #[.pointer (some ⟨x, 0, none⟩)]] 97 (0, 0)), (b3, .cells #[.int .i64 ((0 : Nat) : Int), .int .i64 (cnt : Int)] 94 (0, 0)), (b4, .cells #[.int .i64 i] 3 (0, 0))] W5 := by
    intro p hp
    simp only [List.mem_cons, List.not_mem_nil, or_false] at hp
    rcases hp with rfl | rfl | rfl | rfl
    · exact G05.out
    · exact G15.out
    · exact HSB.out.1
    · exact HSB.out.2
  have HL1 := Lib.hid hL1
  have HLL := Lib.hid hl1
  clear hL1 hl1
  generalize hL : [(w.heap.size, (Obj.cells #[.int .i64 (cnt : Int), .int .i64 i, .slice B nb cb, .slice Pp np cp] 31 (0, 0))), (w.heap.size + 1, .cells #[.func (.func 96) #[] #[.pointer (some ⟨x, 0, none⟩)]] 97 (0, 0)), (b3, .cells #[.int .i64 ((0 : Nat) : Int), .int .i64 (cnt : Int)] 94 (0, 0)), (b4, .cells #[.int .i64 i] 3 (0, 0))] = L1 at HL1 HLL
  have HE1 := Lib.hid hL
  clear hL
  have HLN := Lib.hid (show ∀ p ∈ L1, p.1 ≠ bd ∧ p.1 ≠ x by
    intro p hp
    rw [← HE1.out] at hp
    simp only [List.mem_cons, List.not_mem_nil, or_false] at hp
    rcases hp with rfl | rfl | rfl | rfl
    · exact ⟨by show w.heap.size ≠ bd; omega, by show w.heap.size ≠ x; omega⟩
    · exact ⟨by show w.heap.size + 1 ≠ bd; omega, by show w.heap.size + 1 ≠ x; omega⟩
    · exact ⟨by show b3 ≠ bd; omega, by show b3 ≠ x; omega⟩
    · exact ⟨by show b4 ≠ bd; omega, by show b4 ≠ x; omega⟩)
  refine wpIn_rangeAll (gf := 99) (lb := #[.pointer (some ⟨b3, 0, none⟩), .pointer (some ⟨b4, 0, none⟩)]) rfl (enters_of Tryd.func99 (by kernel_rfl) rfl) (fun x : Nat × Nat => #[subV x.1 x.2]) (fun _ => rfl)
    xs (SbB b3 b4 0 cnt i) HIT.out (fun i2 A => Below w0.heap.size w0 A ∧ SameX x w A ∧ W5.heap.size ≤ A.heap.size ∧ Lies L1 A ∧ RowB A 34 (w.heap.size + 1 + 1) (List.replicate 32 0) ∧ RowB A 34 bd (climbN i (xs.take i2) ns q) ∧ ∃ R' k' e', One A x 26 (.slice R' k' e') ∧ ∀ X, Db X R k e ns → Db X R' k' e' (ns.drop i2)) ?jg ?jj ?j0 3 ?round ?fin
  case jg =>
    rintro i2 A ⟨_, _, _, h2, _⟩
    rw [← HE1.out] at h2
    obtain ⟨_, _, e3, e4⟩ := h2.four
    exact ⟨e3, e4⟩
  case jj =>
    rintro i2 A B ⟨h1, h2, h3, h4, h5, h6, R', k', e', h7, h8⟩ hb
    exact ⟨h1.trans (hb.below.mono (by omega)), h2.trans' hb.below (by omega), Nat.le_trans h3 hb.below.size, h4.abide HL1.out hb, hb.cells _ _ h5 rfl, hb.cells _ _ h6 rfl, R', k', e', hb.cells _ _ h7 rfl, h8⟩
  case j0 => exact ⟨HB05.out, SameX.of_below HB5.out, Nat.le_refl _, HLL.out, G25.out, H5.out, R, k, e, HX5.out, fun X hX => hX⟩
  case round =>
    rintro l2 i2 y A hy hl2 ⟨h1, h2, h3, h4, h5, h6, R', k', e', h7, h8⟩
    have hi2 : i2 < xs.length := (List.getElem?_eq_some_iff.1 hy).1
    have hin : i2 < ns.length := by have := HL.out; omega
    obtain ⟨nd, hnd⟩ : ∃ nd, ns[i2]? = some nd := ⟨_, List.getElem?_eq_getElem hin⟩
    obtain ⟨hn32, hnb2⟩ := HQD.out nd (List.mem_of_getElem? hnd)
    have hdc : ns.drop i2 = nd :: ns.drop (i2 + 1) := by rw [List.drop_eq_getElem_cons hin]; congr 1; rw [List.getElem?_eq_getElem hin] at hnd; injection hnd
    rw [hdc] at h8
    obtain ⟨dd, hdd⟩ : ∃ dd, climbN i (xs.take i2) ns q = dd := ⟨_, rfl⟩
    have hdd2 : dd.length = 32 ∧ ∀ z ∈ dd, z < 256 := by
      rw [← hdd]
      rcases List.eq_nil_or_concat (xs.take i2) with h | ⟨us, u, h⟩
      · rw [h]; exact ⟨hq32, hqb⟩
      · rw [h, List.concat_eq_append, climbN_append]
        split
        · exact ⟨prN_length _ _, prN_lt _ _⟩
        · exact ⟨prN_length _ _, prN_lt _ _⟩
    obtain ⟨hd32, hdb⟩ := hdd2
    rw [hdd] at h6
    have HTK := Lib.hid (show xs.take (i2 + 1) = xs.take i2 ++ [y] by rw [List.take_add_one, hy]; rfl)
    have HTL := Lib.hid (show (xs.take i2).length = i2 by rw [List.length_take]; omega)
    have HND := Lib.hid (show (ns.drop i2).headD [] = nd by rw [hdc]; rfl)
    have HCLB := Lib.hid hdd
    have HA1 := Lib.hid h1
    have HA2 := Lib.hid h2
    have HA4 := Lib.hid h4
    have HA5 := Lib.hid h5
    have HA6 := Lib.hid h6
    have HA7 := Lib.hid h7
    have HDX := Lib.hid h8
    clear h1 h2 h4 h5 h6 h7 h8 hdd hdc hnd hy
    unfold subV
    gi_wp2
    have hbA := (Below.refl A.heap.size A).alloc (Nat.le_refl _) (.cells #[.int .i64 (y.1 : Int), .int .i64 (y.2 : Int)] 94)
    have hcA := heap_new A (.cells #[.int .i64 (y.1 : Int), .int .i64 (y.2 : Int)] 94)
    refine ⟨KeepI.alloc _, fun B2 hB2 => ?_⟩
    have hl3 : Lies L1 B2 := (HA4.out.abide HL1.out (Abide.of_below hbA (Nat.le_refl _))).abide HL1.out hB2
    have HLB := Lib.hid hl3
    rw [← HE1.out] at hl3
    obtain ⟨e0, e1, _, _⟩ := hl3.four
    have d3 := cells_at e1 0 (v := .func (.func 96) #[] #[.pointer (some ⟨x, 0, none⟩)]) rfl
    have d4 := cells_at e0 1 (v := .int .i64 i) rfl
    have ex := hB2.cells _ _ hcA rfl
    have d5 := cells_at ex 0 (v := .int .i64 (y.1 : Int)) rfl
    have HR2 : Hid (RowB B2 34 bd dd) := Lib.hid (hB2.cells _ _ (heap_keep HA6.out hbA) rfl)
    have HR4 : Hid (RowB B2 34 (w.heap.size + 1 + 1) (List.replicate 32 0)) := Lib.hid (hB2.cells _ _ (heap_keep HA5.out hbA) rfl)
    have HX2 : Hid (One B2 x 26 (.slice R' k' e')) := Lib.hid (hB2.cells _ _ (heap_keep HA7.out hbA) rfl)
    have HBB := Lib.hid ((HA1.out.trans (hbA.mono (by omega))).trans (hB2.below.mono (show w0.heap.size ≤ W5.heap.size by omega)))
    have HSW := Lib.hid (show SameX x w B2 from (HA2.out.trans (SameX.of_below hbA)).trans' hB2.below (by omega))
    have HD2 := Lib.hid (HDX.out B2 (HD.out.keepX HX.out (fun z e => by cases e) HSW.out))
    have hz2 := Nat.le_trans h3 (Nat.le_trans hbA.size hB2.below.size)
    clear hbA hcA hl3 e0 e1 ex hB2 HA1 HA2 HA4 HA5 HA6 HA7
    have HLO : Hid (¬ LetsOut (Exit.inBlock 1 (endAll W5.heap.size (fun A => Below w0.heap.size w0 A ∧ SameX x w A ∧ W5.heap.size ≤ A.heap.size ∧ Lies L1 A ∧ RowB A 34 (w.heap.size + 1 + 1) (List.replicate 32 0) ∧ RowB A 34 bd (climbN i (xs.take (i2 + 1)) ns q) ∧ ∃ R' k' e', One A x 26 (.slice R' k' e') ∧ ∀ X, Db X R k e ns → Db X R' k' e' (ns.drop (i2 + 1))) B2))) := Lib.hid (by simp [LetsOut, Exit.inBlock, endAll])
    by_cases hcmp : i < ((y.1 : Nat) : Int)
    · gi_wp2
      clear d4 d5
      have hS0 : RbS x w0 B2 B2.drew := ⟨SameX.of_below (Below.refl _ _).drew, HBB.out.drew⟩
      haveI := LaterS.inh hS0
      have l0 := LaterS.get (S := RbS x w0 B2) (fun W hS => cell_same hS.1 d3 (by show w.heap.size + 1 ≠ x; omega))
      obtain ⟨z, hz⟩ : ∃ z, prN dd nd = z := ⟨_, rfl⟩
      have hz32 : z.length = 32 := by rw [← hz]; exact prN_length _ _
      have HZ := Lib.hid (show shaN (1 :: (dd ++ nd)) = z from hz)
      have HST := Lib.hid (show climbN i (xs.take (i2 + 1)) ns q = z by
        rw [HTK.out, climbN_append, HCLB.out, HTL.out, HND.out]
        first | (rw [if_pos hcmp]; exact hz) | (rw [if_neg (by omega)]; exact hz))
      clear hz
      refine wpR_held_tailS (RbS x w0 B2) 4 (by kernel_rfl) (by kernel_rfl) HLO.out (lexOK_of (by kernel_rfl) (by kernel_rfl)) (Tl.chainW_of (by kernel_rfl)) rfl (by kernel_rfl) (by kernel_rfl) hS0 ?_
      refine wpHeld_seg 2 (LaterS.some hS0) (by kernel_rfl) ?_
      simp only [List.take_succ_cons, List.take_zero, List.drop_succ_cons, List.drop_zero]
      refine wpQuiet_val (by kernel_rfl) _ (fun v hv => exec_loadD hd32 (by obtain ⟨y, rfl⟩ := hv; exact y.2.1.obj HR2.out (by omega)) rfl rfl) ?_
      simp only [Act.put, List.setIfInBounds_toArray, List.set_cons_zero, List.set_cons_succ]
      go_big_quiet_step (fail)
      refine wpQuiet_nil ?_
      clear l0 d3
      refine wpHeld_op (by kernel_rfl) (by kernel_rfl) ?_
      refine hOp_callV 96 Tryd.func96 (by kernel_rfl) (by kernel_rfl) 23 #[.pointer (some ⟨x, 0, none⟩)] _ rfl rfl ?_
      refine (consumer1_any x R' k' e' nd (ns.drop (i2 + 1)) B2.drew HX2.out.drew (HD2.out.keep (Below.refl _ _).drew)).mono ?_
      rintro e3 W4 ⟨rfl, hbx, hsx, R2, k2, e2, hx2, hd2⟩
      have hS4 : RbS x w0 B2 W4 := ⟨(SameX.of_below (Below.refl _ _).drew).trans hsx, (HBB.out.trans ((Below.refl _ _).drew.mono (by have := HBB.out.size; omega))).trans (hbx.mono hx0)⟩
      refine ⟨_, rfl, LaterS.some hS4, ?_⟩
      simp only [Act.put, List.setIfInBounds_toArray, List.set_cons_zero, List.set_cons_succ]
      refine wpHeld_call 92 Tryd.func92 (by kernel_rfl) (by kernel_rfl) _ _ #[.agg (celB dd).toArray, .agg (celB nd).toArray] rfl (by kernel_rfl) (by kernel_rfl) ?_
      refine (pair_any dd nd W4 hd32 hn32 hdb hnb2 (HG.out.keep hS4.2) z HZ.out).mono ?_
      rintro e3 W6 ⟨rfl, hb6⟩
      have hS6 : RbS x w0 B2 W6 := ⟨hS4.1.trans (SameX.of_below hb6), hS4.2.trans (hb6.mono (by have := hS4.2.size; omega))⟩
      refine ⟨_, rfl, LaterS.some hS6, ?_⟩
      simp only [Act.put, List.setIfInBounds_toArray, List.set_cons_zero, List.set_cons_succ]
      refine wpHeld_nil ?_
      have hrd : RowB W6 34 bd dd := hS6.1.obj HR2.out (by omega)
      refine mOp_run0 _ rfl rfl (exec_storeD hz32 hd32 hrd rfl rfl rfl) ?_
      have hx6 : One W6 x 26 (.slice R2 k2 e2) := hx2.keep hb6
      have hsz6 := hS6.1.1
      have hfin : KeepI W5.heap.size B2 (W6.setRow bd (celB z).toArray) ∧ (Below w0.heap.size w0 (W6.setRow bd (celB z).toArray) ∧ SameX x w (W6.setRow bd (celB z).toArray) ∧ W5.heap.size ≤ (W6.setRow bd (celB z).toArray).heap.size ∧ Lies L1 (W6.setRow bd (celB z).toArray) ∧ RowB (W6.setRow bd (celB z).toArray) 34 (w.heap.size + 1 + 1) (List.replicate 32 0) ∧ RowB (W6.setRow bd (celB z).toArray) 34 bd (climbN i (xs.take (i2 + 1)) ns q) ∧ ∃ R' k' e', One (W6.setRow bd (celB z).toArray) x 26 (.slice R' k' e') ∧ ∀ X, Db X R k e ns → Db X R' k' e' (ns.drop (i2 + 1))) := by
        refine ⟨KeepI.trans ⟨hS6.1.1, fun b o hb ho _ => hS6.1.obj ho (by omega)⟩ (KeepI.setRow _ (by omega)), bel_setRow hS6.2 (by omega) _, ?_, by simp [World.setRow]; omega, ?_, ?_, ?_, R2, k2, e2, (row_far (by omega) _).trans hx6, fun X hX => hd2 X (HDX.out X hX)⟩
        · exact (HSW.out.trans hS6.1).rowNew _ (by omega)
        · intro p hp
          have h1 := HLB.out p hp
          have h2 := HLN.out p hp
          exact (row_far h2.1 _).trans (hS6.1.obj h1 h2.2)
        · exact (row_far (by omega) _).trans (hS6.1.obj HR4.out (by omega))
        · rw [HST.out]; exact hrd.row z
      exact hfin
    · have hcmp2 : ¬ (i < ((y.1 : Nat) : Int)) := hcmp
      gi_wp2
      clear d4 d5
      have hS0 : RbS x w0 B2 B2.drew := ⟨SameX.of_below (Below.refl _ _).drew, HBB.out.drew⟩
      haveI := LaterS.inh hS0
      have l0 := LaterS.get (S := RbS x w0 B2) (fun W hS => cell_same hS.1 d3 (by show w.heap.size + 1 ≠ x; omega))
      obtain ⟨z, hz⟩ : ∃ z, prN nd dd = z := ⟨_, rfl⟩
      have hz32 : z.length = 32 := by rw [← hz]; exact prN_length _ _
      have HZ := Lib.hid (show shaN (1 :: (nd ++ dd)) = z from hz)
      have HST := Lib.hid (show climbN i (xs.take (i2 + 1)) ns q = z by
        rw [HTK.out, climbN_append, HCLB.out, HTL.out, HND.out]
        first | (rw [if_pos hcmp]; exact hz) | (rw [if_neg (by omega)]; exact hz))
      clear hz
      refine wpR_held_tailS (RbS x w0 B2) 4 (by kernel_rfl) (by kernel_rfl) HLO.out (lexOK_of (by kernel_rfl) (by kernel_rfl)) (Tl.chainW_of (by kernel_rfl)) rfl (by kernel_rfl) (by kernel_rfl) hS0 ?_
      refine wpHeld_seg 1 (LaterS.some hS0) (by kernel_rfl) ?_
      simp only [List.take_succ_cons, List.take_zero, List.drop_succ_cons, List.drop_zero]
      go_big_quiet_step (fail)
      refine wpQuiet_nil ?_
      clear l0 d3
      refine wpHeld_op (by kernel_rfl) (by kernel_rfl) ?_
      refine hOp_callV 96 Tryd.func96 (by kernel_rfl) (by kernel_rfl) 26 #[.pointer (some ⟨x, 0, none⟩)] _ rfl rfl ?_
      refine (consumer1_any x R' k' e' nd (ns.drop (i2 + 1)) B2.drew HX2.out.drew (HD2.out.keep (Below.refl _ _).drew)).mono ?_
      rintro e3 W4 ⟨rfl, hbx, hsx, R2, k2, e2, hx2, hd2⟩
      have hS4 : RbS x w0 B2 W4 := ⟨(SameX.of_below (Below.refl _ _).drew).trans hsx, (HBB.out.trans ((Below.refl _ _).drew.mono (by have := HBB.out.size; omega))).trans (hbx.mono hx0)⟩
      refine ⟨_, rfl, LaterS.some hS4, ?_⟩
      simp only [Act.put, List.setIfInBounds_toArray, List.set_cons_zero, List.set_cons_succ]
      refine wpHeld_seg 1 (LaterS.some hS4) (by kernel_rfl) ?_
      simp only [List.take_succ_cons, List.take_zero, List.drop_succ_cons, List.drop_zero]
      refine wpQuiet_val (by kernel_rfl) _ (fun v hv => exec_loadD hd32 (by obtain ⟨y, rfl⟩ := hv; exact y.2.1.obj HR2.out (by omega)) rfl rfl) ?_
      simp only [Act.put, List.setIfInBounds_toArray, List.set_cons_zero, List.set_cons_succ]
      refine wpQuiet_nil ?_
      refine wpHeld_call 92 Tryd.func92 (by kernel_rfl) (by kernel_rfl) _ _ #[.agg (celB nd).toArray, .agg (celB dd).toArray] rfl (by kernel_rfl) (by kernel_rfl) ?_
      refine (pair_any nd dd W4 hn32 hd32 hnb2 hdb (HG.out.keep hS4.2) z HZ.out).mono ?_
      rintro e3 W6 ⟨rfl, hb6⟩
      have hS6 : RbS x w0 B2 W6 := ⟨hS4.1.trans (SameX.of_below hb6), hS4.2.trans (hb6.mono (by have := hS4.2.size; omega))⟩
      refine ⟨_, rfl, LaterS.some hS6, ?_⟩
      simp only [Act.put, List.setIfInBounds_toArray, List.set_cons_zero, List.set_cons_succ]
      refine wpHeld_nil ?_
      have hrd : RowB W6 34 bd dd := hS6.1.obj HR2.out (by omega)
      refine mOp_run0 _ rfl rfl (exec_storeD hz32 hd32 hrd rfl rfl rfl) ?_
      have hx6 : One W6 x 26 (.slice R2 k2 e2) := hx2.keep hb6
      have hsz6 := hS6.1.1
      have hfin : KeepI W5.heap.size B2 (W6.setRow bd (celB z).toArray) ∧ (Below w0.heap.size w0 (W6.setRow bd (celB z).toArray) ∧ SameX x w (W6.setRow bd (celB z).toArray) ∧ W5.heap.size ≤ (W6.setRow bd (celB z).toArray).heap.size ∧ Lies L1 (W6.setRow bd (celB z).toArray) ∧ RowB (W6.setRow bd (celB z).toArray) 34 (w.heap.size + 1 + 1) (List.replicate 32 0) ∧ RowB (W6.setRow bd (celB z).toArray) 34 bd (climbN i (xs.take (i2 + 1)) ns q) ∧ ∃ R' k' e', One (W6.setRow bd (celB z).toArray) x 26 (.slice R' k' e') ∧ ∀ X, Db X R k e ns → Db X R' k' e' (ns.drop (i2 + 1))) := by
        refine ⟨KeepI.trans ⟨hS6.1.1, fun b o hb ho _ => hS6.1.obj ho (by omega)⟩ (KeepI.setRow _ (by omega)), bel_setRow hS6.2 (by omega) _, ?_, by simp [World.setRow]; omega, ?_, ?_, ?_, R2, k2, e2, (row_far (by omega) _).trans hx6, fun X hX => hd2 X (HDX.out X hX)⟩
        · exact (HSW.out.trans hS6.1).rowNew _ (by omega)
        · intro p hp
          have h1 := HLB.out p hp
          have h2 := HLN.out p hp
          exact (row_far h2.1 _).trans (hS6.1.obj h1 h2.2)
        · exact (row_far (by omega) _).trans (hS6.1.obj HR4.out (by omega))
        · rw [HST.out]; exact hrd.row z
      exact hfin
  case fin =>
    rintro D B hD ⟨h1, h2, h3, h4, h5, h6, _⟩ hd
    rw [List.take_of_length_le (Nat.le_refl _)] at h6
    obtain ⟨dd, hdd⟩ : ∃ dd, climbN i xs ns q = dd := ⟨_, rfl⟩
    have hd32 : dd.length = 32 := by
      rw [← hdd]
      rcases List.eq_nil_or_concat xs with h | ⟨us, u, h⟩
      · rw [h]; exact hq32
      · rw [h, List.concat_eq_append, climbN_append]
        split <;> exact prN_length _ _
    rw [hdd] at h6
    have HDD := Lib.hid hdd
    have H6 := Lib.hid h6
    have H7 := Lib.hid h5
    have HBB := Lib.hid h1
    have HD3 := Lib.hid hd
    clear h1 h2 h4 h5 h6 hd hdd HLL HL1 HIT HE1 HLN
    have hld := run_loadB (P := Tryd.prog) H6.out 32 hd32
    gi_wp2
    simp only [Tryd.isAgg34, Tryd.sizeOf34, Result.andThen, ↓reduceIte, hld]
    rw [Oper.uponIn_value]
    clear hld
    have hsc := run_storeB (P := Tryd.prog) (ws := dd) H7.out (by rw [hd32, List.length_replicate])
    have hsz : (celB dd).length = 32 := by rw [celB_length, hd32]
    gi_wp2
    simp only [Tryd.sizeOf34, Result.andThen, ↓reduceIte, hsc]
    rw [Oper.uponIn_skip]
    clear hsc
    have HR8 := Lib.hid (H7.out.row dd)
    have HB8 := Lib.hid (bel_setRow HBB.out (show w0.heap.size ≤ w.heap.size + 1 + 1 by omega) (celB dd).toArray)
    have HD8 : Hid ((B.setRow (w.heap.size + 1 + 1) (celB dd).toArray).heap[D]? = some (.deferred (some []))) := Lib.hid ((row_far (by omega) _).trans HD3.out)
    clear H6 H7 HBB HD3
    generalize B.setRow (w.heap.size + 1 + 1) (celB dd).toArray = W8 at *
    gi_wp2
    have hTR : RowB (W8.putObj D (.deferred none)) 34 (w.heap.size + 1 + 1) dd := (World.putObj_heap_other (by omega)).trans HR8.out
    refine ⟨by simp, .inl ⟨_, _, rfl, run_takeDeferred HD8.out, ?_⟩⟩
    refine ⟨.agg (celB dd).toArray, ?_, by rw [HDD.out], HB8.out.trans ⟨rfl, rfl, rfl, by simp, fun k hk => World.putObj_heap_other (by omega)⟩⟩
    exact results_cell_row rfl _ _ (w.heap.size + 1 + 1) 34 _ (0, 0) _ rfl hTR Tryd.underlying34 rfl (dig_size hd32)
end Go.Proofs.YtgkojdbepgonkaaDoor

/- Growing trees: peaks, their root, their number. No program. -/
namespace Go.Proofs.YtgkojdbepgonkaaDoor
set_option linter.unusedVariables false
set_option linter.unusedSimpArgs false
set_option maxRecDepth 8000
open Go.RowKit
/-- the number of set bits; k bounds the number of digits -/
def onesF : Nat → Nat → Nat
  | 0, _ => 0
  | k + 1, n => n % 2 + onesF k (n / 2)
def onesN (n : Nat) : Nat := onesF n n
theorem onesF_more : ∀ (k g n : Nat), n ≤ k → n ≤ g → onesF k n = onesF g n
  | 0, 0, _, _, _ => rfl
  | 0, g + 1, n, h, _ => by
    obtain rfl : n = 0 := by omega
    have := onesF_more 0 g 0 (Nat.le_refl _) (Nat.zero_le _)
    unfold onesF
    simp only [Nat.zero_mod, Nat.zero_div, Nat.zero_add]
    rw [← this]; rfl
  | k + 1, 0, n, _, h => by
    obtain rfl : n = 0 := by omega
    have := onesF_more k 0 0 (Nat.zero_le _) (Nat.le_refl _)
    unfold onesF
    simp only [Nat.zero_mod, Nat.zero_div, Nat.zero_add]
    rw [this]; rfl
  | k + 1, g + 1, n, h1, h2 => by
    unfold onesF
    rw [onesF_more k g (n / 2) (by omega) (by omega)]
theorem onesN_zero : onesN 0 = 0 := rfl
theorem onesN_step (n : Nat) : onesN n = n % 2 + onesN (n / 2) := by
  match n with
  | 0 => rfl
  | n + 1 =>
    show (n + 1) % 2 + onesF n ((n + 1) / 2) = _
    rw [onesF_more n ((n + 1) / 2) ((n + 1) / 2) (by omega) (Nat.le_refl _)]
    rfl
theorem onesN_le (n : Nat) : onesN n ≤ n := by
  induction n using Nat.strongRecOn with
  | ind n ih =>
    by_cases h : n = 0
    · subst h; exact Nat.le_refl _
    · rw [onesN_step]
      have := ih (n / 2) (by omega)
      omega
theorem onesN_high : ∀ (a r : Nat), r < 2 ^ a → onesN (2 ^ a + r) = 1 + onesN r
  | 0, r, h => by
    obtain rfl : r = 0 := by simpa using h
    rfl
  | a + 1, r, h => by
    rw [Nat.pow_succ] at h ⊢
    rw [onesN_step (2 ^ a * 2 + r), onesN_step r, show (2 ^ a * 2 + r) / 2 = 2 ^ a + r / 2 by omega, onesN_high a (r / 2) (by omega)]
    omega
/-- the digests of the complete trees of all leaves; k bounds their number -/
def peaksF : Nat → List (List Nat) → List (List Nat)
  | 0, _ => []
  | k + 1, ls => if ls = [] then [] else rootN (ls.take (2 ^ ls.length.log2)) :: peaksF k (ls.drop (2 ^ ls.length.log2))
def peaksN (ls : List (List Nat)) : List (List Nat) := peaksF ls.length ls
theorem peaksF_more : ∀ (k g : Nat) (ls : List (List Nat)), ls.length ≤ k → ls.length ≤ g → peaksF k ls = peaksF g ls
  | 0, g, ls, h, _ => by
    obtain rfl : ls = [] := List.length_eq_zero_iff.1 (by omega)
    cases g <;> rfl
  | k + 1, 0, ls, _, h => by
    obtain rfl : ls = [] := List.length_eq_zero_iff.1 (by omega)
    rfl
  | k + 1, g + 1, ls, h1, h2 => by
    unfold peaksF
    by_cases h : ls = []
    · rw [if_pos h, if_pos h]
    · rw [if_neg h, if_neg h]
      have := List.length_pos_iff.2 h
      have hp : 1 ≤ 2 ^ ls.length.log2 := Nat.one_le_two_pow
      rw [peaksF_more k g _ (by rw [List.length_drop]; omega) (by rw [List.length_drop]; omega)]
theorem peaksN_nil : peaksN [] = [] := rfl
theorem peaksN_step {ls : List (List Nat)} (h : ls ≠ []) : peaksN ls = rootN (ls.take (2 ^ ls.length.log2)) :: peaksN (ls.drop (2 ^ ls.length.log2)) := by
  have h0 := List.length_pos_iff.2 h
  have hp : 1 ≤ 2 ^ ls.length.log2 := Nat.one_le_two_pow
  obtain ⟨k, hk⟩ : ∃ k, ls.length = k + 1 := ⟨ls.length - 1, by omega⟩
  have e : peaksN ls = peaksF (k + 1) ls := by unfold peaksN; rw [hk]
  rw [e]
  unfold peaksF
  rw [if_neg h]
  unfold peaksN
  rw [peaksF_more k _ _ (by rw [List.length_drop]; omega) (Nat.le_refl _)]
theorem log2_of {n a : Nat} (h1 : 2 ^ a ≤ n) (h2 : n < 2 ^ (a + 1)) : n.log2 = a := by
  have : 1 ≤ 2 ^ a := Nat.one_le_two_pow
  exact (Nat.log2_eq_iff (by omega)).2 ⟨h1, h2⟩
theorem len_ind {p : List (List Nat) → Prop} (h : ∀ ls, (∀ ks : List (List Nat), ks.length < ls.length → p ks) → p ls) : ∀ ls, p ls := by
  intro ls
  generalize hn : ls.length = n
  induction n using Nat.strongRecOn generalizing ls with
  | ind n ih => exact h ls fun ks hk => ih ks.length (by omega) ks rfl
theorem peaksN_length : ∀ ls : List (List Nat), (peaksN ls).length = onesN ls.length := by
  refine len_ind fun ls ih => ?_
  by_cases h : ls = []
  · subst h; rfl
  · have h0 := List.length_pos_iff.2 h
    obtain ⟨h1, h2⟩ := (Nat.log2_eq_iff (k := ls.length.log2) (show ls.length ≠ 0 by omega)).1 rfl
    have hp : 1 ≤ 2 ^ ls.length.log2 := Nat.one_le_two_pow
    rw [peaksN_step h, List.length_cons, ih _ (by rw [List.length_drop]; omega), List.length_drop]
    have e : ls.length = 2 ^ ls.length.log2 + (ls.length - 2 ^ ls.length.log2) := by omega
    have := onesN_high ls.length.log2 (ls.length - 2 ^ ls.length.log2) (by rw [Nat.pow_succ] at h2; omega)
    rw [← e] at this
    omega
/-- a complete tree behind an even number of its like -/
theorem peaksN_even (j : Nat) (blk : List (List Nat)) (hb : blk.length = 2 ^ j) : ∀ (ls : List (List Nat)) (m : Nat), ls.length = m * 2 ^ j → m % 2 = 0 → peaksN (ls ++ blk) = peaksN ls ++ [rootN blk] := by
  refine len_ind fun ls ih => ?_
  intro m hm h2
  have hpj : 1 ≤ 2 ^ j := Nat.one_le_two_pow
  by_cases h : ls = []
  · subst h
    have hne : blk ≠ [] := fun e => by rw [e] at hb; simp at hb; omega
    have hlog : blk.length.log2 = j := log2_of (by omega) (by rw [hb, Nat.pow_succ]; omega)
    rw [List.nil_append, peaksN_step hne, hlog, List.take_of_length_le (by omega), List.drop_of_length_le (by omega)]
    rfl
  · have h0 := List.length_pos_iff.2 h
    obtain ⟨a, ha⟩ : ∃ a, ls.length.log2 = a := ⟨_, rfl⟩
    obtain ⟨h3, h4⟩ := (Nat.log2_eq_iff (show ls.length ≠ 0 by omega)).1 ha
    have hm2 : 2 ≤ m := by
      have : m ≠ 0 := fun e => by rw [e] at hm; omega
      omega
    have haj : j + 1 ≤ a := by
      refine Nat.le_of_lt_succ ((Nat.pow_lt_pow_iff_right (a := 2) (by omega)).1 (Nat.lt_of_le_of_lt ?_ h4))
      rw [hm, Nat.pow_succ, Nat.mul_comm]
      exact Nat.mul_le_mul_right _ hm2
    obtain ⟨b, rfl⟩ : ∃ b, a = j + 1 + b := ⟨a - (j + 1), by omega⟩
    obtain ⟨q, rfl⟩ : ∃ q, m = 2 * q := ⟨m / 2, by omega⟩
    have e1 : ls.length = q * 2 ^ (j + 1) := by rw [hm, Nat.pow_succ]; rw [Nat.mul_comm 2 q, Nat.mul_assoc, Nat.mul_comm 2]
    have e2 : 2 ^ (j + 1 + b) = 2 ^ b * 2 ^ (j + 1) := by rw [Nat.pow_add, Nat.mul_comm]
    have e3 : 2 ^ (j + 1 + b + 1) = (2 * 2 ^ b) * 2 ^ (j + 1) := by rw [Nat.pow_succ, e2, Nat.mul_comm, Nat.mul_assoc]
    have hq : q < 2 * 2 ^ b := by
      rw [e1, e3] at h4
      exact Nat.lt_of_mul_lt_mul_right h4
    have hpb : 1 ≤ 2 ^ b := Nat.one_le_two_pow
    have hq1 : 2 ^ b ≤ q := by
      rw [e1, e2] at h3
      exact Nat.le_of_mul_le_mul_right h3 (by rw [Nat.pow_succ]; omega)
    have hlt : (q + 1) * 2 ^ (j + 1) ≤ 2 * 2 ^ b * 2 ^ (j + 1) := Nat.mul_le_mul_right _ hq
    have hsz : (ls ++ blk).length < 2 ^ (j + 1 + b + 1) := by
      rw [List.length_append, e3, e1, hb]
      rw [Nat.add_mul, Nat.one_mul] at hlt
      rw [Nat.pow_succ] at hlt ⊢
      omega
    have hlog : (ls ++ blk).length.log2 = j + 1 + b := log2_of (by rw [List.length_append]; omega) hsz
    rw [peaksN_step (ls := ls ++ blk) (by simp [h]), hlog, peaksN_step h, ha, List.take_append_of_le_length h3, List.drop_append_of_le_length h3,
      ih _ (by rw [List.length_drop]; omega) (2 * (q - 2 ^ b)) (by
        rw [List.length_drop, e1, e2, ← Nat.sub_mul, Nat.pow_succ, Nat.mul_comm 2, Nat.mul_assoc, Nat.mul_comm 2]) (by omega)]
    rfl
/-- a leaf's or a complete tree's digest is added to the peaks of m complete trees of its size -/
def pushF : Nat → List (List Nat) → Nat → List Nat → List (List Nat)
  | 0, P, _, d => P ++ [d]
  | k + 1, P, m, d => if m % 2 = 1 ∧ P ≠ [] then pushF k P.dropLast (m / 2) (prN (P.getLastD []) d) else P ++ [d]
def pushN (P : List (List Nat)) (m : Nat) (d : List Nat) : List (List Nat) := pushF m P m d
theorem pushF_more : ∀ (k g : Nat) (P : List (List Nat)) (m : Nat) (d : List Nat), m ≤ k → m ≤ g → pushF k P m d = pushF g P m d
  | 0, 0, _, _, _, _, _ => rfl
  | 0, g + 1, P, m, d, h, _ => by
    obtain rfl : m = 0 := by omega
    unfold pushF
    rw [if_neg (by omega)]
  | k + 1, 0, P, m, d, _, h => by
    obtain rfl : m = 0 := by omega
    unfold pushF
    rw [if_neg (by omega)]
  | k + 1, g + 1, P, m, d, h1, h2 => by
    unfold pushF
    by_cases h : m % 2 = 1 ∧ P ≠ []
    · rw [if_pos h, if_pos h, pushF_more k g _ _ _ (by omega) (by omega)]
    · rw [if_neg h, if_neg h]
theorem pushN_stop {P : List (List Nat)} {m : Nat} (d : List Nat) (h : ¬ (m % 2 = 1 ∧ P ≠ [])) : pushN P m d = P ++ [d] := by
  unfold pushN
  cases m with
  | zero => rfl
  | succ m => unfold pushF; rw [if_neg h]
theorem pushN_join {P : List (List Nat)} {m : Nat} (e d : List Nat) (h : m % 2 = 1) : pushN (P ++ [e]) m d = pushN P (m / 2) (prN e d) := by
  obtain ⟨k, rfl⟩ : ∃ k, m = k + 1 := ⟨m - 1, by omega⟩
  unfold pushN
  conv => lhs; unfold pushF
  rw [if_pos ⟨h, by simp⟩, List.dropLast_concat, List.getLastD_concat]
  exact pushF_more _ _ _ _ _ (by omega) (Nat.le_refl _)
theorem leftN_pow (j : Nat) : leftN (2 ^ (j + 1)) = 2 ^ j := (leftN_of (n := 2 ^ (j + 1)) (j := j) (by rw [Nat.pow_succ]; have : 1 ≤ 2 ^ j := Nat.one_le_two_pow; omega) (by rw [Nat.pow_succ]; omega)).symm
theorem push_peaks : ∀ (m j : Nat) (ls blk : List (List Nat)), ls.length = m * 2 ^ j → blk.length = 2 ^ j → pushN (peaksN ls) m (rootN blk) = peaksN (ls ++ blk) := by
  intro m
  induction m using Nat.strongRecOn with
  | ind m ih =>
    intro j ls blk hl hb
    have hpj : 1 ≤ 2 ^ j := Nat.one_le_two_pow
    by_cases h : m % 2 = 1
    · obtain ⟨q, rfl⟩ : ∃ q, m = 2 * q + 1 := ⟨m / 2, by omega⟩
      rw [Nat.add_mul, Nat.one_mul] at hl
      have h1 : (ls.take (2 * q * 2 ^ j)).length = 2 * q * 2 ^ j := by rw [List.length_take]; omega
      have h2 : (ls.drop (2 * q * 2 ^ j)).length = 2 ^ j := by rw [List.length_drop]; omega
      have e := peaksN_even j _ h2 _ (2 * q) h1 (by omega)
      rw [List.take_append_drop] at e
      have e2 : prN (rootN (ls.drop (2 * q * 2 ^ j))) (rootN blk) = rootN (ls.drop (2 * q * 2 ^ j) ++ blk) := by
        have hl2 : (ls.drop (2 * q * 2 ^ j) ++ blk).length = 2 ^ (j + 1) := by rw [List.length_append, h2, hb, Nat.pow_succ]; omega
        rw [rootN_split (ls := ls.drop (2 * q * 2 ^ j) ++ blk) (by rw [hl2, Nat.pow_succ]; omega), hl2, leftN_pow, List.take_left' h2, List.drop_left' h2]
        rfl
      rw [e, pushN_join _ _ h, e2, show (2 * q + 1) / 2 = q by omega, ih q (by omega) (j + 1) _ _ (by rw [h1, Nat.pow_succ, Nat.mul_comm 2, Nat.mul_assoc, Nat.mul_comm 2]) (by rw [List.length_append, h2, hb, Nat.pow_succ]; omega), ← List.append_assoc, List.take_append_drop]
    · rw [pushN_stop _ (fun e => h e.1), peaksN_even j blk hb ls m hl (by omega)]
/-- a leaf is added -/
theorem push_leaf (ls : List (List Nat)) (b : List Nat) : pushN (peaksN ls) ls.length (lfN b) = peaksN (ls ++ [b]) := push_peaks ls.length 0 ls [b] (by simp) rfl
/-- the root of the peaks -/
def bagN : List (List Nat) → List Nat
  | [] => List.replicate 32 0
  | [d] => d
  | d :: e :: P => prN d (bagN (e :: P))
theorem bag_peaks : ∀ ls : List (List Nat), ls ≠ [] → bagN (peaksN ls) = rootN ls := by
  refine len_ind fun ls ih => ?_
  intro h
  have h0 := List.length_pos_iff.2 h
  obtain ⟨h1, h2⟩ := (Nat.log2_eq_iff (k := ls.length.log2) (show ls.length ≠ 0 by omega)).1 rfl
  have hp : 1 ≤ 2 ^ ls.length.log2 := Nat.one_le_two_pow
  rw [peaksN_step h]
  by_cases hd : ls.drop (2 ^ ls.length.log2) = []
  · rw [hd, peaksN_nil, List.take_of_length_le (by
      have := congrArg List.length hd
      rw [List.length_drop] at this
      simp at this
      omega)]
    rfl
  · have hd0 := List.length_pos_iff.2 hd
    have hi := ih _ (by rw [List.length_drop]; omega) hd
    have hs := peaksN_step hd
    rw [hs] at hi ⊢
    show prN _ (bagN _) = _
    rw [hi]
    rw [List.length_drop] at hd0
    have e : 2 ^ ls.length.log2 = leftN ls.length := leftN_of (by omega) (by rw [Nat.pow_succ] at h2; omega)
    rw [rootN_split (ls := ls) (by omega), ← e]
    rfl
/-- the lowest set bit is struck out -/
theorem ones_strike : ∀ (n : Nat), 0 < n → onesN n = 1 + onesN (n &&& (n - 1)) := by
  intro n
  induction n using Nat.strongRecOn with
  | ind n ih =>
    intro h
    by_cases h2 : n % 2 = 1
    · have e : (n &&& (n - 1)) = 2 * (n / 2) := by
        apply Nat.eq_of_testBit_eq
        intro i
        rw [Nat.testBit_and]
        cases i with
        | zero => simp [Nat.testBit_zero]; omega
        | succ i =>
          rw [Nat.testBit_succ, Nat.testBit_succ, Nat.testBit_succ, show (n - 1) / 2 = n / 2 by omega, show 2 * (n / 2) / 2 = n / 2 by omega, Bool.and_self]
      rw [e, onesN_step n, onesN_step (2 * (n / 2)), show 2 * (n / 2) / 2 = n / 2 by omega]
      omega
    · have e : (n &&& (n - 1)) = 2 * ((n / 2) &&& (n / 2 - 1)) := by
        apply Nat.eq_of_testBit_eq
        intro i
        rw [Nat.testBit_and]
        cases i with
        | zero => simp [Nat.testBit_zero]; omega
        | succ i =>
          rw [Nat.testBit_succ, Nat.testBit_succ, Nat.testBit_succ, show (n - 1) / 2 = n / 2 - 1 by omega, show 2 * ((n / 2) &&& (n / 2 - 1)) / 2 = (n / 2) &&& (n / 2 - 1) by omega, Nat.testBit_and]
      have := ih (n / 2) (by omega) (by omega)
      rw [e, onesN_step n, onesN_step (2 * ((n / 2) &&& (n / 2 - 1))), show 2 * ((n / 2) &&& (n / 2 - 1)) / 2 = (n / 2) &&& (n / 2 - 1) by omega, this]
      omega
end Go.Proofs.YtgkojdbepgonkaaDoor

/- What the reference of the hash trees reckons, in the words of the lists. No program. -/
namespace Go.Proofs.YtgkojdbepgonkaaDoor
set_option linter.unusedVariables false
set_option linter.unusedSimpArgs false
set_option maxRecDepth 8000
open Go.RowKit
/-- the indices in lo .. hi - 1 -/
def slN (is : List Int) (lo hi : Int) : List Int := is.filter fun x => decide (lo ≤ x ∧ x < hi)
theorem withinN_sl (is : List Int) (lo hi : Int) : withinN is lo hi = (slN is lo hi).length := rfl
theorem slN_pw {is : List Int} {lo hi : Int} (h : is.Pairwise (· < ·)) : (slN is lo hi).Pairwise (· < ·) := h.sublist List.filter_sublist
theorem slN_in {is : List Int} {f s : Nat} (h : is.Pairwise (· < ·)) : InS f s (slN is (f : Int) ((f + s : Nat) : Int)) :=
  ⟨slN_pw h, fun x hx => by have := (List.mem_filter.1 hx).2; simpa using this⟩
theorem slN_all {is : List Int} {n : Nat} (h : InS 0 n is) : slN is 0 (n : Int) = is :=
  List.filter_eq_self.2 fun x hx => by have := h.2 x hx; simp at this ⊢; omega
theorem slN_cut {is : List Int} {lo m hi : Int} (h : is.Pairwise (· < ·)) (h1 : lo ≤ m) (h2 : m ≤ hi) :
    (slN is lo hi).take (belowN (slN is lo hi) m) = slN is lo m ∧ (slN is lo hi).drop (belowN (slN is lo hi) m) = slN is m hi := by
  obtain ⟨e1, e2⟩ := take_below m (slN_pw (lo := lo) (hi := hi) h)
  rw [e1, e2]
  unfold slN
  rw [List.filter_filter, List.filter_filter]
  constructor
  · apply List.filter_congr
    intro x _
    rw [Bool.eq_iff_iff]
    simp
    omega
  · apply List.filter_congr
    intro x _
    rw [Bool.eq_iff_iff]
    simp
    omega
theorem slN_app {is : List Int} {lo m hi : Int} (h : is.Pairwise (· < ·)) (h1 : lo ≤ m) (h2 : m ≤ hi) : slN is lo m ++ slN is m hi = slN is lo hi := by
  obtain ⟨e1, e2⟩ := slN_cut h h1 h2
  rw [← e1, ← e2, List.take_append_drop]
theorem slN_below {is : List Int} {lo m hi : Int} (h : is.Pairwise (· < ·)) (h1 : lo ≤ m) (h2 : m ≤ hi) : belowN (slN is lo hi) m = (slN is lo m).length := by
  have e := congrArg List.length (slN_cut h h1 h2).1
  rw [List.length_take, Nat.min_eq_left (belowN_le _ _)] at e
  exact e
/-- the closed subtrees, as the reference finds them -/
theorem closedN_sl {is : List Int} {f s : Nat} (h : is.Pairwise (· < ·)) (hs : 2 ≤ s) (hne : slN is (f : Int) ((f + s : Nat) : Int) ≠ []) :
    closedN f s (slN is (f : Int) ((f + s : Nat) : Int)) = closedN f (leftN s) (slN is (f : Int) ((f + leftN s : Nat) : Int)) ++ closedN (f + leftN s) (s - leftN s) (slN is ((f + leftN s : Nat) : Int) ((f + s : Nat) : Int)) := by
  have hl := leftN_lt hs
  obtain ⟨e1, e2⟩ := slN_cut (is := is) (lo := (f : Int)) (m := ((f + leftN s : Nat) : Int)) (hi := ((f + s : Nat) : Int)) h (by omega) (by omega)
  rw [closedN_split f hne hs, e1, e2]
/-- rebuild -/
def rebR (C : List (Nat × Nat)) (ns bs : List (List Nat)) (is : List Int) : Nat → Nat → Nat → List Nat
  | 0, _, _ => []
  | k + 1, f, s => if C.idxOf (f, s) < C.length then ns.getD (C.idxOf (f, s)) [] else if s = 1 then lfN (bs.getD (withinN is 0 (f : Int)) []) else
      prN (rebR C ns bs is k f (leftN s)) (rebR C ns bs is k (f + leftN s) (s - leftN s))
theorem headD_take1 (l : List (List Nat)) (j : Nat) : ((l.drop j).take 1).headD [] = l.getD j [] := by
  rw [List.getD_eq_getElem?_getD, ← List.head?_drop]
  cases l.drop j <;> rfl
theorem headD_drop (l : List (List Nat)) (j : Nat) : (l.drop j).headD [] = l.getD j [] := by
  rw [List.getD_eq_getElem?_getD, ← List.head?_drop]
  cases l.drop j <;> rfl
theorem rebR_rebN {ns bs : List (List Nat)} {is : List Int} (hpw : is.Pairwise (· < ·)) : ∀ (s : Nat), 1 ≤ s → ∀ (C pre post : List (Nat × Nat)) (k f : Nat), s ≤ k →
    C = pre ++ (closedN f s (slN is (f : Int) ((f + s : Nat) : Int)) ++ post) → (∀ x ∈ pre, x.1 + x.2 ≤ f ∧ 1 ≤ x.2) → (∀ x ∈ post, f + s ≤ x.1) →
    rebR C ns bs is k f s = (rebN f s (slN is (f : Int) ((f + s : Nat) : Int)) ((bs.drop (withinN is 0 (f : Int))).take (withinN is (f : Int) ((f + s : Nat) : Int))) (ns.drop pre.length)).1 := by
  have found : ∀ (C pre post : List (Nat × Nat)) (k f s : Nat), s ≤ k → 1 ≤ s → slN is (f : Int) ((f + s : Nat) : Int) = [] →
      C = pre ++ (closedN f s (slN is (f : Int) ((f + s : Nat) : Int)) ++ post) → (∀ x ∈ pre, x.1 + x.2 ≤ f ∧ 1 ≤ x.2) →
      rebR C ns bs is k f s = (rebN f s (slN is (f : Int) ((f + s : Nat) : Int)) ((bs.drop (withinN is 0 (f : Int))).take (withinN is (f : Int) ((f + s : Nat) : Int))) (ns.drop pre.length)).1 := by
    intro C pre post k f s hk hs he hC hpre
    obtain ⟨k, rfl⟩ : ∃ j, k = j + 1 := ⟨k - 1, by omega⟩
    rw [he, closedN_nil f hs] at hC
    have hnot : (f, s) ∉ pre := fun hm => by have := hpre _ hm; simp at this; omega
    have hidx : C.idxOf (f, s) = pre.length := by
      rw [hC, List.idxOf_append, if_neg hnot]
      simp
    unfold rebR
    rw [hidx, if_pos (by rw [hC]; simp), he, rebN_nil f _ _ hs, headD_drop]
  refine tree_ind ?_ ?_
  · intro C pre post k f hk hC hpre hpost
    by_cases he : slN is (f : Int) ((f + 1 : Nat) : Int) = []
    · exact found C pre post k f 1 hk (Nat.le_refl _) he hC hpre
    · have hsg := (slN_in (f := f) (s := 1) hpw).single he
      obtain ⟨k, rfl⟩ : ∃ j, k = j + 1 := ⟨k - 1, by omega⟩
      rw [closedN_one f he] at hC
      have hnot : (f, 1) ∉ C := by
        rw [hC]
        intro hm
        rcases List.mem_append.1 hm with hm | hm
        · have := hpre _ hm; simp at this; omega
        · have := hpost _ (by simpa using hm); simp at this; omega
      unfold rebR
      rw [List.idxOf_eq_length hnot, if_neg (by omega), if_pos rfl, rebN_one f _ _ he, show withinN is (f : Int) ((f + 1 : Nat) : Int) = 1 by rw [withinN_sl, hsg]; rfl, headD_take1]
  · intro s hs hp hl ihl ihr C pre post k f hk hC hpre hpost
    by_cases he : slN is (f : Int) ((f + s : Nat) : Int) = []
    · exact found C pre post k f s hk (by omega) he hC hpre
    · obtain ⟨k, rfl⟩ : ∃ j, k = j + 1 := ⟨k - 1, by omega⟩
      have hnot : (f, s) ∉ C := by
        rw [hC]
        intro hm
        rcases List.mem_append.1 hm with hm | hm
        · have := hpre _ hm; simp at this; omega
        · rcases List.mem_append.1 hm with hm | hm
          · have := (closedN_in s (by omega) _ _ _ hm).2.2.2 he
            simp at this
          · have := hpost _ hm; simp at this; omega
      have hC2 := hC
      rw [closedN_sl hpw hs he] at hC2
      obtain ⟨e1, e2⟩ := slN_cut (is := is) (lo := (f : Int)) (m := ((f + leftN s : Nat) : Int)) (hi := ((f + s : Nat) : Int)) hpw (by omega) (by omega)
      have e3 := slN_below (is := is) (lo := (f : Int)) (m := ((f + leftN s : Nat) : Int)) (hi := ((f + s : Nat) : Int)) hpw (by omega) (by omega)
      have e4 : withinN is (f : Int) ((f + s : Nat) : Int) = withinN is (f : Int) ((f + leftN s : Nat) : Int) + withinN is ((f + leftN s : Nat) : Int) ((f + s : Nat) : Int) := by
        rw [withinN_sl, withinN_sl, withinN_sl, ← List.length_append, slN_app hpw (by omega) (by omega)]
      have e5 : withinN is 0 ((f + leftN s : Nat) : Int) = withinN is 0 (f : Int) + withinN is (f : Int) ((f + leftN s : Nat) : Int) := by
        rw [withinN_sl, withinN_sl, withinN_sl, ← List.length_append, slN_app hpw (by omega) (by omega)]
      have er : f + leftN s + (s - leftN s) = f + s := by omega
      have hL := ihl C pre (closedN (f + leftN s) (s - leftN s) (slN is ((f + leftN s : Nat) : Int) ((f + s : Nat) : Int)) ++ post) k f (by omega) (by rw [hC2]; simp) hpre (fun x hx => by
        rcases List.mem_append.1 hx with hx | hx
        · exact (closedN_in _ (by omega) _ _ _ hx).1
        · have := hpost x hx; omega)
      have hR := ihr C (pre ++ closedN f (leftN s) (slN is (f : Int) ((f + leftN s : Nat) : Int))) post k (f + leftN s) (by omega) (by rw [hC2, er]; simp) (fun x hx => by
        rcases List.mem_append.1 hx with hx | hx
        · have := hpre x hx; omega
        · have := closedN_in _ hp _ _ _ hx; omega) (fun x hx => by have := hpost x hx; omega)
      unfold rebR
      rw [List.idxOf_eq_length hnot, if_neg (by omega), if_neg (by omega), hL, hR, rebN_split f _ _ he hs e3, er]
      simp only []
      rw [← e3, e1, e2, e3, rebN_rest _ hp, List.drop_drop, List.length_append, List.take_take, e4, withinN_sl is (f : Int) ((f + leftN s : Nat) : Int), Nat.min_eq_left (by omega), List.drop_take, List.drop_drop, e5, withinN_sl is (f : Int) ((f + leftN s : Nat) : Int), Nat.add_sub_cancel_left]
/-- climb -/
def climbR : Nat → Nat → Int → List (List Nat) → List Nat → List Nat × Bool
  | 0, _, _, _, _ => ([], false)
  | k + 1, n, i, P, d => if n = 1 then (d, decide (P = [])) else if P = [] then (List.replicate 32 0, false) else if i < ((leftN n : Nat) : Int) then
      (prN (climbR k (leftN n) i P.dropLast d).1 (P.getLastD []), (climbR k (leftN n) i P.dropLast d).2)
    else (prN (P.getLastD []) (climbR k (n - leftN n) (i - ((leftN n : Nat) : Int)) P.dropLast d).1, (climbR k (n - leftN n) (i - ((leftN n : Nat) : Int)) P.dropLast d).2)
theorem climbR_climbN (d : List Nat) : ∀ (n : Nat), 1 ≤ n → ∀ (k f : Nat) (i : Int) (P : List (List Nat)), n ≤ k →
    (climbR k n i P d).2 = decide (P.length = (sibN f n ((f : Int) + i)).length) ∧ (P.length = (sibN f n ((f : Int) + i)).length → (climbR k n i P d).1 = climbN ((f : Int) + i) (sibN f n ((f : Int) + i)) P d) := by
  refine tree_ind ?_ ?_
  · intro k f i P hk
    obtain ⟨k, rfl⟩ : ∃ j, k = j + 1 := ⟨k - 1, by omega⟩
    unfold climbR
    rw [if_pos rfl, sibN_one]
    refine ⟨?_, fun _ => rfl⟩
    cases P <;> simp
  · intro n hn hp hl ihl ihr k f i P hk
    obtain ⟨k, rfl⟩ : ∃ j, k = j + 1 := ⟨k - 1, by omega⟩
    have hpos : 1 ≤ (sibN f n ((f : Int) + i)).length := by
      by_cases h : ((f : Int) + i) < ((f + leftN n : Nat) : Int)
      · rw [sibN_left f hn h]; simp
      · rw [sibN_right f hn h]; simp
    unfold climbR
    rw [if_neg (by omega)]
    by_cases hP : P = []
    · subst hP
      rw [if_pos rfl]
      refine ⟨?_, fun h => ?_⟩
      · simp only [List.length_nil]
        rw [decide_eq_false]
        omega
      · simp at h; omega
    · rw [if_neg hP]
      obtain ⟨Q, q, rfl⟩ : ∃ Q q, P = Q ++ [q] := ⟨P.dropLast, P.getLast hP, (List.dropLast_concat_getLast hP).symm⟩
      rw [List.dropLast_concat, List.getLastD_concat]
      by_cases h : i < ((leftN n : Nat) : Int)
      · obtain ⟨h1, h2⟩ := ihl k f i Q (by omega)
        have hh : ((f : Int) + i) < ((f + leftN n : Nat) : Int) := by omega
        rw [if_pos h, sibN_left f hn hh]
        refine ⟨?_, fun e => ?_⟩
        · simp only [h1, List.length_append, List.length_singleton]
          rw [Bool.eq_iff_iff]
          simp
        · simp only [List.length_append, List.length_singleton] at e
          have e2 : Q.length = (sibN f (leftN n) ((f : Int) + i)).length := by omega
          show prN _ q = _
          rw [climbN_append, if_pos hh, h2 e2, List.drop_left' e2]
          rw [← climbN_take _ _ (Q ++ [q]), List.take_left' e2]
          rfl
      · obtain ⟨h1, h2⟩ := ihr k (f + leftN n) (i - ((leftN n : Nat) : Int)) Q (by omega)
        have hh : ¬ ((f : Int) + i) < ((f + leftN n : Nat) : Int) := by omega
        have hi : (((f + leftN n : Nat) : Int) + (i - ((leftN n : Nat) : Int))) = (f : Int) + i := by omega
        rw [hi] at h1 h2
        rw [if_neg h, sibN_right f hn hh]
        refine ⟨?_, fun e => ?_⟩
        · simp only [h1, List.length_append, List.length_singleton]
          rw [Bool.eq_iff_iff]
          simp
        · simp only [List.length_append, List.length_singleton] at e
          have e2 : Q.length = (sibN (f + leftN n) (n - leftN n) ((f : Int) + i)).length := by omega
          have hf : ¬ ((f : Int) + i) < ((f : Nat) : Int) ∨ ((f : Int) + i) < ((f : Nat) : Int) := by omega
          show prN q _ = _
          rw [climbN_append, h2 e2, List.drop_left' e2, ← climbN_take _ _ (Q ++ [q]), List.take_left' e2]
          rw [if_neg (show ¬ ((f : Int) + i) < (((f, leftN n).1 : Nat) : Int) by simp; omega)]
          rfl
end Go.Proofs.YtgkojdbepgonkaaDoor
