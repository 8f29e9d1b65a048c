/- Several texts in one: Sf, Sg, Sh, Si, Sj, Sk. -/
import Derived.Test.YtkefijogpiofbaaH07
namespace Gold
set_option linter.unusedVariables false
set_option linter.unusedSimpArgs false
set_option linter.unusedSectionVars false
set_option maxRecDepth 8000
/-- a - c X^s b, the first i terms of b being done -/
def subP (xs ys : List F) (s : Nat) (c : F) (N i : Nat) : List F := tbF N fun q => cfF xs q - if s ≤ q ∧ q < s + i then c * cfF ys (q - s) else 0
theorem subP_length (xs ys : List F) (s : Nat) (c : F) (N i : Nat) : (subP xs ys s c N i).length = N := tbF_length _ _
theorem subP_zero {xs ys : List F} {s : Nat} {c : F} {N : Nat} : subP xs ys s c N 0 = tbF N (cfF xs) := by
  unfold subP
  refine congrArg (tbF N) (funext fun q => ?_)
  rw [if_neg (by omega)]
  grind
theorem subP_get {xs ys : List F} {s : Nat} {c : F} {N i : Nat} (h : s + i < N) : (subP xs ys s c N i)[s + i]? = some (cfF xs (s + i)) := by
  unfold subP
  rw [tbF_get _ h, if_neg (by omega)]
  congr 1
  grind
theorem subP_step {xs ys : List F} {s : Nat} {c : F} {N i : Nat} {y : F} (h : s + i < N) (hy : ys[i]? = some y) : (subP xs ys s c N i).set (s + i) (cfF xs (s + i) - c * y) = subP xs ys s c N (i + 1) := by
  apply List.ext_getElem?
  intro q
  rw [List.getElem?_set]
  have hl := subP_length xs ys s c N i
  by_cases e : s + i = q
  · subst e
    rw [if_pos rfl, if_pos (by omega)]
    unfold subP
    rw [tbF_get _ h, if_pos (by omega), show s + i - s = i by omega, cfF_some hy]
  · rw [if_neg e]
    by_cases hq : q < N
    · unfold subP
      rw [tbF_get _ hq, tbF_get _ hq]
      congr 2
      by_cases h1 : s ≤ q ∧ q < s + i
      · rw [if_pos h1, if_pos (by omega)]
      · rw [if_neg h1, if_neg (by omega)]
    · rw [List.getElem?_eq_none (by rw [subP_length]; omega), List.getElem?_eq_none (by rw [subP_length]; omega)]
theorem subP_all {xs ys : List F} {s : Nat} {c : F} {N : Nat} (hN : max xs.length (s + ys.length) = N) : trimF (subP xs ys s c N ys.length) = mnF xs ys s c := by
  unfold mnF subP
  rw [hN]
  refine congrArg trimF (congrArg (tbF N) (funext fun q => ?_))
  by_cases h : s ≤ q
  · by_cases h2 : q < s + ys.length
    · rw [if_pos ⟨h, h2⟩, if_pos h]
    · rw [if_neg (by omega), if_pos h, cfF_none (xs := ys) (by omega)]
      grind
  · rw [if_neg (by omega), if_neg h]
theorem tbF_cfF {xs : List F} {N : Nat} (h : xs.length = N) : tbF N (cfF xs) = xs := F_ext (by rw [tbF_length, h]) fun i hi => by
  rw [tbF_length] at hi
  rw [cfF_tbF, if_pos hi]
theorem tbF_pad {xs : List F} {n k N : Nat} (h : xs.length = n) (hN : n + k = N) : xs ++ List.replicate k 0 = tbF N (cfF xs) := F_ext (by rw [tbF_length, List.length_append, List.length_replicate]; omega) fun i hi => by
  rw [List.length_append, List.length_replicate] at hi
  rw [cfF_tbF, if_pos (by omega)]
  unfold cfF
  by_cases h1 : i < n
  · rw [List.getElem?_append_left (by omega)]
  · rw [List.getElem?_append_right (by omega), List.getElem?_replicate, if_pos (by omega), List.getElem?_eq_none (by omega)]
    rfl
end Gold
namespace Go.Proofs.Ytkefijogpiofbaa.K
set_option linter.unusedVariables false
set_option linter.unusedSimpArgs false
set_option linter.unusedSectionVars false
open Go.RowKit
theorem feC_zeros (k : Nat) : (List.replicate k (0 : Gold.F)).flatMap feC = List.replicate k (.int .u64 0) := by
  induction k with
  | zero => rfl
  | succ k ih => rw [List.replicate_succ, List.flatMap_cons, ih, List.replicate_succ]; rfl
/-- what an own slice becomes: only its block, and new ones, change -/
structure Gr (w w' : World) (u u' : Value) : Prop where
  g : w.grownBy w' u.ownBlock
  l : ∀ q, u'.ownBlock = some q → u.ownBlock = some q ∨ w.heap.size ≤ q
theorem Gr.refl (w : World) (u : Value) : Gr w w u u := ⟨⟨rfl, rfl, rfl, Nat.le_refl _, fun _ _ _ => rfl⟩, fun _ h => .inl h⟩
theorem Gr.trans {w w1 w2 : World} {u u1 u2 : Value} (h : Gr w w1 u u1) (h2 : Gr w1 w2 u1 u2) : Gr w w2 u u2 :=
  ⟨⟨h2.g.os.trans h.g.os, h2.g.tape.trans h.g.tape, h2.g.output.trans h.g.output, Nat.le_trans h.g.size h2.g.size, fun k hk hn => by
    rw [h2.g.block k (Nat.lt_of_lt_of_le hk h.g.size) (fun e => ?_), h.g.block k hk hn]
    rcases h.l k e.symm with h3 | h3
    · exact hn h3.symm
    · omega⟩, fun q hq => by
    rcases h2.l q hq with h3 | h3
    · exact h.l q h3
    · exact .inr (Nat.le_trans h.g.size h3)⟩
theorem Gr.below {w w1 : World} {u : Value} (hb : Below w.heap.size w w1) : Gr w w1 u u := ⟨⟨hb.os, hb.tape, hb.output, hb.size, fun k hk _ => hb.block k hk⟩, fun _ h => .inl h⟩
theorem Gr.cut {w w1 : World} {u : Value} {A : Option Addr} {n m c : Nat} (h : Gr w w1 u (.slice A n c)) : Gr w w1 u (.slice A m c) := ⟨h.g, fun q hq => h.l q (by cases A <;> exact hq)⟩
theorem Gr.row {w w' : World} {u u' : Value} {b : Nat} {o : Obj} (h : Gr w w' u u') (hb : w.heap[b]? = some o) (hn : u.ownBlock ≠ some b) : w'.heap[b]? = some o := (h.g.block b (Array.getElem?_eq_some_iff.1 hb).1 (fun e => hn e.symm)).trans hb
section
variable {P : Program} {ops : Array Oper} {Q : Exit → Act → World → Prop} {w : World} {base n : Nat} {v : Value} {e : TypeId} {cs : List Value}
/-- append(a, make(.., m)...) -/
theorem wpList_appZ {rest : List Oper} {o : Oper} {a : Act} {k : IntKind} {z : Value} (hw : Region.wanted o (yielded ops a.tmps) = true) (s x : Operand) (t ti : TypeId) (ho : o.op = .call { callee := .builtin .append, args := #[s, x], argTypes := #[t, ti] })
    (ht : P.underlying t = some (.slice e)) (hti : P.underlying ti = some (.int k)) (hinf : (P.info? e).map (fun i => (i.zero, i.size, i.bytes)) = some (some z, 1, 8)) (hzc : z.cells = #[z]) (h1 : z.oneCell' = true)
    (hs : a.eval s = v) (hown : w.ownsRow base e 1 v n cs) (m : Nat) (hx : a.eval x = .int .i64 (m : Int)) (hm0 : 0 < m) (hm : n + m ≤ 1048576) (hbase : base ≤ w.heap.size)
    (h : ∀ v' w', w'.ownsRow base e 1 v' (n + m) (cs ++ List.replicate m z) → Below base w w' → Gr w w' v v' → wpList P ops Q rest (a.put o.dst v') w') : wpList P ops Q (o :: rest) a w := by
  obtain ⟨i, hi, hz, hsize, hby⟩ := info_parts hinf
  obtain ⟨v', w', hr, h2, h3, h4⟩ := run_append_zeros (P := P) (ty := o.type) ht hti hi hz hsize hby hzc h1 hown m hm0 hm hbase
  refine wpList_op hw ?_
  unfold hOp execOp
  simp only [ho, resolve, invoke, builtin, Sem.run_bind, Sem.run_pure, Result.andThen_ok, List.map_toArray, List.map_cons, List.map_nil, hs, hx, hr]
  exact h v' w' h2 (own_below hown h3 hbase) ⟨h3, h4⟩
/-- the last operation, a store into an own slice -/
theorem mOp_ownStore {m : Nat} {o : Oper} {a : Act} {K : Act → World → Prop} {g cap i : Nat} {ty : TypeId} {x y : Operand} (u : Value) (h0 : ops[m]? = some o) (hg0 : o.guard = none) (hown : w.ownsRow base e 1 (.slice (some ⟨g, 0, none⟩) n cap) n cs) (hi : i < n) (hz : (P.info? ty).map (·.size) = some 1) (h1 : u.oneCell' = true)
    (ho : o.op = .store ty x y) (hx : a.eval x = .pointer (some (gad (some ⟨g, 0, none⟩) (i * 1)))) (hy : a.eval y = u)
    (h : ∀ W, W.ownsRow base e 1 (.slice (some ⟨g, 0, none⟩) n cap) n (cs.set i u) → Below base w W → Gr w W (.slice (some ⟨g, 0, none⟩) n cap) (.slice (some ⟨g, 0, none⟩) n cap) → K (a.put o.dst undef) W) (hbase : base ≤ w.heap.size) : mOp P ops m K a w := by
  have hst := World.ownsRow.stored hown i u
  rw [gad_base, Nat.mul_one] at hx
  have hown' := hown
  rcases hown'.2 with ⟨hn, _⟩ | ⟨g', cap', cur, e1, hb, hg, hc, hm, hs, ht⟩
  · cases hn
  · simp only [Value.slice.injEq, Option.some.injEq, Addr.mk.injEq, and_true, true_and] at e1
    obtain ⟨rfl, rfl⟩ := e1
    have hlt : i < cur.size := by rw [hs]; omega
    refine mOp_run0 (w.setCell ⟨g, i, none⟩ u) h0 hg0 (xo_store1 g i cur cur[i] u hg (by simp [hlt]) hz h1 ho hx hy) ?_
    have hgr : w.grownBy (w.setCell ⟨g, i, none⟩ u) (some g) := ⟨rfl, rfl, rfl, by simp [World.setCell], fun k hk hne => Below.heap_setCell w _ _ k (fun e => hne (by rw [e]))⟩
    exact h _ hst.1 (own_below hown hgr hbase) ⟨hgr, fun q hq => .inl hq⟩
end
end Go.Proofs.Ytkefijogpiofbaa.K

namespace Go.Proofs.Ytkefijogpiofbaa
set_option linter.unusedVariables false
set_option linter.unusedSimpArgs false
set_option linter.unusedSectionVars false
set_option maxRecDepth 8000
open Go.RowKit Go.Proofs.Ytkefijogpiofbaa.K
attribute [local irreducible] wpList wpQuiet
set_option maxRecDepth 100000 in
set_option maxHeartbeats 16000000 in
theorem minus1_any (A : Option Addr) (n c : Nat) (xs : List Gold.F) (B : Option Addr) (m d : Nat) (ys : List Gold.F) (s : Nat) (cc : Gold.F) (b2 b3 : Nat) (hn : n ≤ 262144) (hs : s + m ≤ 262144) (V w : World) (hV : Below V.heap.size V w)
    (hX : w.ownsRow V.heap.size 29 1 (.slice A n c) n (fl feC xs)) (hY : w.ownsRow V.heap.size 29 1 (.slice B m d) m (fl feC ys)) (hap : ApartV (.slice A n c) (.slice B m d))
    (h2 : w.heap[b2]? = some (.cells #[.int .i64 (s : Int)] 3 (0, 0))) (h3 : w.heap[b3]? = some (.cells #[.int .u64 (Gold.vF cc)] 29 (0, 0))) (hne2 : (Value.slice A n c).ownBlock ≠ some b2) (hne3 : (Value.slice A n c).ownBlock ≠ some b3) :
    Calls Try.prog 97 #[.slice A n c, .slice B m d, .pointer (some ⟨b2, 0, none⟩), .pointer (some ⟨b3, 0, none⟩)] w fun e w' => ∃ A' c', e = .returned (.slice A' (Gold.mnF xs ys s cc).length c') ∧ w'.ownsRow V.heap.size 29 1 (.slice A' (Gold.mnF xs ys s cc).length c') (Gold.mnF xs ys s cc).length (fl feC (Gold.mnF xs ys s cc)) ∧ Gr w w' (.slice A n c) (.slice A' (Gold.mnF xs ys s cc).length c') ∧ Below V.heap.size V w' := by
  have B0 := Lib.hid hV
  have OX := Lib.hid hX
  have OY := Lib.hid hY
  have AP := Lib.hid hap
  have H2 := Lib.hid h2
  have H3 := Lib.hid h3
  have hV0 := hV.size
  have hxl : xs.length = n := by have := hX.1; rw [fl_length] at this; omega
  have hyl : ys.length = m := by have := hY.1; rw [fl_length] at this; omega
  have hnc := (Sg.ownS hX).cap
  have hct := (Sg.ownS hX).top
  have hmd := (Sg.ownS hY).cap
  have hdt := (Sg.ownS hY).top
  clear hV hX hY hap h2 h3
  go_enter Try.func97, Try.ntmps97
  go_upto_region 1 with fail
  by_cases hlt : n < s + m
  · obtain ⟨q, hq⟩ : ∃ q, s + m - n = q := ⟨_, rfl⟩
    have hq0 : 0 < q := by omega
    have hci0 : ((q : Int) > 0) := by omega
    refine wp_region_lit ?_
    refine wpList_run (by kernel_rfl) (.int .i64 (s : Int)) w (xo_load1 ⟨b2, 0, none⟩ _ (cells_at H2.out 0 rfl) Try.underlying3 rfl rfl rfl) ?_
    simp only [Act.put, List.setIfInBounds_toArray, List.set_cons_zero, List.set_cons_succ]
    refine wpList_run (by kernel_rfl) (.slice B m d) w rfl ?_
    simp only [Act.put, List.setIfInBounds_toArray, List.set_cons_zero, List.set_cons_succ]
    refine wpList_run (by kernel_rfl) (.int .i64 (m : Int)) w (xo_len B m d Try.underlying22 rfl rfl) ?_
    simp only [Act.put, List.setIfInBounds_toArray, List.set_cons_zero, List.set_cons_succ]
    refine wpList_run (by kernel_rfl) (.int .i64 ((s + m : Nat) : Int)) w (xo_addI (s : Int) (m : Int) ((s + m : Nat) : Int) (by omega) (by omega) (by omega) rfl rfl rfl) ?_
    simp only [Act.put, List.setIfInBounds_toArray, List.set_cons_zero, List.set_cons_succ]
    refine wpList_run (by kernel_rfl) (.slice A n c) w rfl ?_
    simp only [Act.put, List.setIfInBounds_toArray, List.set_cons_zero, List.set_cons_succ]
    refine wpList_run (by kernel_rfl) (.int .i64 (n : Int)) w (xo_len A n c Try.underlying22 rfl rfl) ?_
    simp only [Act.put, List.setIfInBounds_toArray, List.set_cons_zero, List.set_cons_succ]
    refine wpList_run (by kernel_rfl) (.int .i64 (q : Int)) w (xo_subI ((s + m : Nat) : Int) (n : Int) (q : Int) (by omega) (by omega) (by omega) rfl rfl rfl) ?_
    simp only [Act.put, List.setIfInBounds_toArray, List.set_cons_zero, List.set_cons_succ]
    refine wpList_run (by kernel_rfl) (.int .i64 (q : Int)) w rfl ?_
    simp only [Act.put, List.setIfInBounds_toArray, List.set_cons_zero, List.set_cons_succ]
    refine wpList_nil ?_
    go_upto_region 2 with fail
    refine wp_region_lit ?_
    refine wpList_run (by kernel_rfl) (.int .i64 (q : Int)) w rfl ?_
    simp only [Act.put, List.setIfInBounds_toArray, List.set_cons_zero, List.set_cons_succ]
    refine wpList_run (by kernel_rfl) (.bool true) w (xo_gtrT .i64 (q : Int) 0 (by omega) rfl rfl rfl) ?_
    simp only [Act.put, List.setIfInBounds_toArray, List.set_cons_zero, List.set_cons_succ]
    refine wpList_nil ?_
    go_upto_region 3 with fail
    refine wp_region_lit ?_
    refine wpList_run (by kernel_rfl) (.slice A n c) w rfl ?_
    simp only [Act.put, List.setIfInBounds_toArray, List.set_cons_zero, List.set_cons_succ]
    refine wpList_run (by kernel_rfl) (.int .i64 (q : Int)) w rfl ?_
    simp only [Act.put, List.setIfInBounds_toArray, List.set_cons_zero, List.set_cons_succ]
    refine wpList_appZ (z := .int .u64 0) (by kernel_rfl) (.tmp 19) (.tmp 20) 22 3 rfl Try.underlying22 Try.underlying3 (by kernel_rfl) rfl rfl rfl OX.out q rfl (by omega) (by omega) B0.out.size ?_
    intro v1 X1 ho hb1 hg1
    have oy1 := own_other OY.out hg1.g AP.out
    have h21 := hg1.row H2.out hne2
    have h31 := hg1.row H3.out hne3
    have gr1 := (Gr.below (Below.refl w.heap.size w)).trans hg1
    have ap1 : ApartV v1 (.slice B m d) := ApartV.grow AP.out hg1.l OY.out
    have hn21 : v1.ownBlock ≠ some b2 := fun e => (hg1.l b2 e).elim hne2 (fun h => absurd (xp_lt H2.out) (by omega))
    have hn31 : v1.ownBlock ≠ some b3 := fun e => (hg1.l b3 e).elim hne3 (fun h => absurd (xp_lt H3.out) (by omega))
    have hpad : (xs ++ List.replicate q (0 : Gold.F)) = Gold.subP xs ys s cc (s + m) 0 := by rw [Gold.subP_zero]; exact Gold.tbF_pad hxl (by omega)
    rw [show fl feC xs ++ List.replicate q (.int .u64 0) = fl feC (xs ++ List.replicate q (0 : Gold.F)) by rw [fl_append, ← feC_zeros], hpad, show n + q = s + m by omega] at ho
    have bb1 := B0.out.trans hb1
    obtain ⟨A1, c1, rfl⟩ := own_form ho
    clear OX OY H2 H3 B0 hb1 hg1
    have B0 := Lib.hid bb1
    have OX := Lib.hid ho
    have OY := Lib.hid oy1
    have H2 := Lib.hid h21
    have H3 := Lib.hid h31
    have APX := Lib.hid ap1
    have HN2 := Lib.hid hn21
    have HN3 := Lib.hid hn31
    have GR1 := Lib.hid gr1
    clear bb1 ho oy1 h21 h31 ap1 hn21 hn31 gr1 hpad
    simp only [ptr, Act.put, List.setIfInBounds_toArray, List.set_cons_zero, List.set_cons_succ]
    refine wpList_run (by kernel_rfl) (.slice A1 (s + m) c1) X1 rfl ?_
    simp only [Act.put, List.setIfInBounds_toArray, List.set_cons_zero, List.set_cons_succ]
    refine wpList_nil ?_
    have GR := Lib.hid GR1.out
    obtain ⟨W1, rfl⟩ : ∃ W1 : World, W1 = X1 := ⟨_, rfl⟩
    go_upto_region 4 with fail
    refine wp_region_lit ?_
    refine wpList_run (by kernel_rfl) (.slice B m d) W1 rfl ?_
    simp only [Act.put, List.setIfInBounds_toArray, List.set_cons_zero, List.set_cons_succ]
    refine wpList_run (by kernel_rfl) (.int .i64 (m : Int)) W1 (xo_len B m d Try.underlying22 rfl rfl) ?_
    simp only [Act.put, List.setIfInBounds_toArray, List.set_cons_zero, List.set_cons_succ]
    refine wpList_run (by kernel_rfl) (.int .i64 0) W1 rfl ?_
    simp only [Act.put, List.setIfInBounds_toArray, List.set_cons_zero, List.set_cons_succ]
    refine wpList_nil ?_
    have ox := OX.out
    have oy := OY.out
    have o2 := H2.out
    have o3 := H3.out
    have bb := B0.out
    go_wp2_with fail
    go_loopw [8, 9, 24] (fun x8 x9 p wr => ∃ i : Nat, i ≤ m ∧ p = .int .i64 i ∧ wr.ownsRow V.heap.size 29 1 (.slice A1 (s + m) c1) (s + m) (fl feC (Gold.subP xs ys s cc (s + m) i)) ∧ wr.ownsRow V.heap.size 29 1 (.slice B m d) m (fl feC ys) ∧ wr.heap[b2]? = some (.cells #[.int .i64 (s : Int)] 3 (0, 0)) ∧ wr.heap[b3]? = some (.cells #[.int .u64 (Gold.vF cc)] 29 (0, 0)) ∧ Below V.heap.size V wr ∧ Gr W1 wr (.slice A1 (s + m) c1) (.slice A1 (s + m) c1)) (fun _ _ p _ => m - (intOf p).toNat)
    case atStart => exact ⟨0, Nat.zero_le _, rfl, ox, oy, o2, o3, bb, Gr.refl _ _⟩
    case round =>
      clear ox oy o2 o3 bb OX OY H2 H3 B0
      obtain ⟨wo, rfl⟩ : ∃ wo : World, wo = wr := ⟨_, rfl⟩
      obtain ⟨i, hi, rfl, ox, oy, o2, o3, bb, gg⟩ := hrel
      have B0 := Lib.hid bb
      have OX := Lib.hid ox
      have OY := Lib.hid oy
      have H2 := Lib.hid o2
      have H3 := Lib.hid o3
      have GG := Lib.hid gg
      have hVo := bb.size
      have HYs := Lib.hid (Sg.ownS oy)
      clear bb ox oy o2 o3 gg
      by_cases him : i < m
      · have hci1 : ((i : Int) < (m : Int)) := by omega
        go_upto_region 5 with fail
        refine wp_region_lit ?_
        refine wpList_run (by kernel_rfl) (.bool true) wo (xo_lssT .i64 (i : Int) (m : Int) (by omega) rfl rfl rfl) ?_
        simp only [Act.put, List.setIfInBounds_toArray, List.set_cons_zero, List.set_cons_succ]
        refine wpList_nil ?_
        obtain ⟨y, hy⟩ : ∃ y, ys[i]? = some y := ⟨_, List.getElem?_eq_getElem (by omega)⟩
        have HYE := Lib.hid hy
        clear hy
        go_upto_region 6 with fail
        refine wp_region_lit ?_
        refine wpList_run (by kernel_rfl) (.int .i64 (i : Int)) wo rfl ?_
        simp only [Act.put, List.setIfInBounds_toArray, List.set_cons_zero, List.set_cons_succ]
        refine wpList_run (by kernel_rfl) (.pointer (some (gad B (i * 1)))) wo (xg_idx .i64 HYs.out HYE.out Try.underlying22 (by kernel_rfl) rfl rfl rfl) ?_
        simp only [Act.put, List.setIfInBounds_toArray, List.set_cons_zero, List.set_cons_succ]
        refine wpList_run (by kernel_rfl) (.int .u64 (Gold.vF y)) wo (xg_load1 (E := feC) (i := i) (j := 0) HYs.out HYE.out rfl rfl Try.underlying29 rfl rfl rfl) ?_
        simp only [Act.put, List.setIfInBounds_toArray, List.set_cons_zero, List.set_cons_succ]
        refine wpList_run (by kernel_rfl) (.int .i64 (i : Int)) wo rfl ?_
        simp only [Act.put, List.setIfInBounds_toArray, List.set_cons_zero, List.set_cons_succ]
        refine wpList_run (by kernel_rfl) (.int .u64 (Gold.vF y)) wo rfl ?_
        simp only [Act.put, List.setIfInBounds_toArray, List.set_cons_zero, List.set_cons_succ]
        refine wpList_nil ?_
        obtain ⟨g, cap, hgc, hge⟩ := own_at (i := 0) OX.out (by omega)
        simp only [Value.slice.injEq, true_and] at hgc
        obtain ⟨rfl, rfl⟩ := hgc
        have HXs := Lib.hid (Sg.ownS OX.out)
        have hcx := HXs.out.cap
        have htx := HXs.out.top
        obtain ⟨jx, hJ⟩ : ∃ jx, s + i = jx := ⟨_, rfl⟩
        have hxg := Gold.subP_get (xs := xs) (ys := ys) (s := s) (c := cc) (N := (s + m)) (i := i) (by omega)
        rw [hJ] at hxg
        have HXE := Lib.hid hxg
        clear hxg
        obtain ⟨x, hxx⟩ : ∃ x, Gold.cfF xs jx = x := ⟨_, rfl⟩
        have HXE2 := Lib.hid (show _ from hxx ▸ HXE.out)
        have HXX := Lib.hid hxx
        clear hxx HXE
        have AP2 : Hid (ApartV (.slice (some ⟨g, 0, none⟩) (s + m) c1) (.slice B m d)) := APX
        have hn2 : (Value.slice (some ⟨g, 0, none⟩) (s + m) c1).ownBlock ≠ some b2 := HN2.out
        have hn3 : (Value.slice (some ⟨g, 0, none⟩) (s + m) c1).ownBlock ≠ some b3 := HN3.out
        go_upto_region 7 with fail
        try simp only [List.append_eq, List.cons_append, List.nil_append]
        refine wp_ordM 15 (.q 0 (.q 1 (.q 2 (.q 3 (.q 4 (.q 5 (.q 6 (.q 7 (.q 8 (.q 9 (.q 10 (.q 11 (.one 12 (.one 13 (.q 14 .nil))))))))))))))) (by kernel_rfl) (by kernel_rfl) (by kernel_rfl) (by kernel_rfl) (by kernel_rfl) (by kernel_rfl) (by kernel_rfl) (fun V2 hb => ?_)
        have B1 := Lib.hid hb
        clear hb
        refine wpOT_q (.slice (some ⟨g, 0, none⟩) (s + m) c1) rfl (by kernel_rfl) (fun v hW => rfl) ?_
        simp only [ptr, Act.put, List.setIfInBounds_toArray, List.set_cons_zero, List.set_cons_succ]
        refine wpOT_q (.int .i64 (s : Int)) rfl (by kernel_rfl) (fun v hW => (xo_load1 ⟨b2, 0, none⟩ _ (cells_at (heap_keep (heap_keep H2.out B1.out) hW) 0 rfl) Try.underlying3 rfl rfl rfl)) ?_
        simp only [ptr, Act.put, List.setIfInBounds_toArray, List.set_cons_zero, List.set_cons_succ]
        refine wpOT_q (.int .i64 (i : Int)) rfl (by kernel_rfl) (fun v hW => rfl) ?_
        simp only [ptr, Act.put, List.setIfInBounds_toArray, List.set_cons_zero, List.set_cons_succ]
        refine wpOT_q (.int .i64 (jx : Int)) rfl (by kernel_rfl) (fun v hW => (xo_addI (s : Int) (i : Int) (jx : Int) (by omega) (by omega) (by omega) rfl rfl rfl)) ?_
        simp only [ptr, Act.put, List.setIfInBounds_toArray, List.set_cons_zero, List.set_cons_succ]
        refine wpOT_q (.slice (some ⟨g, 0, none⟩) (s + m) c1) rfl (by kernel_rfl) (fun v hW => rfl) ?_
        simp only [ptr, Act.put, List.setIfInBounds_toArray, List.set_cons_zero, List.set_cons_succ]
        refine wpOT_q (.int .i64 (s : Int)) rfl (by kernel_rfl) (fun v hW => (xo_load1 ⟨b2, 0, none⟩ _ (cells_at (heap_keep (heap_keep H2.out B1.out) hW) 0 rfl) Try.underlying3 rfl rfl rfl)) ?_
        simp only [ptr, Act.put, List.setIfInBounds_toArray, List.set_cons_zero, List.set_cons_succ]
        refine wpOT_q (.int .i64 (i : Int)) rfl (by kernel_rfl) (fun v hW => rfl) ?_
        simp only [ptr, Act.put, List.setIfInBounds_toArray, List.set_cons_zero, List.set_cons_succ]
        refine wpOT_q (.int .i64 (jx : Int)) rfl (by kernel_rfl) (fun v hW => (xo_addI (s : Int) (i : Int) (jx : Int) (by omega) (by omega) (by omega) rfl rfl rfl)) ?_
        simp only [ptr, Act.put, List.setIfInBounds_toArray, List.set_cons_zero, List.set_cons_succ]
        refine wpOT_q (.pointer (some (gad (some ⟨g, 0, none⟩) (jx * 1)))) rfl (by kernel_rfl) (fun v hW => (xg_idx .i64 ((HXs.out.keep B1.out).keep hW) HXE2.out Try.underlying22 (by kernel_rfl) rfl rfl rfl)) ?_
        simp only [ptr, Act.put, List.setIfInBounds_toArray, List.set_cons_zero, List.set_cons_succ]
        refine wpOT_q (.int .u64 (Gold.vF x)) rfl (by kernel_rfl) (fun v hW => (xg_load1 (E := feC) (i := jx) (j := 0) ((HXs.out.keep B1.out).keep hW) HXE2.out rfl rfl Try.underlying29 rfl rfl rfl)) ?_
        simp only [ptr, Act.put, List.setIfInBounds_toArray, List.set_cons_zero, List.set_cons_succ]
        refine wpOT_q (.int .u64 (Gold.vF cc)) rfl (by kernel_rfl) (fun v hW => (xo_load1 ⟨b3, 0, none⟩ _ (cells_at (heap_keep (heap_keep H3.out B1.out) hW) 0 rfl) Try.underlying29 rfl rfl rfl)) ?_
        simp only [ptr, Act.put, List.setIfInBounds_toArray, List.set_cons_zero, List.set_cons_succ]
        refine wpOT_q (.int .u64 (Gold.vF y)) rfl (by kernel_rfl) (fun v hW => rfl) ?_
        simp only [ptr, Act.put, List.setIfInBounds_toArray, List.set_cons_zero, List.set_cons_succ]
        refine wpOT_one rfl (by kernel_rfl) ?_
        refine hOp_call 86 Try.func86 (by kernel_rfl) (by kernel_rfl) _ _ #[.int .u64 (Gold.vF cc), .int .u64 (Gold.vF y)] rfl (by kernel_rfl) ?_
        refine (J.mulF cc y V2).mono ?_
        rintro e W1 ⟨rfl, hw1⟩
        rw [hw1]
        clear hw1 W1
        refine ⟨_, rfl, (Below.refl V2.heap.size V2), ?_⟩
        simp only [ptr, Act.put, List.setIfInBounds_toArray, List.set_cons_zero, List.set_cons_succ]
        refine wpOT_one rfl (by kernel_rfl) ?_
        refine hOp_call 92 Try.func92 (by kernel_rfl) (by kernel_rfl) _ _ #[.int .u64 (Gold.vF x), .int .u64 (Gold.vF (cc * y))] rfl (by kernel_rfl) ?_
        refine (J.subF x (cc * y) V2).mono ?_
        rintro e W1 ⟨rfl, hw1⟩
        rw [hw1]
        clear hw1 W1
        refine ⟨_, rfl, (Below.refl V2.heap.size V2), ?_⟩
        simp only [ptr, Act.put, List.setIfInBounds_toArray, List.set_cons_zero, List.set_cons_succ]
        refine wpOT_q (.pointer (some (gad (some ⟨g, 0, none⟩) (jx * 1)))) rfl (by kernel_rfl) (fun v hW => (xg_idx .i64 ((HXs.out.keep B1.out).keep hW) HXE2.out Try.underlying22 (by kernel_rfl) rfl rfl rfl)) ?_
        simp only [ptr, Act.put, List.setIfInBounds_toArray, List.set_cons_zero, List.set_cons_succ]
        refine wpOT_nil ?_
        have C0_2 := Lib.hid (bel_step B0.out B1.out)
        refine mOp_ownStore (base := V.heap.size) (n := (s + m)) (cs := fl feC (Gold.subP xs ys s cc (s + m) i)) (i := jx) (.int .u64 (Gold.vF (x - (cc * y)))) rfl rfl (own_keep OX.out B1.out) (by omega) (by kernel_rfl) rfl rfl rfl rfl ?_ (Nat.le_trans C0_2.out.size (Nat.le_refl _))
        intro W2 ho hb2 hg2
        simp only [List.getElem_toArray, List.getElem_cons_succ, List.getElem_cons_zero, ptr, Act.put, List.setIfInBounds_toArray, List.set_cons_zero, List.set_cons_succ]
        have oy2 := own_other (own_keep OY.out B1.out) hg2.g AP2.out
        have h22 := hg2.row (heap_keep H2.out B1.out) hn2
        have h32 := hg2.row (heap_keep H3.out B1.out) hn3
        have ox2 : W2.ownsRow V.heap.size 29 1 (.slice (some ⟨g, 0, none⟩) (s + m) c1) (s + m) (fl feC (Gold.subP xs ys s cc (s + m) (i + 1))) := by rw [← Gold.subP_step (by omega) HYE.out, hJ, HXX.out, fl_set1 feC (fun x => .int .u64 (Gold.vF x))]; exact ho
        have bb2 := C0_2.out.trans hb2
        have gg2 := GG.out.trans ((Gr.below B1.out).trans hg2)
        go_upto_region 8 with fail
        refine wp_region_lit ?_
        refine wpList_run (by kernel_rfl) (.int .i64 ((i + 1 : Nat) : Int)) W2 (xo_addI (i : Int) 1 ((i + 1 : Nat) : Int) (by omega) (by omega) (by omega) rfl rfl rfl) ?_
        simp only [Act.put, List.setIfInBounds_toArray, List.set_cons_zero, List.set_cons_succ]
        refine wpList_run (by kernel_rfl) (.int .i64 ((i + 1 : Nat) : Int)) W2 rfl ?_
        simp only [Act.put, List.setIfInBounds_toArray, List.set_cons_zero, List.set_cons_succ]
        refine wpList_nil ?_
        go_wp2_with fail
        go_roundw
        case rel => exact ⟨i + 1, by omega, by go_num, ox2, oy2, h22, h32, bb2, gg2⟩
        case measure => simp [intOf]; omega
      · have hci1 : ¬ ((i : Int) < (m : Int)) := by omega
        go_upto_region 5 with fail
        refine wp_region_lit ?_
        refine wpList_run (by kernel_rfl) (.bool false) wo (xo_lssF .i64 (i : Int) (m : Int) (by omega) rfl rfl rfl) ?_
        simp only [Act.put, List.setIfInBounds_toArray, List.set_cons_zero, List.set_cons_succ]
        refine wpList_nil ?_
        obtain rfl : m = i := by omega
        have HXs := Lib.hid (Sg.ownS OX.out)
        go_upto_region 9 with fail
        refine wp_region_lit ?_
        refine wpList_run (by kernel_rfl) (.slice A1 (s + m) c1) wo rfl ?_
        simp only [Act.put, List.setIfInBounds_toArray, List.set_cons_zero, List.set_cons_succ]
        refine wpList_call (by kernel_rfl) 70 Try.func70 (by kernel_rfl) (by kernel_rfl) _ _ #[.slice A1 (s + m) c1] rfl (by kernel_rfl) ?_
        refine (trimmed_any A1 (s + m) c1 (Gold.subP xs ys s cc (s + m) m) wo HXs.out).mono ?_
        rintro e V2 ⟨rfl, hb⟩
        have B1 := Lib.hid hb
        clear hb 
        refine ⟨_, rfl, ?_⟩
        simp only [Act.put, List.setIfInBounds_toArray, List.set_cons_zero, List.set_cons_succ]
        refine wpList_run (by kernel_rfl) (.slice A1 (Gold.trimF (Gold.subP xs ys s cc (s + m) m)).length c1) V2 rfl ?_
        simp only [Act.put, List.setIfInBounds_toArray, List.set_cons_zero, List.set_cons_succ]
        refine wpList_nil ?_
        have hall : Gold.trimF (Gold.subP xs ys s cc (s + m) m) = Gold.mnF xs ys s cc := by rw [← hyl]; exact Gold.subP_all (by omega)
        have oxf := own_cut (own_keep OX.out B1.out) (Nat.le_trans (Gold.trimF_le _) (Nat.le_of_eq (Gold.subP_length xs ys s cc (s + m) m)))
        have hcutl : (Gold.subP xs ys s cc (s + m) m).take (Gold.trimF (Gold.subP xs ys s cc (s + m) m)).length = Gold.trimF (Gold.subP xs ys s cc (s + m) m) := by rw [Gold.trimF_length]; unfold Gold.trimF; rfl
        rw [hcutl] at oxf
        have ggf := (GR.out.trans (GG.out.trans (Gr.below B1.out))).cut (m := (Gold.trimF (Gold.subP xs ys s cc (s + m) m)).length)
        have C0_2 := Lib.hid (bel_step B0.out B1.out)
        have bbf := C0_2.out
        go_wp2_with fail
        go_ret
        exact ⟨A1, c1, by rw [← hall]; rfl, by rw [← hall]; exact oxf, by rw [← hall]; exact ggf, bbf⟩
  · have hsub : ¬ ((((s + m : Nat) : Int) - (n : Int)) > 0) := by omega
    refine wp_region_lit ?_
    refine wpList_run (by kernel_rfl) (.int .i64 (s : Int)) w (xo_load1 ⟨b2, 0, none⟩ _ (cells_at H2.out 0 rfl) Try.underlying3 rfl rfl rfl) ?_
    simp only [Act.put, List.setIfInBounds_toArray, List.set_cons_zero, List.set_cons_succ]
    refine wpList_run (by kernel_rfl) (.slice B m d) w rfl ?_
    simp only [Act.put, List.setIfInBounds_toArray, List.set_cons_zero, List.set_cons_succ]
    refine wpList_run (by kernel_rfl) (.int .i64 (m : Int)) w (xo_len B m d Try.underlying22 rfl rfl) ?_
    simp only [Act.put, List.setIfInBounds_toArray, List.set_cons_zero, List.set_cons_succ]
    refine wpList_run (by kernel_rfl) (.int .i64 ((s + m : Nat) : Int)) w (xo_addI (s : Int) (m : Int) ((s + m : Nat) : Int) (by omega) (by omega) (by omega) rfl rfl rfl) ?_
    simp only [Act.put, List.setIfInBounds_toArray, List.set_cons_zero, List.set_cons_succ]
    refine wpList_run (by kernel_rfl) (.slice A n c) w rfl ?_
    simp only [Act.put, List.setIfInBounds_toArray, List.set_cons_zero, List.set_cons_succ]
    refine wpList_run (by kernel_rfl) (.int .i64 (n : Int)) w (xo_len A n c Try.underlying22 rfl rfl) ?_
    simp only [Act.put, List.setIfInBounds_toArray, List.set_cons_zero, List.set_cons_succ]
    refine wpList_run (by kernel_rfl) (.int .i64 (((s + m : Nat) : Int) - (n : Int))) w (xo_subI ((s + m : Nat) : Int) (n : Int) (((s + m : Nat) : Int) - (n : Int)) rfl (by omega) (by omega) rfl rfl rfl) ?_
    simp only [Act.put, List.setIfInBounds_toArray, List.set_cons_zero, List.set_cons_succ]
    refine wpList_run (by kernel_rfl) (.int .i64 (((s + m : Nat) : Int) - (n : Int))) w rfl ?_
    simp only [Act.put, List.setIfInBounds_toArray, List.set_cons_zero, List.set_cons_succ]
    refine wpList_nil ?_
    go_upto_region 2 with fail
    refine wp_region_lit ?_
    refine wpList_run (by kernel_rfl) (.int .i64 (((s + m : Nat) : Int) - (n : Int))) w rfl ?_
    simp only [Act.put, List.setIfInBounds_toArray, List.set_cons_zero, List.set_cons_succ]
    refine wpList_run (by kernel_rfl) (.bool false) w (xo_gtrF .i64 (((s + m : Nat) : Int) - (n : Int)) 0 hsub rfl rfl rfl) ?_
    simp only [Act.put, List.setIfInBounds_toArray, List.set_cons_zero, List.set_cons_succ]
    refine wpList_nil ?_
    have ox0 : w.ownsRow V.heap.size 29 1 (.slice A n c) n (fl feC (Gold.subP xs ys s cc n 0)) := by rw [Gold.subP_zero, Gold.tbF_cfF hxl]; exact OX.out
    clear OX
    have OX := Lib.hid ox0
    clear ox0
    have APX := AP
    have HN2 := Lib.hid hne2
    have HN3 := Lib.hid hne3
    have GR := Lib.hid (Gr.below (u := .slice A n c) (Below.refl w.heap.size w))
    obtain ⟨W1, rfl⟩ : ∃ W1 : World, W1 = w := ⟨_, rfl⟩
    go_upto_region 4 with fail
    refine wp_region_lit ?_
    refine wpList_run (by kernel_rfl) (.slice B m d) W1 rfl ?_
    simp only [Act.put, List.setIfInBounds_toArray, List.set_cons_zero, List.set_cons_succ]
    refine wpList_run (by kernel_rfl) (.int .i64 (m : Int)) W1 (xo_len B m d Try.underlying22 rfl rfl) ?_
    simp only [Act.put, List.setIfInBounds_toArray, List.set_cons_zero, List.set_cons_succ]
    refine wpList_run (by kernel_rfl) (.int .i64 0) W1 rfl ?_
    simp only [Act.put, List.setIfInBounds_toArray, List.set_cons_zero, List.set_cons_succ]
    refine wpList_nil ?_
    have ox := OX.out
    have oy := OY.out
    have o2 := H2.out
    have o3 := H3.out
    have bb := B0.out
    go_wp2_with fail
    go_loopw [8, 9, 24] (fun x8 x9 p wr => ∃ i : Nat, i ≤ m ∧ p = .int .i64 i ∧ wr.ownsRow V.heap.size 29 1 (.slice A n c) n (fl feC (Gold.subP xs ys s cc n i)) ∧ wr.ownsRow V.heap.size 29 1 (.slice B m d) m (fl feC ys) ∧ wr.heap[b2]? = some (.cells #[.int .i64 (s : Int)] 3 (0, 0)) ∧ wr.heap[b3]? = some (.cells #[.int .u64 (Gold.vF cc)] 29 (0, 0)) ∧ Below V.heap.size V wr ∧ Gr W1 wr (.slice A n c) (.slice A n c)) (fun _ _ p _ => m - (intOf p).toNat)
    case atStart => exact ⟨0, Nat.zero_le _, rfl, ox, oy, o2, o3, bb, Gr.refl _ _⟩
    case round =>
      clear ox oy o2 o3 bb OX OY H2 H3 B0
      obtain ⟨wo, rfl⟩ : ∃ wo : World, wo = wr := ⟨_, rfl⟩
      obtain ⟨i, hi, rfl, ox, oy, o2, o3, bb, gg⟩ := hrel
      have B0 := Lib.hid bb
      have OX := Lib.hid ox
      have OY := Lib.hid oy
      have H2 := Lib.hid o2
      have H3 := Lib.hid o3
      have GG := Lib.hid gg
      have hVo := bb.size
      have HYs := Lib.hid (Sg.ownS oy)
      clear bb ox oy o2 o3 gg
      by_cases him : i < m
      · have hci0 : ((i : Int) < (m : Int)) := by omega
        go_upto_region 5 with fail
        refine wp_region_lit ?_
        refine wpList_run (by kernel_rfl) (.bool true) wo (xo_lssT .i64 (i : Int) (m : Int) (by omega) rfl rfl rfl) ?_
        simp only [Act.put, List.setIfInBounds_toArray, List.set_cons_zero, List.set_cons_succ]
        refine wpList_nil ?_
        obtain ⟨y, hy⟩ : ∃ y, ys[i]? = some y := ⟨_, List.getElem?_eq_getElem (by omega)⟩
        have HYE := Lib.hid hy
        clear hy
        go_upto_region 6 with fail
        refine wp_region_lit ?_
        refine wpList_run (by kernel_rfl) (.int .i64 (i : Int)) wo rfl ?_
        simp only [Act.put, List.setIfInBounds_toArray, List.set_cons_zero, List.set_cons_succ]
        refine wpList_run (by kernel_rfl) (.pointer (some (gad B (i * 1)))) wo (xg_idx .i64 HYs.out HYE.out Try.underlying22 (by kernel_rfl) rfl rfl rfl) ?_
        simp only [Act.put, List.setIfInBounds_toArray, List.set_cons_zero, List.set_cons_succ]
        refine wpList_run (by kernel_rfl) (.int .u64 (Gold.vF y)) wo (xg_load1 (E := feC) (i := i) (j := 0) HYs.out HYE.out rfl rfl Try.underlying29 rfl rfl rfl) ?_
        simp only [Act.put, List.setIfInBounds_toArray, List.set_cons_zero, List.set_cons_succ]
        refine wpList_run (by kernel_rfl) (.int .i64 (i : Int)) wo rfl ?_
        simp only [Act.put, List.setIfInBounds_toArray, List.set_cons_zero, List.set_cons_succ]
        refine wpList_run (by kernel_rfl) (.int .u64 (Gold.vF y)) wo rfl ?_
        simp only [Act.put, List.setIfInBounds_toArray, List.set_cons_zero, List.set_cons_succ]
        refine wpList_nil ?_
        obtain ⟨g, cap, hgc, hge⟩ := own_at (i := 0) OX.out (by omega)
        simp only [Value.slice.injEq, true_and] at hgc
        obtain ⟨rfl, rfl⟩ := hgc
        have HXs := Lib.hid (Sg.ownS OX.out)
        have hcx := HXs.out.cap
        have htx := HXs.out.top
        obtain ⟨jx, hJ⟩ : ∃ jx, s + i = jx := ⟨_, rfl⟩
        have hxg := Gold.subP_get (xs := xs) (ys := ys) (s := s) (c := cc) (N := n) (i := i) (by omega)
        rw [hJ] at hxg
        have HXE := Lib.hid hxg
        clear hxg
        obtain ⟨x, hxx⟩ : ∃ x, Gold.cfF xs jx = x := ⟨_, rfl⟩
        have HXE2 := Lib.hid (show _ from hxx ▸ HXE.out)
        have HXX := Lib.hid hxx
        clear hxx HXE
        have AP2 : Hid (ApartV (.slice (some ⟨g, 0, none⟩) n c) (.slice B m d)) := APX
        have hn2 : (Value.slice (some ⟨g, 0, none⟩) n c).ownBlock ≠ some b2 := HN2.out
        have hn3 : (Value.slice (some ⟨g, 0, none⟩) n c).ownBlock ≠ some b3 := HN3.out
        go_upto_region 7 with fail
        try simp only [List.append_eq, List.cons_append, List.nil_append]
        refine wp_ordM 15 (.q 0 (.q 1 (.q 2 (.q 3 (.q 4 (.q 5 (.q 6 (.q 7 (.q 8 (.q 9 (.q 10 (.q 11 (.one 12 (.one 13 (.q 14 .nil))))))))))))))) (by kernel_rfl) (by kernel_rfl) (by kernel_rfl) (by kernel_rfl) (by kernel_rfl) (by kernel_rfl) (by kernel_rfl) (fun V2 hb => ?_)
        have B1 := Lib.hid hb
        clear hb
        refine wpOT_q (.slice (some ⟨g, 0, none⟩) n c) rfl (by kernel_rfl) (fun v hW => rfl) ?_
        simp only [ptr, Act.put, List.setIfInBounds_toArray, List.set_cons_zero, List.set_cons_succ]
        refine wpOT_q (.int .i64 (s : Int)) rfl (by kernel_rfl) (fun v hW => (xo_load1 ⟨b2, 0, none⟩ _ (cells_at (heap_keep (heap_keep H2.out B1.out) hW) 0 rfl) Try.underlying3 rfl rfl rfl)) ?_
        simp only [ptr, Act.put, List.setIfInBounds_toArray, List.set_cons_zero, List.set_cons_succ]
        refine wpOT_q (.int .i64 (i : Int)) rfl (by kernel_rfl) (fun v hW => rfl) ?_
        simp only [ptr, Act.put, List.setIfInBounds_toArray, List.set_cons_zero, List.set_cons_succ]
        refine wpOT_q (.int .i64 (jx : Int)) rfl (by kernel_rfl) (fun v hW => (xo_addI (s : Int) (i : Int) (jx : Int) (by omega) (by omega) (by omega) rfl rfl rfl)) ?_
        simp only [ptr, Act.put, List.setIfInBounds_toArray, List.set_cons_zero, List.set_cons_succ]
        refine wpOT_q (.slice (some ⟨g, 0, none⟩) n c) rfl (by kernel_rfl) (fun v hW => rfl) ?_
        simp only [ptr, Act.put, List.setIfInBounds_toArray, List.set_cons_zero, List.set_cons_succ]
        refine wpOT_q (.int .i64 (s : Int)) rfl (by kernel_rfl) (fun v hW => (xo_load1 ⟨b2, 0, none⟩ _ (cells_at (heap_keep (heap_keep H2.out B1.out) hW) 0 rfl) Try.underlying3 rfl rfl rfl)) ?_
        simp only [ptr, Act.put, List.setIfInBounds_toArray, List.set_cons_zero, List.set_cons_succ]
        refine wpOT_q (.int .i64 (i : Int)) rfl (by kernel_rfl) (fun v hW => rfl) ?_
        simp only [ptr, Act.put, List.setIfInBounds_toArray, List.set_cons_zero, List.set_cons_succ]
        refine wpOT_q (.int .i64 (jx : Int)) rfl (by kernel_rfl) (fun v hW => (xo_addI (s : Int) (i : Int) (jx : Int) (by omega) (by omega) (by omega) rfl rfl rfl)) ?_
        simp only [ptr, Act.put, List.setIfInBounds_toArray, List.set_cons_zero, List.set_cons_succ]
        refine wpOT_q (.pointer (some (gad (some ⟨g, 0, none⟩) (jx * 1)))) rfl (by kernel_rfl) (fun v hW => (xg_idx .i64 ((HXs.out.keep B1.out).keep hW) HXE2.out Try.underlying22 (by kernel_rfl) rfl rfl rfl)) ?_
        simp only [ptr, Act.put, List.setIfInBounds_toArray, List.set_cons_zero, List.set_cons_succ]
        refine wpOT_q (.int .u64 (Gold.vF x)) rfl (by kernel_rfl) (fun v hW => (xg_load1 (E := feC) (i := jx) (j := 0) ((HXs.out.keep B1.out).keep hW) HXE2.out rfl rfl Try.underlying29 rfl rfl rfl)) ?_
        simp only [ptr, Act.put, List.setIfInBounds_toArray, List.set_cons_zero, List.set_cons_succ]
        refine wpOT_q (.int .u64 (Gold.vF cc)) rfl (by kernel_rfl) (fun v hW => (xo_load1 ⟨b3, 0, none⟩ _ (cells_at (heap_keep (heap_keep H3.out B1.out) hW) 0 rfl) Try.underlying29 rfl rfl rfl)) ?_
        simp only [ptr, Act.put, List.setIfInBounds_toArray, List.set_cons_zero, List.set_cons_succ]
        refine wpOT_q (.int .u64 (Gold.vF y)) rfl (by kernel_rfl) (fun v hW => rfl) ?_
        simp only [ptr, Act.put, List.setIfInBounds_toArray, List.set_cons_zero, List.set_cons_succ]
        refine wpOT_one rfl (by kernel_rfl) ?_
        refine hOp_call 86 Try.func86 (by kernel_rfl) (by kernel_rfl) _ _ #[.int .u64 (Gold.vF cc), .int .u64 (Gold.vF y)] rfl (by kernel_rfl) ?_
        refine (J.mulF cc y V2).mono ?_
        rintro e W1 ⟨rfl, hw1⟩
        rw [hw1]
        clear hw1 W1
        refine ⟨_, rfl, (Below.refl V2.heap.size V2), ?_⟩
        simp only [ptr, Act.put, List.setIfInBounds_toArray, List.set_cons_zero, List.set_cons_succ]
        refine wpOT_one rfl (by kernel_rfl) ?_
        refine hOp_call 92 Try.func92 (by kernel_rfl) (by kernel_rfl) _ _ #[.int .u64 (Gold.vF x), .int .u64 (Gold.vF (cc * y))] rfl (by kernel_rfl) ?_
        refine (J.subF x (cc * y) V2).mono ?_
        rintro e W1 ⟨rfl, hw1⟩
        rw [hw1]
        clear hw1 W1
        refine ⟨_, rfl, (Below.refl V2.heap.size V2), ?_⟩
        simp only [ptr, Act.put, List.setIfInBounds_toArray, List.set_cons_zero, List.set_cons_succ]
        refine wpOT_q (.pointer (some (gad (some ⟨g, 0, none⟩) (jx * 1)))) rfl (by kernel_rfl) (fun v hW => (xg_idx .i64 ((HXs.out.keep B1.out).keep hW) HXE2.out Try.underlying22 (by kernel_rfl) rfl rfl rfl)) ?_
        simp only [ptr, Act.put, List.setIfInBounds_toArray, List.set_cons_zero, List.set_cons_succ]
        refine wpOT_nil ?_
        have C0_2 := Lib.hid (bel_step B0.out B1.out)
        refine mOp_ownStore (base := V.heap.size) (n := n) (cs := fl feC (Gold.subP xs ys s cc n i)) (i := jx) (.int .u64 (Gold.vF (x - (cc * y)))) rfl rfl (own_keep OX.out B1.out) (by omega) (by kernel_rfl) rfl rfl rfl rfl ?_ (Nat.le_trans C0_2.out.size (Nat.le_refl _))
        intro W2 ho hb2 hg2
        simp only [List.getElem_toArray, List.getElem_cons_succ, List.getElem_cons_zero, ptr, Act.put, List.setIfInBounds_toArray, List.set_cons_zero, List.set_cons_succ]
        have oy2 := own_other (own_keep OY.out B1.out) hg2.g AP2.out
        have h22 := hg2.row (heap_keep H2.out B1.out) hn2
        have h32 := hg2.row (heap_keep H3.out B1.out) hn3
        have ox2 : W2.ownsRow V.heap.size 29 1 (.slice (some ⟨g, 0, none⟩) n c) n (fl feC (Gold.subP xs ys s cc n (i + 1))) := by rw [← Gold.subP_step (by omega) HYE.out, hJ, HXX.out, fl_set1 feC (fun x => .int .u64 (Gold.vF x))]; exact ho
        have bb2 := C0_2.out.trans hb2
        have gg2 := GG.out.trans ((Gr.below B1.out).trans hg2)
        go_upto_region 8 with fail
        refine wp_region_lit ?_
        refine wpList_run (by kernel_rfl) (.int .i64 ((i + 1 : Nat) : Int)) W2 (xo_addI (i : Int) 1 ((i + 1 : Nat) : Int) (by omega) (by omega) (by omega) rfl rfl rfl) ?_
        simp only [Act.put, List.setIfInBounds_toArray, List.set_cons_zero, List.set_cons_succ]
        refine wpList_run (by kernel_rfl) (.int .i64 ((i + 1 : Nat) : Int)) W2 rfl ?_
        simp only [Act.put, List.setIfInBounds_toArray, List.set_cons_zero, List.set_cons_succ]
        refine wpList_nil ?_
        go_wp2_with fail
        go_roundw
        case rel => exact ⟨i + 1, by omega, by go_num, ox2, oy2, h22, h32, bb2, gg2⟩
        case measure => simp [intOf]; omega
      · have hci0 : ¬ ((i : Int) < (m : Int)) := by omega
        go_upto_region 5 with fail
        refine wp_region_lit ?_
        refine wpList_run (by kernel_rfl) (.bool false) wo (xo_lssF .i64 (i : Int) (m : Int) (by omega) rfl rfl rfl) ?_
        simp only [Act.put, List.setIfInBounds_toArray, List.set_cons_zero, List.set_cons_succ]
        refine wpList_nil ?_
        obtain rfl : m = i := by omega
        have HXs := Lib.hid (Sg.ownS OX.out)
        go_upto_region 9 with fail
        refine wp_region_lit ?_
        refine wpList_run (by kernel_rfl) (.slice A n c) wo rfl ?_
        simp only [Act.put, List.setIfInBounds_toArray, List.set_cons_zero, List.set_cons_succ]
        refine wpList_call (by kernel_rfl) 70 Try.func70 (by kernel_rfl) (by kernel_rfl) _ _ #[.slice A n c] rfl (by kernel_rfl) ?_
        refine (trimmed_any A n c (Gold.subP xs ys s cc n m) wo HXs.out).mono ?_
        rintro e V2 ⟨rfl, hb⟩
        have B1 := Lib.hid hb
        clear hb 
        refine ⟨_, rfl, ?_⟩
        simp only [Act.put, List.setIfInBounds_toArray, List.set_cons_zero, List.set_cons_succ]
        refine wpList_run (by kernel_rfl) (.slice A (Gold.trimF (Gold.subP xs ys s cc n m)).length c) V2 rfl ?_
        simp only [Act.put, List.setIfInBounds_toArray, List.set_cons_zero, List.set_cons_succ]
        refine wpList_nil ?_
        have hall : Gold.trimF (Gold.subP xs ys s cc n m) = Gold.mnF xs ys s cc := by rw [← hyl]; exact Gold.subP_all (by omega)
        have oxf := own_cut (own_keep OX.out B1.out) (Nat.le_trans (Gold.trimF_le _) (Nat.le_of_eq (Gold.subP_length xs ys s cc n m)))
        have hcutl : (Gold.subP xs ys s cc n m).take (Gold.trimF (Gold.subP xs ys s cc n m)).length = Gold.trimF (Gold.subP xs ys s cc n m) := by rw [Gold.trimF_length]; unfold Gold.trimF; rfl
        rw [hcutl] at oxf
        have ggf := (GR.out.trans (GG.out.trans (Gr.below B1.out))).cut (m := (Gold.trimF (Gold.subP xs ys s cc n m)).length)
        have C0_2 := Lib.hid (bel_step B0.out B1.out)
        have bbf := C0_2.out
        go_wp2_with fail
        go_ret
        exact ⟨A, c, by rw [← hall]; rfl, by rw [← hall]; exact oxf, by rw [← hall]; exact ggf, bbf⟩
end Go.Proofs.Ytkefijogpiofbaa

namespace Go.Proofs.Ytkefijogpiofbaa.K
set_option linter.unusedVariables false
set_option linter.unusedSimpArgs false
set_option linter.unusedSectionVars false
set_option maxRecDepth 8000
open Go.RowKit
section
variable {P : Program} {ops : Array Oper} {S : World → Prop} {Q : Exit → Act → World → Prop} {m : Nat}
theorem wp_ordMS (S : World → Prop) (m : Nat) (t : OT) {id : Nat} {a : Act} {w : World} {l : List Oper} (hm : P.follows .mixedOrders = true) (hsel : Region.noSelect l.toArray = true) (hz : l.length = m + 1) (hl : t.len = m) (hs : Region.sinkB .any l.toArray m = true) (hcb : Region.chainB .any l.toArray m = true) (ho : okM l.toArray m t (Array.replicate l.length false) = true)
    (hS : S w.drew) (h : wpOT P l.toArray S (fun _ a w => mOp P l.toArray m (fun a w => Q .normal a w) a w) t a w.drew) : (Code.region id l.toArray true).wp P Q a w := by
  have inv0 : HeadInv .any l.toArray m (Array.replicate l.toArray.size false) :=
    ⟨by simp, fun j oj _ hl => (by rw [getD_replicate_false] at hl; cases hl), fun t _ ht => getD_in (by simpa using ht) (getD_replicate_false _ _)⟩
  refine wp_region_any hm (wpAny_of_wpT (S := S) (m := m) (by simpa using hz) hs hcb _ _ _ _ inv0 hS ?_)
  have := wpT_of_OT (P := P) (Q := Q) (m := m) (ops := l.toArray) (by simpa using hz) hs hcb hsel t (Array.replicate l.length false) a w.drew (by simpa using inv0) hS ho h
  rw [hl] at this
  simpa [hz] using this
end
/-- the value and the factor of two pairs, each a slice of the call's own, all apart -/
structure PP (e : TypeId) (V w : World) (u1 u2 v1 v2 : Value) (p d : Gold.PrF) : Prop where
  p1 : w.ownsRow V.heap.size e 1 u1 p.1.length (fl feC p.1)
  p2 : w.ownsRow V.heap.size e 1 u2 p.2.length (fl feC p.2)
  d1 : w.ownsRow V.heap.size e 1 v1 d.1.length (fl feC d.1)
  d2 : w.ownsRow V.heap.size e 1 v2 d.2.length (fl feC d.2)
  a12 : ApartV u1 u2
  a13 : ApartV u1 v1
  a14 : ApartV u1 v2
  a23 : ApartV u2 v1
  a24 : ApartV u2 v2
  a34 : ApartV v1 v2
section
variable {e : TypeId} {V w w' : World} {u1 u2 v1 v2 : Value} {p d : Gold.PrF}
theorem PP.swap (h : PP e V w u1 u2 v1 v2 p d) : PP e V w v1 v2 u1 u2 d p := ⟨h.d1, h.d2, h.p1, h.p2, h.a34, h.a13.symm, h.a23.symm, h.a14.symm, h.a24.symm, h.a12⟩
theorem PP.keep (h : PP e V w u1 u2 v1 v2 p d) (hb : Below w.heap.size w w') : PP e V w' u1 u2 v1 v2 p d := ⟨own_keep h.p1 hb, own_keep h.p2 hb, own_keep h.d1 hb, own_keep h.d2 hb, h.a12, h.a13, h.a14, h.a23, h.a24, h.a34⟩
theorem PP.far (h : PP e V w u1 u2 v1 v2 p d) {b : Nat} {ds : Array Value} {t : TypeId} (hb : w.heap[b]? = some (.cells ds t (0, 0))) (ht : t ≠ e) (hfar : ∀ k o, k ≠ b → w.heap[k]? = some o → w'.heap[k]? = some o) : PP e V w' u1 u2 v1 v2 p d :=
  ⟨own_farT h.p1 hb ht hfar, own_farT h.p2 hb ht hfar, own_farT h.d1 hb ht hfar, own_farT h.d2 hb ht hfar, h.a12, h.a13, h.a14, h.a23, h.a24, h.a34⟩
/-- the first slice of the first pair becomes another -/
theorem PP.one {u1' : Value} {l : List Gold.F} (h : PP e V w u1 u2 v1 v2 p d) (hg : Gr w w' u1 u1') (ho : w'.ownsRow V.heap.size e 1 u1' l.length (fl feC l)) : PP e V w' u1' u2 v1 v2 (l, p.2) d :=
  ⟨ho, own_other h.p2 hg.g h.a12, own_other h.d1 hg.g h.a13, own_other h.d2 hg.g h.a14, h.a12.grow hg.l h.p2, h.a13.grow hg.l h.d1, h.a14.grow hg.l h.d2, h.a23, h.a24, h.a34⟩
theorem PP.two {u2' : Value} {l : List Gold.F} (h : PP e V w u1 u2 v1 v2 p d) (hg : Gr w w' u2 u2') (ho : w'.ownsRow V.heap.size e 1 u2' l.length (fl feC l)) : PP e V w' u1 u2' v1 v2 (p.1, l) d :=
  ⟨own_other h.p1 hg.g h.a12.symm, ho, own_other h.d1 hg.g h.a23, own_other h.d2 hg.g h.a24, (h.a12.symm.grow hg.l h.p1).symm, h.a13, h.a14, h.a23.grow hg.l h.d1, h.a24.grow hg.l h.d2, h.a34⟩
/-- an own slice's block is not one of another type, or one that came later -/
theorem own_neT {base n : Nat} {v : Value} {cs : List Value} {b : Nat} {ds : Array Value} {t : TypeId} (h : w.ownsRow base e 1 v n cs) (hb : w.heap[b]? = some (.cells ds t (0, 0))) (ht : t ≠ e) : v.ownBlock ≠ some b := fun k => by
  rcases h.2 with ⟨rfl, _⟩ | ⟨g, cap, cur, rfl, _, hg, _⟩
  · cases k
  · simp only [Value.ownBlock, Option.some.injEq] at k
    subst k
    rw [hg] at hb
    simp only [Option.some.injEq, Obj.cells.injEq] at hb
    exact ht hb.2.1.symm
theorem own_neL {base n : Nat} {v : Value} {cs : List Value} {b : Nat} (h : w.ownsRow base e 1 v n cs) (hb : w.heap.size ≤ b) : v.ownBlock ≠ some b := fun k => by
  rcases h.2 with ⟨rfl, _⟩ | ⟨g, cap, cur, rfl, _, hg, _⟩
  · cases k
  · simp only [Value.ownBlock, Option.some.injEq] at k
    subst k
    have := (Array.getElem?_eq_some_iff.1 hg).1
    omega
end
end Go.Proofs.Ytkefijogpiofbaa.K

namespace Go.Proofs.Ytkefijogpiofbaa
set_option linter.unusedVariables false
set_option linter.unusedSimpArgs false
set_option linter.unusedSectionVars false
set_option maxRecDepth 8000
open Go.RowKit Go.Proofs.Ytkefijogpiofbaa.K
attribute [local irreducible] wpList wpQuiet
set_option maxRecDepth 100000 in
set_option maxHeartbeats 16000000 in
theorem minusTerm_any (A1 : Option Addr) (n c1 : Nat) (A2 : Option Addr) (nf c2 : Nat) (Y1 : Option Addr) (m d1 : Nat) (Y2 : Option Addr) (mf d2 : Nat) (xs xf ys yf : List Gold.F) (hln : xs.length = n) (hlnf : xf.length = nf) (hlm : ys.length = m) (hlmf : yf.length = mf)
    (ht : Gold.Trm ys) (h0 : m ≠ 0) (hl : m ≤ n) (h1 : n ≤ 65540) (h2 : nf ≤ 65540) (h3 : mf ≤ 65540) (V w : World) (hV : Below V.heap.size V w) (h : PP 29 V w (.slice A1 n c1) (.slice A2 nf c2) (.slice Y1 m d1) (.slice Y2 mf d2) (xs, xf) (ys, yf)) :
    Calls Try.prog 89 #[.agg #[.slice A1 n c1, .slice A2 nf c2], .agg #[.slice Y1 m d1, .slice Y2 mf d2]] w fun e w' => ∃ u1 u2, e = .returned (.agg #[u1, u2]) ∧ PP 29 V w' u1 u2 (.slice Y1 m d1) (.slice Y2 mf d2) (Gold.stpF (xs, xf) (ys, yf)) (ys, yf) ∧
      (∀ b o, (Value.slice A1 n c1).ownBlock ≠ some b → (Value.slice A2 nf c2).ownBlock ≠ some b → w.heap[b]? = some o → w'.heap[b]? = some o) ∧ (∀ q, u1.ownBlock = some q → (Value.slice A1 n c1).ownBlock = some q ∨ w.heap.size ≤ q) ∧ (∀ q, u2.ownBlock = some q → (Value.slice A2 nf c2).ownBlock = some q ∨ w.heap.size ≤ q) ∧ Below V.heap.size V w' := by
  have B0 := Lib.hid hV
  have HP := Lib.hid h
  have hV0 := hV.size
  have o1 : w.ownsRow V.heap.size 29 1 (.slice A1 n c1) n (fl feC xs) := by have q := h.p1; simp only at q; rw [hln] at q; exact q
  have o2 : w.ownsRow V.heap.size 29 1 (.slice A2 nf c2) nf (fl feC xf) := by have q := h.p2; simp only at q; rw [hlnf] at q; exact q
  have o3 : w.ownsRow V.heap.size 29 1 (.slice Y1 m d1) m (fl feC ys) := by have q := h.d1; simp only at q; rw [hlm] at q; exact q
  have o4 : w.ownsRow V.heap.size 29 1 (.slice Y2 mf d2) mf (fl feC yf) := by have q := h.d2; simp only at q; rw [hlmf] at q; exact q
  have HS1 := Lib.hid (Sg.ownS o1)
  have HS2 := Lib.hid (Sg.ownS o3)
  have hc1 := HS1.out.cap
  have ht1 := HS1.out.top
  have hc2 := HS2.out.cap
  have ht2 := HS2.out.top
  have O1 := Lib.hid o1
  have O2 := Lib.hid o2
  clear hV h o1 o2 o3 o4
  go_enter Try.func89, Try.ntmps89
  go_upto_region 1 with fail
  refine wp_named3 (fun V2 hb g0 g1 g2 hlt => ?_)
  have B1 := Lib.hid hb
  have Fx0 : Hid (V2.heap[w.heap.size]? = some (.cells #[.slice A1 n c1, .slice A2 nf c2] 81 (0, 0))) := Lib.hid (g0)
  have Fx1 : Hid (V2.heap[(w.heap.size + 1)]? = some (.cells #[.slice Y1 m d1, .slice Y2 mf d2] 81 (0, 0))) := Lib.hid (g1)
  have Fx2 : Hid (V2.heap[(w.heap.size + 1 + 1)]? = some (.cells #[.slice none 0 0, .slice none 0 0] 81 (0, 0))) := Lib.hid (g2)
  have Nb0_1 : Hid (w.heap.size ≠ (w.heap.size + 1)) := Lib.hid (by omega)
  have Nb0_2 : Hid (w.heap.size ≠ (w.heap.size + 1 + 1)) := Lib.hid (by omega)
  have Nb1_2 : Hid ((w.heap.size + 1) ≠ (w.heap.size + 1 + 1)) := Lib.hid (by omega)
  have Gb0 : Hid (w.heap.size ≤ w.heap.size) := Lib.hid (by omega)
  have Lx0 : Hid (w.heap.size < V2.heap.size) := Lib.hid (xp_lt Fx0.out)
  have Gb1 : Hid (w.heap.size ≤ (w.heap.size + 1)) := Lib.hid (by omega)
  have Lx1 : Hid ((w.heap.size + 1) < V2.heap.size) := Lib.hid (xp_lt Fx1.out)
  have Gb2 : Hid (w.heap.size ≤ (w.heap.size + 1 + 1)) := Lib.hid (by omega)
  have Lx2 : Hid ((w.heap.size + 1 + 1) < V2.heap.size) := Lib.hid (xp_lt Fx2.out)
  clear hb g0 g1 g2 hlt
  obtain ⟨s, hs⟩ : ∃ s, n - m = s := ⟨_, rfl⟩
  refine wp_region_lit ?_
  refine wpList_run (by kernel_rfl) (.pointer (some ⟨w.heap.size, 0, none⟩)) V2 (xo_fld0 0 w.heap.size 0 (by kernel_rfl) rfl rfl) ?_
  simp only [Act.put, List.setIfInBounds_toArray, List.set_cons_zero, List.set_cons_succ]
  refine wpList_run (by kernel_rfl) (.slice A1 n c1) V2 (xo_load1 ⟨w.heap.size, 0, none⟩ _ (cells_at Fx0.out 0 rfl) Try.underlying22 rfl rfl rfl) ?_
  simp only [Act.put, List.setIfInBounds_toArray, List.set_cons_zero, List.set_cons_succ]
  refine wpList_run (by kernel_rfl) (.int .i64 (n : Int)) V2 (xo_len A1 n c1 Try.underlying22 rfl rfl) ?_
  simp only [Act.put, List.setIfInBounds_toArray, List.set_cons_zero, List.set_cons_succ]
  refine wpList_run (by kernel_rfl) (.pointer (some ⟨(w.heap.size + 1), 0, none⟩)) V2 (xo_fld0 0 (w.heap.size + 1) 0 (by kernel_rfl) rfl rfl) ?_
  simp only [Act.put, List.setIfInBounds_toArray, List.set_cons_zero, List.set_cons_succ]
  refine wpList_run (by kernel_rfl) (.slice Y1 m d1) V2 (xo_load1 ⟨(w.heap.size + 1), 0, none⟩ _ (cells_at Fx1.out 0 rfl) Try.underlying22 rfl rfl rfl) ?_
  simp only [Act.put, List.setIfInBounds_toArray, List.set_cons_zero, List.set_cons_succ]
  refine wpList_run (by kernel_rfl) (.int .i64 (m : Int)) V2 (xo_len Y1 m d1 Try.underlying22 rfl rfl) ?_
  simp only [Act.put, List.setIfInBounds_toArray, List.set_cons_zero, List.set_cons_succ]
  refine wpList_run (by kernel_rfl) (.int .i64 (s : Int)) V2 (xo_subI (n : Int) (m : Int) (s : Int) (by omega) (by omega) (by omega) rfl rfl rfl) ?_
  simp only [Act.put, List.setIfInBounds_toArray, List.set_cons_zero, List.set_cons_succ]
  refine wpList_new #[.int .i64 0] 3 (by kernel_rfl) (xo_alloc1 (.int .i64 0) rfl (by kernel_rfl) rfl) ?_
  intro b5 V3 hge h0 hb
  have N0_0 : Hid (w.heap.size ≠ b5) := Lib.hid (xp_lt0 Fx0.out hge)
  have N1_1 : Hid ((w.heap.size + 1) ≠ b5) := Lib.hid (xp_lt0 Fx1.out hge)
  have N2_2 : Hid ((w.heap.size + 1 + 1) ≠ b5) := Lib.hid (xp_lt0 Fx2.out hge)
  have Ge3 : Hid (V2.heap.size ≤ b5) := Lib.hid hge
  have B2 := Lib.hid hb
  have Fv4_5 : Hid (V3.heap[b5]? = some (.cells #[.int .i64 0] 3 (0, 0))) := Lib.hid (h0)
  have Lt5 : Hid (b5 < V3.heap.size) := Lib.hid (xp_lt Fv4_5.out)
  clear hge h0 hb
  simp only [ptr, Act.put, List.setIfInBounds_toArray, List.set_cons_zero, List.set_cons_succ]
  refine wpList_store1 b5 0 #[.int .i64 0] (.int .i64 (s : Int)) 3 (by kernel_rfl) Fv4_5.out (xo_store1 b5 0 #[.int .i64 0] _ (.int .i64 (s : Int)) Fv4_5.out rfl (by kernel_rfl) rfl rfl rfl rfl) ?_
  intro X3_6 h1 hfar hbel hsz
  have hbr := hbel _ _ Ge3.out B2.out
  clear B2
  have B2 := Lib.hid hbr
  clear hbr
  clear Fv4_5
  have Fv4_5 : Hid (X3_6.heap[b5]? = some (.cells #[.int .i64 (s : Int)] 3 (0, 0))) := Lib.hid (h1)
  have HszX3_6 := Lib.hid hsz
  clear h1 hfar hbel hsz
  simp only [ptr, Act.put, List.setIfInBounds_toArray, List.set_cons_zero, List.set_cons_succ]
  refine wpList_nil ?_
  obtain ⟨mm, hmm⟩ : ∃ mm, m = mm + 1 := ⟨m - 1, by omega⟩
  obtain ⟨nm, hnm⟩ : ∃ nm, n = nm + 1 := ⟨n - 1, by omega⟩
  obtain ⟨ld, hld⟩ : ∃ x, ys[mm]? = some x := ⟨_, List.getElem?_eq_getElem (by omega)⟩
  obtain ⟨lp, hlp⟩ : ∃ x, xs[nm]? = some x := ⟨_, List.getElem?_eq_getElem (by omega)⟩
  have hldc := Gold.cfF_some hld
  have hlpc := Gold.cfF_some hlp
  have hne0 : ld ≠ 0 := by rw [← hldc]; exact ht mm (by omega)
  have HLD := Lib.hid hld
  have HLP := Lib.hid hlp
  clear hld hlp
  have HC := Lib.hid (show lp * Gold.invF ld = Gold.stpC (xs, xf) (ys, yf) by show _ = Gold.cfF xs (xs.length - 1) * Gold.invF (Gold.cfF ys (ys.length - 1)); rw [hln, hlm, hmm, hnm, Nat.add_sub_cancel, Nat.add_sub_cancel, hldc, hlpc])
  clear hldc hlpc
  go_upto_region 2 with fail
  refine wp_region_lit ?_
  refine wpList_run (by kernel_rfl) (.pointer (some ⟨(w.heap.size + 1), 0, none⟩)) X3_6 (xo_fld0 0 (w.heap.size + 1) 0 (by kernel_rfl) rfl rfl) ?_
  simp only [Act.put, List.setIfInBounds_toArray, List.set_cons_zero, List.set_cons_succ]
  refine wpList_run (by kernel_rfl) (.slice Y1 m d1) X3_6 (xo_load1 ⟨(w.heap.size + 1), 0, none⟩ _ (cells_at (heap_keep Fx1.out B2.out) 0 rfl) Try.underlying22 rfl rfl rfl) ?_
  simp only [Act.put, List.setIfInBounds_toArray, List.set_cons_zero, List.set_cons_succ]
  refine wpList_run (by kernel_rfl) (.pointer (some ⟨(w.heap.size + 1), 0, none⟩)) X3_6 (xo_fld0 0 (w.heap.size + 1) 0 (by kernel_rfl) rfl rfl) ?_
  simp only [Act.put, List.setIfInBounds_toArray, List.set_cons_zero, List.set_cons_succ]
  refine wpList_run (by kernel_rfl) (.slice Y1 m d1) X3_6 (xo_load1 ⟨(w.heap.size + 1), 0, none⟩ _ (cells_at (heap_keep Fx1.out B2.out) 0 rfl) Try.underlying22 rfl rfl rfl) ?_
  simp only [Act.put, List.setIfInBounds_toArray, List.set_cons_zero, List.set_cons_succ]
  refine wpList_run (by kernel_rfl) (.int .i64 (m : Int)) X3_6 (xo_len Y1 m d1 Try.underlying22 rfl rfl) ?_
  simp only [Act.put, List.setIfInBounds_toArray, List.set_cons_zero, List.set_cons_succ]
  refine wpList_run (by kernel_rfl) (.int .i64 (mm : Int)) X3_6 (xo_subI (m : Int) 1 (mm : Int) (by omega) (by omega) (by omega) rfl rfl rfl) ?_
  simp only [Act.put, List.setIfInBounds_toArray, List.set_cons_zero, List.set_cons_succ]
  have C1_3 := Lib.hid (bel_step B1.out B2.out)
  refine wpList_run (by kernel_rfl) (.pointer (some (gad Y1 (mm * 1)))) X3_6 (xg_idx .i64 (HS2.out.keep C1_3.out) HLD.out Try.underlying22 (by kernel_rfl) rfl rfl rfl) ?_
  simp only [Act.put, List.setIfInBounds_toArray, List.set_cons_zero, List.set_cons_succ]
  refine wpList_run (by kernel_rfl) (.int .u64 (Gold.vF ld)) X3_6 (xg_load1 (E := feC) (i := mm) (j := 0) (HS2.out.keep C1_3.out) HLD.out rfl rfl Try.underlying29 rfl rfl rfl) ?_
  simp only [Act.put, List.setIfInBounds_toArray, List.set_cons_zero, List.set_cons_succ]
  refine wpList_call (by kernel_rfl) 96 Try.func96 (by kernel_rfl) (by kernel_rfl) _ _ #[.int .u64 (Gold.vF ld)] rfl (by kernel_rfl) ?_
  refine (J.invF_any ld X3_6 hne0).mono ?_
  rintro e V4 ⟨rfl, hb⟩
  have B3 := Lib.hid hb
  clear hb 
  refine ⟨_, rfl, ?_⟩
  simp only [Act.put, List.setIfInBounds_toArray, List.set_cons_zero, List.set_cons_succ]
  refine wpList_run (by kernel_rfl) (.tuple #[.int .u64 (Gold.vF (Gold.invF ld)), .int .i64 0]) V4 rfl ?_
  simp only [Act.put, List.setIfInBounds_toArray, List.set_cons_zero, List.set_cons_succ]
  refine wpList_run (by kernel_rfl) (.int .u64 (Gold.vF (Gold.invF ld))) V4 rfl ?_
  simp only [Act.put, List.setIfInBounds_toArray, List.set_cons_zero, List.set_cons_succ]
  refine wpList_run (by kernel_rfl) (.int .i64 0) V4 rfl ?_
  simp only [Act.put, List.setIfInBounds_toArray, List.set_cons_zero, List.set_cons_succ]
  refine wpList_run (by kernel_rfl) (.int .u64 (Gold.vF (Gold.invF ld))) V4 rfl ?_
  simp only [Act.put, List.setIfInBounds_toArray, List.set_cons_zero, List.set_cons_succ]
  refine wpList_run (by kernel_rfl) (.int .i64 0) V4 rfl ?_
  simp only [Act.put, List.setIfInBounds_toArray, List.set_cons_zero, List.set_cons_succ]
  refine wpList_nil ?_
  go_upto_region 3 with fail
  refine wp_region_lit ?_
  refine wpList_run (by kernel_rfl) (.pointer (some ⟨w.heap.size, 0, none⟩)) V4 (xo_fld0 0 w.heap.size 0 (by kernel_rfl) rfl rfl) ?_
  simp only [Act.put, List.setIfInBounds_toArray, List.set_cons_zero, List.set_cons_succ]
  have C2_4 := Lib.hid (bel_step B2.out B3.out)
  refine wpList_run (by kernel_rfl) (.slice A1 n c1) V4 (xo_load1 ⟨w.heap.size, 0, none⟩ _ (cells_at (heap_keep Fx0.out C2_4.out) 0 rfl) Try.underlying22 rfl rfl rfl) ?_
  simp only [Act.put, List.setIfInBounds_toArray, List.set_cons_zero, List.set_cons_succ]
  refine wpList_run (by kernel_rfl) (.pointer (some ⟨w.heap.size, 0, none⟩)) V4 (xo_fld0 0 w.heap.size 0 (by kernel_rfl) rfl rfl) ?_
  simp only [Act.put, List.setIfInBounds_toArray, List.set_cons_zero, List.set_cons_succ]
  refine wpList_run (by kernel_rfl) (.slice A1 n c1) V4 (xo_load1 ⟨w.heap.size, 0, none⟩ _ (cells_at (heap_keep Fx0.out C2_4.out) 0 rfl) Try.underlying22 rfl rfl rfl) ?_
  simp only [Act.put, List.setIfInBounds_toArray, List.set_cons_zero, List.set_cons_succ]
  refine wpList_run (by kernel_rfl) (.int .i64 (n : Int)) V4 (xo_len A1 n c1 Try.underlying22 rfl rfl) ?_
  simp only [Act.put, List.setIfInBounds_toArray, List.set_cons_zero, List.set_cons_succ]
  refine wpList_run (by kernel_rfl) (.int .i64 (nm : Int)) V4 (xo_subI (n : Int) 1 (nm : Int) (by omega) (by omega) (by omega) rfl rfl rfl) ?_
  simp only [Act.put, List.setIfInBounds_toArray, List.set_cons_zero, List.set_cons_succ]
  have C1_4 := Lib.hid (bel_step C1_3.out B3.out)
  refine wpList_run (by kernel_rfl) (.pointer (some (gad A1 (nm * 1)))) V4 (xg_idx .i64 (HS1.out.keep C1_4.out) HLP.out Try.underlying22 (by kernel_rfl) rfl rfl rfl) ?_
  simp only [Act.put, List.setIfInBounds_toArray, List.set_cons_zero, List.set_cons_succ]
  refine wpList_run (by kernel_rfl) (.int .u64 (Gold.vF lp)) V4 (xg_load1 (E := feC) (i := nm) (j := 0) (HS1.out.keep C1_4.out) HLP.out rfl rfl Try.underlying29 rfl rfl rfl) ?_
  simp only [Act.put, List.setIfInBounds_toArray, List.set_cons_zero, List.set_cons_succ]
  refine wpList_run (by kernel_rfl) (.int .u64 (Gold.vF (Gold.invF ld))) V4 rfl ?_
  simp only [Act.put, List.setIfInBounds_toArray, List.set_cons_zero, List.set_cons_succ]
  refine wpList_call (by kernel_rfl) 86 Try.func86 (by kernel_rfl) (by kernel_rfl) _ _ #[.int .u64 (Gold.vF lp), .int .u64 (Gold.vF (Gold.invF ld))] rfl (by kernel_rfl) ?_
  refine (J.mulF lp (Gold.invF ld) V4).mono ?_
  rintro e W1 ⟨rfl, hw1⟩
  rw [hw1]
  clear hw1 W1
  refine ⟨_, rfl, ?_⟩
  simp only [Act.put, List.setIfInBounds_toArray, List.set_cons_zero, List.set_cons_succ]
  refine wpList_new #[.int .u64 0] 29 (by kernel_rfl) (xo_alloc1 (.int .u64 0) rfl (by kernel_rfl) rfl) ?_
  intro b8 V5 hge h0 hb
  have N7_0 : Hid (w.heap.size ≠ b8) := Lib.hid (xp_lt0 (heap_keep Fx0.out C2_4.out) hge)
  have N8_1 : Hid ((w.heap.size + 1) ≠ b8) := Lib.hid (xp_lt0 (heap_keep Fx1.out C2_4.out) hge)
  have N9_2 : Hid ((w.heap.size + 1 + 1) ≠ b8) := Lib.hid (xp_lt0 (heap_keep Fx2.out C2_4.out) hge)
  have N10_3 : Hid (b5 ≠ b8) := Lib.hid (xp_lt0 (heap_keep Fv4_5.out B3.out) hge)
  have Ge11 : Hid (V4.heap.size ≤ b8) := Lib.hid hge
  have B4 := Lib.hid hb
  have Fv12_8 : Hid (V5.heap[b8]? = some (.cells #[.int .u64 0] 29 (0, 0))) := Lib.hid (h0)
  have Lt13 : Hid (b8 < V5.heap.size) := Lib.hid (xp_lt Fv12_8.out)
  clear hge h0 hb
  simp only [ptr, Act.put, List.setIfInBounds_toArray, List.set_cons_zero, List.set_cons_succ]
  refine wpList_store1 b8 0 #[.int .u64 0] (.int .u64 (Gold.vF (lp * (Gold.invF ld)))) 29 (by kernel_rfl) Fv12_8.out (xo_store1 b8 0 #[.int .u64 0] _ (.int .u64 (Gold.vF (lp * (Gold.invF ld)))) Fv12_8.out rfl (by kernel_rfl) rfl rfl rfl rfl) ?_
  intro X5_14 h1 hfar hbel hsz
  have hbr := hbel _ _ Ge11.out B4.out
  clear B4
  have B4 := Lib.hid hbr
  clear hbr
  clear Fv12_8
  have Fv12_8 : Hid (X5_14.heap[b8]? = some (.cells #[.int .u64 (Gold.vF (lp * (Gold.invF ld)))] 29 (0, 0))) := Lib.hid (h1)
  have HszX5_14 := Lib.hid hsz
  clear h1 hfar hbel hsz
  simp only [ptr, Act.put, List.setIfInBounds_toArray, List.set_cons_zero, List.set_cons_succ]
  refine wpList_nil ?_
  clear hmm hnm
  go_upto_region 4 with fail
  refine wp_region_lit ?_
  refine wpList_run (by kernel_rfl) (.func (.func 97) #[] #[.pointer (some ⟨b5, 0, none⟩), .pointer (some ⟨b8, 0, none⟩)]) X5_14 (by unfold execOp; go_simp) ?_
  simp only [Act.put, List.setIfInBounds_toArray, List.set_cons_zero, List.set_cons_succ]
  refine wpList_run (by kernel_rfl) (.func (.func 97) #[] #[.pointer (some ⟨b5, 0, none⟩), .pointer (some ⟨b8, 0, none⟩)]) X5_14 rfl ?_
  simp only [Act.put, List.setIfInBounds_toArray, List.set_cons_zero, List.set_cons_succ]
  refine wpList_nil ?_
  obtain ⟨cc, hcc⟩ : ∃ cc, lp * Gold.invF ld = cc := ⟨_, rfl⟩
  have C1_5 := Lib.hid (bel_step C1_4.out B4.out)
  have hp5 := (HP.out.keep C1_5.out)
  have C2_5 := Lib.hid (bel_step C2_4.out B4.out)
  have fp := (heap_keep Fx0.out C2_5.out)
  have fd := (heap_keep Fx1.out C2_5.out)
  have fr := (heap_keep Fx2.out C2_5.out)
  have C3_5 := Lib.hid (bel_step B3.out B4.out)
  have f5 := (heap_keep Fv4_5.out C3_5.out)
  have f8 := Fv12_8.out
  rw [hcc] at f8
  have C0_2 := Lib.hid (bel_step B0.out B1.out)
  have C0_3 := Lib.hid (bel_step C0_2.out B2.out)
  have C0_4 := Lib.hid (bel_step C0_3.out B3.out)
  have C0_5 := Lib.hid (bel_step C0_4.out B4.out)
  have bb5 := C0_5.out
  have bw5 := C1_5.out
  have hge8 : w.heap.size ≤ b8 := (Nat.le_trans C1_4.out.size Ge11.out)
  have n18 : (Value.slice A1 n c1).ownBlock ≠ some b8 := own_neL O1.out hge8
  have n28 : (Value.slice A2 nf c2).ownBlock ≠ some b8 := own_neL O2.out hge8
  go_upto_region 5 with fail
  try simp only [List.append_eq, List.cons_append, List.nil_append]
  refine wp_ordMS (fun X => X.heap[w.heap.size]? = some (.cells #[.slice A1 n c1, .slice A2 nf c2] 81 (0, 0)) ∧ X.heap[(w.heap.size + 1)]? = some (.cells #[.slice Y1 m d1, .slice Y2 mf d2] 81 (0, 0))) 13 (.q 0 (.q 1 (.q 2 (.q 3 (.q 4 (.q 6 (.q 7 (.q 8 (.q 9 (.q 10 (.one 5 (.one 11 (.q 12 .nil))))))))))))) (by kernel_rfl) (by kernel_rfl) (by kernel_rfl) (by kernel_rfl) (by kernel_rfl) (by kernel_rfl) (by kernel_rfl) ⟨fp, fd⟩ ?_
  have hbd : Below X5_14.heap.size X5_14 X5_14.drew := (Below.refl _ _).drew
  generalize X5_14.drew = X5 at hbd ⊢
  have hp6 := hp5.keep hbd
  have fp6 := heap_keep fp hbd
  have fd6 := heap_keep fd hbd
  have fr6 := heap_keep fr hbd
  have f56 := heap_keep f5 hbd
  have f86 := heap_keep f8 hbd
  have bb6 := bel_step bb5 hbd
  have bw6 := bel_step bw5 hbd
  refine wpOT_q (.func (.func 97) #[] #[.pointer (some ⟨b5, 0, none⟩), .pointer (some ⟨b8, 0, none⟩)]) rfl (by kernel_rfl) (fun v hW => rfl) ?_
  simp only [ptr, Act.put, List.setIfInBounds_toArray, List.set_cons_zero, List.set_cons_succ]
  refine wpOT_q (.pointer (some ⟨w.heap.size, 0, none⟩)) rfl (by kernel_rfl) (fun v hW => (xo_fld0 0 w.heap.size 0 (by kernel_rfl) rfl rfl)) ?_
  simp only [ptr, Act.put, List.setIfInBounds_toArray, List.set_cons_zero, List.set_cons_succ]
  refine wpOT_q (.slice A1 n c1) rfl (by kernel_rfl) (fun v hW => (xo_load1 ⟨w.heap.size, 0, none⟩ _ (cells_at hW.1 0 rfl) Try.underlying22 rfl rfl rfl)) ?_
  simp only [ptr, Act.put, List.setIfInBounds_toArray, List.set_cons_zero, List.set_cons_succ]
  refine wpOT_q (.pointer (some ⟨(w.heap.size + 1), 0, none⟩)) rfl (by kernel_rfl) (fun v hW => (xo_fld0 0 (w.heap.size + 1) 0 (by kernel_rfl) rfl rfl)) ?_
  simp only [ptr, Act.put, List.setIfInBounds_toArray, List.set_cons_zero, List.set_cons_succ]
  refine wpOT_q (.slice Y1 m d1) rfl (by kernel_rfl) (fun v hW => (xo_load1 ⟨(w.heap.size + 1), 0, none⟩ _ (cells_at hW.2 0 rfl) Try.underlying22 rfl rfl rfl)) ?_
  simp only [ptr, Act.put, List.setIfInBounds_toArray, List.set_cons_zero, List.set_cons_succ]
  refine wpOT_q (.func (.func 97) #[] #[.pointer (some ⟨b5, 0, none⟩), .pointer (some ⟨b8, 0, none⟩)]) rfl (by kernel_rfl) (fun v hW => rfl) ?_
  simp only [ptr, Act.put, List.setIfInBounds_toArray, List.set_cons_zero, List.set_cons_succ]
  refine wpOT_q (.pointer (some ⟨w.heap.size, 1, none⟩)) rfl (by kernel_rfl) (fun v hW => (xo_fld0 1 w.heap.size 1 (by kernel_rfl) rfl rfl)) ?_
  simp only [ptr, Act.put, List.setIfInBounds_toArray, List.set_cons_zero, List.set_cons_succ]
  refine wpOT_q (.slice A2 nf c2) rfl (by kernel_rfl) (fun v hW => (xo_load1 ⟨w.heap.size, 1, none⟩ _ (cells_at hW.1 1 rfl) Try.underlying22 rfl rfl rfl)) ?_
  simp only [ptr, Act.put, List.setIfInBounds_toArray, List.set_cons_zero, List.set_cons_succ]
  refine wpOT_q (.pointer (some ⟨(w.heap.size + 1), 1, none⟩)) rfl (by kernel_rfl) (fun v hW => (xo_fld0 1 (w.heap.size + 1) 1 (by kernel_rfl) rfl rfl)) ?_
  simp only [ptr, Act.put, List.setIfInBounds_toArray, List.set_cons_zero, List.set_cons_succ]
  refine wpOT_q (.slice Y2 mf d2) rfl (by kernel_rfl) (fun v hW => (xo_load1 ⟨(w.heap.size + 1), 1, none⟩ _ (cells_at hW.2 1 rfl) Try.underlying22 rfl rfl rfl)) ?_
  simp only [ptr, Act.put, List.setIfInBounds_toArray, List.set_cons_zero, List.set_cons_succ]
  have o1x : X5.ownsRow V.heap.size 29 1 (.slice A1 n c1) n (fl feC xs) := by have q := hp6.p1; simp only at q; rw [hln] at q; exact q
  have o3x : X5.ownsRow V.heap.size 29 1 (.slice Y1 m d1) m (fl feC ys) := by have q := hp6.d1; simp only at q; rw [hlm] at q; exact q
  have n15 := own_neT o1x f56 (by decide)
  have n1p := own_neT o1x fp6 (by decide)
  have n1d := own_neT o1x fd6 (by decide)
  have n1r := own_neT o1x fr6 (by decide)
  refine wpOT_one rfl (by kernel_rfl) ?_
  refine hOp_callA 97 Try.func97 (by kernel_rfl) (by kernel_rfl) 40 _ #[.pointer (some ⟨b5, 0, none⟩), .pointer (some ⟨b8, 0, none⟩)] _ rfl rfl #[.slice A1 n c1, .slice Y1 m d1] (by kernel_rfl) ?_
  try simp only [List.append_toArray, List.append_nil, List.nil_append, List.cons_append]
  refine (minus1_any A1 n c1 xs Y1 m d1 ys s cc b5 b8 (by omega) (by omega) V X5 bb6 o1x o3x hp6.a13 f56 f86 n15 n18).mono ?_
  rintro e X6 ⟨Aa, ca, rfl, hoa, hga, hba⟩
  have hp7 := hp6.one hga hoa
  have fp7 := hga.row fp6 n1p
  have fd7 := hga.row fd6 n1d
  have fr7 := hga.row fr6 n1r
  have f57 := hga.row f56 n15
  have f87 := hga.row f86 n18
  refine ⟨_, rfl, ⟨fp7, fd7⟩, ?_⟩
  simp only [ptr, Act.put, List.setIfInBounds_toArray, List.set_cons_zero, List.set_cons_succ]
  have o2x : X6.ownsRow V.heap.size 29 1 (.slice A2 nf c2) nf (fl feC xf) := by have q := hp7.p2; simp only at q; rw [hlnf] at q; exact q
  have o4x : X6.ownsRow V.heap.size 29 1 (.slice Y2 mf d2) mf (fl feC yf) := by have q := hp7.d2; simp only at q; rw [hlmf] at q; exact q
  have n25 := own_neT o2x f57 (by decide)
  have n2p := own_neT o2x fp7 (by decide)
  have n2d := own_neT o2x fd7 (by decide)
  have n2r := own_neT o2x fr7 (by decide)
  refine wpOT_one rfl (by kernel_rfl) ?_
  refine hOp_callA 97 Try.func97 (by kernel_rfl) (by kernel_rfl) 46 _ #[.pointer (some ⟨b5, 0, none⟩), .pointer (some ⟨b8, 0, none⟩)] _ rfl rfl #[.slice A2 nf c2, .slice Y2 mf d2] (by kernel_rfl) ?_
  try simp only [List.append_toArray, List.append_nil, List.nil_append, List.cons_append]
  refine (minus1_any A2 nf c2 xf Y2 mf d2 yf s cc b5 b8 (by omega) (by omega) V X6 hba o2x o4x hp7.a24 f57 f87 n25 n28).mono ?_
  rintro e X7 ⟨Ab, cb, rfl, hob, hgb, hbb⟩
  have hp8 := hp7.two hgb hob
  have fp8 := hgb.row fp7 n2p
  have fd8 := hgb.row fd7 n2d
  have fr8 := hgb.row fr7 n2r
  refine ⟨_, rfl, ⟨fp8, fd8⟩, ?_⟩
  simp only [ptr, Act.put, List.setIfInBounds_toArray, List.set_cons_zero, List.set_cons_succ]
  refine wpOT_q (.agg #[.slice Aa (Gold.mnF xs ys s cc).length ca, .slice Ab (Gold.mnF xf yf s cc).length cb]) rfl (by kernel_rfl) (fun v hW => (by unfold execOp; go_simp)) ?_
  simp only [ptr, Act.put, List.setIfInBounds_toArray, List.set_cons_zero, List.set_cons_succ]
  refine wpOT_nil ?_
  refine mOp_run0 _ rfl rfl (xo_storeW (w.heap.size + 1 + 1) #[.slice none 0 0, .slice none 0 0] #[.slice Aa (Gold.mnF xs ys s cc).length ca, .slice Ab (Gold.mnF xf yf s cc).length cb] fr8 (by kernel_rfl) rfl (by simp [Value.oneCell']) rfl rfl rfl) ?_
  simp only [List.getElem_toArray, List.getElem_cons_succ, List.getElem_cons_zero, ptr, Act.put, List.setIfInBounds_toArray, List.set_cons_zero, List.set_cons_succ]
  have hfar : ∀ k o, k ≠ (w.heap.size + 1 + 1) → X7.heap[k]? = some o → (X7.setRow (w.heap.size + 1 + 1) #[.slice Aa (Gold.mnF xs ys s cc).length ca, .slice Ab (Gold.mnF xf yf s cc).length cb]).heap[k]? = some o := fun k o hk h0 => heap_farRow h0 hk _
  have hp9 := hp8.far fr8 (by decide) hfar
  have fr9 := setRow_heap X7 (w.heap.size + 1 + 1) _ #[.slice Aa (Gold.mnF xs ys s cc).length ca, .slice Ab (Gold.mnF xf yf s cc).length cb] _ _ fr8
  have bb9 := bel_setRow hbb (Nat.le_trans hV0 Gb2.out) #[.slice Aa (Gold.mnF xs ys s cc).length ca, .slice Ab (Gold.mnF xf yf s cc).length cb]
  have hsz9 : (X7.setRow (w.heap.size + 1 + 1) #[.slice Aa (Gold.mnF xs ys s cc).length ca, .slice Ab (Gold.mnF xf yf s cc).length cb]).heap.size = X7.heap.size := by simp [World.setRow]
  generalize X7.setRow (w.heap.size + 1 + 1) #[.slice Aa (Gold.mnF xs ys s cc).length ca, .slice Ab (Gold.mnF xf yf s cc).length cb] = X8 at hfar hp9 fr9 bb9 hsz9 ⊢
  go_wp2_with fail
  refine bodyPost_ret (v := .agg #[.slice Aa (Gold.mnF xs ys s cc).length ca, .slice Ab (Gold.mnF xf yf s cc).length cb]) ?_ rfl ?_
  · exact results_cell_row rfl _ _ (w.heap.size + 1 + 1) 81 _ (0, 0) _ rfl fr9 Try.underlying81 rfl (by kernel_rfl)
  have e9 : Gold.stpF (xs, xf) (ys, yf) = (Gold.mnF xs ys s cc, Gold.mnF xf yf s cc) := by unfold Gold.stpF; rw [← HC.out, hcc]; simp only [hln, hlm, hs]
  rw [e9]
  refine ⟨_, _, rfl, hp9, fun b o h1 h2 ho => ?_, fun q hq => ?_, fun q hq => ?_, bb9⟩
  · have hlt := (Array.getElem?_eq_some_iff.1 ho).1
    exact hfar _ _ (by have := Gb2.out; omega) (hgb.row (hga.row (heap_keep ho bw6) h1) h2)
  · exact (hga.l q hq).elim .inl fun h => .inr (Nat.le_trans bw6.size h)
  · exact (hgb.l q hq).elim .inl fun h => .inr (Nat.le_trans bw6.size (Nat.le_trans hga.g.size h))
end Go.Proofs.Ytkefijogpiofbaa

namespace Gold
set_option linter.unusedVariables false
set_option linter.unusedSimpArgs false
set_option linter.unusedSectionVars false
set_option maxRecDepth 8000
/-- X^n - 1 -/
def ruF (n : Nat) : List F := ((List.replicate (n + 1) (0 : F)).set 0 (-1)).set n 1
theorem ruF_length (n : Nat) : (ruF n).length = n + 1 := by unfold ruF; rw [List.length_set, List.length_set, List.length_replicate]
theorem cfF_ruF {n : Nat} (hn : 1 ≤ n) (i : Nat) : cfF (ruF n) i = if i = n then 1 else if i = 0 then -1 else 0 := by
  by_cases h1 : i = n
  · subst h1
    rw [if_pos rfl]
    refine cfF_some ?_
    unfold ruF
    rw [List.getElem?_set_self (by rw [List.length_set, List.length_replicate]; omega)]
  · rw [if_neg h1]
    have e1 : cfF (ruF n) i = cfF ((List.replicate (n + 1) (0 : F)).set 0 (-1)) i := by unfold cfF ruF; rw [List.getElem?_set_ne (fun e => h1 e.symm)]
    rw [e1]
    by_cases h2 : i = 0
    · subst h2
      rw [if_pos rfl]
      exact cfF_some (List.getElem?_set_self (by rw [List.length_replicate]; omega))
    · rw [if_neg h2]
      unfold cfF
      rw [List.getElem?_set_ne (fun e => h2 e.symm), List.getElem?_replicate]
      split <;> rfl
theorem evL_ruF {n : Nat} (hn : 1 ≤ n) (x : F) : evL (ruF n) x = x ^ n - 1 := by
  rw [← evL_evF' (n := n + 1) (by rw [ruF_length]; exact Nat.le_refl _)]
  obtain ⟨m, rfl⟩ : ∃ m, n = m + 1 := ⟨n - 1, by omega⟩
  show sumF (fun j => cfF (ruF (m + 1)) j * x ^ j) (m + 1) + cfF (ruF (m + 1)) (m + 1) * x ^ (m + 1) = _
  rw [sumF_one (m := 0) (by omega) (fun i hi hne => by rw [cfF_ruF hn, if_neg (by omega), if_neg hne]; grind), cfF_ruF hn, cfF_ruF hn, if_pos rfl, if_neg (by omega), if_pos rfl, F_pow_zero]
  grind
theorem ruF_trm {n : Nat} (hn : 1 ≤ n) : Trm (ruF n) := fun m h => by
  rw [ruF_length] at h
  obtain rfl : n = m := by omega
  rw [cfF_ruF hn, if_pos rfl]
  decide
theorem trm_one : Trm [1] := fun m h => by
  obtain rfl : m = 0 := by simpa using h.symm
  show (1 : F) ≠ 0
  decide
theorem InvF.start {n k K : Nat} {w : Nat → F} {P : List F} (hn : n = 2 ^ K) (hK : K ≤ 16) (hk : k ≤ n) (hP : Trm P) (hl : P.length ≤ n) (hv : ∀ i, i < n → evL P (ptF K i) = w i) : InvF n k K w (P, [1]) (ruF n, []) := by
  have h1 : 1 ≤ n := by rw [hn]; exact Nat.two_pow_pos K
  have e1 : ∀ x : F, evL [1] x = 1 := fun x => by rw [evL_cons, evL_nil]; grind
  refine ⟨hP, ruF_trm h1, trm_one, trm_nil, ?_, ?_, ?_, fun i hi => ?_, fun i hi => ?_, -1, by decide, fun x => ?_⟩
  · show n + k + 2 ≤ 2 * (ruF n).length
    rw [ruF_length]; omega
  · show 1 + (ruF n).length ≤ n + 2
    rw [ruF_length]; omega
  · show 0 + P.length ≤ n + 2
    omega
  · show evL P _ = evL [1] _ * _
    rw [hv i hi, e1]; grind
  · show evL (ruF n) _ = evL [] _ * _
    rw [evL_ruF h1, evL_nil, hn, ptF_full (by omega)]; grind
  · show evL P x * evL [] x - evL (ruF n) x * evL [1] x = _
    rw [evL_nil, e1, evL_ruF h1]; grind
/-- the polynomial of a word -/
def inF (xs : List F) (K : Nat) : List F := trimF (tbF (2 ^ K) (invT (cfF xs) K))
theorem inF_trm (xs : List F) (K : Nat) : Trm (inF xs K) := trimF_trm _
theorem inF_le (xs : List F) (K : Nat) : (inF xs K).length ≤ 2 ^ K := by
  have := trimF_le (tbF (2 ^ K) (invT (cfF xs) K))
  rw [tbF_length] at this
  exact this
theorem inF_at {xs : List F} {K i : Nat} (hK : K ≤ 16) (hi : i < 2 ^ K) : evL (inF xs K) (ptF K i) = cfF xs i := by
  unfold inF
  rw [evL_trimF, ← evL_evF' (n := 2 ^ K) (by rw [tbF_length]; exact Nat.le_refl _), evF_congr (b := invT (cfF xs) K) (fun j hj => by rw [cfF_tbF, if_pos hj])]
  exact fwd_inv hK (cfF xs) hi
end Gold
namespace Go.Proofs.Ytkefijogpiofbaa.J
set_option linter.unusedVariables false
set_option linter.unusedSimpArgs false
set_option linter.unusedSectionVars false
open Go.RowKit Gold
set_option maxHeartbeats 400000 in
theorem inverse_own (A : Option Addr) (n c : Nat) (xs : List F) (K : Nat) (w : World) (h : Sf w A n c xs) (hN : n = 2 ^ K) (hK : K ≤ 16) :
    Calls Try.prog 69 #[.slice A n c] w fun e w' => ∃ g, e = .returned (.tuple #[.slice (some ⟨g, 0, none⟩) n n, .int .i64 0]) ∧ w.heap.size ≤ g ∧ RowF w' g (tabF n (invT (cfF xs) K)) ∧ Below w.heap.size w w' := by
  have hN2 : n ≤ 65536 := by rw [hN]; exact pow2_le hK
  have HN := Lib.hid hN
  have HS := Lib.hid h
  clear hN h
  go_enter Try.func69, Try.ntmps69
  go_wp2_with (go_at_call 61; refine (isl_yes n K _ HN.out hK).mono ?_; rintro e w' ⟨rfl, rfl⟩)
  refine (invert_any A n c xs K _ HS.out HN.out hK).mono ?_
  rintro e W2 ⟨g, rfl, hg, hr, hb⟩
  have HR := Lib.hid hr
  have HB := Lib.hid hb
  have HG := Lib.hid hg
  clear hr hb hg
  go_wp2_with fail
  go_ret2
  exact ⟨_, rfl, HG.out, HR.out, HB.out⟩
end Go.Proofs.Ytkefijogpiofbaa.J
namespace Go.Proofs.Ytkefijogpiofbaa.K
set_option linter.unusedVariables false
set_option linter.unusedSimpArgs false
set_option linter.unusedSectionVars false
open Go.RowKit
theorem own_of_row {w : World} {base g n : Nat} {e : TypeId} {cs : List Value} (h : w.heap[g]? = some (.cells cs.toArray e (0, 0))) (hb : base ≤ g) (hn : cs.length = n) (hm : n ≤ maxLen) : w.ownsRow base e 1 (.slice (some ⟨g, 0, none⟩) n n) n cs :=
  ⟨by omega, .inr ⟨g, n, cs.toArray, rfl, hb, h, Nat.le_refl _, hm, by rw [List.size_toArray]; omega, by rw [List.take_of_length_le]; show cs.length ≤ _; omega⟩⟩
theorem fl_len {xs : List Gold.F} : (fl feC xs).length = xs.length := by rw [fl_length, Nat.mul_one]
end Go.Proofs.Ytkefijogpiofbaa.K

namespace Go.Proofs.Ytkefijogpiofbaa
set_option linter.unusedVariables false
set_option linter.unusedSimpArgs false
set_option linter.unusedSectionVars false
set_option maxRecDepth 8000
open Go.RowKit Go.Proofs.Ytkefijogpiofbaa.K
attribute [local irreducible] wpList wpQuiet
set_option maxRecDepth 100000 in
set_option maxHeartbeats 8000000 in
theorem interpolated_any (A : Option Addr) (n c : Nat) (xs : List Gold.F) (K : Nat) (hN : n = 2 ^ K) (hK : K ≤ 16) (w : World) (hX : Sg feC 1 w A n c xs) :
    Calls Try.prog 48 #[.slice A n c] w fun e w' => ∃ g, e = .returned (.slice (some ⟨g, 0, none⟩) (Gold.inF xs K).length n) ∧ w'.ownsRow w.heap.size 29 1 (.slice (some ⟨g, 0, none⟩) (Gold.inF xs K).length n) (Gold.inF xs K).length (fl feC (Gold.inF xs K)) ∧ Below w.heap.size w w' := by
  have hN2 := Gold.pow2_le hK
  have HX := Lib.hid hX
  have HN := Lib.hid hN
  clear hX hN
  go_enter Try.func48, Try.ntmps48
  go_upto_region 1 with fail
  refine wp_region_lit ?_
  refine wpList_run (by kernel_rfl) (.slice A n c) w rfl ?_
  simp only [Act.put, List.setIfInBounds_toArray, List.set_cons_zero, List.set_cons_succ]
  refine wpList_call (by kernel_rfl) 69 Try.func69 (by kernel_rfl) (by kernel_rfl) _ _ #[.slice A n c] rfl (by kernel_rfl) ?_
  refine (J.inverse_own A n c xs K w (sf_of HX.out) HN.out hK).mono ?_
  rintro e V1 ⟨g, rfl, hge, hr, hb⟩
  have B0 := Lib.hid hb
  have HGe := Lib.hid hge
  have hr2 := hr
  have hn65 : n ≤ 65536 := by rw [HN.out]; exact hN2
  unfold J.RowF at hr2
  rw [cellsF_fl] at hr2
  have ho := own_of_row (base := w.heap.size) (n := n) hr2 hge (by rw [fl_len, J.tabF_length]) (by unfold maxLen; omega)
  have HOo := Lib.hid ho
  have hs2 := Sg.ownS ho
  clear hr hr2 hge ho
  have HI := Lib.hid hs2
  clear hb hs2
  refine ⟨_, rfl, ?_⟩
  simp only [Act.put, List.setIfInBounds_toArray, List.set_cons_zero, List.set_cons_succ]
  refine wpList_run (by kernel_rfl) (.tuple #[.slice (some ⟨g, 0, none⟩) n n, .int .i64 0]) V1 rfl ?_
  simp only [Act.put, List.setIfInBounds_toArray, List.set_cons_zero, List.set_cons_succ]
  refine wpList_run (by kernel_rfl) (.slice (some ⟨g, 0, none⟩) n n) V1 rfl ?_
  simp only [Act.put, List.setIfInBounds_toArray, List.set_cons_zero, List.set_cons_succ]
  refine wpList_run (by kernel_rfl) (.int .i64 0) V1 rfl ?_
  simp only [Act.put, List.setIfInBounds_toArray, List.set_cons_zero, List.set_cons_succ]
  refine wpList_run (by kernel_rfl) (.slice (some ⟨g, 0, none⟩) n n) V1 rfl ?_
  simp only [Act.put, List.setIfInBounds_toArray, List.set_cons_zero, List.set_cons_succ]
  refine wpList_run (by kernel_rfl) (.int .i64 0) V1 rfl ?_
  simp only [Act.put, List.setIfInBounds_toArray, List.set_cons_zero, List.set_cons_succ]
  refine wpList_nil ?_
  go_upto_region 2 with fail
  refine wp_region_lit ?_
  refine wpList_run (by kernel_rfl) (.slice (some ⟨g, 0, none⟩) n n) V1 rfl ?_
  simp only [Act.put, List.setIfInBounds_toArray, List.set_cons_zero, List.set_cons_succ]
  refine wpList_call (by kernel_rfl) 70 Try.func70 (by kernel_rfl) (by kernel_rfl) _ _ #[.slice (some ⟨g, 0, none⟩) n n] rfl (by kernel_rfl) ?_
  refine (trimmed_any (some ⟨g, 0, none⟩) n n (J.tabF n (Gold.invT (Gold.cfF xs) K)) V1 HI.out).mono ?_
  rintro e V2 ⟨rfl, hb⟩
  have B1 := Lib.hid hb
  clear hb 
  refine ⟨_, rfl, ?_⟩
  simp only [Act.put, List.setIfInBounds_toArray, List.set_cons_zero, List.set_cons_succ]
  refine wpList_run (by kernel_rfl) (.slice (some ⟨g, 0, none⟩) (Gold.trimF (J.tabF n (Gold.invT (Gold.cfF xs) K))).length n) V2 rfl ?_
  simp only [Act.put, List.setIfInBounds_toArray, List.set_cons_zero, List.set_cons_succ]
  refine wpList_nil ?_
  have heq : J.tabF n (Gold.invT (Gold.cfF xs) K) = Gold.tbF (2 ^ K) (Gold.invT (Gold.cfF xs) K) := by rw [HN.out]; rfl
  have oc := own_cut (own_keep HOo.out B1.out) (m := (Gold.trimF (J.tabF n (Gold.invT (Gold.cfF xs) K))).length) (Nat.le_trans (Gold.trimF_le _) (Nat.le_of_eq (J.tabF_length _ _)))
  rw [show (J.tabF n (Gold.invT (Gold.cfF xs) K)).take (Gold.trimF (J.tabF n (Gold.invT (Gold.cfF xs) K))).length = Gold.trimF (J.tabF n (Gold.invT (Gold.cfF xs) K)) by rw [Gold.trimF_length]; unfold Gold.trimF; rfl] at oc
  have hfin : Gold.trimF (J.tabF n (Gold.invT (Gold.cfF xs) K)) = Gold.inF xs K := by rw [heq]; rfl
  go_wp2_with fail
  go_ret
  have C0_2 := Lib.hid (bel_step B0.out B1.out)
  exact ⟨g, by rw [← hfin]; rfl, by rw [← hfin]; exact oc, C0_2.out⟩
set_option maxRecDepth 100000 in
set_option maxHeartbeats 8000000 in
theorem rootsOfUnity_any (n : Nat) (hn1 : 1 ≤ n) (hn2 : n ≤ 65536) (w : World) :
    Calls Try.prog 88 #[.int .i64 (n : Int)] w fun e w' => ∃ g, e = .returned (.slice (some ⟨g, 0, none⟩) (n + 1) (n + 1)) ∧ w'.ownsRow w.heap.size 29 1 (.slice (some ⟨g, 0, none⟩) (n + 1) (n + 1)) (n + 1) (fl feC (Gold.ruF n)) ∧ Below w.heap.size w w' := by
  go_enter Try.func88, Try.ntmps88
  go_upto_region 1 with fail
  refine wp_region_lit ?_
  refine wpList_run (by kernel_rfl) (.int .i64 (n : Int)) w rfl ?_
  simp only [Act.put, List.setIfInBounds_toArray, List.set_cons_zero, List.set_cons_succ]
  refine wpList_run (by kernel_rfl) (.int .i64 ((n + 1 : Nat) : Int)) w (xo_addI (n : Int) 1 ((n + 1 : Nat) : Int) (by omega) (by omega) (by omega) rfl rfl rfl) ?_
  simp only [Act.put, List.setIfInBounds_toArray, List.set_cons_zero, List.set_cons_succ]
  refine wpList_mk (by kernel_rfl) ((List.replicate (n + 1) (0 : Gold.F)).flatMap feC).toArray 29 (n + 1) (n + 1) (xg_make (E := feC) (bytes := 8) (.int .u64 0) (0 : Gold.F) (n + 1) .i64 Try.underlying22 (by kernel_rfl) rfl (by omega) (by omega) rfl rfl rfl) ?_
  intro g6 V1 hge h0 hb
  have Ge0 : Hid (w.heap.size ≤ g6) := Lib.hid hge
  have B0 := Lib.hid hb
  have Fv1_6 : Hid (RowG feC V1 g6 29 (List.replicate (n + 1) (0 : Gold.F))) := Lib.hid (h0)
  have Lt2 : Hid (g6 < V1.heap.size) := Lib.hid (xp_lt Fv1_6.out)
  clear hge h0 hb
  simp only [ptr, Act.put, List.setIfInBounds_toArray, List.set_cons_zero, List.set_cons_succ]
  refine wpList_run (by kernel_rfl) (.slice (some ⟨g6, 0, none⟩) (n + 1) (n + 1)) V1 rfl ?_
  simp only [Act.put, List.setIfInBounds_toArray, List.set_cons_zero, List.set_cons_succ]
  refine wpList_nil ?_
  go_upto_region 2 with fail
  refine wp_region_lit ?_
  refine wpList_run (by kernel_rfl) (.slice (some ⟨g6, 0, none⟩) (n + 1) (n + 1)) V1 rfl ?_
  simp only [Act.put, List.setIfInBounds_toArray, List.set_cons_zero, List.set_cons_succ]
  refine wpList_run (by kernel_rfl) (.slice (some ⟨g6, 0, none⟩) (n + 1) (n + 1)) V1 rfl ?_
  simp only [Act.put, List.setIfInBounds_toArray, List.set_cons_zero, List.set_cons_succ]
  refine wpList_run (by kernel_rfl) (.int .i64 (n : Int)) V1 rfl ?_
  simp only [Act.put, List.setIfInBounds_toArray, List.set_cons_zero, List.set_cons_succ]
  refine wpList_call (by kernel_rfl) 90 Try.func90 (by kernel_rfl) (by kernel_rfl) _ _ #[.int .u64 1] rfl (by kernel_rfl) ?_
  refine (J.negF 1 V1).mono ?_
  rintro e W1 ⟨rfl, hw1⟩
  rw [hw1]
  clear hw1 W1
  refine ⟨_, rfl, ?_⟩
  simp only [Act.put, List.setIfInBounds_toArray, List.set_cons_zero, List.set_cons_succ]
  refine wpList_run (by kernel_rfl) (.pointer (some (gad (some ⟨g6, 0, none⟩) (0 * 1)))) V1 (xg_idx .i64 (RowG.sg (n := n + 1) (c := n + 1) Fv1_6.out (List.length_replicate ..) (Nat.le_refl _) (by omega)) (show (List.replicate (n + 1) (0 : Gold.F))[0]? = some 0 by rw [List.getElem?_replicate, if_pos (by omega)]) Try.underlying22 (by kernel_rfl) rfl rfl rfl) ?_
  simp only [Act.put, List.setIfInBounds_toArray, List.set_cons_zero, List.set_cons_succ]
  refine wpList_storeW g6 _ _ 29 (by kernel_rfl) (RowG.h Fv1_6.out) (xg_store Fv1_6.out (List.getElem?_eq_some_iff.1 (show (List.replicate (n + 1) (0 : Gold.F))[0]? = some 0 by rw [List.getElem?_replicate, if_pos (by omega)])).1 (-1) (by kernel_rfl) rfl rfl rfl) ?_
  intro X1_3 h1 hfar hbel hsz
  have hbr := hbel _ _ Ge0.out B0.out
  clear B0
  have B0 := Lib.hid hbr
  clear hbr
  clear Fv1_6
  have Fv1_6 : Hid (RowG feC X1_3 g6 29 ((List.replicate (n + 1) (0 : Gold.F)).set 0 (-1))) := Lib.hid (h1)
  have HszX1_3 := Lib.hid hsz
  clear h1 hfar hbel hsz
  simp only [ptr, Act.put, List.setIfInBounds_toArray, List.set_cons_zero, List.set_cons_succ]
  refine wpList_run (by kernel_rfl) (.pointer (some (gad (some ⟨g6, 0, none⟩) (n * 1)))) X1_3 (xg_idx .i64 (RowG.sg (n := n + 1) (c := n + 1) Fv1_6.out (by rw [List.length_set]; exact (List.length_replicate ..)) (Nat.le_refl _) (by omega)) (show (((List.replicate (n + 1) (0 : Gold.F)).set 0 (-1)))[n]? = some ((((List.replicate (n + 1) (0 : Gold.F)).set 0 (-1)))[n]'(by simp)) from List.getElem?_eq_getElem (by simp)) Try.underlying22 (by kernel_rfl) rfl rfl rfl) ?_
  simp only [Act.put, List.setIfInBounds_toArray, List.set_cons_zero, List.set_cons_succ]
  refine wpList_storeW g6 _ _ 29 (by kernel_rfl) (RowG.h Fv1_6.out) (xg_store Fv1_6.out (List.getElem?_eq_some_iff.1 (show (((List.replicate (n + 1) (0 : Gold.F)).set 0 (-1)))[n]? = some ((((List.replicate (n + 1) (0 : Gold.F)).set 0 (-1)))[n]'(by simp)) from List.getElem?_eq_getElem (by simp))).1 (1 : Gold.F) (by kernel_rfl) rfl rfl rfl) ?_
  intro X1_4 h1 hfar hbel hsz
  have hbr := hbel _ _ Ge0.out B0.out
  clear B0
  have B0 := Lib.hid hbr
  clear hbr
  clear Fv1_6
  have Fv1_6 : Hid (RowG feC X1_4 g6 29 (((List.replicate (n + 1) (0 : Gold.F)).set 0 (-1)).set n (1 : Gold.F))) := Lib.hid (h1)
  have HszX1_4 := Lib.hid hsz
  clear h1 hfar hbel hsz
  simp only [ptr, Act.put, List.setIfInBounds_toArray, List.set_cons_zero, List.set_cons_succ]
  refine wpList_nil ?_
  go_upto_region 3 with fail
  refine wp_region_lit ?_
  refine wpList_run (by kernel_rfl) (.slice (some ⟨g6, 0, none⟩) (n + 1) (n + 1)) X1_4 rfl ?_
  simp only [Act.put, List.setIfInBounds_toArray, List.set_cons_zero, List.set_cons_succ]
  refine wpList_run (by kernel_rfl) (.slice (some ⟨g6, 0, none⟩) (n + 1) (n + 1)) X1_4 rfl ?_
  simp only [Act.put, List.setIfInBounds_toArray, List.set_cons_zero, List.set_cons_succ]
  refine wpList_nil ?_
  have hro := Fv1_6.out
  have hge0 := Ge0.out
  have he : (((List.replicate (n + 1) (0 : Gold.F)).set 0 (-1)).set n (1 : Gold.F)) = Gold.ruF n := rfl
  rw [he] at hro
  have ho := own_of_row (base := w.heap.size) (n := n + 1) (RowG.h hro) hge0 (by rw [fl_len, Gold.ruF_length]) (by unfold maxLen; omega)
  go_wp2_with fail
  go_ret
  exact ⟨g6, rfl, ho, B0.out⟩
end Go.Proofs.Ytkefijogpiofbaa

