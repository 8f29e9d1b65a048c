/- Several texts in one: Mkc, Mkk, Cal, Mkl. -/
import Derived.Test.YtgkojdbepgonkaaDoorH07
import Derived.Test.YtgkojdbepgonkaaDoorH09
import Derived.Test.YtgkojdbepgonkaaDoorH11
import Derived.Test.YtgkojdbepgonkaaDoorH13
import Derived.Test.YtgkojdbepgonkaaDoorH08
import Derived.OrdersHeld
/- The digest of leaves, both sides. -/
namespace Go.Proofs.YtgkojdbepgonkaaDoor
set_option maxRecDepth 8000
set_option linter.unusedVariables false
set_option linter.unusedSimpArgs false
open Go.RowKit
attribute [local simp] z32_ne z32_run
attribute [-simp] Tryd.zeroValue34 Tryd.isAgg34 Tryd.sizeOf34
theorem addr_add0 (a : Addr) : a.add 0 = a := by
  obtain ⟨b, o, c⟩ := a
  cases c <;> rfl
set_option maxHeartbeats 2000000 in
theorem mdigest_any : ∀ (N : Nat) (A : Option Addr) (n c : Nat) (Ls : List (List Nat)) (w : World) (h : Pb w A n c Ls) (hn1 : 1 ≤ n) (hN : n ≤ N) (hn : n ≤ 65536) (hL : ∀ l ∈ Ls, l.length ≤ 140737488351232) (hG : Gl w) (R : List Nat) (hR : rootN Ls = R),
    Calls Tryd.prog 89 #[.slice A n c] w fun e w' => e = .returned (.agg (celB R).toArray) ∧ Below w.heap.size w w' := by
  intro N
  induction N with
  | zero => intro A n c Ls w h hn1 hN; omega
  | succ N ih =>
    intro A n c Ls w h hn1 hN hn hL hG R hR
    have hlen := h.len
    have hl : R.length = 32 := by rw [← hR]; exact rootN_length (by omega)
    have hcap := h.cap
    have htop := h.top
    obtain ⟨ad, rfl⟩ := h.some_ (by omega)
    have HLN := Lib.hid hlen
    have HR := Lib.hid hR
    have HS := Lib.hid h
    have HLL := Lib.hid hL
    have HG := Lib.hid hG
    have IH := Lib.hid ih
    clear h hR hL hlen ih hG
    go_enter Tryd.func89, Tryd.ntmps89
    go_upto_region 1 with fail
    refine wp_named1 (fun w1 hb1 g0 hlt1 => ?_)
    have H0 : Hid (RowB w1 34 w.heap.size (List.replicate 32 0)) := Lib.hid g0
    have HB1 := Lib.hid hb1
    have HS1 := Lib.hid (HS.out.keep hb1)
    have HG1 := Lib.hid (HG.out.keep hb1)
    clear g0 hb1 HS
    by_cases h1 : n = 1
    · subst h1
      obtain ⟨b, rfl⟩ : ∃ b, Ls = [b] := by
        match Ls, HLN.out with
        | [b], _ => exact ⟨b, rfl⟩
      obtain ⟨ad', B, m, d, e, hc, hs⟩ := HS1.out.cells 0 b rfl
      injection e with e
      subst e
      have hb6 := HLL.out b List.mem_cons_self
      have hml := hs.len
      have HSb := Lib.hid hs
      have hm6 : m ≤ 140737488351232 := by omega
      clear hml
      have HRb := Lib.hid (show shaN (0 :: b) = R from HR.out)
      have hc2 : w1.cell? ad = some (.slice B m d) := by rw [← hc, addr_add0]
      clear hs HR HLN hN hn
      go_wp2_with fail
      refine (leaf_any B m d b w1 HSb.out (by omega) HG1.out R HRb.out).mono ?_
      rintro e W2 ⟨rfl, hb⟩
      have H2 := Lib.hid (H0.out.keep hb)
      have HB2 := Lib.hid (bel_step HB1.out hb)
      clear hb H0 HB1
      have hsc := run_storeB (P := Tryd.prog) (ws := R) H2.out (by rw [hl, List.length_replicate])
      have hsz : (celB R).length = 32 := by rw [celB_length, hl]
      go_wp2_with fail
      simp only [Tryd.sizeOf34, Result.andThen, ↓reduceIte, hsc]
      rw [Oper.upon_skip]
      go_wp2_with fail
      refine bodyPost_ret (v := .agg (celB R).toArray) ?_ rfl ⟨rfl, bel_setRow HB2.out (Nat.le_refl _) _⟩
      exact results_cell_row rfl _ _ w.heap.size 34 _ (0, 0) _ rfl (H2.out.row R) Tryd.underlying34 rfl (dig_size hl)
    · have h2 : 2 ≤ n := by omega
      obtain ⟨k, hk⟩ : ∃ k, leftN n = k := ⟨_, rfl⟩
      have hk1 : 1 ≤ k := by rw [← hk]; exact leftN_pos n
      have hkn : k < n := by rw [← hk]; exact leftN_lt h2
      have hnek : ¬ c = k := by omega
      have hni : ¬ ((n : Int) = 1) := by omega
      obtain ⟨R1, hR1⟩ : ∃ R, rootN (Ls.take k) = R := ⟨_, rfl⟩
      obtain ⟨R2, hR2⟩ : ∃ R, rootN (Ls.drop k) = R := ⟨_, rfl⟩
      have hl1 : R1.length = 32 := by rw [← hR1]; exact rootN_length (by rw [List.length_take]; have := HLN.out; omega)
      have hl2 : R2.length = 32 := by rw [← hR2]; exact rootN_length (by rw [List.length_drop]; have := HLN.out; omega)
      have hq1 : ∀ z ∈ R1, z < 256 := by rw [← hR1]; exact rootN_lt _
      have hq2 : ∀ z ∈ R2, z < 256 := by rw [← hR2]; exact rootN_lt _
      have HRR := Lib.hid (show shaN (1 :: (R1 ++ R2)) = R by rw [← hR1, ← hR2, ← hk, HLN.out, ← rootN_split (by have := HLN.out; omega), HR.out])
      have hC1 : ∀ X : Later w1, Calls Tryd.prog 89 #[.slice (some ad) k c] X.at fun e w' => e = .returned (.agg (celB R1).toArray) ∧ Below X.at.heap.size X.at w' := fun X => IH.out (some ad) k c (Ls.take k) X.at ((HS1.out.take (by omega)).keep X.below) hk1 (by omega) (by omega) (fun l hl => HLL.out l (List.mem_of_mem_take hl)) (HG1.out.keep X.below) R1 hR1
      have hC2 : ∀ X : Later w1, Calls Tryd.prog 89 #[.slice (some (ad.add k)) (n - k) (c - k)] X.at fun e w' => e = .returned (.agg (celB R2).toArray) ∧ Below X.at.heap.size X.at w' := fun X => by
        have hd := HS1.out.drop (k := k) (by omega)
        rw [if_neg hnek] at hd
        exact IH.out (some (ad.add k)) (n - k) (c - k) (Ls.drop k) X.at (hd.keep X.below) (by omega) (by omega) (by omega) (fun l hl => HLL.out l (List.mem_of_mem_drop hl)) (HG1.out.keep X.below) R2 hR2
      have hC3 : ∀ X : Later w1, Calls Tryd.prog 92 #[.agg (celB R1).toArray, .agg (celB R2).toArray] X.at fun e w' => e = .returned (.agg (celB R).toArray) ∧ Below X.at.heap.size X.at w' := fun X => pair_any R1 R2 X.at hl1 hl2 hq1 hq2 (HG1.out.keep X.below) R HRR.out
      clear hR1 hR2 hl1 hl2 hq1 hq2
      go_wp2_with fail
      refine (leftSize_any n w1 h2 (by omega)).mono ?_
      rintro e W2 ⟨rfl, rfl⟩
      rw [hk]
      have hk0 : (0 : Int) ≤ (k : Int) := by omega
      have hki : (k : Int) ≤ (n : Int) := by omega
      have hkc : (k : Int) ≤ (c : Int) := by omega
      clear hk
      go_upto_region 4 with fail
      refine wp_later_tail 9 (by kernel_rfl) (by kernel_rfl) ?_
      simp only [List.take_succ_cons, List.take_zero, List.drop_succ_cons, List.drop_zero]
      repeat (go_big_quiet_step (first | (go_at_call 89; with_reducible exact Calls.later (hC1 _)) | (go_at_call 89; with_reducible exact Calls.later (hC2 _)) | (go_at_call 92; with_reducible exact Calls.later (hC3 _))))
      refine wpQuiet_nil ?_
      intro X
      have H05 := Lib.hid (H0.out.keep X.below)
      have HB5 := Lib.hid (bel_step HB1.out X.below)
      clear hC1 hC2 hC3 H0 HB1 HS1
      refine wpList_skip0 rfl (X.at.setRow w.heap.size (celB R).toArray) (exec_storeD (x := .tmp 2) (y := .tmp 22) hl List.length_replicate H05.out rfl rfl rfl) ?_
      refine wpList_nil ?_
      simp only [Act.put]
      go_wp2_with fail
      refine bodyPost_ret (v := .agg (celB R).toArray) ?_ rfl ⟨rfl, bel_setRow HB5.out (Nat.le_refl _) _⟩
      exact results_cell_row rfl _ _ w.heap.size 34 _ (0, 0) _ rfl (H05.out.row R) Tryd.underlying34 rfl (dig_size hl)
end Go.Proofs.YtgkojdbepgonkaaDoor

/- How many subtrees an iterator yields; their digests. -/
namespace Go.Proofs.YtgkojdbepgonkaaDoor
set_option linter.unusedVariables false
set_option linter.unusedSimpArgs false
set_option maxRecDepth 8000
open Go.RowKit
open Go.Shelf
attribute [local go_sem] Oper.semAt_some
set_option maxRecDepth 100000 in
set_option maxHeartbeats 2000000 in
theorem number_any (gf : Nat) (hen : ∀ args w, (callFunc gf args).run Tryd.prog w = .ok (.enter gf args) w) (lb : Array Value) (xs : List (Nat × Nat)) (G : World → Prop) (hit : IterC Tryd.prog gf lb (fun x : Nat × Nat => #[subV x.1 x.2]) xs G)
    (w : World) (hG : ∀ B, Below w.heap.size w B → G B) (hn : xs.length ≤ 200000) :
    Calls Tryd.prog 52 #[.func (.func gf) #[] lb] w fun e w' => e = .returned (.int .i64 (xs.length : Int)) ∧ Below w.heap.size w w' := by
  have HIT := Lib.hid hit
  have HG := Lib.hid hG
  have HEN := Lib.hid hen
  have HN := Lib.hid hn
  clear hit hG hen hn
  refine (callsIn_wide (n := 3)).1 ?_
  refine callsIn_of_wp_marks Tryd.func52 rfl trivial ?_ rfl
  simp only [Tryd.ntmps52, List.size_toArray, List.length_cons, List.length_nil, Nat.reduceAdd, Nat.reduceSub, Array.replicate_succ, Array.replicate_zero, List.push_toArray, List.append_toArray, List.nil_append, List.cons_append]
  gi_wp2
  have hz0 := heap_new w (.cells #[.int .i64 0] 3)
  have hb1 := (Below.refl w.heap.size w).alloc (Nat.le_refl _) (.cells #[.int .i64 0] 3)
  have hlt : w.heap.size < (w.alloc (.cells #[.int .i64 0] 3)).heap.size := by simp
  generalize w.alloc (.cells #[.int .i64 0] 3) = W1 at *
  have H0 := Lib.hid hz0
  have HB1 := Lib.hid hb1
  clear hz0 hb1
  refine wpIn_rangeAll (gf := gf) (lb := lb) rfl HEN.out (fun x : Nat × Nat => #[subV x.1 x.2]) (fun _ => rfl) xs G HIT.out
    (fun i A => Below w.heap.size w A ∧ A.heap[w.heap.size]? = some (.cells #[.int .i64 ((i : Nat) : Int)] 3 (0, 0)) ∧ W1.heap.size ≤ A.heap.size) ?jg ?jj ?j0 3 ?round ?fin
  case jg => exact fun i A h => HG.out A h.1
  case jj => exact fun i A B h hb => ⟨h.1.trans (hb.below.mono (by omega)), hb.cells _ _ h.2.1 rfl, Nat.le_trans h.2.2 hb.below.size⟩
  case j0 => exact ⟨HB1.out, H0.out, Nat.le_refl _⟩
  case round =>
    rintro l2 i x A hx hl2 ⟨h1, h2, h3⟩
    have hi : i < 200000 := by have := (List.getElem?_eq_some_iff.1 hx).1; have := HN.out; omega
    clear hx
    have HA1 := Lib.hid h1
    have HA2 := Lib.hid h2
    clear h1 h2
    unfold subV
    gi_wp2
    refine ⟨KeepI.refl _ _, fun B2 hB2 => ?_⟩
    have hc := hB2.cells _ _ HA2.out rfl
    have hb := HA1.out.trans (hB2.below.mono (show w.heap.size ≤ W1.heap.size by omega))
    have hz2 := Nat.le_trans h3 hB2.below.size
    have d0 := cells_at hc 0 (v := .int .i64 ((i : Nat) : Int)) rfl
    have f0 := frozen_of_row B2 w.heap.size 0 _ _ hc
    have hw : IntKind.i64.wrap ((i : Int) + 1) = ((i + 1 : Nat) : Int) := by rw [IntKind.wrap_i64]; omega
    have HC := Lib.hid hc
    have HB := Lib.hid hb
    clear hc hb hB2 HA1 HA2
    gi_wp2
    refine ⟨KeepI.setCell _ _ hlt, HB.out.setCell (Nat.le_refl _) _, ?_, by simpa [World.setCell] using hz2⟩
    exact heap_setCell_same _ _ 0 _ _ _ HC.out
  case fin =>
    rintro D B hD ⟨h1, h2, h3⟩ hd
    have d0 := cells_at h2 0 (v := .int .i64 ((xs.length : Nat) : Int)) rfl
    have HB := Lib.hid h1
    have HDD := Lib.hid hd
    clear h1 h2 hd
    gi_wp2
    refine ⟨by simp, .inl ⟨_, _, rfl, run_takeDeferred HDD.out, ?_⟩⟩
    refine ⟨.int .i64 ((xs.length : Nat) : Int), ?_, rfl, HB.out.trans ⟨rfl, rfl, rfl, by simp, fun k hk => World.putObj_heap_other (by omega)⟩⟩
    exact results_tmp (t := 2) rfl _ _ _
/-- a drawn region in a round whose last operation stores; the class is one's own -/
theorem wpR_held_tailS {lp m : Nat} {P : Program} {Q : Exit → Act → World → Prop} (S : World → Prop) (n : Nat) {id : Nat} {a : Act} {w : World} {l : List Oper} (hm : P.follows .mixedOrders = true) (hd : noDefer l = true) (hQ : ¬ LetsOut Q) (hx : LexOK l.toArray) (hc : Tl.ChainW l.toArray) (hz : l.length = n + 1) (hs : Region.sinkB .any l.toArray n = true) (hcb : Region.chainB .any l.toArray n = true) (hS : S w.drew)
    (h : wpHeld P l.toArray (fun w' => ∃ x : LaterS S, w' = x.at) (fun _ a w => mOp P l.toArray n (fun a w => Q .normal a w) a w) (l.take n) a w.drew) : (Code.region id l.toArray true).wpIn (Fence.wide.inRound lp) m P Q a w := by
  have inv0 : HeadInv .any l.toArray n (Array.replicate l.toArray.size false) :=
    ⟨by simp, fun j oj _ hl => (by rw [getD_replicate_false] at hl; cases hl), fun t _ ht => getD_in (by simpa using ht) (getD_replicate_false _ _)⟩
  have htl : (l.take n).length = n := by simp; omega
  refine wpIn_region_any hm (wpAnyIn_of_wpAny (noDefer_spec hd) hQ _ _ _ _ ?_)
  refine wpAny_of_wpT (S := fun w' => ∃ x : LaterS S, w' = x.at) (m := n) (by simpa using hz) hs hcb _ _ _ _ inv0 (LaterS.some hS) ?_
  have := Tl.wpT_of_lex (P := P) (S := fun w' => ∃ x : LaterS S, w' = x.at) (Q := Q) (m := n) (ops := l.toArray) (by simpa using hz) hs hcb hx hc (l.take n) 0 (Array.replicate l.toArray.size false) a w.drew inv0 (LaterS.some hS) (fun j hj => by
    have hj' : j < n := by rw [htl] at hj; exact hj
    simp [hj']) (by simpa using htl) (by intro i hi; omega) (fun i _ hi => getD_in (by simpa using hi) (getD_replicate_false _ _)) h
  rw [htl] at this
  simpa [hz] using this
theorem OwD.abide {w w' : World} {base : Nat} {v : Value} {n N : Nat} {Ds : List (List Nat)} (h : OwD w base v n Ds) (hb : Abide N w w') : OwD w' base v n Ds := by
  refine ⟨⟨h.1.1, ?_⟩, h.2⟩
  rcases h.1.2 with hn | ⟨g, cap, cur, rfl, hbs, hgg, rest⟩
  · exact .inl hn
  · exact .inr ⟨g, cap, cur, rfl, hbs, hb.cells _ _ hgg rfl, rest⟩
theorem KeepI.grown {N base : Nat} {A B : World} {v : Value} {n : Nat} {Ds : List (List Nat)} (h : OwD A base v n Ds) (hg : A.grownBy B v.ownBlock) : KeepI N A B :=
  ⟨hg.size, fun b o hb ho hd => (hg.block b (Array.getElem?_eq_some_iff.1 ho).1 (fun e => by
    rcases h.1.2 with ⟨rfl, _⟩ | ⟨g, cap, cur, rfl, hbs, hgg, _⟩
    · cases e
    · have e2 : b = g := by simpa [Value.ownBlock] using e
      subst e2
      rw [hgg] at ho
      cases ho
      exact absurd hd (by unfold isDig; simp))).trans ho⟩
theorem hOp_appendD {o : Oper} {a : Act} {w : World} {K : Value → World → Prop} (s x : Operand)
    (ho : o.op = .call { callee := .builtin .append, args := #[s, x], argTypes := #[26, 26] }) (base : Nat) (v : Value) (n : Nat) (Ds : List (List Nat)) (hs : a.eval s = v) (hown : OwD w base v n Ds)
    (g c : Nat) (d : List Nat) (hx : a.eval x = .slice (some ⟨g, 0, none⟩) 1 c) (hd : RowB w 34 g d) (hdl : d.length = 32) (hn : n ≤ 65536) (hbase : base ≤ w.heap.size)
    (h : ∀ v' w', OwD w' base v' (n + 1) (Ds ++ [d]) → w.grownBy w' v.ownBlock → K v' w') : hOp Tryd.prog o K a w := by
  obtain ⟨i, hi, hz, hs2, hb⟩ := info_parts dig_info
  have hcl : (celB d).length = 1 * 32 := by rw [celB_length, hdl]
  obtain ⟨v', w', hrun, hown', hg, _⟩ := run_append_own (P := Tryd.prog) w base 26 o.type 34 i (.agg z32) 32 32 Tryd.underlying26 hi hz hs2 hb rfl (by omega) v n (celD Ds) hown.1 ⟨g, 0, none⟩ 1 c (celB d) hcl (row_cells hd) (fun u hu => celB_one' hu) (by unfold maxLen; omega) (by omega) hbase
  unfold hOp
  simp [execOp, ho, resolve, invoke, builtin, hs, hx, hrun, Result.andThen]
  refine h v' w' ⟨?_, fun z hz => ?_⟩ hg
  · rw [celD_append]
    exact hown'
  · rcases List.mem_append.1 hz with hz | hz
    · exact hown.2 z hz
    · rw [List.mem_singleton.1 hz]; exact hdl
theorem run_storeDs {ev : Operand → Value} {o : Oper} {p x : Operand} {u : Value} {w : World} {t : TypeId} (b : Nat) (v : Value) (hv : ∃ A n c, v = .slice A n c) (ho : o.op = .store 26 p x) (hp : ev p = .pointer (some ⟨b, 0, none⟩)) (hx : ev x = v) (h : One w b t u) :
    (execOp ev o).run Tryd.prog w = .ok .skip (w.setCell ⟨b, 0, none⟩ v) := by
  obtain ⟨A, n, c, rfl⟩ := hv
  have c0 := h.c
  have f0 := h.f
  unfold execOp
  rw [ho]
  simp only [hp, hx]
  go_simp
theorem OwD.slice {w : World} {base : Nat} {v : Value} {n : Nat} {Ds : List (List Nat)} (h : OwD w base v n Ds) : ∃ A n c, v = .slice A n c := by
  rcases h.1.2 with ⟨rfl, _⟩ | ⟨g, cap, cur, rfl, _⟩
  · exact ⟨_, _, _, rfl⟩
  · exact ⟨_, _, _, rfl⟩
theorem OwD.lt {w : World} {base : Nat} {v : Value} {n : Nat} {Ds : List (List Nat)} (h : OwD w base v n Ds) {k : Nat} (hk : some k = v.ownBlock) : base ≤ k ∧ k < w.heap.size := World.ownsRow.lt h.1 k hk.symm
theorem OwD.same {w w' : World} {base : Nat} {v : Value} {n : Nat} {Ds : List (List Nat)} (h : OwD w base v n Ds) (hk : ∀ b o, base ≤ b → w.heap[b]? = some o → w'.heap[b]? = some o) : OwD w' base v n Ds := by
  refine ⟨⟨h.1.1, ?_⟩, h.2⟩
  rcases h.1.2 with hn | ⟨g, cap, cur, rfl, hbs, hgg, rest⟩
  · exact .inl hn
  · exact .inr ⟨g, cap, cur, rfl, hbs, hk g _ hbs hgg, rest⟩
/-- all that lay in A lies in B but for the block of a slice of A's own -/
def SaveO (v : Value) (A B : World) : Prop := A.heap.size ≤ B.heap.size ∧ ∀ b, b < A.heap.size → some b ≠ v.ownBlock → B.heap[b]? = A.heap[b]?
theorem SaveO.of_below {v : Value} {A B : World} (h : Below A.heap.size A B) : SaveO v A B := ⟨h.size, fun b hb _ => h.block b hb⟩
theorem SaveO.below {v : Value} {A B C : World} (h : SaveO v A B) (hb : Below B.heap.size B C) : SaveO v A C := ⟨Nat.le_trans h.1 hb.size, fun b hlt hne => (hb.block b (by have := h.1; omega)).trans (h.2 b hlt hne)⟩
theorem SaveO.grown {v : Value} {A B C : World} (h : SaveO v A B) (hg : B.grownBy C v.ownBlock) : SaveO v A C := ⟨Nat.le_trans h.1 hg.size, fun b hlt hne => (hg.block b (by have := h.1; omega) hne).trans (h.2 b hlt hne)⟩
theorem SaveO.cell {v : Value} {A B : World} {p : Addr} {u : Value} (h : SaveO v A B) (hc : A.cell? p = some u) (hne : some p.block ≠ v.ownBlock) : B.cell? p = some u :=
  (World.cell?_of_block (h.2 _ (cell_lt' hc) hne)).trans hc
set_option maxRecDepth 100000 in
set_option maxHeartbeats 4000000 in
theorem digests_any (gf : Nat) (hen : ∀ args w, (callFunc gf args).run Tryd.prog w = .ok (.enter gf args) w) (lb : Array Value) (xs : List (Nat × Nat)) (G : World → Prop) (hit : IterC Tryd.prog gf lb (fun x : Nat × Nat => #[subV x.1 x.2]) xs G)
    (A : Option Addr) (n c : Nat) (Ls : List (List Nat)) (w : World) (h : Pb w A n c Ls) (hG : ∀ B, Below w.heap.size w B → G B) (hn : n ≤ 65536) (hL : ∀ l ∈ Ls, l.length ≤ 140737488351232) (hGl : Gl w) (hxs : ∀ x ∈ xs, 1 ≤ x.2 ∧ x.1 + x.2 ≤ n) (hlen : xs.length ≤ 65536) :
    Calls Tryd.prog 90 #[.slice A n c, .func (.func gf) #[] lb] w fun e w' => ∃ v, e = .returned v ∧ OwD w' w.heap.size v xs.length (digsN Ls xs) ∧ Below w.heap.size w w' := by
  have HIT := Lib.hid hit
  have HG := Lib.hid hG
  have HEN := Lib.hid hen
  have HN := Lib.hid hlen
  have HS := Lib.hid h
  have HLL := Lib.hid hL
  have HGL := Lib.hid hGl
  have HXS := Lib.hid hxs
  clear hit hG hen hlen h hL hGl hxs
  refine (callsIn_wide (n := 3)).1 ?_
  refine callsIn_of_wp_marks Tryd.func90 rfl trivial ?_ rfl
  simp only [Tryd.ntmps90, List.size_toArray, List.length_cons, List.length_nil, Nat.reduceAdd, Nat.reduceSub, Array.replicate_succ, Array.replicate_zero, List.push_toArray, List.append_toArray, List.nil_append, List.cons_append]
  gi_wp2
  have hz0 := heap_old (.cells #[.slice none 0 0] 26) (heap_new w (.cells #[.slice A n c] 23))
  have hz1 := heap_new (w.alloc (.cells #[.slice A n c] 23)) (.cells #[.slice none 0 0] 26)
  rw [alloc_sz] at hz1
  have hb1 := ((Below.refl w.heap.size w).alloc (Nat.le_refl _) (.cells #[.slice A n c] 23)).alloc (by simp) (.cells #[.slice none 0 0] 26)
  generalize (w.alloc (.cells #[.slice A n c] 23)).alloc (.cells #[.slice none 0 0] 26) = W1 at *
  have hlt : w.heap.size + 1 < W1.heap.size := (Array.getElem?_eq_some_iff.1 hz1).1
  have H0 := Lib.hid hz0
  have H1 := Lib.hid hz1
  have HB1 := Lib.hid hb1
  clear hz0 hb1 hz1
  refine wpIn_rangeAll (gf := gf) (lb := lb) rfl HEN.out (fun x : Nat × Nat => #[subV x.1 x.2]) (fun _ => rfl) xs G HIT.out
    (fun i B => Below w.heap.size w B ∧ One B w.heap.size 23 (.slice A n c) ∧ W1.heap.size ≤ B.heap.size ∧ ∃ v, One B (w.heap.size + 1) 26 v ∧ OwD B W1.heap.size v i (digsN Ls (xs.take i))) ?jg ?jj ?j0 3 ?round ?fin
  case jg => exact fun i A h => HG.out A h.1
  case jj =>
    rintro i A B ⟨h1, h2, h3, v, h4, h5⟩ hb
    exact ⟨h1.trans (hb.below.mono (by omega)), hb.cells _ _ h2 rfl, Nat.le_trans h3 hb.below.size, v, hb.cells _ _ h4 rfl, h5.abide hb⟩
  case j0 => exact ⟨HB1.out, H0.out, Nat.le_refl _, _, H1.out, ⟨⟨rfl, .inl ⟨rfl, rfl⟩⟩, fun _ h => by cases h⟩⟩
  case round =>
    rintro l2 i x B hx hl2 ⟨h1, h2, h3, v, h4, h5⟩
    have hi : i < 65536 := by have := (List.getElem?_eq_some_iff.1 hx).1; have := HN.out; omega
    have hxm := HXS.out x (List.mem_of_getElem? hx)
    have HTK := Lib.hid (show digsN Ls (xs.take (i + 1)) = digsN Ls (xs.take i) ++ [rootN ((Ls.drop x.1).take x.2)] by
      unfold digsN
      rw [List.take_add_one, hx, List.map_append]; rfl)
    clear hx
    have HA1 := Lib.hid h1
    have HA2 := Lib.hid h2
    have HA4 := Lib.hid h4
    have HA5 := Lib.hid h5
    clear h1 h2 h4 h5
    unfold subV
    gi_wp2
    have hbA := (Below.refl B.heap.size B).alloc (Nat.le_refl _) (.cells #[.int .i64 (x.1 : Int), .int .i64 (x.2 : Int)] 94)
    have hcA := heap_new B (.cells #[.int .i64 (x.1 : Int), .int .i64 (x.2 : Int)] 94)
    refine ⟨KeepI.alloc _, fun B2 hB2 => ?_⟩
    have ex := hB2.cells _ _ hcA rfl
    have e2 : One B2 w.heap.size 23 (.slice A n c) := hB2.cells _ _ (heap_keep HA2.out hbA) rfl
    have e4 : One B2 (w.heap.size + 1) 26 v := hB2.cells _ _ (heap_keep HA4.out hbA) rfl
    have e5 := (HA5.out.keep hbA).abide hB2
    have e1 := (HA1.out.trans (hbA.mono (by omega))).trans (hB2.below.mono (show w.heap.size ≤ W1.heap.size by omega))
    have hz2 := Nat.le_trans h3 (Nat.le_trans hbA.size hB2.below.size)
    have hne0 : some w.heap.size ≠ v.ownBlock := fun e => by have := (e5.lt e).1; omega
    have hne1 : some (w.heap.size + 1) ≠ v.ownBlock := fun e => by have := (e5.lt e).1; omega
    have hne2 : some B.heap.size ≠ v.ownBlock := fun e => by have := (HA5.out.lt e).2; omega
    have l0 := LaterS.get (S := SaveO v B2) (fun W hS => hS.cell e4.c hne1)
    have l1 := LaterS.get (S := SaveO v B2) (fun W hS => hS.cell (cells_at ex 0 (v := .int .i64 (x.1 : Int)) rfl) hne2)
    have l2 := LaterS.get (S := SaveO v B2) (fun W hS => hS.cell (cells_at ex 1 (v := .int .i64 (x.2 : Int)) rfl) hne2)
    have l3 := LaterS.get (S := SaveO v B2) (fun W hS => hS.cell e2.c hne0)
    have E1 := Lib.hid e1
    have E2 := Lib.hid e2
    have E4 := Lib.hid e4
    have E5 := Lib.hid e5
    obtain ⟨q, hq⟩ : ∃ q, B.heap.size = q := ⟨_, rfl⟩
    rw [hq] at l1 l2 ⊢
    obtain ⟨Ws, hWs⟩ : ∃ Ws, W1.heap.size = Ws := ⟨_, rfl⟩
    rw [hWs] at hlt hz2 E5 ⊢
    clear hbA hcA hB2 ex e1 e2 e4 e5 HA1 HA2 HA4 HA5 H0 H1 HB1 HIT h3 hl2 hq hWs
    have hS0 : SaveO v B2 B2.drew := SaveO.of_below (Below.refl _ _).drew
    haveI := LaterS.inh hS0
    have S0 := Lib.hid (LaterS.some hS0)
    have K0 := Lib.hid hS0
    clear hS0
    refine wpIn_block ?_
    refine wpR_held_tailS (SaveO v B2) 7 (by kernel_rfl) (by kernel_rfl) (by simp [LetsOut, Exit.inBlock, endAll]) (lexOK_of (by kernel_rfl) (by kernel_rfl)) (Tl.chainW_of (by kernel_rfl)) rfl (by kernel_rfl) (by kernel_rfl) K0.out ?_
    refine wpHeld_seg 3 S0.out (by kernel_rfl) ?_
    simp only [List.take_succ_cons, List.take_zero, List.drop_succ_cons, List.drop_zero]
    iterate 3 (go_big_quiet_step (fail))
    refine wpQuiet_nil ?_
    clear l0 l1 l2 l3
    refine wpHeld_call 108 Tryd.func108 (by kernel_rfl) (by kernel_rfl) _ _ #[subV x.1 x.2, .slice A n c] rfl (by kernel_rfl) (by kernel_rfl) ?_
    refine (among_any x.1 x.2 A n c Ls B2.drew (HS.out.keep (E1.out.trans (Below.refl _ _).drew)) hxm.1 hxm.2 hn).mono ?_
    rintro e W2 ⟨C, mc, rfl, hpc, hb⟩
    have HP2 := Lib.hid hpc
    have K2 := Lib.hid (K0.out.below hb)
    have HB2 := Lib.hid (show Below B2.heap.size B2 W2 from (Below.refl _ _).drew.trans hb)
    clear hpc hb K0 S0
    refine ⟨_, rfl, LaterS.some K2.out, ?_⟩
    simp only [Act.put, List.setIfInBounds_toArray, List.set_cons_zero, List.set_cons_succ]
    obtain ⟨R, hR⟩ : ∃ R, rootN ((Ls.drop x.1).take x.2) = R := ⟨_, rfl⟩
    rw [hR] at HTK
    have hlr : ((Ls.drop x.1).take x.2).length = x.2 := (HP2.out.len).symm
    have hRl : R.length = 32 := by rw [← hR]; exact rootN_length (by rw [hlr]; exact hxm.1)
    have HRR := Lib.hid hR
    clear hR hlr
    refine wpHeld_call 89 Tryd.func89 (by kernel_rfl) (by kernel_rfl) _ _ #[.slice C x.2 mc] rfl (by kernel_rfl) (by kernel_rfl) ?_
    refine (mdigest_any x.2 C x.2 mc _ W2 HP2.out hxm.1 (Nat.le_refl _) (by omega) (fun l hl => HLL.out l (List.mem_of_mem_drop (List.mem_of_mem_take hl))) (HGL.out.keep (bel_step E1.out HB2.out)) R HRR.out).mono ?_
    rintro e W3 ⟨rfl, hb⟩
    have K3 := Lib.hid (K2.out.below hb)
    have HB3 := Lib.hid (bel_step HB2.out hb)
    clear hb K2 HB2 HP2
    refine ⟨_, rfl, LaterS.some K3.out, ?_⟩
    simp only [Act.put, List.setIfInBounds_toArray, List.set_cons_zero, List.set_cons_succ]
    have hb4 : Below W3.heap.size W3 (W3.alloc (.cells (celB R).toArray 34)) := (Below.refl _ _).alloc (Nat.le_refl _) _
    have HRow := Lib.hid (show RowB (W3.alloc (.cells (celB R).toArray 34)) 34 W3.heap.size R from heap_new W3 _)
    have K4 := Lib.hid (K3.out.below hb4)
    have HB4 := Lib.hid (bel_step HB3.out hb4)
    refine wpHeld_run _ _ (by kernel_rfl) (by kernel_rfl) (run_buildS1 hRl rfl rfl W3) (LaterS.some K4.out) ?_
    simp only [Act.put, List.setIfInBounds_toArray, List.set_cons_zero, List.set_cons_succ]
    clear hb4 K3 HB3
    generalize W3.alloc (.cells (celB R).toArray 34) = W4 at *
    generalize W3.heap.size = q4 at *
    have hz4 := HB4.out.size
    refine wpHeld_op (by kernel_rfl) (by kernel_rfl) ?_
    refine hOp_appendD (.tmp 9) (.tmp 14) rfl Ws v i _ rfl (E5.out.keep HB4.out) q4 1 R rfl HRow.out hRl (by omega) (by omega) ?_
    intro v5 W5 ho5 hg5
    have HO5 := Lib.hid ho5
    have K5 := Lib.hid (K4.out.grown hg5)
    have HB5 := Lib.hid (show Below w.heap.size w W5 from (E1.out.trans (HB4.out.mono (by have := E1.out.size; omega))).trans (((E5.out.keep HB4.out).below hg5 (by omega)).mono (by omega)))
    have HK5 := Lib.hid (show KeepI Ws B2 W5 from (KeepI.of_below HB4.out).trans (KeepI.grown (E5.out.keep HB4.out) hg5))
    have hz5 := hg5.size
    have HE2 := Lib.hid (show One W5 w.heap.size 23 (.slice A n c) from (K5.out.2 _ E2.out.lt hne0).trans E2.out)
    have HE4 := Lib.hid (show One W5 (w.heap.size + 1) 26 v from (K5.out.2 _ E4.out.lt hne1).trans E4.out)
    clear ho5 hg5
    refine ⟨LaterS.some K5.out, ?_⟩
    simp only [Act.put, List.setIfInBounds_toArray, List.set_cons_zero, List.set_cons_succ]
    refine wpHeld_nil ?_
    refine mOp_run0 _ rfl rfl (run_storeDs (w.heap.size + 1) v5 HO5.out.slice rfl rfl rfl HE4.out) ?_
    refine ⟨HK5.out.trans (KeepI.setCell _ _ hlt), HB5.out.setCell (Nat.le_succ _) _, HE2.out.far _ (by show w.heap.size ≠ w.heap.size + 1; omega), by simp [World.setCell]; omega, v5, HE4.out.set _, ?_⟩
    rw [HTK.out]
    exact HO5.out.same fun b o hb ho => (Below.heap_setCell _ _ _ b (by show b ≠ w.heap.size + 1; omega)).trans ho
  case fin =>
    rintro D B hD ⟨h1, h2, h3, v, h4, h5⟩ hd
    have d0 := h4.c
    have HB := Lib.hid h1
    have HDD := Lib.hid hd
    have HO := Lib.hid h5
    clear h1 h2 h4 h5 hd
    gi_wp2
    refine ⟨by simp, .inl ⟨_, _, rfl, run_takeDeferred HDD.out, ?_⟩⟩
    refine ⟨v, ?_, v, rfl, ?_, HB.out.trans ⟨rfl, rfl, rfl, by simp, fun k hk => World.putObj_heap_other (by omega)⟩⟩
    · exact results_tmp (t := 4) rfl _ _ _
    · have ho := HO.out.abide (Abide.putObj (N := W1.heap.size) (.deferred none) HDD.out rfl hD)
      rw [List.take_of_length_le (Nat.le_refl _)] at ho
      exact ⟨⟨ho.1.1, by
        rcases ho.1.2 with hn | ⟨g, cap, cur, rfl, hbs, rest⟩
        · exact .inl hn
        · exact .inr ⟨g, cap, cur, rfl, by omega, rest⟩⟩, ho.2⟩
end Go.Proofs.YtgkojdbepgonkaaDoor

/- 'x := f(..)' where x lies in memory and f may change what lies there: quiet operations, a call, a new variable, the store; the new variable may be made before or behind the call. No program, no conditions. -/
namespace Go.Proofs.YtgkojdbepgonkaaDoor
set_option linter.unusedVariables false
set_option linter.unusedSimpArgs false
set_option maxRecDepth 8000
open Go.RowKit
section
variable {P : Program} {Q : Exit → Act → World → Prop}
/-- an operation that only looks, or reckons the address of a field -/
def stillA (o : Oper) : Bool := stillOp o || match o.op with | .fieldAddr _ _ _ => true | _ => false
theorem stillA_value {P : Program} {o : Oper} (h : stillA o = true) {ev : Operand → Value} {w w' : World} {n : Next} (hr : (execOp ev o).run P w = .ok n w') : ∃ x, n = .value x := by
  by_cases hs : stillOp o = true
  · exact still_value hs hr
  · unfold stillA at h
    rw [Bool.or_eq_true] at h
    rcases h with h | h
    · exact absurd h hs
    · unfold execOp at hr
      cases ho : o.op <;> simp only [ho] at h hr <;> first | (cases h; done) | exact andThen_value (g := fun x => x) hr | exact andThen_value hr | (rw [Sem.run_pure] at hr; injection hr with hr _; exact ⟨_, hr.symm⟩)
/-- the first i have come up -/
def maskTo (n : Nat) : Nat → Array Bool
  | 0 => Array.replicate n false
  | i + 1 => (maskTo n i).setIfInBounds i true
/-- each of the first m may be taken at its turn -/
def takeOK (l : List Oper) : Nat → Bool
  | 0 => true
  | i + 1 => takeOK l i && (Region.free .any l.toArray (maskTo l.length i) i && (Region.ready .any l.toArray (maskTo l.length i)).contains i)
theorem wpAnyH_takes {l : List Oper} {S : World → Prop} (hs : Region.noSelect l.toArray = true) (hQ : ∀ c a (dt : Option Tmp) v w, Q (.panic c) (Act.put a dt v) w → Q (.panic c) a w) {L : Act → Prop} {fuel : Nat} {w : World} (hS : S w) :
    ∀ (l1 : List Oper) (k : Nat) (a : Act), (∀ j, l1[j]? = if j < l1.length then l[k + j]? else none) → l1.all stillA = true → takeOK l (k + l1.length) = true →
      (∀ a', L a' → wpAnyH P .any l.toArray Q S fuel (maskTo l.length (k + l1.length)) a' w) → wpQuiet P l.toArray (fun w' => ∃ x : LaterS S, w' = x.at) L l1 a → wpAnyH P .any l.toArray Q S (fuel + l1.length) (maskTo l.length k) a w
  | [], k, a, _, _, _, h, hq => h _ hq
  | o :: l1, k, a, hl, hst, ht, h, hq => by
    rw [List.all_cons, Bool.and_eq_true] at hst
    have ho : l.toArray[k]? = some o := by
      have := hl 0
      simpa using this.symm
    have hk : takeOK l (k + 1) = true := by
      have : ∀ m n, takeOK l (m + n) = true → takeOK l m = true := by
        intro m n
        induction n with
        | zero => exact id
        | succ n ih => intro h; exact ih (by unfold takeOK at h; rw [Bool.and_eq_true] at h; exact h.1)
      refine this (k + 1) l1.length ?_
      rw [show k + 1 + l1.length = k + (o :: l1).length by simp; omega]
      exact ht
    unfold takeOK at hk
    rw [Bool.and_eq_true, Bool.and_eq_true] at hk
    obtain ⟨v, hy, hn⟩ : ∃ v, YieldsIf P l.toArray S o v a ∧ wpQuiet P l.toArray (fun w' => ∃ x : LaterS S, w' = x.at) L l1 (a.put o.dst v) := by
      unfold wpQuiet at hq
      by_cases hw : Region.wanted o (yielded l.toArray a.tmps) = true
      · rw [if_pos hw] at hq
        obtain ⟨v, hv, hn⟩ := hq
        refine ⟨v, .inl ⟨hw, fun w' hS' => ?_⟩, hn⟩
        have h1 := hv w' (LaterS.some hS')
        unfold Oper.quietAt at h1
        cases hr : (execOp a.eval o).run P w' with
        | ok n w2 =>
          obtain ⟨x, rfl⟩ := stillA_value hst.1 hr
          rw [hr] at h1
          obtain ⟨e1, e2⟩ := h1
          rw [e1, e2]
        | halt x w2 => rw [hr] at h1; exact h1.elim
      · rw [if_neg hw] at hq
        exact ⟨undef, .inr ⟨by simpa using hw, rfl⟩, hq⟩
    rw [show fuel + (o :: l1).length = (fuel + l1.length) + 1 by simp; omega]
    refine wpAnyH_take ho hs hk.2.1 hk.2.2 (fun c a w h => hQ c a _ _ w h) hy hS ?_
    refine wpAnyH_takes hs hQ hS l1 (k + 1) _ (fun j => ?_) hst.2 (by rw [show k + 1 + l1.length = k + (o :: l1).length by simp; omega]; exact ht) (fun a' ha' => by
      rw [show k + 1 + l1.length = k + (o :: l1).length by simp; omega]; exact h a' ha') hn
    have := hl (j + 1)
    simp only [List.getElem?_cons_succ, List.length_cons, Nat.add_lt_add_iff_right] at this
    rw [this, show k + 1 + j = k + (j + 1) by omega]
theorem wpOp_of_hOp {ops : Array Oper} {i : Nat} {o : Oper} {K : Act → World → Prop} {a : Act} {w : World} (hi : ops[i]? = some o) (hw : Region.wanted o (yielded ops a.tmps) = true) (h : hOp P o (fun v w' => K (a.put o.dst v) w') a w) : wpOp P ops Q i K a w :=
  wpOp_of_mOp ⟨o, hi, hw, h⟩
theorem hOp_call {o : Oper} {a : Act} {w : World} {K : Value → World → Prop} {fn : Func} (f : FuncId) (hf : P.funcs[f]? = some fn) (hname : (fn.name == "runtime.NumGoroutine") = false) (hb : fn.body.isNone = false) (args : Array Operand) (ts : Array TypeId) (vs : Array Value) (ho : o.op = .call { callee := .value (.func f), args := args, argTypes := ts })
    (hv : args.map a.eval = vs) (h : Calls P f vs w fun e w' => ∃ v, e = .returned v ∧ K v w') : hOp P o K a w := by
  unfold hOp execOp
  simp only [ho]
  have e : (do let d ← resolve a.eval { callee := .value (.func f), args := args, argTypes := ts } o.type; invoke d.target d.args : Sem Next).run P w = .ok (.enter f vs) w := by
    subst hv
    have h1 : fn.name ≠ "runtime.NumGoroutine" := by simpa using hname
    have h2 : fn.body ≠ none := by
      intro e
      rw [e] at hb
      cases hb
    simp [resolve, Deferred.ofValue, invoke, go_sem, Act.eval, callFunc, hf, h1, h2]
  rw [e]
  exact h
theorem wp_callDecl (S : World → Prop) (Post : Value → World → Prop) (base m : Nat) (z : Obj) {id : Nat} {a : Act} {w : World} {l : List Oper} {oc om os : Oper} (hm : P.follows .mixedOrders = true) (hs : Region.noSelect l.toArray = true)
    (hQ : ∀ c a (dt : Option Tmp) v w, Q (.panic c) (Act.put a dt v) w → Q (.panic c) a w) (hl : l.length = m + 3) (ht : takeOK l m = true) (hst : (l.take m).all stillA = true) (hc : l[m]? = some oc) (hmk : l[m + 1]? = some om) (hos : l[m + 2]? = some os)
    (hr1 : Region.ready .any l.toArray (maskTo l.length m) = [m, m + 1]) (hr2 : Region.ready .any l.toArray (maskTo l.length (m + 1)) = [m + 1]) (hr3 : Region.ready .any l.toArray ((maskTo l.length m).setIfInBounds (m + 1) true) = [m])
    (hr4 : Region.ready .any l.toArray (maskTo l.length (m + 2)) = [m + 2]) (hr5 : Region.ready .any l.toArray (maskTo l.length (m + 3)) = []) (hap : om.apart l.toArray oc = true) (hg1 : oc.guard = none) (hg2 : om.guard = none) (hg3 : os.guard = none)
    (hS : S w.drew) (hb : ∀ W, S W → base ≤ W.heap.size) (hmr : ∀ (ev : Operand → Value) (W : World), (execOp ev om).run P W = .ok (.value (ptr W.heap.size)) (W.alloc z)) (hSa : ∀ W, S W → S (W.alloc z)) (hPa : ∀ v W, S W → Post v W → Post v (W.alloc z))
    (h : wpQuiet P l.toArray (fun w' => ∃ x : LaterS S, w' = x.at) (fun a' =>
      (∀ W, Below w.heap.size w W → S W → hOp P oc (fun v w' => S w' ∧ (∀ b o, base ≤ b → W.heap[b]? = some o → w'.heap[b]? = some o) ∧ Post v w') a' W) ∧
      (∀ v b X, S X → X.heap[b]? = some z → base ≤ b → Post v X → hOp P os (fun u X' => Q .normal (((a'.put oc.dst v).put om.dst (ptr b)).put os.dst u) X' ∧ S X') ((a'.put oc.dst v).put om.dst (ptr b)) X)) (l.take m) a) : (Code.region id l.toArray true).wp P Q a w := by
  refine wp_region_held (S := S) hm ?_
  have hsz : l.toArray.size = 3 + (l.take m).length := by simp; omega
  have htl : (l.take m).length = m := by simp; omega
  have e0 : Array.replicate (3 + (l.take m).length) false = maskTo l.length 0 := by rw [← hsz]; simp [maskTo]
  have hwt : ∀ (o : Oper) (a : Act), o.guard = none → Region.wanted o (yielded l.toArray a.tmps) = true := fun o a hg => by unfold Region.wanted; rw [hg]
  have hi1 : l.toArray[m]? = some oc := by simpa using hc
  have hi2 : l.toArray[m + 1]? = some om := by simpa using hmk
  have hi3 : l.toArray[m + 2]? = some os := by simpa using hos
  have hsel := Region.noSelect_spec hs
  obtain ⟨ap1, ap2, ap3⟩ := Oper.apart_spec hap
  rw [hsz, e0]
  refine wpAnyH_takes hs hQ hS (l.take m) 0 a (fun j => ?_) hst (by rw [htl, Nat.zero_add]; exact ht) (fun a' ha' => ?_) h
  · rw [htl, Nat.zero_add]
    by_cases hj : j < m
    · rw [if_pos hj, List.getElem?_take_of_lt hj]
    · rw [if_neg hj, List.getElem?_eq_none (by rw [htl]; omega)]
  · obtain ⟨h1, h2⟩ := ha'
    rw [htl, Nat.zero_add]
    have fin : ∀ v b X, S X → X.heap[b]? = some z → base ≤ b → Post v X → wpAnyH P .any l.toArray Q S 1 (maskTo l.length (m + 2)) ((a'.put oc.dst v).put om.dst (ptr b)) X := by
      intro v b X hSX hz hbb hp
      refine wpAnyH_all hr4 (by simp) ?_
      intro i hi
      obtain rfl : i = m + 2 := by simpa using hi
      refine wpOp_of_hOp hi3 (hwt os _ hg3) (hOp_mono (fun u X' hk => ⟨hk.2, wpAnyH_done ?_ hk.1 _⟩) (h2 v b X hSX hz hbb hp))
      exact hr5
    refine wpAnyH_all hr1 (by simp) ?_
    intro i hi
    rcases (by simpa using hi : i = m ∨ i = m + 1) with rfl | rfl
    · refine wpOp_of_hOp hi1 (hwt oc _ hg1) (hOp_mono (fun v w' hk => ⟨hk.1, ?_⟩) (h1 _ (Below.refl _ _).drew hS))
      refine wpAnyH_all (rs := [i + 1]) hr2 (by simp) ?_
      intro j hj
      obtain rfl : j = i + 1 := by simpa using hj
      refine wpOp_of_hOp hi2 (hwt om _ hg2) ?_
      unfold hOp
      rw [hmr]
      exact ⟨hSa _ hk.1, fin v w'.heap.size _ (hSa _ hk.1) (heap_new w' z) (hb _ hk.1) (hPa _ _ hk.1 hk.2.2)⟩
    · refine wpOp_of_hOp hi2 (hwt om _ hg2) ?_
      unfold hOp
      rw [hmr]
      refine ⟨hSa _ hS, ?_⟩
      refine wpAnyH_all (rs := [m]) hr3 (by simp) ?_
      intro j hj
      obtain rfl : j = m := by simpa using hj
      refine wpOp_of_hOp hi1 (hwt oc _ hg1) ?_
      have hh := h1 _ ((Below.refl _ _).drew.alloc (Nat.le_refl _) z) (hSa _ hS)
      unfold hOp at hh ⊢
      rw [execOp_put (ops := l.toArray) oc (fun cs b => hsel j oc cs b hi1) a' om.dst _ ap1]
      refine hOp_mono (o := oc) (a := a') (fun v w' hk => ⟨hk.1, ?_⟩) hh
      have := fin v _ w' hk.1 (hk.2.1 _ _ (hb _ hS) (heap_new _ z)) (hb _ hS) hk.2.2
      have hc2 : ((maskTo l.length j).setIfInBounds (j + 1) true).setIfInBounds j true = maskTo l.length (j + 2) := by
        rw [Array.setIfInBounds_comm _ _ (by omega)]; rfl
      rw [hc2]
      have hpc : (a'.put om.dst (ptr w.drew.heap.size)).put oc.dst v = (a'.put oc.dst v).put om.dst (ptr w.drew.heap.size) := Act.put_comm a' _ _ ap2
      show wpAnyH P .any l.toArray Q S 1 _ ((a'.put om.dst (ptr w.drew.heap.size)).put oc.dst v) w'
      rw [hpc]
      exact this
end
end Go.Proofs.YtgkojdbepgonkaaDoor

/- The consumer of nodes: what it answers and what is left. -/
namespace Go.Proofs.YtgkojdbepgonkaaDoor
set_option linter.unusedVariables false
set_option linter.unusedSimpArgs false
set_option maxRecDepth 8000
open Go.RowKit
attribute [local simp] z32_ne z32_run
attribute [-simp] Tryd.zeroValue34 Tryd.isAgg34 Tryd.sizeOf34
/-- a slice value that reads as digests -/
structure Db (w : World) (A : Option Addr) (n c : Nat) (Ds : List (List Nat)) : Prop where
  len : n = Ds.length
  cap : n ≤ c
  top : c ≤ 9223372036854775807
  nil : A = none → c = 0
  dig : ∀ d ∈ Ds, d.length = 32 ∧ ∀ x ∈ d, x < 256
  cells : ∀ (i : Nat) (d : List Nat), Ds[i]? = some d → ∃ g o, A = some ⟨g, o, none⟩ ∧ w.rangeAt g (o + 32 * i) (celB d)
theorem Db.keep {w w' : World} {A : Option Addr} {n c : Nat} {Ds : List (List Nat)} (h : Db w A n c Ds) (hb : Below w.heap.size w w') : Db w' A n c Ds :=
  ⟨h.len, h.cap, h.top, h.nil, h.dig, fun i d hd => by obtain ⟨g, o, e, hr⟩ := h.cells i d hd; exact ⟨g, o, e, rangeAt_keep hr hb⟩⟩
theorem range_ne {w : World} {g o x : Nat} {d : List Nat} {t : TypeId} {u : Value} (h : w.rangeAt g o (celB d)) (hl : d.length = 32) (hx : One w x t u) (hu : ∀ z, u ≠ .int .u8 z) : g ≠ x := by
  intro e
  subst e
  match d, hl with
  | z :: d, _ =>
    have := h 0 (.int .u8 (z : Int)) rfl
    unfold One at hx
    rw [World.cell?, hx] at this
    have h2 := List.mem_of_getElem? (l := [u]) (i := o) (by simpa using this)
    exact hu _ (List.mem_singleton.1 h2).symm
theorem Db.keepX {w w' : World} {A : Option Addr} {n c x : Nat} {Ds : List (List Nat)} {t : TypeId} {u : Value} (h : Db w A n c Ds) (hx : One w x t u) (hu : ∀ z, u ≠ .int .u8 z) (hb : SameX x w w') : Db w' A n c Ds :=
  ⟨h.len, h.cap, h.top, h.nil, h.dig, fun i d hd => by
    obtain ⟨g, o, e, hr⟩ := h.cells i d hd
    exact ⟨g, o, e, fun j v hj => cell_same hb (hr j v hj) (range_ne hr (h.dig d (List.mem_of_getElem? hd)).1 hx hu)⟩⟩
theorem Db.drop {w : World} {g o n c k : Nat} {Ds : List (List Nat)} (h : Db w (some ⟨g, o, none⟩) n c Ds) (hk : k ≤ n) : Db w (if c = k then some ⟨g, o, none⟩ else some ((⟨g, o, none⟩ : Addr).add (k * 32))) (n - k) (c - k) (Ds.drop k) := by
  have hl := h.len
  have hcp := h.cap
  refine ⟨by rw [List.length_drop]; omega, by omega, by have := h.top; omega, (fun e => by split at e <;> cases e), fun d hd => h.dig d (List.mem_of_mem_drop hd), fun i d hd => ?_⟩
  have hi := (List.getElem?_eq_some_iff.1 hd).1
  rw [List.length_drop] at hi
  rw [List.getElem?_drop] at hd
  obtain ⟨g', o', e, hr⟩ := h.cells _ _ hd
  injection e with e
  injection e with e1 e2
  subst e1 e2
  rw [if_neg (by omega)]
  refine ⟨g, o + k * 32, by rw [Addr.add_mid], ?_⟩
  rw [show o + k * 32 + 32 * i = o + 32 * (k + i) by omega]
  exact hr
theorem Db.take {w : World} {A : Option Addr} {n c k : Nat} {Ds : List (List Nat)} (h : Db w A n c Ds) (hk : k ≤ n) : Db w A k c (Ds.take k) :=
  ⟨by rw [List.length_take]; have := h.len; omega, by have := h.cap; omega, h.top, h.nil, fun d hd => h.dig d (List.mem_of_mem_take hd), fun i d hd => h.cells i d (by
    have hl := (List.getElem?_eq_some_iff.1 hd).1
    rw [List.getElem?_take_of_lt (by rw [List.length_take] at hl; omega)] at hd
    exact hd)⟩
theorem Db.some_ {w : World} {A : Option Addr} {n c : Nat} {Ds : List (List Nat)} (h : Db w A n c Ds) (hn : 0 < n) : ∃ g o, A = some ⟨g, o, none⟩ := by
  have hl := h.len
  obtain ⟨g, o, e, _⟩ := h.cells 0 (Ds[0]'(by omega)) (List.getElem?_eq_getElem _)
  exact ⟨g, o, e⟩
theorem OwD.db {w : World} {base : Nat} {v : Value} {n : Nat} {Ds : List (List Nat)} (h : OwD w base v n Ds) (hb : ∀ d ∈ Ds, ∀ x ∈ d, x < 256) : ∃ A c, v = .slice A n c ∧ Db w A n c Ds := by
  have hlen : n = Ds.length := by
    have := h.1.1
    unfold celD at this
    rw [celB_length, List.length_flatten, List.map_congr_left (g := fun _ => 32) (fun d hd => h.2 d hd), List.map_const', List.sum_replicate_nat] at this
    omega
  rcases h.1.2 with ⟨rfl, rfl⟩ | ⟨g, cap, cur, rfl, hbs, hgg, h1, h2, _⟩
  · obtain rfl : Ds = [] := List.length_eq_zero_iff.1 hlen.symm
    exact ⟨none, 0, rfl, ⟨rfl, Nat.le_refl _, Nat.zero_le _, fun _ => rfl, fun d hd => (by cases hd), fun i d hd => (by cases i <;> cases hd)⟩⟩
  · unfold maxLen at h2
    exact ⟨_, cap, rfl, ⟨hlen, h1, by omega, (fun e => by cases e), fun d hd => ⟨h.2 d hd, hb d hd⟩, fun i d hd => ⟨g, 0, rfl, by rw [Nat.zero_add]; exact h.range hd⟩⟩⟩
theorem consumer_any (A : Option Addr) (n c : Nat) (w : World) :
    Calls Tryd.prog 56 #[.slice A n c] w fun e w' => e = .returned (.func (.func 96) #[] #[.pointer (some ⟨w.heap.size, 0, none⟩)]) ∧ w' = w.alloc (.cells #[.slice A n c] 26) := by
  go_enter Tryd.func56, Tryd.ntmps56
  go_wp2
  go_ret
  exact ⟨rfl, rfl⟩
theorem exec_loadL {ev : Operand → Value} {o : Oper} {p : Operand} {w : World} (b : Nat) {A : Option Addr} {n c : Nat} (h : One w b 26 (.slice A n c)) (ho : o.op = .load 26 p) (hp : ev p = .pointer (some ⟨b, 0, none⟩)) :
    (execOp ev o).run Tryd.prog w = .ok (.value (.slice A n c)) w := by
  have c0 := h.c
  unfold execOp
  rw [ho]
  simp only [hp]
  go_simp
theorem exec_idxM {ev : Operand → Value} {o : Oper} {x y : Operand} (w : World) (g k n c i : Nat) (hi : i < n) (ho : o.op = .indexAddr 26 x y) (hx : ev x = .slice (some ⟨g, k, none⟩) n c) (hy : ev y = .int .i64 ((i : Nat) : Int)) :
    (execOp ev o).run Tryd.prog w = .ok (.value (.pointer (some ⟨g, k + 32 * i, none⟩))) w := by
  have h0 : (0 : Int) ≤ (i : Int) := by omega
  have h1 : (i : Int) < (n : Int) := by omega
  have hm : i * 32 = 32 * i := Nat.mul_comm _ _
  unfold execOp
  simp only [ho, hx, hy]
  go_simp
  simp only [Tryd.sizeOf34, Result.andThen]
  first | rfl | rw [hm] | rw [hm, Addr.add_mid]
theorem exec_tail {ev : Operand → Value} {o : Oper} {x : Operand} (w : World) (g k n c : Nat) (hn : 1 ≤ n) (hc : n ≤ c) (ho : o.op = .slice 26 x (some (.const (.int .i64 1))) none none) (hx : ev x = .slice (some ⟨g, k, none⟩) n c) (hk : ev (.const (.int .i64 1)) = .int .i64 1) :
    (execOp ev o).run Tryd.prog w = .ok (.value (.slice (if c = 1 then some ⟨g, k, none⟩ else some ((⟨g, k, none⟩ : Addr).add (1 * 32))) (n - 1) (c - 1))) w := by
  have h0 : (1 : Int) ≤ (n : Int) := by omega
  have h1 : (1 : Int) ≤ (c : Int) := by omega
  have h2 : (n : Int) ≤ (c : Int) := by omega
  unfold execOp
  simp only [ho, hx]
  go_simp
  simp only [Tryd.sizeOf34, Result.andThen]
set_option maxHeartbeats 1000000 in
theorem consumer1_any (x : Nat) (A : Option Addr) (n c : Nat) (d : List Nat) (Ds : List (List Nat)) (w : World) (hx : One w x 26 (.slice A n c)) (h : Db w A n c (d :: Ds)) :
    Calls Tryd.prog 96 #[.pointer (some ⟨x, 0, none⟩)] w fun e w' => e = .returned (.agg (celB d).toArray) ∧ Below x w w' ∧ SameX x w w' ∧ ∃ A' n' c', One w' x 26 (.slice A' n' c') ∧ ∀ X, Db X A n c (d :: Ds) → Db X A' n' c' Ds := by
  have hlen := h.len
  rw [List.length_cons] at hlen
  obtain ⟨g, o, rfl⟩ := h.some_ (by omega)
  have hcap := h.cap
  obtain ⟨hd32, hdb⟩ := h.dig d List.mem_cons_self
  have hxl := hx.lt
  obtain ⟨g', o', e, hr⟩ := h.cells 0 d rfl
  injection e with e
  injection e with e1 e2
  subst e1 e2
  have hgx := range_ne hr hd32 hx (fun z e => by cases e)
  have hDd : ∀ X, Db X (some ⟨g, o, none⟩) n c (d :: Ds) → Db X (if c = 1 then some ⟨g, o, none⟩ else some ((⟨g, o, none⟩ : Addr).add (1 * 32))) (n - 1) (c - 1) Ds := fun X hX => by
    have := hX.drop (k := 1) (by omega)
    rwa [List.drop_one, List.tail_cons] at this
  have HX := Lib.hid hx
  have HR := Lib.hid hr
  have HDD := Lib.hid hDd
  clear h hx hr hDd
  go_enter Tryd.func96, Tryd.ntmps96
  go_upto_region 1 with fail
  refine wp_named1 (fun w1 hb1 g0 hlt1 => ?_)
  have H0 : Hid (RowB w1 34 w.heap.size (List.replicate 32 0)) := Lib.hid g0
  have HB1 := Lib.hid hb1
  have HX1 := Lib.hid (HX.out.keep hb1)
  clear g0 hb1
  refine wp_region_lit ?_
  refine wpList_val rfl (.slice (some ⟨g, o, none⟩) n c) w1 (exec_loadL x HX1.out rfl rfl) ?_
  simp only [Act.put, List.setIfInBounds_toArray, List.set_cons_zero, List.set_cons_succ]
  refine wpList_val rfl (.pointer (some ⟨g, o + 32 * 0, none⟩)) w1 (exec_idxM w1 g o n c 0 (by omega) rfl rfl rfl) ?_
  simp only [Act.put, List.setIfInBounds_toArray, List.set_cons_zero, List.set_cons_succ]
  refine wpList_val rfl (.agg (celB d).toArray) w1 (exec_loadM g (o + 32 * 0) hd32 (rangeAt_keep HR.out HB1.out) rfl rfl) ?_
  simp only [Act.put, List.setIfInBounds_toArray, List.set_cons_zero, List.set_cons_succ]
  refine wpList_val rfl (ptr w1.heap.size) (w1.alloc (.cells z32 34)) (run_allocD _ _ w1 rfl) ?_
  simp only [Act.put, List.setIfInBounds_toArray, List.set_cons_zero, List.set_cons_succ]
  have H1 : Hid (RowB (w1.alloc (.cells z32 34)) 34 w1.heap.size (List.replicate 32 0)) := Lib.hid (heap_new w1 _)
  have hb2 : Below w1.heap.size w1 (w1.alloc (.cells z32 34)) := (Below.refl _ _).alloc (Nat.le_refl _) _
  refine wpList_skip0 rfl _ (exec_storeD hd32 List.length_replicate H1.out rfl rfl rfl) ?_
  refine wpList_nil ?_
  simp only [Act.put]
  have HB3 := Lib.hid (bel_setRow (hb2) (Nat.le_refl _) (celB d).toArray)
  have H13 := Lib.hid (H1.out.row d)
  clear H1 hb2
  generalize (w1.alloc (.cells z32 34)).setRow w1.heap.size (celB d).toArray = w3 at *
  have HX3 := Lib.hid (HX1.out.keep HB3.out)
  have H03 := Lib.hid (H0.out.keep HB3.out)
  have HBw3 := Lib.hid (bel_step HB1.out HB3.out)
  clear HX1 H0
  go_upto_region 2 with fail
  refine wp_region_lit ?_
  refine wpList_val rfl (.slice (some ⟨g, o, none⟩) n c) w3 (exec_loadL x HX3.out rfl rfl) ?_
  simp only [Act.put, List.setIfInBounds_toArray, List.set_cons_zero, List.set_cons_succ]
  refine wpList_val rfl _ w3 (exec_tail w3 g o n c (by omega) hcap rfl rfl rfl) ?_
  simp only [Act.put, List.setIfInBounds_toArray, List.set_cons_zero, List.set_cons_succ]
  obtain ⟨A2, hA2⟩ : ∃ A2, (if c = 1 then some ⟨g, o, none⟩ else some ((⟨g, o, none⟩ : Addr).add (1 * 32))) = A2 := ⟨_, rfl⟩
  have hDd := HDD.out
  rw [hA2] at hDd ⊢
  clear hA2
  refine wpList_skip0 rfl _ (run_storeDs x _ ⟨_, _, _, rfl⟩ rfl rfl rfl HX3.out) ?_
  refine wpList_nil ?_
  simp only [Act.put]
  have hxw : x < w.heap.size := hxl
  have HX4 := Lib.hid (HX3.out.set (.slice A2 (n - 1) (c - 1)))
  have H04 : Hid (RowB (w3.setCell ⟨x, 0, none⟩ (.slice A2 (n - 1) (c - 1))) 34 w.heap.size (List.replicate 32 0)) := Lib.hid ((Below.heap_setCell w3 _ _ _ (by show w.heap.size ≠ x; omega)).trans H03.out)
  have H14 : Hid (RowB (w3.setCell ⟨x, 0, none⟩ (.slice A2 (n - 1) (c - 1))) 34 w1.heap.size d) := Lib.hid ((Below.heap_setCell w3 _ _ _ (by show w1.heap.size ≠ x; omega)).trans H13.out)
  have HS4 := Lib.hid (show SameX x w (w3.setCell ⟨x, 0, none⟩ (.slice A2 (n - 1) (c - 1))) from ⟨by have := HBw3.out.size; simpa [World.setCell] using this, fun b hb hbx => (Below.heap_setCell w3 _ _ _ hbx).trans (HBw3.out.block b hb)⟩)
  have HB4 := Lib.hid ((HBw3.out.mono (by omega)).setCell (show x ≤ (⟨x, 0, none⟩ : Addr).block from Nat.le_refl _) (.slice A2 (n - 1) (c - 1)))
  clear HX3 H03 H13 HBw3 HB3
  generalize w3.setCell ⟨x, 0, none⟩ (.slice A2 (n - 1) (c - 1)) = w4 at *
  go_upto_region 3 with fail
  refine wp_region_lit ?_
  refine wpList_val rfl (.agg (celB d).toArray) w4 (exec_loadD hd32 H14.out rfl rfl) ?_
  simp only [Act.put, List.setIfInBounds_toArray, List.set_cons_zero, List.set_cons_succ]
  refine wpList_skip0 rfl _ (exec_storeD hd32 List.length_replicate H04.out rfl rfl rfl) ?_
  refine wpList_nil ?_
  simp only [Act.put]
  have HX5 : One (w4.setRow w.heap.size (celB d).toArray) x 26 (.slice A2 (n - 1) (c - 1)) := (row_far (by omega) _).trans HX4.out
  have HS5 : SameX x w (w4.setRow w.heap.size (celB d).toArray) := ⟨by have := HS4.out.1; simpa [World.setRow] using this, fun b hb hbx => (row_far (by omega) _).trans (HS4.out.2 b hb hbx)⟩
  go_wp2_with fail
  refine bodyPost_ret (v := .agg (celB d).toArray) ?_ rfl ⟨rfl, bel_setRow HB4.out (by omega) _, HS5, A2, n - 1, c - 1, HX5, ?_⟩
  · exact results_cell_row rfl _ _ w.heap.size 34 _ (0, 0) _ rfl (H04.out.row d) Tryd.underlying34 rfl (dig_size hd32)
  · first | exact hDd | (intro X hX; exact hDd X (by rw [hlen]; exact hX))
end Go.Proofs.YtgkojdbepgonkaaDoor
