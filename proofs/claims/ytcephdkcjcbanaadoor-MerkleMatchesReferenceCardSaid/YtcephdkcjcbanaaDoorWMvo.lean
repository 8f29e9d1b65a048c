/- The reference's closed: own lists of subtrees. -/
import Derived.Test.YtcephdkcjcbanaaDoorH23
import Derived.Laws.AppendOwnNone
namespace Go.Proofs.YtcephdkcjcbanaaDoor
set_option maxRecDepth 8000
set_option linter.unusedVariables false
set_option linter.unusedSimpArgs false
open Go.RowKit
attribute [local simp] z32_ne z32_run
attribute [-simp] Tryd.zeroValue31 Tryd.isAgg31 Tryd.sizeOf31
theorem max_info : (Tryd.prog.info? 75).map (fun i => (i.zero, i.size, i.bytes)) = some (some (.agg #[.int .i64 0, .int .i64 0]), 2, 16) := by kernel_rfl
def celM (xs : List (Nat × Nat)) : List Value := xs.flatMap fun x => [Value.int .i64 (x.1 : Int), .int .i64 ((x.1 + x.2 : Nat) : Int)]
theorem celM_append (xs ys : List (Nat × Nat)) : celM (xs ++ ys) = celM xs ++ celM ys := by unfold celM; simp
theorem celM_len : ∀ xs : List (Nat × Nat), (celM xs).length = xs.length * 2
  | [] => rfl
  | x :: xs => by
    show ([Value.int .i64 (x.1 : Int), .int .i64 ((x.1 + x.2 : Nat) : Int)] ++ celM xs).length = _
    rw [List.length_append, celM_len xs]
    simp
    omega
theorem celM_one {xs : List (Nat × Nat)} {u : Value} (h : u ∈ celM xs) : u.oneCell' = true := by
  unfold celM at h
  obtain ⟨x, _, hx⟩ := List.mem_flatMap.1 h
  rcases List.mem_cons.1 hx with rfl | hx
  · rfl
  · rw [List.mem_singleton.1 hx]; rfl
theorem celM_get : ∀ {xs : List (Nat × Nat)} {i : Nat} {x : Nat × Nat}, xs[i]? = some x → (celM xs)[2 * i]? = some (Value.int .i64 (x.1 : Int)) ∧ (celM xs)[2 * i + 1]? = some (Value.int .i64 ((x.1 + x.2 : Nat) : Int))
  | y :: xs, 0, x, h => by
    injection h with h
    subst h
    exact ⟨rfl, rfl⟩
  | y :: xs, i + 1, x, h => by
    have := celM_get (xs := xs) (i := i) (by simpa using h)
    show ([_, _] ++ celM xs)[2 * (i + 1)]? = _ ∧ ([_, _] ++ celM xs)[2 * (i + 1) + 1]? = _
    rw [show 2 * (i + 1) = 2 * i + 2 by omega, show 2 * i + 2 + 1 = 2 * i + 1 + 2 by omega]
    simpa using this
def OwM (w : World) (base : Nat) (v : Value) (n : Nat) (xs : List (Nat × Nat)) : Prop := w.ownsRow base 75 2 v n (celM xs)
theorem OwM.len {w : World} {base : Nat} {v : Value} {n : Nat} {xs : List (Nat × Nat)} (h : OwM w base v n xs) : n = xs.length := by
  have := h.1
  rw [celM_len] at this
  omega
theorem OwM.keep {w w' : World} {base : Nat} {v : Value} {n : Nat} {xs : List (Nat × Nat)} (h : OwM w base v n xs) (hb : Below w.heap.size w w') : OwM w' base v n xs := by
  refine ⟨h.1, ?_⟩
  rcases h.2 with hn | ⟨g, cap, cur, rfl, hbs, hgg, rest⟩
  · exact .inl hn
  · exact .inr ⟨g, cap, cur, rfl, hbs, heap_keep hgg hb, rest⟩
theorem OwM.lower {w : World} {base b2 : Nat} {v : Value} {n : Nat} {xs : List (Nat × Nat)} (h : OwM w base v n xs) (hb : b2 ≤ base) : OwM w b2 v n xs := by
  refine ⟨h.1, ?_⟩
  rcases h.2 with hn | ⟨g, cap, cur, rfl, hbs, rest⟩
  · exact .inl hn
  · exact .inr ⟨g, cap, cur, rfl, Nat.le_trans hb hbs, rest⟩
theorem OwM.nil (w : World) (base : Nat) : OwM w base (.slice none 0 0) 0 [] := World.ownsRow_nil w _ _ _
theorem OwM.one {w : World} {base b : Nat} (f s : Nat) (h : w.heap[b]? = some (.cells #[.int .i64 (f : Int), .int .i64 ((f + s : Nat) : Int)] 75 (0, 0))) (hb : base ≤ b) : OwM w base (.slice (some ⟨b, 0, none⟩) 1 1) 1 [(f, s)] :=
  ⟨rfl, .inr ⟨b, 1, _, rfl, hb, h, Nat.le_refl _, by decide, rfl, rfl⟩⟩
theorem OwM.below {w w' : World} {base : Nat} {v : Value} {n : Nat} {xs : List (Nat × Nat)} (h : OwM w base v n xs) (hg : w.grownBy w' v.ownBlock) (hbase : base ≤ w.heap.size) : Below base w w' :=
  ⟨hg.os, hg.tape, hg.output, hg.size, fun k hk => hg.block k (by omega) (fun e => by have := (World.ownsRow.lt h k e.symm).1; omega)⟩
theorem hOp_appendM {o : Oper} {a : Act} {w : World} {K : Value → World → Prop} (s x : Operand)
    (ho : o.op = .call { callee := .builtin .append, args := #[s, x], argTypes := #[72, 72] }) (base b2 : Nat) (v v2 : Value) (n m : Nat) (xs ys : List (Nat × Nat)) (hs : a.eval s = v) (hown : OwM w base v n xs) (hx : a.eval x = v2) (hown2 : OwM w b2 v2 m ys) (hn : n + m ≤ 70000) (hbase : base ≤ w.heap.size)
    (h : ∀ v' w', OwM w' base v' (n + m) (xs ++ ys) → Below base w w' → K v' w') : hOp Tryd.prog o K a w := by
  obtain ⟨i, hi, hz, hs2, hb⟩ := info_parts max_info
  rcases hown2.2 with ⟨rfl, rfl⟩ | ⟨g, cap, cur, rfl, hbs, hgg, h1, h2, h3, h4⟩
  · have hys : ys = [] := List.length_eq_zero_iff.1 hown2.len.symm
    subst hys
    have hrun := run_append_owned_none (P := Tryd.prog) (w := w) base 72 o.type 75 i 2 Tryd.underlying72 hi v n (celM xs) hown
    unfold hOp
    simp [execOp, ho, resolve, invoke, builtin, hs, hx, hrun, Result.andThen]
    rw [List.append_nil] at h
    exact h v w hown (Below.refl _ _)
  · have hcl : (celM ys).length = m * 2 := hown2.1
    obtain ⟨v', w', hrun, hown', hg, _⟩ := run_append_own (P := Tryd.prog) w base 72 o.type 75 i (.agg #[.int .i64 0, .int .i64 0]) 2 16 Tryd.underlying72 hi hz hs2 hb rfl (by omega) v n (celM xs) hown ⟨g, 0, none⟩ m cap (celM ys) hcl
      (fun j u hj => by
        have hjl := (List.getElem?_eq_some_iff.1 hj).1
        rw [ad_base]
        rw [← h4, List.getElem?_take_of_lt (by omega)] at hj
        simpa [World.cell?, hgg] using hj) (fun u hu => celM_one hu) (by unfold maxLen; omega) (by omega) hbase
    unfold hOp
    simp [execOp, ho, resolve, invoke, builtin, hs, hx, hrun, Result.andThen]
    refine h v' w' ?_ (hown.below hg hbase)
    unfold OwM
    rw [celM_append]
    exact hown'
set_option maxHeartbeats 4000000 in
theorem rclosed_any : ∀ (K f s : Nat) (A : Option Addr) (n c : Nat) (is : List Int) (w : World) (_ : Ib w A n c is) (_ : is.Pairwise (· < ·)) (_ : s ≤ K) (_ : 1 ≤ s) (_ : f + s ≤ 65536) (h : Nat) (_ : h = f + s),
    Calls Tryd.prog 41 #[.slice A n c, .int .i64 (f : Int), .int .i64 (h : Int)] w fun e w' => ∃ v, e = .returned v ∧ OwM w' w.heap.size v (closedN f s (slN is (f : Int) ((f + s : Nat) : Int))).length (closedN f s (slN is (f : Int) ((f + s : Nat) : Int))) ∧ Below w.heap.size w w' := by
  intro K
  induction K with
  | zero => intro f s A n c is w _ _ h1 h2; omega
  | succ K ih =>
    intro f s A n c is w hI hpw hK hs1 hfs h hh
    have HI := Lib.hid hI
    have HPW := Lib.hid hpw
    have IH := Lib.hid ih
    have HH := Lib.hid hh
    have hsub : IntKind.i64.wrap ((h : Int) - (f : Int)) = (s : Int) := by rw [IntKind.wrap_i64]; omega
    have HW := Lib.hid (withinN_sl is (f : Int) ((f + s : Nat) : Int))
    have hhh : h ≤ 65536 := by omega
    have hff : f + s ≤ 65536 := hfs
    clear hI hpw ih hfs hh
    obtain ⟨X, hX⟩ : ∃ X, slN is (f : Int) ((f + s : Nat) : Int) = X := ⟨_, rfl⟩
    have HX := Lib.hid hX
    rw [hX] at HW ⊢
    obtain ⟨q, hq⟩ : ∃ q, withinN is (f : Int) ((f + s : Nat) : Int) = q := ⟨_, rfl⟩
    have HQ := Lib.hid hq
    rw [hq] at HW
    clear hX hq
    go_enter Tryd.func41, Tryd.ntmps41
    go_wp2_with fail
    refine (within_any A n c is (f : Int) (h : Int) w HI.out).mono ?_
    rintro e W0 ⟨rfl, rfl⟩
    rw [show withinN is (f : Int) (h : Int) = q by rw [← HQ.out, HH.out]]
    by_cases h0 : q = 0
    · subst h0
      have hXe : X = [] := List.length_eq_zero_iff.1 HW.out.symm
      have h00 : (((0 : Nat) : Int) = 0) := rfl
      have HC := Lib.hid (show closedN f s X = [(f, s)] by rw [hXe]; exact closedN_nil f hs1)
      clear hXe
      go_wp2_with fail
      go_ret
      refine ⟨_, rfl, ?_, (Below.refl _ _).alloc (Nat.le_refl _) _⟩
      rw [HC.out]
      refine OwM.one f s ?_ (Nat.le_refl _)
      rw [← HH.out]
      exact heap_new W0 _
    · have h0' : ¬ ((q : Int) = 0) := by omega
      have HNE := Lib.hid (show X ≠ [] from fun e => by have := HW.out; rw [e] at this; exact h0 this)
      by_cases h1 : s = 1
      · subst h1
        have h11 : (((1 : Nat) : Int) = 1) := rfl
        have HC := Lib.hid (closedN_one f HNE.out)
        go_wp2_with fail
        go_ret
        refine ⟨_, rfl, ?_, Below.refl _ _⟩
        rw [HC.out]
        exact OwM.nil _ _
      · have h1' : ¬ ((s : Int) = 1) := by omega
        go_wp2_with fail
        refine (split_any s W0 (by omega) (by omega)).mono ?_
        rintro e W9 ⟨rfl, rfl⟩
        obtain ⟨k, hk⟩ : ∃ k, leftN s = k := ⟨_, rfl⟩
        have hk1 : 1 ≤ k := by rw [← hk]; exact leftN_pos s
        have hkn : k < s := by rw [← hk]; exact leftN_lt (by omega)
        have HCL := Lib.hid (show closedN f s X = closedN f k (slN is (f : Int) ((f + k : Nat) : Int)) ++ closedN (f + k) (s - k) (slN is ((f + k : Nat) : Int) ((f + k + (s - k) : Nat) : Int)) by
          have h5 := closedN_sl (f := f) (s := s) HPW.out (by omega) (by rw [HX.out]; exact HNE.out)
          rw [HX.out, hk] at h5
          rw [h5, show f + k + (s - k) = f + s by omega])
        rw [hk]
        have hadd : IntKind.i64.wrap ((f : Int) + (k : Int)) = ((f + k : Nat) : Int) := by rw [IntKind.wrap_i64]; omega
        clear hk
        obtain ⟨xs, hxs⟩ : ∃ xs, closedN f k (slN is (f : Int) ((f + k : Nat) : Int)) = xs := ⟨_, rfl⟩
        obtain ⟨ys, hys⟩ : ∃ ys, closedN (f + k) (s - k) (slN is ((f + k : Nat) : Int) ((f + k + (s - k) : Nat) : Int)) = ys := ⟨_, rfl⟩
        have hxl : xs.length ≤ k := by rw [← hxs]; exact closedN_len k hk1 _ _
        have hyl : ys.length ≤ s - k := by rw [← hys]; exact closedN_len _ (by omega) _ _
        have HXS := Lib.hid hxs
        have HYS := Lib.hid hys
        have HCL2 := Lib.hid (show closedN f s X = xs ++ ys by rw [HCL.out, hxs, hys])
        clear hxs hys HCL
        go_wp2_with fail
        refine (IH.out f k A n c is W9 HI.out HPW.out (by omega) hk1 (by omega) (f + k) rfl).mono ?_
        rintro e W1 ⟨v1, rfl, ho1, hb1⟩
        rw [HXS.out] at ho1
        have HO1 := Lib.hid ho1
        have HB1 := Lib.hid hb1
        clear ho1 hb1
        go_upto_region 7 with fail
        refine wp_region_lit ?_
        refine wpList_val rfl v1 W1 rfl ?_
        simp only [Act.put, List.setIfInBounds_toArray, List.set_cons_zero, List.set_cons_succ]
        refine wpList_val rfl (.slice A n c) W1 rfl ?_
        simp only [Act.put, List.setIfInBounds_toArray, List.set_cons_zero, List.set_cons_succ]
        refine wpList_val rfl (.int .i64 ((f + k : Nat) : Int)) W1 rfl ?_
        simp only [Act.put, List.setIfInBounds_toArray, List.set_cons_zero, List.set_cons_succ]
        refine wpList_val rfl (.int .i64 (h : Int)) W1 rfl ?_
        simp only [Act.put, List.setIfInBounds_toArray, List.set_cons_zero, List.set_cons_succ]
        refine wpList_call (by kernel_rfl) 41 Tryd.func41 (by kernel_rfl) (by kernel_rfl) _ _ #[.slice A n c, .int .i64 ((f + k : Nat) : Int), .int .i64 (h : Int)] rfl (by kernel_rfl) ?_
        refine (IH.out (f + k) (s - k) A n c is W1 (HI.out.keep HB1.out) HPW.out (by omega) (by omega) (by omega) h (by rw [HH.out]; omega)).mono ?_
        rintro e W2 ⟨v2, rfl, ho2, hb2⟩
        rw [HYS.out] at ho2
        have HO2 := Lib.hid ho2
        have HO12 := Lib.hid (HO1.out.keep hb2)
        have HB2 := Lib.hid (bel_step HB1.out hb2)
        clear ho2 hb2
        refine ⟨_, rfl, ?_⟩
        simp only [Act.put, List.setIfInBounds_toArray, List.set_cons_zero, List.set_cons_succ]
        refine wpList_op (by kernel_rfl) ?_
        refine hOp_appendM (.tmp 32) (.tmp 36) rfl W9.heap.size W1.heap.size v1 v2 _ _ xs ys rfl HO12.out rfl HO2.out (by omega) HB2.out.size ?_
        intro v3 W3 ho3 hb3
        have HO3 := Lib.hid ho3
        have HB3 := Lib.hid (HB2.out.trans hb3)
        clear ho3 hb3
        simp only [Act.put, List.setIfInBounds_toArray, List.set_cons_zero, List.set_cons_succ]
        refine wpList_val rfl v3 W3 rfl ?_
        simp only [Act.put, List.setIfInBounds_toArray, List.set_cons_zero, List.set_cons_succ]
        refine wpList_nil ?_
        go_wp2_with fail
        go_ret
        refine ⟨v3, rfl, ?_, HB3.out⟩
        rw [HCL2.out, List.length_append]
        exact HO3.out
end Go.Proofs.YtcephdkcjcbanaaDoor
