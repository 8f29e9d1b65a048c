/- Several texts in one: Mvd, Mvo, Mvp, Mvk, Mvq. -/
import Derived.Test.YtgkojdbepgonkaaDoorH22
import Derived.Laws.AppendOwnNone
/- What the laws of stage 8 need besides the contracts. -/
namespace Go.Proofs.YtgkojdbepgonkaaDoor
set_option maxRecDepth 8000
set_option linter.unusedVariables false
set_option linter.unusedSimpArgs false
open Go.RowKit
attribute [local simp] z32_ne z32_run
attribute [-simp] Tryd.zeroValue34 Tryd.isAgg34 Tryd.sizeOf34
theorem idxN_pw (n bits : Nat) : (idxN n bits).Pairwise (· < ·) := by
  unfold idxN
  rw [List.pairwise_map]
  refine (List.Pairwise.sublist List.filter_sublist List.pairwise_lt_range).imp ?_
  intro a b h
  omega
theorem idxN_in (n bits : Nat) : ∀ x ∈ idxN n bits, 0 ≤ x ∧ x < (n : Int) := by
  unfold idxN
  intro x hx
  obtain ⟨i, hi, rfl⟩ := List.mem_map.1 hx
  have := List.mem_range.1 (List.mem_filter.1 hi).1
  omega
theorem idxN_inc (n bits : Nat) : incF 0 (n : Int) (idxN n bits) = true := incF_of_pw (idxN_pw n bits) (idxN_in n bits)
theorem ver_honest {ml : List (List Nat)} {m : Nat} {is : List Int} (hl : ml.length = m) (h1 : 1 ≤ m) (h2 : m ≤ 65536) (hinc : incF 0 (m : Int) is = true) :
    verN (rootN ml) (m : Int) is (is.map fun z => ml.getD z.toNat []) (digsN ml (closedN 0 m is)) = 0 := by
  unfold verN
  rw [if_neg (by omega), if_neg (by rw [hinc]; simp), if_neg (by simp), if_neg (by omega), Int.toNat_natCast, if_neg (by unfold digsN; simp)]
  have h := reb_honest (Ls := ml) m h1 0 is [] (by omega) (InS.of_inc hinc)
  rw [List.append_nil] at h
  rw [h, if_neg]
  unfold subL
  rw [List.drop_zero, List.take_of_length_le (by omega)]
  simp
theorem Pb.dropTo {w : World} {ad : Addr} {n c k : Nat} {Ps : List (List Nat)} (h : Pb w (some ad) n c Ps) (hk : k < n) (hc : n ≤ c) : Pb w (some (ad.add k)) (n - k) (c - k) (Ps.drop k) := by
  have := h.drop (k := k) (by omega)
  rwa [if_neg (by omega)] at this
theorem run_neD_same (xs : List Nat) (hx : xs.length = 32) (bx : ∀ x ∈ xs, x < 256) (w : World) :
    (binOp .neq 34 (.agg (celB xs).toArray) (.agg (celB xs).toArray)).run Tryd.prog w = .ok (.bool false) w := by
  rw [run_neD w xs xs hx hx bx bx, decide_eq_true rfl]
  rfl
end Go.Proofs.YtgkojdbepgonkaaDoor

/- The reference's closed: own lists of subtrees. -/
namespace Go.Proofs.YtgkojdbepgonkaaDoor
set_option linter.unusedVariables false
set_option linter.unusedSimpArgs false
set_option maxRecDepth 8000
open Go.RowKit
attribute [local simp] z32_ne z32_run
attribute [-simp] Tryd.zeroValue34 Tryd.isAgg34 Tryd.sizeOf34
theorem max_info : (Tryd.prog.info? 140).map (fun i => (i.zero, i.size, i.bytes)) = some (some (.agg #[.int .i64 0, .int .i64 0]), 2, 16) := by kernel_rfl
def celM (xs : List (Nat × Nat)) : List Value := xs.flatMap fun x => [Value.int .i64 (x.1 : Int), .int .i64 ((x.1 + x.2 : Nat) : Int)]
theorem celM_append (xs ys : List (Nat × Nat)) : celM (xs ++ ys) = celM xs ++ celM ys := by unfold celM; simp
theorem celM_len : ∀ xs : List (Nat × Nat), (celM xs).length = xs.length * 2
  | [] => rfl
  | x :: xs => by
    show ([Value.int .i64 (x.1 : Int), .int .i64 ((x.1 + x.2 : Nat) : Int)] ++ celM xs).length = _
    rw [List.length_append, celM_len xs]
    simp
    omega
theorem celM_one {xs : List (Nat × Nat)} {u : Value} (h : u ∈ celM xs) : u.oneCell' = true := by
  unfold celM at h
  obtain ⟨x, _, hx⟩ := List.mem_flatMap.1 h
  rcases List.mem_cons.1 hx with rfl | hx
  · rfl
  · rw [List.mem_singleton.1 hx]; rfl
theorem celM_get : ∀ {xs : List (Nat × Nat)} {i : Nat} {x : Nat × Nat}, xs[i]? = some x → (celM xs)[2 * i]? = some (Value.int .i64 (x.1 : Int)) ∧ (celM xs)[2 * i + 1]? = some (Value.int .i64 ((x.1 + x.2 : Nat) : Int))
  | y :: xs, 0, x, h => by
    injection h with h
    subst h
    exact ⟨rfl, rfl⟩
  | y :: xs, i + 1, x, h => by
    have := celM_get (xs := xs) (i := i) (by simpa using h)
    show ([_, _] ++ celM xs)[2 * (i + 1)]? = _ ∧ ([_, _] ++ celM xs)[2 * (i + 1) + 1]? = _
    rw [show 2 * (i + 1) = 2 * i + 2 by omega, show 2 * i + 2 + 1 = 2 * i + 1 + 2 by omega]
    simpa using this
def OwM (w : World) (base : Nat) (v : Value) (n : Nat) (xs : List (Nat × Nat)) : Prop := w.ownsRow base 140 2 v n (celM xs)
theorem OwM.len {w : World} {base : Nat} {v : Value} {n : Nat} {xs : List (Nat × Nat)} (h : OwM w base v n xs) : n = xs.length := by
  have := h.1
  rw [celM_len] at this
  omega
theorem OwM.keep {w w' : World} {base : Nat} {v : Value} {n : Nat} {xs : List (Nat × Nat)} (h : OwM w base v n xs) (hb : Below w.heap.size w w') : OwM w' base v n xs := by
  refine ⟨h.1, ?_⟩
  rcases h.2 with hn | ⟨g, cap, cur, rfl, hbs, hgg, rest⟩
  · exact .inl hn
  · exact .inr ⟨g, cap, cur, rfl, hbs, heap_keep hgg hb, rest⟩
theorem OwM.lower {w : World} {base b2 : Nat} {v : Value} {n : Nat} {xs : List (Nat × Nat)} (h : OwM w base v n xs) (hb : b2 ≤ base) : OwM w b2 v n xs := by
  refine ⟨h.1, ?_⟩
  rcases h.2 with hn | ⟨g, cap, cur, rfl, hbs, rest⟩
  · exact .inl hn
  · exact .inr ⟨g, cap, cur, rfl, Nat.le_trans hb hbs, rest⟩
theorem OwM.nil (w : World) (base : Nat) : OwM w base (.slice none 0 0) 0 [] := World.ownsRow_nil w _ _ _
theorem OwM.one {w : World} {base b : Nat} (f s : Nat) (h : w.heap[b]? = some (.cells #[.int .i64 (f : Int), .int .i64 ((f + s : Nat) : Int)] 140 (0, 0))) (hb : base ≤ b) : OwM w base (.slice (some ⟨b, 0, none⟩) 1 1) 1 [(f, s)] :=
  ⟨rfl, .inr ⟨b, 1, _, rfl, hb, h, Nat.le_refl _, by decide, rfl, rfl⟩⟩
theorem OwM.below {w w' : World} {base : Nat} {v : Value} {n : Nat} {xs : List (Nat × Nat)} (h : OwM w base v n xs) (hg : w.grownBy w' v.ownBlock) (hbase : base ≤ w.heap.size) : Below base w w' :=
  ⟨hg.os, hg.tape, hg.output, hg.size, fun k hk => hg.block k (by omega) (fun e => by have := (World.ownsRow.lt h k e.symm).1; omega)⟩
theorem hOp_appendM {o : Oper} {a : Act} {w : World} {K : Value → World → Prop} (s x : Operand)
    (ho : o.op = .call { callee := .builtin .append, args := #[s, x], argTypes := #[100, 100] }) (base b2 : Nat) (v v2 : Value) (n m : Nat) (xs ys : List (Nat × Nat)) (hs : a.eval s = v) (hown : OwM w base v n xs) (hx : a.eval x = v2) (hown2 : OwM w b2 v2 m ys) (hn : n + m ≤ 70000) (hbase : base ≤ w.heap.size)
    (h : ∀ v' w', OwM w' base v' (n + m) (xs ++ ys) → Below base w w' → K v' w') : hOp Tryd.prog o K a w := by
  obtain ⟨i, hi, hz, hs2, hb⟩ := info_parts max_info
  rcases hown2.2 with ⟨rfl, rfl⟩ | ⟨g, cap, cur, rfl, hbs, hgg, h1, h2, h3, h4⟩
  · have hys : ys = [] := List.length_eq_zero_iff.1 hown2.len.symm
    subst hys
    have hrun := run_append_owned_none (P := Tryd.prog) (w := w) base 100 o.type 140 i 2 Tryd.underlying100 hi v n (celM xs) hown
    unfold hOp
    simp [execOp, ho, resolve, invoke, builtin, hs, hx, hrun, Result.andThen]
    rw [List.append_nil] at h
    exact h v w hown (Below.refl _ _)
  · have hcl : (celM ys).length = m * 2 := hown2.1
    obtain ⟨v', w', hrun, hown', hg, _⟩ := run_append_own (P := Tryd.prog) w base 100 o.type 140 i (.agg #[.int .i64 0, .int .i64 0]) 2 16 Tryd.underlying100 hi hz hs2 hb rfl (by omega) v n (celM xs) hown ⟨g, 0, none⟩ m cap (celM ys) hcl
      (fun j u hj => by
        have hjl := (List.getElem?_eq_some_iff.1 hj).1
        rw [ad_base]
        rw [← h4, List.getElem?_take_of_lt (by omega)] at hj
        simpa [World.cell?, hgg] using hj) (fun u hu => celM_one hu) (by unfold maxLen; omega) (by omega) hbase
    unfold hOp
    simp [execOp, ho, resolve, invoke, builtin, hs, hx, hrun, Result.andThen]
    refine h v' w' ?_ (hown.below hg hbase)
    unfold OwM
    rw [celM_append]
    exact hown'
set_option maxHeartbeats 4000000 in
theorem rclosed_any : ∀ (K f s : Nat) (A : Option Addr) (n c : Nat) (is : List Int) (w : World) (_ : Ib w A n c is) (_ : is.Pairwise (· < ·)) (_ : s ≤ K) (_ : 1 ≤ s) (_ : f + s ≤ 65536) (h : Nat) (_ : h = f + s),
    Calls Tryd.prog 59 #[.slice A n c, .int .i64 (f : Int), .int .i64 (h : Int)] w fun e w' => ∃ v, e = .returned v ∧ OwM w' w.heap.size v (closedN f s (slN is (f : Int) ((f + s : Nat) : Int))).length (closedN f s (slN is (f : Int) ((f + s : Nat) : Int))) ∧ Below w.heap.size w w' := by
  intro K
  induction K with
  | zero => intro f s A n c is w _ _ h1 h2; omega
  | succ K ih =>
    intro f s A n c is w hI hpw hK hs1 hfs h hh
    have HI := Lib.hid hI
    have HPW := Lib.hid hpw
    have IH := Lib.hid ih
    have HH := Lib.hid hh
    have hsub : IntKind.i64.wrap ((h : Int) - (f : Int)) = (s : Int) := by rw [IntKind.wrap_i64]; omega
    have HW := Lib.hid (withinN_sl is (f : Int) ((f + s : Nat) : Int))
    have hhh : h ≤ 65536 := by omega
    have hff : f + s ≤ 65536 := hfs
    clear hI hpw ih hfs hh
    obtain ⟨X, hX⟩ : ∃ X, slN is (f : Int) ((f + s : Nat) : Int) = X := ⟨_, rfl⟩
    have HX := Lib.hid hX
    rw [hX] at HW ⊢
    obtain ⟨q, hq⟩ : ∃ q, withinN is (f : Int) ((f + s : Nat) : Int) = q := ⟨_, rfl⟩
    have HQ := Lib.hid hq
    rw [hq] at HW
    clear hX hq
    go_enter Tryd.func59, Tryd.ntmps59
    go_wp2_with fail
    refine (within_any A n c is (f : Int) (h : Int) w HI.out).mono ?_
    rintro e W0 ⟨rfl, rfl⟩
    rw [show withinN is (f : Int) (h : Int) = q by rw [← HQ.out, HH.out]]
    by_cases h0 : q = 0
    · subst h0
      have hXe : X = [] := List.length_eq_zero_iff.1 HW.out.symm
      have h00 : (((0 : Nat) : Int) = 0) := rfl
      have HC := Lib.hid (show closedN f s X = [(f, s)] by rw [hXe]; exact closedN_nil f hs1)
      clear hXe
      go_wp2_with fail
      go_ret
      refine ⟨_, rfl, ?_, (Below.refl _ _).alloc (Nat.le_refl _) _⟩
      rw [HC.out]
      refine OwM.one f s ?_ (Nat.le_refl _)
      rw [← HH.out]
      exact heap_new W0 _
    · have h0' : ¬ ((q : Int) = 0) := by omega
      have HNE := Lib.hid (show X ≠ [] from fun e => by have := HW.out; rw [e] at this; exact h0 this)
      by_cases h1 : s = 1
      · subst h1
        have h11 : (((1 : Nat) : Int) = 1) := rfl
        have HC := Lib.hid (closedN_one f HNE.out)
        go_wp2_with fail
        go_ret
        refine ⟨_, rfl, ?_, Below.refl _ _⟩
        rw [HC.out]
        exact OwM.nil _ _
      · have h1' : ¬ ((s : Int) = 1) := by omega
        go_wp2_with fail
        refine (split_any s W0 (by omega) (by omega)).mono ?_
        rintro e W9 ⟨rfl, rfl⟩
        obtain ⟨k, hk⟩ : ∃ k, leftN s = k := ⟨_, rfl⟩
        have hk1 : 1 ≤ k := by rw [← hk]; exact leftN_pos s
        have hkn : k < s := by rw [← hk]; exact leftN_lt (by omega)
        have HCL := Lib.hid (show closedN f s X = closedN f k (slN is (f : Int) ((f + k : Nat) : Int)) ++ closedN (f + k) (s - k) (slN is ((f + k : Nat) : Int) ((f + k + (s - k) : Nat) : Int)) by
          have h5 := closedN_sl (f := f) (s := s) HPW.out (by omega) (by rw [HX.out]; exact HNE.out)
          rw [HX.out, hk] at h5
          rw [h5, show f + k + (s - k) = f + s by omega])
        rw [hk]
        have hadd : IntKind.i64.wrap ((f : Int) + (k : Int)) = ((f + k : Nat) : Int) := by rw [IntKind.wrap_i64]; omega
        clear hk
        obtain ⟨xs, hxs⟩ : ∃ xs, closedN f k (slN is (f : Int) ((f + k : Nat) : Int)) = xs := ⟨_, rfl⟩
        obtain ⟨ys, hys⟩ : ∃ ys, closedN (f + k) (s - k) (slN is ((f + k : Nat) : Int) ((f + k + (s - k) : Nat) : Int)) = ys := ⟨_, rfl⟩
        have hxl : xs.length ≤ k := by rw [← hxs]; exact closedN_len k hk1 _ _
        have hyl : ys.length ≤ s - k := by rw [← hys]; exact closedN_len _ (by omega) _ _
        have HXS := Lib.hid hxs
        have HYS := Lib.hid hys
        have HCL2 := Lib.hid (show closedN f s X = xs ++ ys by rw [HCL.out, hxs, hys])
        clear hxs hys HCL
        go_wp2_with fail
        refine (IH.out f k A n c is W9 HI.out HPW.out (by omega) hk1 (by omega) (f + k) rfl).mono ?_
        rintro e W1 ⟨v1, rfl, ho1, hb1⟩
        rw [HXS.out] at ho1
        have HO1 := Lib.hid ho1
        have HB1 := Lib.hid hb1
        clear ho1 hb1
        go_upto_region 7 with fail
        refine wp_region_lit ?_
        refine wpList_val rfl v1 W1 rfl ?_
        simp only [Act.put, List.setIfInBounds_toArray, List.set_cons_zero, List.set_cons_succ]
        refine wpList_val rfl (.slice A n c) W1 rfl ?_
        simp only [Act.put, List.setIfInBounds_toArray, List.set_cons_zero, List.set_cons_succ]
        refine wpList_val rfl (.int .i64 ((f + k : Nat) : Int)) W1 rfl ?_
        simp only [Act.put, List.setIfInBounds_toArray, List.set_cons_zero, List.set_cons_succ]
        refine wpList_val rfl (.int .i64 (h : Int)) W1 rfl ?_
        simp only [Act.put, List.setIfInBounds_toArray, List.set_cons_zero, List.set_cons_succ]
        refine wpList_call (by kernel_rfl) 59 Tryd.func59 (by kernel_rfl) (by kernel_rfl) _ _ #[.slice A n c, .int .i64 ((f + k : Nat) : Int), .int .i64 (h : Int)] rfl (by kernel_rfl) ?_
        refine (IH.out (f + k) (s - k) A n c is W1 (HI.out.keep HB1.out) HPW.out (by omega) (by omega) (by omega) h (by rw [HH.out]; omega)).mono ?_
        rintro e W2 ⟨v2, rfl, ho2, hb2⟩
        rw [HYS.out] at ho2
        have HO2 := Lib.hid ho2
        have HO12 := Lib.hid (HO1.out.keep hb2)
        have HB2 := Lib.hid (bel_step HB1.out hb2)
        clear ho2 hb2
        refine ⟨_, rfl, ?_⟩
        simp only [Act.put, List.setIfInBounds_toArray, List.set_cons_zero, List.set_cons_succ]
        refine wpList_op (by kernel_rfl) ?_
        refine hOp_appendM (.tmp 32) (.tmp 36) rfl W9.heap.size W1.heap.size v1 v2 _ _ xs ys rfl HO12.out rfl HO2.out (by omega) HB2.out.size ?_
        intro v3 W3 ho3 hb3
        have HO3 := Lib.hid ho3
        have HB3 := Lib.hid (HB2.out.trans hb3)
        clear ho3 hb3
        simp only [Act.put, List.setIfInBounds_toArray, List.set_cons_zero, List.set_cons_succ]
        refine wpList_val rfl v3 W3 rfl ?_
        simp only [Act.put, List.setIfInBounds_toArray, List.set_cons_zero, List.set_cons_succ]
        refine wpList_nil ?_
        go_wp2_with fail
        go_ret
        refine ⟨v3, rfl, ?_, HB3.out⟩
        rw [HCL2.out, List.length_append]
        exact HO3.out
end Go.Proofs.YtgkojdbepgonkaaDoor

/- The reference's Open. -/
namespace Go.Proofs.YtgkojdbepgonkaaDoor
set_option linter.unusedVariables false
set_option linter.unusedSimpArgs false
set_option maxRecDepth 8000
open Go.RowKit
attribute [local simp] z32_ne z32_run
attribute [-simp] Tryd.zeroValue34 Tryd.isAgg34 Tryd.sizeOf34
section
variable {ev : Operand → Value} {o : Oper}
theorem exec_idxX {x y : Operand} (w : World) (g n c i : Nat) (hi : i < n) (ho : o.op = .indexAddr 100 x y) (hx : ev x = .slice (some ⟨g, 0, none⟩) n c) (hy : ev y = .int .i64 ((i : Nat) : Int)) :
    (execOp ev o).run Tryd.prog w = .ok (.value (.pointer (some ⟨g, 2 * i, none⟩))) w := by
  have h0 : (0 : Int) ≤ (i : Int) := by omega
  have h1 : (i : Int) < (n : Int) := by omega
  have hm : i * 2 = 2 * i := Nat.mul_comm _ _
  unfold execOp
  simp only [ho, hx, hy]
  go_simp
  first | done | rw [hm] | (rw [ad_base, hm])
theorem exec_midP {x y z : Operand} (w : World) (ad : Addr) (n c k h : Nat) (hk : k < h) (hh : h ≤ n) (hc : n ≤ c) (ho : o.op = .slice 23 x (some y) (some z) none) (hx : ev x = .slice (some ad) n c) (hy : ev y = .int .i64 ((k : Nat) : Int)) (hz : ev z = .int .i64 ((h : Nat) : Int)) :
    (execOp ev o).run Tryd.prog w = .ok (.value (.slice (some (ad.add k)) (h - k) (c - k))) w := by
  have h0 : (0 : Int) ≤ (k : Int) := by omega
  have h00 : (0 : Int) ≤ (h : Int) := by omega
  have h1 : (k : Int) ≤ (h : Int) := by omega
  have h2 : (h : Int) ≤ (c : Int) := by omega
  have h3 : (k : Int) ≤ (c : Int) := by omega
  have h4 : ¬ c = k := by omega
  unfold execOp
  simp only [ho, hx]
  go_simp
theorem exec_loadI8 {x : Operand} {w : World} (a : Addr) (z : Int) (hc : w.cell? a = some (.int .i64 z)) (ho : o.op = .load 3 x) (hx : ev x = .pointer (some a)) :
    (execOp ev o).run Tryd.prog w = .ok (.value (.int .i64 z)) w := by
  unfold execOp
  simp only [ho, hx]
  go_simp
end
theorem Pb.mid {w : World} {ad : Addr} {n c : Nat} {Ps : List (List Nat)} (h : Pb w (some ad) n c Ps) {k s : Nat} (hs : 1 ≤ s) (hk : k + s ≤ n) : Pb w (some (ad.add k)) (k + s - k) (c - k) ((Ps.drop k).take s) := by
  have hc := h.cap
  have h1 := h.dropTo (k := k) (by omega) hc
  have h2 := h1.take (k := s) (by omega)
  rwa [show k + s - k = s by omega]
theorem digsN_snoc (Ls : List (List Nat)) {xs : List (Nat × Nat)} {j : Nat} {x : Nat × Nat} (h : xs[j]? = some x) : digsN Ls (xs.take (j + 1)) = digsN Ls (xs.take j) ++ [rootN ((Ls.drop x.1).take x.2)] := by
  rw [List.take_add_one, h]
  unfold digsN
  simp
end Go.Proofs.YtgkojdbepgonkaaDoor

/- Further moves for the laws of stage 8: copies, pushes with a known length, elements of lists of digests, remainders. -/
namespace Go.Proofs.YtgkojdbepgonkaaDoor
set_option linter.unusedVariables false
set_option linter.unusedSimpArgs false
set_option maxRecDepth 8000
open Go.RowKit
attribute [local simp] z32_ne z32_run
attribute [-simp] Tryd.zeroValue34 Tryd.isAgg34 Tryd.sizeOf34
section
variable {P : Program} {Q : Exit → Act → World → Prop} {ops : Array Oper}
theorem wpList_skip {rest : List Oper} {o : Oper} {a : Act} {w : World} (hw : Region.wanted o (yielded ops a.tmps) = false) (h : wpList P ops Q rest (a.put o.dst undef) w) : wpList P ops Q (o :: rest) a w := by
  unfold wpList
  rw [if_neg (by rw [hw]; simp)]
  exact h
end
theorem db_nil (w : World) (a : Addr) : Db w (some a) 0 0 [] := ⟨rfl, Nat.le_refl _, Nat.zero_le _, (fun e => by cases e), fun d hd => (by cases hd), fun i z hz => by cases i <;> cases hz⟩
theorem pushF_pos : ∀ (k : Nat) (P : List (List Nat)) (m : Nat) (d : List Nat), 1 ≤ (pushF k P m d).length
  | 0, P, _, d => by show 1 ≤ (P ++ [d]).length; simp
  | k + 1, P, m, d => by
    unfold pushF
    split
    · exact pushF_pos k _ _ _
    · simp
theorem push_dbs (A : Option Addr) (n c : Nat) (Ds : List (List Nat)) (cnt : Nat) (B : Option Addr) (nb cb : Nat) (b : List Nat) (w : World) (h : Db w A n c Ds) (hn : n ≤ 60000) (hc : cnt ≤ 100000) (hB : Sb w B nb cb b) (hnb : nb ≤ 140737488351232) (hG : Gl w) (D : List (List Nat)) (hD : pushN Ds cnt (lfN b) = D) (N : Nat) (hN : D.length = N) :
    Calls Tryd.prog 48 #[.slice A n c, .int .i64 (cnt : Int), .slice B nb cb] w fun e w' => ∃ ad f, e = .returned (.slice (some ad) N f) ∧ Db w' (some ad) N f D ∧ Below w.heap.size w w' :=
  (push_db A n c Ds cnt B nb cb b w h hn hc hB hnb hG D hD).mono fun e w' ⟨A2, m, f, he, hd, hb⟩ => by
    have hm : m = N := by rw [← hN]; exact hd.len
    subst hm
    have h1 : 1 ≤ D.length := by rw [← hD]; exact pushF_pos _ _ _ _
    obtain ⟨g, o, rfl⟩ := hd.some_ (by omega)
    exact ⟨_, f, he, hd, hb⟩
/-- a copy of a list of digests: append([]api.Digest{}, s...) -/
theorem hOp_copyD {o : Oper} {a : Act} {w : World} {K : Value → World → Prop} (s x : Operand)
    (ho : o.op = .call { callee := .builtin .append, args := #[s, x], argTypes := #[26, 26] }) (base g0 : Nat) (hs : a.eval s = .slice (some ⟨g0, 0, none⟩) 0 0) (h0 : w.heap[g0]? = some (.cells #[] 34 (0, 0))) (hg0 : base ≤ g0)
    (ad : Addr) (m c : Nat) (Es : List (List Nat)) (hx : a.eval x = .slice (some ad) m c) (hE : Db w (some ad) m c Es) (hn : m ≤ 65536) (hbase : base ≤ w.heap.size)
    (h : ∀ g c' w', Db w' (some ⟨g, 0, none⟩) m c' Es → Below base w w' → K (.slice (some ⟨g, 0, none⟩) m c') w') : hOp Tryd.prog o K a w := by
  have hown : OwD w base (.slice (some ⟨g0, 0, none⟩) 0 0) 0 [] := OwD.nil1 h0 hg0
  refine hOp_appendDs s x ho base _ (fun e => by cases e) hs hown ad m c Es hx hE hn hbase ?_
  intro g c' w' ho' hg'
  obtain ⟨A2, c2, e2, hd⟩ := ho'.db (fun d hd => (hE.dig d hd).2)
  injection e2 with e3 e4 e5
  subst e3 e5
  exact h g c' w' hd (hown.below hg' hbase)
/-- an element of a list of digests -/
structure Ed (w : World) (g o i : Nat) (d : List Nat) : Prop where
  at_ : w.rangeAt g (o + 32 * i) (celB d)
  dig : d.length = 32 ∧ ∀ x ∈ d, x < 256
theorem Ed.keep {w w' : World} {g o i : Nat} {d : List Nat} (h : Ed w g o i d) (hb : Below w.heap.size w w') : Ed w' g o i d := ⟨rangeAt_keep h.at_ hb, h.dig⟩
theorem Db.ed {w : World} {g o n c : Nat} {Ds : List (List Nat)} (h : Db w (some ⟨g, o, none⟩) n c Ds) {i : Nat} {d : List Nat} (hi : Ds[i]? = some d) : Ed w g o i d := by
  obtain ⟨g', o', e, hr⟩ := h.cells i d hi
  injection e with e
  injection e with e1 e2
  subst e1 e2
  exact ⟨hr, h.dig d (List.mem_of_getElem? hi)⟩
section
variable {ev : Operand → Value} {o : Oper}
theorem run_buildB3 {x y z : Operand} (u v t : Nat) (ho : o.op = .buildSlice 29 3 #[(0, x), (1, y), (2, z)]) (hx : ev x = .int .u8 (u : Int)) (hy : ev y = .int .u8 (v : Int)) (hz : ev z = .int .u8 (t : Int)) (w : World) :
    (execOp ev o).run Tryd.prog w = .ok (.value (.slice (some ⟨w.heap.size, 0, none⟩) 3 3)) (w.alloc (.cells #[.int .u8 (u : Int), .int .u8 (v : Int), .int .u8 (t : Int)] 5)) := by
  unfold execOp
  rw [ho]
  simp only [List.map_toArray, List.map_cons, List.map_nil, hx, hy, hz]
  go_simp
theorem exec_addN {x y : Operand} {t : TypeId} (a b c : Nat) (hc : a + b = c) (hl : c ≤ 1000000) (ho : o.op = .binOp .add 3 x y t) (hx : ev x = .int .i64 (a : Int)) (hy : ev y = .int .i64 (b : Int)) (w : World) :
    (execOp ev o).run Tryd.prog w = .ok (.value (.int .i64 (c : Int))) w := by
  have h1 : IntKind.i64.wrap ((a : Int) + (b : Int)) = (c : Int) := by rw [IntKind.wrap_i64]; omega
  unfold execOp
  simp only [ho, hx, hy]
  go_simp
  first | done | rw [h1]
theorem exec_remN {x y : Operand} {t : TypeId} (a b : Nat) (hb : 0 < b) (ha : a ≤ 1000000) (hb2 : b ≤ 1000000) (ho : o.op = .binOp .rem 3 x y t) (hx : ev x = .int .i64 (a : Int)) (hy : ev y = .int .i64 (b : Int)) (w : World) :
    (execOp ev o).run Tryd.prog w = .ok (.value (.int .i64 ((a % b : Nat) : Int))) w := by
  have hlt := Nat.mod_lt a hb
  have h0 : ¬ (b : Int) = 0 := by omega
  have h2 : Int.tmod (a : Int) (b : Int) = ((a % b : Nat) : Int) := by rw [Int.tmod_eq_emod_of_nonneg (by omega)]; omega
  have h1 : IntKind.i64.wrap (Int.tmod (a : Int) (b : Int)) = ((a % b : Nat) : Int) := by rw [IntKind.wrap_i64, h2]; generalize a % b = q at *; omega
  unfold execOp
  simp only [ho, hx, hy]
  go_simp
  first | done | omega | rw [h1]
theorem exec_cvt8 {x : Operand} (a : Nat) (ha : a ≤ 255) (ho : o.op = .convert 5 3 x) (hx : ev x = .int .u8 (a : Int)) (w : World) :
    (execOp ev o).run Tryd.prog w = .ok (.value (.int .i64 (a : Int))) w := by
  have h1 : IntKind.i64.wrap (a : Int) = (a : Int) := by rw [IntKind.wrap_i64]; omega
  unfold execOp
  simp only [ho, hx]
  go_simp
  first | done | rw [h1]
theorem exec_idxI {x y : Operand} (w : World) (ad : Addr) (n c i : Nat) (hi : i < n) (ho : o.op = .indexAddr 22 x y) (hx : ev x = .slice (some ad) n c) (hy : ev y = .int .i64 ((i : Nat) : Int)) :
    (execOp ev o).run Tryd.prog w = .ok (.value (.pointer (some (ad.add i)))) w := by
  have h0 : (0 : Int) ≤ (i : Int) := by omega
  have h1 : (i : Int) < (n : Int) := by omega
  unfold execOp
  simp only [ho, hx, hy]
  go_simp
theorem exec_loadI {x : Operand} {w : World} (a : Addr) (z : Int) (hc : w.cell? a = some (.int .i64 z)) (ho : o.op = .load 3 x) (hx : ev x = .pointer (some a)) :
    (execOp ev o).run Tryd.prog w = .ok (.value (.int .i64 z)) w := by
  unfold execOp
  simp only [ho, hx]
  go_simp
end
end Go.Proofs.YtgkojdbepgonkaaDoor

/- Both sides answer alike: contracts in one form for all arguments. -/
namespace Go.Proofs.YtgkojdbepgonkaaDoor
set_option linter.unusedVariables false
set_option linter.unusedSimpArgs false
set_option maxRecDepth 8000
open Go.RowKit
def openD (Ls : List (List Nat)) (n : Nat) (is : List Int) : List (List Nat) := if incF 0 (n : Int) is = true then digsN Ls (closedN 0 n is) else []
def openE (n : Nat) (is : List Int) : Nat := if incF 0 (n : Int) is = true then 0 else 1
def witD (Ls : List (List Nat)) (n : Nat) (i : Int) : List (List Nat) := if 0 ≤ i ∧ i < (n : Int) then digsN Ls (sibN 0 n i) else []
def witE (n : Nat) (i : Int) : Nat := if 0 ≤ i ∧ i < (n : Int) then 0 else 1
theorem digsN_lt {Ls : List (List Nat)} {xs : List (Nat × Nat)} : ∀ d ∈ digsN Ls xs, ∀ y ∈ d, y < 256 := fun x hx y hy => by
  unfold digsN at hx
  obtain ⟨z, _, rfl⟩ := List.mem_map.1 hx
  exact rootN_lt _ y hy
theorem OwD.db_ {w : World} {base : Nat} {v : Value} {n : Nat} {Ls : List (List Nat)} {xs : List (Nat × Nat)} (h : OwD w base v n (digsN Ls xs)) : ∃ A c, v = .slice A n c ∧ Db w A n c (digsN Ls xs) := h.db digsN_lt
theorem open_w (A : Option Addr) (n c : Nat) (Ls : List (List Nat)) (I : Option Addr) (k d : Nat) (is : List Int) (w : World) (h : Pb w A n c Ls) (hi : Ib w I k d is) (hn1 : 1 ≤ n) (hn : n ≤ 65536) (hL : ∀ l ∈ Ls, l.length ≤ 140737488351232) (hG : Gl w) (D : List (List Nat)) (hD : openD Ls n is = D) (E : Nat) (hE : openE n is = E) :
    Calls Tryd.prog 46 #[.slice A n c, .slice I k d] w fun e w' => ∃ B m f, e = .returned (.tuple #[.agg #[.slice B m f], .int .i64 (E : Int)]) ∧ Db w' B m f D ∧ Below w.heap.size w w' :=
  (open_any A n c Ls I k d is w h hi hn1 hn hL hG).mono fun e w' hh => by
    unfold openD at hD
    unfold openE at hE
    rcases hh with ⟨hf, v, he, ho, hb⟩ | ⟨hf, he, hb⟩
    · rw [if_pos hf] at hD hE
      subst hD hE
      obtain ⟨B, f, e2, hd⟩ := ho.db_
      subst e2
      exact ⟨B, _, f, he, hd, hb⟩
    · rw [if_neg (by rw [hf]; simp)] at hD hE
      subst hD hE
      exact ⟨none, 0, 0, he, Db.none_ _, hb⟩
theorem wit_w (A : Option Addr) (n c : Nat) (Ls : List (List Nat)) (i : Int) (w : World) (h : Pb w A n c Ls) (hn1 : 1 ≤ n) (hn : n ≤ 65536) (hL : ∀ l ∈ Ls, l.length ≤ 140737488351232) (hG : Gl w) (D : List (List Nat)) (hD : witD Ls n i = D) (E : Nat) (hE : witE n i = E) :
    Calls Tryd.prog 47 #[.slice A n c, .int .i64 i] w fun e w' => ∃ B m f, e = .returned (.tuple #[.slice B m f, .int .i64 (E : Int)]) ∧ Db w' B m f D ∧ Below w.heap.size w w' :=
  (witness_any A n c Ls i w h hn1 hn hL hG).mono fun e w' hh => by
    unfold witD at hD
    unfold witE at hE
    rcases hh with ⟨hf, v, he, ho, hb⟩ | ⟨hf, he, hb⟩
    · rw [if_pos hf] at hD hE
      subst hD hE
      obtain ⟨B, f, e2, hd⟩ := ho.db_
      subst e2
      exact ⟨B, _, f, he, hd, hb⟩
    · rw [if_neg hf] at hD hE
      subst hD hE
      exact ⟨none, 0, 0, he, Db.none_ _, hb⟩
end Go.Proofs.YtgkojdbepgonkaaDoor
