/- Several texts in one: Mvs. -/
import Derived.Test.YtgkojdbepgonkaaDoorH23
/- The reference's rebuild. -/
namespace Go.Proofs.YtgkojdbepgonkaaDoor
set_option maxRecDepth 8000
set_option linter.unusedVariables false
set_option linter.unusedSimpArgs false
open Go.RowKit
attribute [local simp] z32_ne z32_run
attribute [-simp] Tryd.zeroValue34 Tryd.isAgg34 Tryd.sizeOf34
theorem idxOf_at : ∀ {xs : List (Nat × Nat)} {a : Nat × Nat} {i : Nat}, xs[i]? = some a → (∀ t, t < i → xs[t]? ≠ some a) → xs.idxOf a = i
  | [], _, _, h, _ => by simp at h
  | x :: xs, a, 0, h, _ => by
    injection h with h
    subst h
    exact List.idxOf_cons_self
  | x :: xs, a, i + 1, h, h2 => by
    have hne : x ≠ a := fun e => h2 0 (by omega) (by rw [e]; rfl)
    rw [List.idxOf_cons, show (x == a) = false from beq_false_of_ne hne]
    show xs.idxOf a + 1 = i + 1
    rw [idxOf_at (xs := xs) (i := i) (by simpa using h) (fun t ht => by simpa using h2 (t + 1) (by omega))]
theorem idxOf_none {xs : List (Nat × Nat)} {a : Nat × Nat} (h : ∀ t, t < xs.length → xs[t]? ≠ some a) : ¬ xs.idxOf a < xs.length := fun hl => by
  have hm := List.idxOf_lt_length_iff.1 hl
  obtain ⟨i, hi⟩ := List.getElem?_of_mem hm
  exact h i (List.getElem?_eq_some_iff.1 hi).1 hi
/-- a slice value that reads as subtrees -/
structure Xb (w : World) (C : Option Addr) (n c : Nat) (xs : List (Nat × Nat)) : Prop where
  len : n = xs.length
  cells : ∀ (j : Nat) (x : Nat × Nat), xs[j]? = some x → ∃ g, C = some ⟨g, 0, none⟩ ∧ w.cell? ⟨g, 2 * j, none⟩ = some (.int .i64 (x.1 : Int)) ∧ w.cell? ⟨g, 2 * j + 1, none⟩ = some (.int .i64 ((x.1 + x.2 : Nat) : Int))
theorem Xb.keep {w w' : World} {C : Option Addr} {n c : Nat} {xs : List (Nat × Nat)} (h : Xb w C n c xs) (hb : Below w.heap.size w w') : Xb w' C n c xs :=
  ⟨h.len, fun j x hx => by obtain ⟨g, e, h1, h2⟩ := h.cells j x hx; exact ⟨g, e, cell_keep h1 hb, cell_keep h2 hb⟩⟩
theorem OwM.xb {w : World} {base : Nat} {v : Value} {n : Nat} {xs : List (Nat × Nat)} (h : OwM w base v n xs) : ∃ C c, v = .slice C n c ∧ Xb w C n c xs := by
  have hl := h.len
  rcases h.2 with ⟨rfl, rfl⟩ | ⟨g, cap, cur, rfl, hbs, hgg, h1, h2, h3, h4⟩
  · obtain rfl : xs = [] := List.length_eq_zero_iff.1 hl.symm
    exact ⟨none, 0, rfl, rfl, fun j x hx => by simp at hx⟩
  · refine ⟨_, cap, rfl, hl, fun j x hx => ⟨g, rfl, ?_, ?_⟩⟩
    · have hj := (List.getElem?_eq_some_iff.1 hx).1
      have c1 := (celM_get hx).1
      rw [← h4, List.getElem?_take_of_lt (by omega)] at c1
      simpa [World.cell?, hgg] using c1
    · have hj := (List.getElem?_eq_some_iff.1 hx).1
      have c1 := (celM_get hx).2
      rw [← h4, List.getElem?_take_of_lt (by omega)] at c1
      simpa [World.cell?, hgg] using c1
section
variable {ev : Operand → Value} {o : Oper}
theorem exec_fRb1 {x : Operand} (b k kk : Nat) (hk : k + 2 = kk) (ho : o.op = .fieldAddr 104 x 1) (hx : ev x = .pointer (some ⟨b, k, none⟩)) (w : World) : (execOp ev o).run Tryd.prog w = .ok (.value (.pointer (some ⟨b, kk, none⟩))) w := by
  subst hk
  unfold execOp
  simp only [ho, hx]
  go_simp
theorem exec_fRb2 {x : Operand} (b k kk : Nat) (hk : k + 3 = kk) (ho : o.op = .fieldAddr 104 x 2) (hx : ev x = .pointer (some ⟨b, k, none⟩)) (w : World) : (execOp ev o).run Tryd.prog w = .ok (.value (.pointer (some ⟨b, kk, none⟩))) w := by
  subst hk
  unfold execOp
  simp only [ho, hx]
  go_simp
theorem exec_fRb0 {x : Operand} (b k : Nat) (ho : o.op = .fieldAddr 104 x 0) (hx : ev x = .pointer (some ⟨b, k, none⟩)) (w : World) : (execOp ev o).run Tryd.prog w = .ok (.value (.pointer (some ⟨b, k, none⟩))) w := by
  unfold execOp
  simp only [ho, hx]
  go_simp
theorem exec_fLv0 {x : Operand} (b k : Nat) (ho : o.op = .fieldAddr 25 x 0) (hx : ev x = .pointer (some ⟨b, k, none⟩)) (w : World) : (execOp ev o).run Tryd.prog w = .ok (.value (.pointer (some ⟨b, k, none⟩))) w := by
  unfold execOp
  simp only [ho, hx]
  go_simp
theorem exec_fLv1 {x : Operand} (b k kk : Nat) (hk : k + 1 = kk) (ho : o.op = .fieldAddr 25 x 1) (hx : ev x = .pointer (some ⟨b, k, none⟩)) (w : World) : (execOp ev o).run Tryd.prog w = .ok (.value (.pointer (some ⟨b, kk, none⟩))) w := by
  subst hk
  unfold execOp
  simp only [ho, hx]
  go_simp
theorem exec_fOp0 {x : Operand} (b k : Nat) (ho : o.op = .fieldAddr 28 x 0) (hx : ev x = .pointer (some ⟨b, k, none⟩)) (w : World) : (execOp ev o).run Tryd.prog w = .ok (.value (.pointer (some ⟨b, k, none⟩))) w := by
  unfold execOp
  simp only [ho, hx]
  go_simp
theorem exec_fMx0 {x : Operand} (b k : Nat) (ho : o.op = .fieldAddr 140 x 0) (hx : ev x = .pointer (some ⟨b, k, none⟩)) (w : World) : (execOp ev o).run Tryd.prog w = .ok (.value (.pointer (some ⟨b, k, none⟩))) w := by
  unfold execOp
  simp only [ho, hx]
  go_simp
theorem exec_fMx1 {x : Operand} (b k kk : Nat) (hk : k + 1 = kk) (ho : o.op = .fieldAddr 140 x 1) (hx : ev x = .pointer (some ⟨b, k, none⟩)) (w : World) : (execOp ev o).run Tryd.prog w = .ok (.value (.pointer (some ⟨b, kk, none⟩))) w := by
  subst hk
  unfold execOp
  simp only [ho, hx]
  go_simp
theorem exec_eqT {x y : Operand} {t : TypeId} (a b : Int) (h : a = b) (ho : o.op = .binOp .eql 3 x y t) (hx : ev x = .int .i64 a) (hy : ev y = .int .i64 b) (w : World) : (execOp ev o).run Tryd.prog w = .ok (.value (.bool true)) w := by
  subst h
  unfold execOp
  simp only [ho, hx, hy]
  go_simp
theorem exec_eqF {x y : Operand} {t : TypeId} (a b : Int) (h : ¬ a = b) (ho : o.op = .binOp .eql 3 x y t) (hx : ev x = .int .i64 a) (hy : ev y = .int .i64 b) (w : World) : (execOp ev o).run Tryd.prog w = .ok (.value (.bool false)) w := by
  unfold execOp
  simp only [ho, hx, hy]
  go_simp
theorem exec_loadXb {x : Operand} {w : World} (a : Addr) (B : Option Addr) (m d : Nat) (hc : w.cell? a = some (.slice B m d)) (ho : o.op = .load 100 x) (hx : ev x = .pointer (some a)) :
    (execOp ev o).run Tryd.prog w = .ok (.value (.slice B m d)) w := by
  unfold execOp
  simp only [ho, hx]
  go_simp
theorem exec_loadSP {x : Operand} {w : World} (a : Addr) (B : Option Addr) (m d : Nat) (hc : w.cell? a = some (.slice B m d)) (ho : o.op = .load 23 x) (hx : ev x = .pointer (some a)) :
    (execOp ev o).run Tryd.prog w = .ok (.value (.slice B m d)) w := by
  unfold execOp
  simp only [ho, hx]
  go_simp
theorem exec_loadSI {x : Operand} {w : World} (a : Addr) (B : Option Addr) (m d : Nat) (hc : w.cell? a = some (.slice B m d)) (ho : o.op = .load 22 x) (hx : ev x = .pointer (some a)) :
    (execOp ev o).run Tryd.prog w = .ok (.value (.slice B m d)) w := by
  unfold execOp
  simp only [ho, hx]
  go_simp
theorem exec_loadRb {x : Operand} {w : World} (g : Nat) (u1 u2 u3 u4 : Value) (ho : o.op = .load 104 x) (hx : ev x = .pointer (some ⟨g, 0, none⟩)) (hc : w.heap[g]? = some (.cells #[u1, u2, u3, u4] 104 (0, 0))) :
    (execOp ev o).run Tryd.prog w = .ok (.value (.agg #[u1, u2, u3, u4])) w := by
  unfold execOp
  simp only [ho, hx, Instr.loadAt, Instr.sureAddr, Sem.run_bind, Sem.run_pure, Result.andThen_ok]
  rw [run_loadVar_row w g 104 104 #[u1, u2, u3, u4] (0, 0) _ hc Tryd.underlying104 rfl (by kernel_rfl)]
  rfl
end
theorem sl_pos {is : List Int} {f : Nat} (hpw : is.Pairwise (· < ·)) (h : slN is (f : Int) ((f + 1 : Nat) : Int) ≠ []) : withinN is 0 (f : Int) < is.length := by
  obtain ⟨x, hx⟩ := List.exists_mem_of_ne_nil _ h
  unfold slN at hx
  obtain ⟨hxi, hxr⟩ := List.mem_filter.1 hx
  have hxr := of_decide_eq_true hxr
  unfold withinN
  refine Nat.lt_of_le_of_ne (List.length_filter_le _ _) fun e => ?_
  have hall := List.length_filter_eq_length_iff.1 e x hxi
  have := of_decide_eq_true hall
  omega
attribute [local irreducible] wpList
set_option maxHeartbeats 4000000 in
theorem rrebuild_any : ∀ (K f s : Nat) (I : Option Addr) (k d : Nat) (is : List Int) (B : Option Addr) (k2 d2 : Nat) (bs : List (List Nat)) (R : Option Addr) (r e : Nat) (ns : List (List Nat)) (C : Option Addr) (N c7 : Nat) (xs : List (Nat × Nat)) (w : World)
    (_ : Ib w I k d is) (_ : is.Pairwise (· < ·)) (_ : Pb w B k2 d2 bs) (_ : bs.length = is.length) (_ : Db w R r e ns) (_ : Xb w C N c7 xs) (_ : xs.length = ns.length) (_ : ∀ b ∈ bs, b.length ≤ 140737488351232) (_ : N ≤ 100000)
    (_ : s ≤ K) (_ : 1 ≤ s) (_ : f + s ≤ 65536) (_ : ∀ x ∈ closedN f s (slN is (f : Int) ((f + s : Nat) : Int)), x ∈ xs) (h : Nat) (_ : h = f + s),
    Calls Tryd.prog 60 #[.agg #[.slice I k d, .slice B k2 d2, .slice R r e, .slice C N c7], .int .i64 (f : Int), .int .i64 (h : Int)] w fun e2 w' => ∃ q, e2 = .returned (.agg (celB q).toArray) ∧ rebR xs ns bs is K f s = q ∧ (q.length = 32 ∧ ∀ x ∈ q, x < 256) ∧ Below w.heap.size w w' := by
  intro K
  induction K with
  | zero => intros; omega
  | succ K ih =>
    intro f s I k d is B k2 d2 bs R r e ns C N c7 xs w hI hpw hB hbi hD hX hxn hL hNb hK hs1 hfs hsub h hh
    have HI := Lib.hid hI
    have HPW := Lib.hid hpw
    have HB := Lib.hid hB
    have HBI := Lib.hid hbi
    have HD := Lib.hid hD
    have HX := Lib.hid hX
    have HXN := Lib.hid hxn
    have HL := Lib.hid hL
    have HSUB := Lib.hid hsub
    have HH := Lib.hid hh
    have IH := Lib.hid ih
    have HNL := Lib.hid hX.len
    have HRL := Lib.hid hD.len
    have hhh : h ≤ 65536 := by omega
    have hff := hfs
    have hrN : r = N := by rw [hD.len, hX.len, hxn]
    subst hrN
    clear hI hpw hB hbi hD hX hxn hL hsub hh ih hfs
    go_enter Tryd.func60, Tryd.ntmps60
    go_upto_region 1 with fail
    refine wp_named2 (fun W1 hb1 g3 g6 hlt1 => ?_)
    have H3 := Lib.hid g3
    have H6 : Hid (RowB W1 34 (w.heap.size + 1) (List.replicate 32 0)) := Lib.hid g6
    have HB1 := Lib.hid hb1
    clear g3 g6 hb1
    obtain ⟨b3, hb3⟩ : ∃ b, w.heap.size = b := ⟨_, rfl⟩
    have HWB := Lib.hid hb3
    rw [hb3] at H3 H6 hlt1 ⊢
    clear hb3
    have c3 := cells_at H3.out 3 (v := .slice C r c7) rfl
    go_wp2_with fail
    go_loopw [7] (fun t wr => ∃ i : Nat, i ≤ r ∧ t = .int .i64 i ∧ (∀ t, t < i → xs[t]? ≠ some (f, s)) ∧ wr = W1) (fun t _ => r - (intOf t).toNat)
    case atStart => exact ⟨0, Nat.zero_le _, rfl, fun t ht => absurd ht (Nat.not_lt_zero _), rfl⟩
    case round =>
      obtain ⟨i, hi, rfl, hno, rfl⟩ := hrel
      have HNO := Lib.hid hno
      clear hno
      by_cases hlt : i < r
      · have hlt2 : (i : Int) < (r : Int) := by omega
        obtain ⟨x, hx⟩ : ∃ x, xs[i]? = some x := ⟨_, List.getElem?_eq_getElem (by have := HNL.out; omega)⟩
        obtain ⟨g, hC, hc1, hc2⟩ := HX.out.cells i x hx
        subst hC
        have hd1 := cell_keep hc1 HB1.out
        have hd2 := cell_keep hc2 HB1.out
        have HXI := Lib.hid hx
        obtain ⟨lo, sz⟩ := x
        have HD1 : Hid (wr.cell? ⟨g, 2 * i, none⟩ = some (.int .i64 (lo : Int))) := Lib.hid hd1
        have HD2 : Hid (wr.cell? ⟨g, 2 * i + 1, none⟩ = some (.int .i64 ((lo + sz : Nat) : Int))) := Lib.hid hd2
        obtain ⟨hi2, hhi⟩ : ∃ x, lo + sz = x := ⟨_, rfl⟩
        rw [hhi] at HD2
        have HHI := Lib.hid hhi
        clear hx hc1 hc2 hd1 hd2 hhi
        by_cases h1 : lo = f
        · have h1' : (lo : Int) = (f : Int) := by omega
          by_cases h2 : hi2 = h
          · have h2' : (hi2 : Int) = (h : Int) := by omega
            go_upto_region 4 with fail
            refine wp_region_lit ?_
            refine wpList_run (by kernel_rfl) (.pointer (some ⟨b3, 3, none⟩)) wr (exec_fRb2 b3 0 3 rfl rfl rfl _) ?_
            simp only [Act.put, List.setIfInBounds_toArray, List.set_cons_zero, List.set_cons_succ]
            refine wpList_run (by kernel_rfl) (.slice (some ⟨g, 0, none⟩) r c7) wr (exec_loadXb _ _ _ _ c3 rfl rfl) ?_
            simp only [Act.put, List.setIfInBounds_toArray, List.set_cons_zero, List.set_cons_succ]
            refine wpList_run (by kernel_rfl) (.int .i64 ((i : Nat) : Int)) wr (rfl) ?_
            simp only [Act.put, List.setIfInBounds_toArray, List.set_cons_zero, List.set_cons_succ]
            refine wpList_run (by kernel_rfl) (.pointer (some ⟨g, 2 * i, none⟩)) wr (exec_idxX _ g r c7 i hlt rfl rfl rfl) ?_
            simp only [Act.put, List.setIfInBounds_toArray, List.set_cons_zero, List.set_cons_succ]
            refine wpList_run (by kernel_rfl) (.pointer (some ⟨g, 2 * i, none⟩)) wr (exec_fMx0 g _ rfl rfl _) ?_
            simp only [Act.put, List.setIfInBounds_toArray, List.set_cons_zero, List.set_cons_succ]
            refine wpList_run (by kernel_rfl) (.int .i64 ((lo : Nat) : Int)) wr (exec_loadI8 _ _ HD1.out rfl rfl) ?_
            simp only [Act.put, List.setIfInBounds_toArray, List.set_cons_zero, List.set_cons_succ]
            refine wpList_run (by kernel_rfl) (.int .i64 ((f : Nat) : Int)) wr (rfl) ?_
            simp only [Act.put, List.setIfInBounds_toArray, List.set_cons_zero, List.set_cons_succ]
            refine wpList_run (by kernel_rfl) (.bool true) wr (exec_eqT _ _ h1' rfl rfl rfl _) ?_
            simp only [Act.put, List.setIfInBounds_toArray, List.set_cons_zero, List.set_cons_succ]
            refine wpList_run (by kernel_rfl) (.bool true) wr (rfl) ?_
            simp only [Act.put, List.setIfInBounds_toArray, List.set_cons_zero, List.set_cons_succ]
            refine wpList_run (by kernel_rfl) (.pointer (some ⟨b3, 3, none⟩)) wr (exec_fRb2 b3 0 3 rfl rfl rfl _) ?_
            simp only [Act.put, List.setIfInBounds_toArray, List.set_cons_zero, List.set_cons_succ]
            refine wpList_run (by kernel_rfl) (.slice (some ⟨g, 0, none⟩) r c7) wr (exec_loadXb _ _ _ _ c3 rfl rfl) ?_
            simp only [Act.put, List.setIfInBounds_toArray, List.set_cons_zero, List.set_cons_succ]
            refine wpList_run (by kernel_rfl) (.int .i64 ((i : Nat) : Int)) wr (rfl) ?_
            simp only [Act.put, List.setIfInBounds_toArray, List.set_cons_zero, List.set_cons_succ]
            refine wpList_run (by kernel_rfl) (.pointer (some ⟨g, 2 * i, none⟩)) wr (exec_idxX _ g r c7 i hlt rfl rfl rfl) ?_
            simp only [Act.put, List.setIfInBounds_toArray, List.set_cons_zero, List.set_cons_succ]
            refine wpList_run (by kernel_rfl) (.pointer (some ⟨g, 2 * i + 1, none⟩)) wr (exec_fMx1 g _ _ rfl rfl rfl _) ?_
            simp only [Act.put, List.setIfInBounds_toArray, List.set_cons_zero, List.set_cons_succ]
            refine wpList_run (by kernel_rfl) (.int .i64 ((hi2 : Nat) : Int)) wr (exec_loadI8 _ _ HD2.out rfl rfl) ?_
            simp only [Act.put, List.setIfInBounds_toArray, List.set_cons_zero, List.set_cons_succ]
            refine wpList_run (by kernel_rfl) (.int .i64 ((h : Nat) : Int)) wr (rfl) ?_
            simp only [Act.put, List.setIfInBounds_toArray, List.set_cons_zero, List.set_cons_succ]
            refine wpList_run (by kernel_rfl) (.bool true) wr (exec_eqT _ _ h2' rfl rfl rfl _) ?_
            simp only [Act.put, List.setIfInBounds_toArray, List.set_cons_zero, List.set_cons_succ]
            refine wpList_run (by kernel_rfl) (.bool true) wr (rfl) ?_
            simp only [Act.put, List.setIfInBounds_toArray, List.set_cons_zero, List.set_cons_succ]
            refine wpList_nil ?_
            have hsz : sz = s := by have := HH.out; have := HHI.out; omega
            subst h1 hsz
            have HIX := Lib.hid (idxOf_at HXI.out HNO.out)
            obtain ⟨gR, oR, rfl⟩ := HD.out.some_ (by omega)
            obtain ⟨q, hq⟩ : ∃ q, ns[i]? = some q := ⟨_, List.getElem?_eq_getElem (by have := HRL.out; omega)⟩
            have hE := (HD.out.keep HB1.out).ed hq
            have HE := Lib.hid hE
            have HQ := Lib.hid hq
            obtain ⟨hq32, hqb⟩ := hE.dig
            clear hq hE
            have c2 := cells_at H3.out 2 (v := .slice (some ⟨gR, oR, none⟩) r e) rfl
            go_upto_region 5 with fail
            refine wp_region_lit ?_
            refine wpList_run (by kernel_rfl) (.pointer (some ⟨b3, 2, none⟩)) wr (exec_fRb1 b3 0 2 rfl rfl rfl _) ?_
            simp only [Act.put, List.setIfInBounds_toArray, List.set_cons_zero, List.set_cons_succ]
            refine wpList_run (by kernel_rfl) (.pointer (some ⟨b3, 2, none⟩)) wr (exec_fOp0 b3 _ rfl rfl _) ?_
            simp only [Act.put, List.setIfInBounds_toArray, List.set_cons_zero, List.set_cons_succ]
            refine wpList_run (by kernel_rfl) (.slice (some ⟨gR, oR, none⟩) r e) wr (exec_loadSD _ _ _ _ c2 rfl rfl) ?_
            simp only [Act.put, List.setIfInBounds_toArray, List.set_cons_zero, List.set_cons_succ]
            refine wpList_run (by kernel_rfl) (.int .i64 ((i : Nat) : Int)) wr (rfl) ?_
            simp only [Act.put, List.setIfInBounds_toArray, List.set_cons_zero, List.set_cons_succ]
            refine wpList_run (by kernel_rfl) (.pointer (some ⟨gR, oR + 32 * i, none⟩)) wr (exec_idxM _ gR oR r e i hlt rfl rfl rfl) ?_
            simp only [Act.put, List.setIfInBounds_toArray, List.set_cons_zero, List.set_cons_succ]
            refine wpList_run (by kernel_rfl) (.agg (celB q).toArray) wr (exec_loadM gR (oR + 32 * i) hq32 HE.out.at_ rfl rfl) ?_
            simp only [Act.put, List.setIfInBounds_toArray, List.set_cons_zero, List.set_cons_succ]
            refine wpList_skip0 rfl _ (exec_storeD hq32 List.length_replicate H6.out rfl rfl rfl) ?_
            refine wpList_nil ?_
            simp only [Act.put]
            go_wp2_with fail
            refine bodyPost_ret (v := .agg (celB q).toArray) ?_ rfl ⟨q, rfl, ?_, ⟨hq32, hqb⟩, bel_setRow HB1.out (by have := HWB.out; omega) _⟩
            · exact results_cell_row rfl _ _ (b3 + 1) 34 _ (0, 0) _ rfl (H6.out.row q) Tryd.underlying34 rfl (dig_size hq32)
            · unfold rebR
              rw [HIX.out, if_pos (by have := HNL.out; omega), List.getD_eq_getElem?_getD, HQ.out]
              rfl
          · have h2' : ¬ (hi2 : Int) = (h : Int) := by omega
            go_upto_region 4 with fail
            refine wp_region_lit ?_
            refine wpList_run (by kernel_rfl) (.pointer (some ⟨b3, 3, none⟩)) wr (exec_fRb2 b3 0 3 rfl rfl rfl _) ?_
            simp only [Act.put, List.setIfInBounds_toArray, List.set_cons_zero, List.set_cons_succ]
            refine wpList_run (by kernel_rfl) (.slice (some ⟨g, 0, none⟩) r c7) wr (exec_loadXb _ _ _ _ c3 rfl rfl) ?_
            simp only [Act.put, List.setIfInBounds_toArray, List.set_cons_zero, List.set_cons_succ]
            refine wpList_run (by kernel_rfl) (.int .i64 ((i : Nat) : Int)) wr (rfl) ?_
            simp only [Act.put, List.setIfInBounds_toArray, List.set_cons_zero, List.set_cons_succ]
            refine wpList_run (by kernel_rfl) (.pointer (some ⟨g, 2 * i, none⟩)) wr (exec_idxX _ g r c7 i hlt rfl rfl rfl) ?_
            simp only [Act.put, List.setIfInBounds_toArray, List.set_cons_zero, List.set_cons_succ]
            refine wpList_run (by kernel_rfl) (.pointer (some ⟨g, 2 * i, none⟩)) wr (exec_fMx0 g _ rfl rfl _) ?_
            simp only [Act.put, List.setIfInBounds_toArray, List.set_cons_zero, List.set_cons_succ]
            refine wpList_run (by kernel_rfl) (.int .i64 ((lo : Nat) : Int)) wr (exec_loadI8 _ _ HD1.out rfl rfl) ?_
            simp only [Act.put, List.setIfInBounds_toArray, List.set_cons_zero, List.set_cons_succ]
            refine wpList_run (by kernel_rfl) (.int .i64 ((f : Nat) : Int)) wr (rfl) ?_
            simp only [Act.put, List.setIfInBounds_toArray, List.set_cons_zero, List.set_cons_succ]
            refine wpList_run (by kernel_rfl) (.bool true) wr (exec_eqT _ _ h1' rfl rfl rfl _) ?_
            simp only [Act.put, List.setIfInBounds_toArray, List.set_cons_zero, List.set_cons_succ]
            refine wpList_run (by kernel_rfl) (.bool true) wr (rfl) ?_
            simp only [Act.put, List.setIfInBounds_toArray, List.set_cons_zero, List.set_cons_succ]
            refine wpList_run (by kernel_rfl) (.pointer (some ⟨b3, 3, none⟩)) wr (exec_fRb2 b3 0 3 rfl rfl rfl _) ?_
            simp only [Act.put, List.setIfInBounds_toArray, List.set_cons_zero, List.set_cons_succ]
            refine wpList_run (by kernel_rfl) (.slice (some ⟨g, 0, none⟩) r c7) wr (exec_loadXb _ _ _ _ c3 rfl rfl) ?_
            simp only [Act.put, List.setIfInBounds_toArray, List.set_cons_zero, List.set_cons_succ]
            refine wpList_run (by kernel_rfl) (.int .i64 ((i : Nat) : Int)) wr (rfl) ?_
            simp only [Act.put, List.setIfInBounds_toArray, List.set_cons_zero, List.set_cons_succ]
            refine wpList_run (by kernel_rfl) (.pointer (some ⟨g, 2 * i, none⟩)) wr (exec_idxX _ g r c7 i hlt rfl rfl rfl) ?_
            simp only [Act.put, List.setIfInBounds_toArray, List.set_cons_zero, List.set_cons_succ]
            refine wpList_run (by kernel_rfl) (.pointer (some ⟨g, 2 * i + 1, none⟩)) wr (exec_fMx1 g _ _ rfl rfl rfl _) ?_
            simp only [Act.put, List.setIfInBounds_toArray, List.set_cons_zero, List.set_cons_succ]
            refine wpList_run (by kernel_rfl) (.int .i64 ((hi2 : Nat) : Int)) wr (exec_loadI8 _ _ HD2.out rfl rfl) ?_
            simp only [Act.put, List.setIfInBounds_toArray, List.set_cons_zero, List.set_cons_succ]
            refine wpList_run (by kernel_rfl) (.int .i64 ((h : Nat) : Int)) wr (rfl) ?_
            simp only [Act.put, List.setIfInBounds_toArray, List.set_cons_zero, List.set_cons_succ]
            refine wpList_run (by kernel_rfl) (.bool false) wr (exec_eqF _ _ h2' rfl rfl rfl _) ?_
            simp only [Act.put, List.setIfInBounds_toArray, List.set_cons_zero, List.set_cons_succ]
            refine wpList_run (by kernel_rfl) (.bool false) wr (rfl) ?_
            simp only [Act.put, List.setIfInBounds_toArray, List.set_cons_zero, List.set_cons_succ]
            refine wpList_nil ?_
            have hwj : IntKind.i64.wrap ((i : Int) + 1) = ((i + 1 : Nat) : Int) := by rw [IntKind.wrap_i64]; omega
            go_wp2_with fail
            go_roundw
            case rel => exact ⟨i + 1, hlt, by first | rfl | go_num, fun t ht hx => by
              rcases Nat.lt_succ_iff_lt_or_eq.1 ht with h1 | h1
              · exact HNO.out t h1 hx
              · subst h1
                rw [HXI.out] at hx
                injection hx with hx
                injection hx with e1 e2
                have := HH.out; have := HHI.out; omega, by first | trivial | rfl⟩
            case measure => simp [intOf]; omega
        · have h1' : ¬ (lo : Int) = (f : Int) := by omega
          go_upto_region 4 with fail
          refine wp_region_lit ?_
          refine wpList_run (by kernel_rfl) (.pointer (some ⟨b3, 3, none⟩)) wr (exec_fRb2 b3 0 3 rfl rfl rfl _) ?_
          simp only [Act.put, List.setIfInBounds_toArray, List.set_cons_zero, List.set_cons_succ]
          refine wpList_run (by kernel_rfl) (.slice (some ⟨g, 0, none⟩) r c7) wr (exec_loadXb _ _ _ _ c3 rfl rfl) ?_
          simp only [Act.put, List.setIfInBounds_toArray, List.set_cons_zero, List.set_cons_succ]
          refine wpList_run (by kernel_rfl) (.int .i64 ((i : Nat) : Int)) wr (rfl) ?_
          simp only [Act.put, List.setIfInBounds_toArray, List.set_cons_zero, List.set_cons_succ]
          refine wpList_run (by kernel_rfl) (.pointer (some ⟨g, 2 * i, none⟩)) wr (exec_idxX _ g r c7 i hlt rfl rfl rfl) ?_
          simp only [Act.put, List.setIfInBounds_toArray, List.set_cons_zero, List.set_cons_succ]
          refine wpList_run (by kernel_rfl) (.pointer (some ⟨g, 2 * i, none⟩)) wr (exec_fMx0 g _ rfl rfl _) ?_
          simp only [Act.put, List.setIfInBounds_toArray, List.set_cons_zero, List.set_cons_succ]
          refine wpList_run (by kernel_rfl) (.int .i64 ((lo : Nat) : Int)) wr (exec_loadI8 _ _ HD1.out rfl rfl) ?_
          simp only [Act.put, List.setIfInBounds_toArray, List.set_cons_zero, List.set_cons_succ]
          refine wpList_run (by kernel_rfl) (.int .i64 ((f : Nat) : Int)) wr (rfl) ?_
          simp only [Act.put, List.setIfInBounds_toArray, List.set_cons_zero, List.set_cons_succ]
          refine wpList_run (by kernel_rfl) (.bool false) wr (exec_eqF _ _ h1' rfl rfl rfl _) ?_
          simp only [Act.put, List.setIfInBounds_toArray, List.set_cons_zero, List.set_cons_succ]
          refine wpList_run (by kernel_rfl) (.bool false) wr (rfl) ?_
          simp only [Act.put, List.setIfInBounds_toArray, List.set_cons_zero, List.set_cons_succ]
          refine wpList_skip (by kernel_rfl) ?_
          try simp only [Act.put, List.setIfInBounds_toArray, List.set_cons_zero, List.set_cons_succ]
          refine wpList_skip (by kernel_rfl) ?_
          try simp only [Act.put, List.setIfInBounds_toArray, List.set_cons_zero, List.set_cons_succ]
          refine wpList_skip (by kernel_rfl) ?_
          try simp only [Act.put, List.setIfInBounds_toArray, List.set_cons_zero, List.set_cons_succ]
          refine wpList_skip (by kernel_rfl) ?_
          try simp only [Act.put, List.setIfInBounds_toArray, List.set_cons_zero, List.set_cons_succ]
          refine wpList_skip (by kernel_rfl) ?_
          try simp only [Act.put, List.setIfInBounds_toArray, List.set_cons_zero, List.set_cons_succ]
          refine wpList_skip (by kernel_rfl) ?_
          try simp only [Act.put, List.setIfInBounds_toArray, List.set_cons_zero, List.set_cons_succ]
          refine wpList_skip (by kernel_rfl) ?_
          try simp only [Act.put, List.setIfInBounds_toArray, List.set_cons_zero, List.set_cons_succ]
          refine wpList_skip (by kernel_rfl) ?_
          try simp only [Act.put, List.setIfInBounds_toArray, List.set_cons_zero, List.set_cons_succ]
          refine wpList_run (by kernel_rfl) (.bool false) wr (rfl) ?_
          simp only [Act.put, List.setIfInBounds_toArray, List.set_cons_zero, List.set_cons_succ]
          refine wpList_nil ?_
          have hwj : IntKind.i64.wrap ((i : Int) + 1) = ((i + 1 : Nat) : Int) := by rw [IntKind.wrap_i64]; omega
          go_wp2_with fail
          go_roundw
          case rel => exact ⟨i + 1, hlt, by first | rfl | go_num, fun t ht hx => by
            rcases Nat.lt_succ_iff_lt_or_eq.1 ht with h1 | h1
            · exact HNO.out t h1 hx
            · subst h1
              rw [HXI.out] at hx
              injection hx with hx
              injection hx with e1 e2
              exact h1 e1, by first | trivial | rfl⟩
          case measure => simp [intOf]; omega
      · have hlt2 : ¬ (i : Int) < (r : Int) := by omega
        have hIX : ¬ xs.idxOf (f, s) < xs.length := idxOf_none fun t ht => HNO.out t (by have := HNL.out; omega)
        have HIX := Lib.hid hIX
        have HNE := Lib.hid (show slN is (f : Int) ((f + s : Nat) : Int) ≠ [] from fun e0 => hIX (List.idxOf_lt_length_iff.2 (HSUB.out _ (by rw [e0, closedN_nil f hs1]; exact List.mem_singleton.2 rfl))))
        clear hIX
        have hsub2 : IntKind.i64.wrap ((h : Int) - (f : Int)) = (s : Int) := by have := HH.out; rw [IntKind.wrap_i64]; omega
        by_cases h1 : s = 1
        · subst h1
          have h11 : (((1 : Nat) : Int) = 1) := rfl
          have hwl := sl_pos HPW.out HNE.out
          obtain ⟨t, ht⟩ : ∃ t, withinN is 0 (f : Int) = t := ⟨_, rfl⟩
          rw [ht] at hwl
          have HT := Lib.hid ht
          obtain ⟨b, hb⟩ : ∃ b, bs[t]? = some b := ⟨_, List.getElem?_eq_getElem (by have := HBI.out; omega)⟩
          have hkb : t < k2 := by have h5 := HB.out.len; have := HBI.out; omega
          obtain ⟨ad, rfl⟩ := HB.out.some_ (by omega)
          obtain ⟨eB, em, ed, hel⟩ := (HB.out.keep HB1.out).el hb
          have HEL := Lib.hid hel
          have hem : em ≤ 140737488351232 := by have := hel.sb.len; have h5 := HL.out b (List.mem_of_getElem? hb); omega
          obtain ⟨q, hq⟩ : ∃ q, lfN b = q := ⟨_, rfl⟩
          have hq32 : q.length = 32 := by rw [← hq]; exact lfN_length b
          have hqb : ∀ z ∈ q, z < 256 := by rw [← hq]; exact lfN_lt b
          have HQ := Lib.hid (show shaN (0 :: b) = q from hq)
          have HRQ := Lib.hid (show rebR xs ns bs is (K + 1) f 1 = q by
            unfold rebR
            rw [if_neg HIX.out, if_pos rfl, ht, List.getD_eq_getElem?_getD, hb]
            exact hq)
          have c0 := cells_at H3.out 0 (v := .slice I k d) rfl
          have c1 := cells_at H3.out 1 (v := .slice (some ad) k2 d2) rfl
          clear ht hb hel hq
          go_upto_region 7 with fail
          refine Tl.wp_held_tailB 11 wr.heap.size (by kernel_rfl) (lexOK_of (by kernel_rfl) (by kernel_rfl)) (Tl.chainW_of (by kernel_rfl)) rfl (by kernel_rfl) (by kernel_rfl) (fun W2 hb2 hSW => ?_)
          simp only [List.take_succ_cons, List.take_zero]
          have HS2 := Lib.hid hSW
          have HB2 := Lib.hid hb2
          clear hSW hb2
          refine wpHeld_seg 7 HS2.out (by kernel_rfl) ?_
          simp only [List.take_succ_cons, List.take_zero, List.drop_succ_cons, List.drop_zero]
          refine wpQuiet_val (by kernel_rfl) (.pointer (some ⟨b3, 0, none⟩)) (fun v hv => exec_fRb0 b3 _ rfl rfl _) ?_
          simp only [Act.put, List.setIfInBounds_toArray, List.set_cons_zero, List.set_cons_succ]
          refine wpQuiet_val (by kernel_rfl) (.pointer (some ⟨b3, 1, none⟩)) (fun v hv => exec_fLv1 b3 0 1 rfl rfl rfl _) ?_
          simp only [Act.put, List.setIfInBounds_toArray, List.set_cons_zero, List.set_cons_succ]
          refine wpQuiet_val (by kernel_rfl) (.slice (some ad) k2 d2) (fun v hv => exec_loadSP _ _ _ _ (cell_keep c1 (LaterB.of hv)) rfl rfl) ?_
          simp only [Act.put, List.setIfInBounds_toArray, List.set_cons_zero, List.set_cons_succ]
          refine wpQuiet_val (by kernel_rfl) (.pointer (some ⟨b3, 0, none⟩)) (fun v hv => exec_fRb0 b3 _ rfl rfl _) ?_
          simp only [Act.put, List.setIfInBounds_toArray, List.set_cons_zero, List.set_cons_succ]
          refine wpQuiet_val (by kernel_rfl) (.pointer (some ⟨b3, 0, none⟩)) (fun v hv => exec_fLv0 b3 _ rfl rfl _) ?_
          simp only [Act.put, List.setIfInBounds_toArray, List.set_cons_zero, List.set_cons_succ]
          refine wpQuiet_val (by kernel_rfl) (.slice I k d) (fun v hv => exec_loadSI _ _ _ _ (cell_keep c0 (LaterB.of hv)) rfl rfl) ?_
          simp only [Act.put, List.setIfInBounds_toArray, List.set_cons_zero, List.set_cons_succ]
          refine wpQuiet_val (by kernel_rfl) (.int .i64 ((f : Nat) : Int)) (fun v hv => rfl) ?_
          simp only [Act.put, List.setIfInBounds_toArray, List.set_cons_zero, List.set_cons_succ]
          refine wpQuiet_nil ?_
          refine wpHeld_call 97 Tryd.func97 (by kernel_rfl) (by kernel_rfl) _ _ #[.slice I k d, .int .i64 0, .int .i64 (f : Int)] rfl (by kernel_rfl) (by kernel_rfl) ?_
          refine (within_any I k d is 0 (f : Int) W2 ((HI.out.keep HB1.out).keep HB2.out)).mono ?_
          rintro e2 W3 ⟨rfl, rfl⟩
          rw [HT.out]
          refine ⟨_, rfl, HS2.out, ?_⟩
          simp only [Act.put, List.setIfInBounds_toArray, List.set_cons_zero, List.set_cons_succ]
          refine wpHeld_seg 2 HS2.out (by kernel_rfl) ?_
          simp only [List.take_succ_cons, List.take_zero, List.drop_succ_cons, List.drop_zero]
          refine wpQuiet_val (by kernel_rfl) (.pointer (some (ad.add t))) (fun v hv => exec_idxP _ ad k2 d2 t hkb rfl rfl rfl) ?_
          simp only [Act.put, List.setIfInBounds_toArray, List.set_cons_zero, List.set_cons_succ]
          refine wpQuiet_val (by kernel_rfl) (.slice eB em ed) (fun v hv => exec_loadS _ _ _ _ (HEL.out.keep (LaterB.of hv)).cell rfl rfl) ?_
          simp only [Act.put, List.setIfInBounds_toArray, List.set_cons_zero, List.set_cons_succ]
          refine wpQuiet_nil ?_
          refine wpHeld_call 43 Tryd.func43 (by kernel_rfl) (by kernel_rfl) _ _ #[.slice eB em ed] rfl (by kernel_rfl) (by kernel_rfl) ?_
          refine (rleaf_any eB em ed b W3 (HEL.out.keep HB2.out).sb hem q HQ.out).mono ?_
          rintro e2 W4 ⟨rfl, hb4⟩
          have HB4 := Lib.hid (bel_step HB2.out hb4)
          have HS4 := Lib.hid (LaterB.step HS2.out (hb4.mono HB2.out.size))
          clear hb4
          refine ⟨_, rfl, HS4.out, ?_⟩
          simp only [Act.put, List.setIfInBounds_toArray, List.set_cons_zero, List.set_cons_succ]
          refine wpHeld_nil ?_
          have H64 := Lib.hid (H6.out.keep HB4.out)
          refine mOp_run0 _ rfl rfl (exec_storeD hq32 List.length_replicate H64.out rfl rfl rfl) ?_
          go_wp2_with fail
          refine bodyPost_ret (v := .agg (celB q).toArray) ?_ rfl ⟨q, rfl, HRQ.out, ⟨hq32, hqb⟩, bel_setRow (bel_step HB1.out HB4.out) (by have := HWB.out; omega) _⟩
          exact results_cell_row rfl _ _ (b3 + 1) 34 _ (0, 0) _ rfl (H64.out.row q) Tryd.underlying34 rfl (dig_size hq32)
        · have h1' : ¬ ((s : Int) = 1) := by omega
          go_wp2_with fail
          refine (split_any s wr (by omega) (by omega)).mono ?_
          rintro e2 W2 ⟨rfl, rfl⟩
          obtain ⟨m, hm⟩ : ∃ m, leftN s = m := ⟨_, rfl⟩
          have hm1 : 1 ≤ m := by rw [← hm]; exact leftN_pos s
          have hms : m < s := by rw [← hm]; exact leftN_lt (by omega)
          rw [hm]
          have HCL := Lib.hid (show closedN f s (slN is (f : Int) ((f + s : Nat) : Int)) = closedN f m (slN is (f : Int) ((f + m : Nat) : Int)) ++ closedN (f + m) (s - m) (slN is ((f + m : Nat) : Int) ((f + m + (s - m) : Nat) : Int)) by
            have h5 := closedN_sl (f := f) (s := s) HPW.out (by omega) HNE.out
            rw [hm] at h5
            rw [h5, show f + m + (s - m) = f + s by omega])
          have HRS := Lib.hid (show rebR xs ns bs is (K + 1) f s = prN (rebR xs ns bs is K f m) (rebR xs ns bs is K (f + m) (s - m)) by
            rw [← hm]
            show (if xs.idxOf (f, s) < xs.length then _ else _) = _
            rw [if_neg HIX.out, if_neg h1])
          have hadd : IntKind.i64.wrap ((f : Int) + (m : Int)) = ((f + m : Nat) : Int) := by rw [IntKind.wrap_i64]; omega
          clear hm
          go_upto_region 9 with fail
          refine Tl.wp_held_tailB 9 W2.heap.size (by kernel_rfl) (lexOK_of (by kernel_rfl) (by kernel_rfl)) (Tl.chainW_of (by kernel_rfl)) rfl (by kernel_rfl) (by kernel_rfl) (fun W3 hb3 hSW => ?_)
          simp only [List.take_succ_cons, List.take_zero]
          have HS3 := Lib.hid hSW
          have HB3 := Lib.hid (bel_step HB1.out hb3)
          have HX3 := Lib.hid hb3
          clear hSW hb3
          refine wpHeld_seg 3 HS3.out (by kernel_rfl) ?_
          simp only [List.take_succ_cons, List.take_zero, List.drop_succ_cons, List.drop_zero]
          refine wpQuiet_val (by kernel_rfl) (.agg #[.slice I k d, .slice B k2 d2, .slice R r e, .slice C r c7]) (fun v hv => exec_loadRb b3 _ _ _ _ rfl rfl (heap_keep H3.out (LaterB.of hv))) ?_
          simp only [Act.put, List.setIfInBounds_toArray, List.set_cons_zero, List.set_cons_succ]
          refine wpQuiet_val (by kernel_rfl) (.int .i64 ((f : Nat) : Int)) (fun v hv => rfl) ?_
          simp only [Act.put, List.setIfInBounds_toArray, List.set_cons_zero, List.set_cons_succ]
          refine wpQuiet_val (by kernel_rfl) (.int .i64 ((f + m : Nat) : Int)) (fun v hv => rfl) ?_
          simp only [Act.put, List.setIfInBounds_toArray, List.set_cons_zero, List.set_cons_succ]
          refine wpQuiet_nil ?_
          refine wpHeld_call 60 Tryd.func60 (by kernel_rfl) (by kernel_rfl) _ _ #[.agg #[.slice I k d, .slice B k2 d2, .slice R r e, .slice C r c7], .int .i64 ((f : Nat) : Int), .int .i64 ((f + m : Nat) : Int)] rfl (by kernel_rfl) (by kernel_rfl) ?_
          refine (IH.out f m I k d is B k2 d2 bs R r e ns C r c7 xs W3 (HI.out.keep HB3.out) HPW.out (HB.out.keep HB3.out) HBI.out (HD.out.keep HB3.out) (HX.out.keep HB3.out) HXN.out HL.out hNb (by omega) (by omega) (by omega) (fun x hx => HSUB.out x (by rw [HCL.out]; exact List.mem_append.2 (.inl hx))) (f + m) rfl).mono ?_
          rintro e2 W4 ⟨q1, rfl, hr_q1, hsz_q1, hb⟩
          have HR1 := Lib.hid hr_q1
          have HB4 := Lib.hid (bel_step HB3.out hb)
          have HX4 := Lib.hid (bel_step HX3.out hb)
          have HS4 := Lib.hid (LaterB.step HS3.out (hb.mono HX3.out.size))
          clear hr_q1 hb
          refine ⟨_, rfl, HS4.out, ?_⟩
          simp only [Act.put, List.setIfInBounds_toArray, List.set_cons_zero, List.set_cons_succ]
          refine wpHeld_seg 3 HS4.out (by kernel_rfl) ?_
          simp only [List.take_succ_cons, List.take_zero, List.drop_succ_cons, List.drop_zero]
          refine wpQuiet_val (by kernel_rfl) (.agg #[.slice I k d, .slice B k2 d2, .slice R r e, .slice C r c7]) (fun v hv => exec_loadRb b3 _ _ _ _ rfl rfl (heap_keep H3.out (LaterB.of hv))) ?_
          simp only [Act.put, List.setIfInBounds_toArray, List.set_cons_zero, List.set_cons_succ]
          refine wpQuiet_val (by kernel_rfl) (.int .i64 ((f + m : Nat) : Int)) (fun v hv => rfl) ?_
          simp only [Act.put, List.setIfInBounds_toArray, List.set_cons_zero, List.set_cons_succ]
          refine wpQuiet_val (by kernel_rfl) (.int .i64 ((h : Nat) : Int)) (fun v hv => rfl) ?_
          simp only [Act.put, List.setIfInBounds_toArray, List.set_cons_zero, List.set_cons_succ]
          refine wpQuiet_nil ?_
          refine wpHeld_call 60 Tryd.func60 (by kernel_rfl) (by kernel_rfl) _ _ #[.agg #[.slice I k d, .slice B k2 d2, .slice R r e, .slice C r c7], .int .i64 ((f + m : Nat) : Int), .int .i64 ((h : Nat) : Int)] rfl (by kernel_rfl) (by kernel_rfl) ?_
          refine (IH.out (f + m) (s - m) I k d is B k2 d2 bs R r e ns C r c7 xs W4 (HI.out.keep HB4.out) HPW.out (HB.out.keep HB4.out) HBI.out (HD.out.keep HB4.out) (HX.out.keep HB4.out) HXN.out HL.out hNb (by omega) (by omega) (by omega) (fun x hx => HSUB.out x (by rw [HCL.out]; exact List.mem_append.2 (.inr hx))) h (by have := HH.out; omega)).mono ?_
          rintro e2 W5 ⟨q2, rfl, hr_q2, hsz_q2, hb⟩
          have HR2 := Lib.hid hr_q2
          have HB5 := Lib.hid (bel_step HB4.out hb)
          have HX5 := Lib.hid (bel_step HX4.out hb)
          have HS5 := Lib.hid (LaterB.step HS4.out (hb.mono HX4.out.size))
          clear hr_q2 hb
          refine ⟨_, rfl, HS5.out, ?_⟩
          simp only [Act.put, List.setIfInBounds_toArray, List.set_cons_zero, List.set_cons_succ]
          obtain ⟨z, hz⟩ : ∃ z, prN q1 q2 = z := ⟨_, rfl⟩
          have hz32 : z.length = 32 := by rw [← hz]; exact prN_length _ _
          have hzb : ∀ x ∈ z, x < 256 := by rw [← hz]; exact prN_lt _ _
          have HZ := Lib.hid (show shaN (1 :: (q1 ++ q2)) = z from hz)
          have HRZ := Lib.hid (show rebR xs ns bs is (K + 1) f s = z by rw [HRS.out, HR1.out, HR2.out]; exact hz)
          clear hz
          refine wpHeld_call 44 Tryd.func44 (by kernel_rfl) (by kernel_rfl) _ _ #[.agg (celB q1).toArray, .agg (celB q2).toArray] rfl (by kernel_rfl) (by kernel_rfl) ?_
          refine (rpair_any q1 q2 W5 hsz_q1.1 hsz_q2.1 hsz_q1.2 hsz_q2.2 z HZ.out).mono ?_
          rintro e2 W6 ⟨rfl, hb6⟩
          have HB6 := Lib.hid (bel_step HB5.out hb6)
          have HX6 := Lib.hid (bel_step HX5.out hb6)
          have HS6 := Lib.hid (LaterB.step HS5.out (hb6.mono HX5.out.size))
          clear hb6
          refine ⟨_, rfl, HS6.out, ?_⟩
          simp only [Act.put, List.setIfInBounds_toArray, List.set_cons_zero, List.set_cons_succ]
          refine wpHeld_nil ?_
          have H66 := Lib.hid (H6.out.keep HX6.out)
          refine mOp_run0 _ rfl rfl (exec_storeD hz32 List.length_replicate H66.out rfl rfl rfl) ?_
          go_wp2_with fail
          refine bodyPost_ret (v := .agg (celB z).toArray) ?_ rfl ⟨z, rfl, HRZ.out, ⟨hz32, hzb⟩, bel_setRow HB6.out (by have := HWB.out; omega) _⟩
          exact results_cell_row rfl _ _ (b3 + 1) 34 _ (0, 0) _ rfl (H66.out.row z) Tryd.underlying34 rfl (dig_size hz32)
end Go.Proofs.YtgkojdbepgonkaaDoor
