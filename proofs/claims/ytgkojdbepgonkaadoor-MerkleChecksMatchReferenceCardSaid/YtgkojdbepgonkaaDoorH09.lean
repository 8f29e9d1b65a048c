/- Several texts in one: Mkj, Shl, Shm, Sho, Shp. -/
import Derived.Test.YtgkojdbepgonkaaDoorH08
import Derived.Test.YtgkojdbepgonkaaDoorH06
import Derived.Laws.CopyOwn
/- The siblings on the way from a leaf to the root: the iterator yields them. -/
namespace Go.Proofs.YtgkojdbepgonkaaDoor
set_option maxRecDepth 8000
set_option linter.unusedVariables false
set_option linter.unusedSimpArgs false
open Go.RowKit
open Go.Shelf
attribute [local go_sem] Oper.semAt_some
/-- the two variables of the iterator over the siblings -/
def SbB (b1 b2 f s : Nat) (i : Int) (w : World) : Prop :=
  w.heap[b1]? = some (.cells #[.int .i64 (f : Int), .int .i64 (s : Int)] 94 (0, 0)) ∧ w.heap[b2]? = some (.cells #[.int .i64 i] 3 (0, 0))
theorem siblings_any (f s : Nat) (i : Int) (w : World) :
    Calls Tryd.prog 62 #[.agg #[.int .i64 (f : Int), .int .i64 (s : Int)], .int .i64 i] w fun e w' => ∃ b1 b2, e = .returned (.func (.func 99) #[] #[.pointer (some ⟨b1, 0, none⟩), .pointer (some ⟨b2, 0, none⟩)]) ∧ SbB b1 b2 f s i w' ∧ w.heap.size ≤ b1 ∧ w.heap.size ≤ b2 ∧ Below w.heap.size w w' := by
  go_enter Tryd.func62, Tryd.ntmps62
  go_wp2
  go_ret
  refine ⟨w.heap.size, w.heap.size + 1, rfl, ⟨?_, ?_⟩, Nat.le_refl _, Nat.le_succ _, ((Below.refl _ w).alloc (Nat.le_refl _) _).alloc (by simp) _⟩
  · exact heap_old _ (heap_new w _)
  · have h := heap_new (w.alloc (.cells #[.int .i64 (f : Int), .int .i64 (s : Int)] 94)) (.cells #[.int .i64 i] 3)
    rwa [alloc_sz] at h
set_option maxRecDepth 100000 in
set_option maxHeartbeats 4000000 in
theorem siblings_iter : ∀ (K f s : Nat) (i : Int) (b1 b2 : Nat), s ≤ K → 1 ≤ s → f + s ≤ 65536 →
    IterC Tryd.prog 99 #[.pointer (some ⟨b1, 0, none⟩), .pointer (some ⟨b2, 0, none⟩)] (fun x : Nat × Nat => #[subV x.1 x.2]) (sibN f s i) (SbB b1 b2 f s i) := by
  intro K
  induction K with
  | zero => intro f s i b1 b2 h1 h2; omega
  | succ K ih =>
    intro f s i b1 b2 hK hs1 hs l W J hJG hJ hY h0
    have hg := (hJG 0 W h0).1
    have hc2 : W.cell? ⟨b1, 0, none⟩ = some (.int .i64 (f : Int)) := cells_at hg.1 0 (v := .int .i64 (f : Int)) rfl
    have hc3 : W.cell? ⟨b1, 1, none⟩ = some (.int .i64 (s : Int)) := cells_at hg.1 1 (v := .int .i64 (s : Int)) rfl
    have hc4 : W.cell? ⟨b2, 0, none⟩ = some (.int .i64 i) := cells_at hg.2 0 (v := .int .i64 i) rfl
    have HJ := Lib.hid hJ
    have HY := Lib.hid hY
    have H0 := Lib.hid h0
    have IH := Lib.hid ih
    clear ih hg hJG hJ hY h0
    refine callsIn_of_wp_marks Tryd.func99 rfl trivial ?_ rfl
    simp only [Tryd.ntmps99, List.size_toArray, List.length_cons, List.length_nil, Nat.reduceAdd, Nat.reduceSub, Array.replicate_succ, Array.replicate_zero, List.push_toArray, List.append_toArray, List.nil_append, List.cons_append]
    have c2 := cell_alloc hc2 (.cells #[.func (.yield l) #[] #[]] 134)
    have c3 := cell_alloc hc3 (.cells #[.func (.yield l) #[] #[]] 134)
    have c4 := cell_alloc hc4 (.cells #[.func (.yield l) #[] #[]] 134)
    have hJ1 := HJ.out 0 W _ H0.out (Abide.of_below ((Below.refl _ _).alloc (Nat.le_refl _) (.cells #[.func (.yield l) #[] #[]] 134)) (Nat.le_refl _))
    by_cases h1 : s = 1
    · subst h1
      gi_wp2
      refine ⟨.tuple #[], results_none rfl _ _ _, ⟨_, rfl⟩, ?_⟩
      exact hJ1
    · have hsi : ¬ ((s : Int) = 1) := by omega
      have H1 := Lib.hid hJ1
      clear hJ1 H0
      gi_wp2
      obtain ⟨W1, hW1⟩ : ∃ W1, W.alloc (.cells #[.func (.yield l) #[] #[]] 134) = W1 := ⟨_, rfl⟩
      have hYB : W1.heap[W.heap.size]? = some (.cells #[.func (.yield l) #[] #[]] 134 (0, 0)) := by rw [← hW1]; exact heap_new W _
      rw [hW1] at c2 c3 c4 H1 ⊢
      clear hW1
      have HYB := Lib.hid hYB
      have hs2 : W.heap.size < W1.heap.size := (Array.getElem?_eq_some_iff.1 hYB).1
      clear hYB
      refine ⟨trivial, (callsIn_wide.2 (parts_any f s _ (by omega) (by omega) (by omega))).mono ?_⟩
      rintro e W2 ⟨rfl, hb2⟩
      have hs3 := hb2.size
      obtain ⟨k, hk⟩ : ∃ k, leftN s = k := ⟨_, rfl⟩
      obtain ⟨m, hm⟩ : ∃ m, s - k = m := ⟨_, rfl⟩
      obtain ⟨g, hgk⟩ : ∃ g, f + k = g := ⟨_, rfl⟩
      have HKM := Lib.hid (show k ≤ K ∧ m ≤ K ∧ 1 ≤ k ∧ 1 ≤ m ∧ f + k ≤ 65536 ∧ g + m ≤ 65536 by
        have := leftN_lt (n := s) (by omega)
        have := leftN_pos s
        omega)
      have HG := Lib.hid (show g = f + leftN s by rw [← hgk, hk])
      have HM := Lib.hid (show m = s - leftN s by rw [← hm, hk])
      have HK := Lib.hid (show k = leftN s from hk.symm)
      have hP2 : 2 ≤ s := by omega
      unfold subV
      rw [hk, hm, hgk]
      clear hk hm hgk
      obtain ⟨W3, hW3⟩ : ∃ W3, (W2.alloc (.cells #[.int .i64 (f : Int), .int .i64 (k : Int)] 94)).alloc (.cells #[.int .i64 (g : Int), .int .i64 (m : Int)] 94) = W3 := ⟨_, rfl⟩
      have hL3 : W3.heap[W2.heap.size]? = some (.cells #[.int .i64 (f : Int), .int .i64 (k : Int)] 94 (0, 0)) := by rw [← hW3]; exact heap_old _ (heap_new W2 _)
      have hR3 : W3.heap[W2.heap.size + 1]? = some (.cells #[.int .i64 (g : Int), .int .i64 (m : Int)] 94 (0, 0)) := by
        rw [← hW3]
        have h := heap_new (W2.alloc (.cells #[.int .i64 (f : Int), .int .i64 (k : Int)] 94)) (.cells #[.int .i64 (g : Int), .int .i64 (m : Int)] 94)
        rwa [alloc_sz] at h
      have hb3 : Below W2.heap.size W2 W3 := by rw [← hW3]; exact ((Below.refl _ _).alloc (Nat.le_refl _) _).alloc (by simp) _
      have hs4 : W2.heap.size + 1 < W3.heap.size := (Array.getElem?_eq_some_iff.1 hR3).1
      have p0 := cells_at hL3 0 (v := .int .i64 (f : Int)) rfl
      have p1 := cells_at hL3 1 (v := .int .i64 (k : Int)) rfl
      have q0 := cells_at hR3 0 (v := .int .i64 (g : Int)) rfl
      have q1 := cells_at hR3 1 (v := .int .i64 (m : Int)) rfl
      have hw2 := cell_keep c4 hb2
      have hp2 := cell_keep hw2 hb3
      clear c2 c3 c4 hc2 hc3 hc4
      by_cases hlt : i < (g : Int)
      · have hge : ¬ ((g : Int) ≤ i) := by omega
        have HSP := Lib.hid (show sibN f s i = sibN f k i ++ [(g, m)] by rw [HK.out, HG.out, HM.out]; exact sibN_left f hP2 (by rw [← HG.out]; exact hlt))
        clear HK HG HM
        have hp0 := p0
        have hp1 := p1
        have hP := hL3
        have hQ := hR3
        have hbp := hb3
        clear p0 p1 hL3 hR3 hb3 hw2
        gi_wp2
        clear hW3
        generalize W3 = Wp at *
        refine ⟨trivial, (callsIn_wide.2 (siblings_any f k i Wp)).mono ?_⟩
        rintro e W4 ⟨b3, b4, rfl, hcl, hge1, hge2, hb34⟩
        have hs5 := hb34.size
        have hL1 : OkL W.heap.size [(W.heap.size, .cells #[.func (.yield l) #[] #[]] 134 (0, 0)), (W2.heap.size + 1, .cells #[.int .i64 (g : Int), .int .i64 (m : Int)] 94 (0, 0)), (b3, .cells #[.int .i64 (f : Int), .int .i64 (k : Int)] 94 (0, 0)), (b4, .cells #[.int .i64 i] 3 (0, 0))] := by
          intro p hp
          simp only [List.mem_cons, List.not_mem_nil, or_false] at hp
          rcases hp with rfl | rfl | rfl | rfl
          · exact ⟨Nat.le_refl _, rfl, rfl⟩
          · exact ⟨by show W.heap.size ≤ W2.heap.size + 1; omega, rfl, rfl⟩
          · exact ⟨by show W.heap.size ≤ b3; omega, rfl, rfl⟩
          · exact ⟨by show W.heap.size ≤ b4; omega, rfl, rfl⟩
        have hl1 : Lies [(W.heap.size, .cells #[.func (.yield l) #[] #[]] 134 (0, 0)), (W2.heap.size + 1, .cells #[.int .i64 (g : Int), .int .i64 (m : Int)] 94 (0, 0)), (b3, .cells #[.int .i64 (f : Int), .int .i64 (k : Int)] 94 (0, 0)), (b4, .cells #[.int .i64 i] 3 (0, 0))] W4 := by
          intro p hp
          simp only [List.mem_cons, List.not_mem_nil, or_false] at hp
          rcases hp with rfl | rfl | rfl | rfl
          · exact heap_keep ((hbp.block _ (by omega)).trans (heap_keep HYB.out hb2)) hb34
          · exact heap_keep hQ hb34
          · exact hcl.1
          · exact hcl.2
        have hb14 : Below W1.heap.size W1 W4 := (hb2.trans (hbp.mono (by omega))).trans (hb34.mono (by omega))
        have HL1 := Lib.hid hL1
        have HLL := Lib.hid hl1
        have H4 := Lib.hid (HJ.out 0 W1 W4 H1.out (Abide.of_below hb14 (by omega)))
        clear hb2 hbp hQ hP hcl hb34 hL1 hl1 hb14 H1 HYB hp0 hp1 hp2
        gi_wp2
        have hs6 : W.heap.size ≤ W4.heap.size := by omega
        generalize hL : [(W.heap.size, (Obj.cells #[.func (.yield l) #[] #[]] 134 (0, 0))), (W2.heap.size + 1, .cells #[.int .i64 (g : Int), .int .i64 (m : Int)] 94 (0, 0)), (b3, .cells #[.int .i64 (f : Int), .int .i64 (k : Int)] 94 (0, 0)), (b4, .cells #[.int .i64 i] 3 (0, 0))] = L1 at HL1 HLL
        have HE1 := Lib.hid hL
        clear hL
        refine wpIn_rangeAll (gf := 99) (lb := #[.pointer (some ⟨b3, 0, none⟩), .pointer (some ⟨b4, 0, none⟩)]) rfl (enters_of Tryd.func99 (by kernel_rfl) rfl) (fun x : Nat × Nat => #[subV x.1 x.2]) (fun _ => rfl)
          (sibN f k i) (SbB b3 b4 f k i) (IH.out f k i b3 b4 HKM.out.1 HKM.out.2.2.1 HKM.out.2.2.2.2.1) (fun i A => J i A ∧ W4.heap.size ≤ A.heap.size ∧ Lies L1 A) ?jg ?jj ?j0 2 ?round ?fin
        case jg =>
          rintro i A ⟨h1, _, h2⟩
          rw [← HE1.out] at h2
          obtain ⟨_, _, e3, e4⟩ := h2.four
          exact ⟨e3, e4⟩
        case jj =>
          rintro i A B ⟨h1, h2, h3⟩ hb
          exact ⟨HJ.out i A B h1 (hb.mono hs6), Nat.le_trans h2 hb.below.size, h3.abide HL1.out hb⟩
        case j0 => exact ⟨H4.out, Nat.le_refl _, HLL.out⟩
        case round =>
          rintro l2 i2 x A hx hl2 ⟨h1, h2, h3⟩
          have HA1 := Lib.hid h1
          have HA3 := Lib.hid h3
          have HX := Lib.hid hx
          clear h1 h3 hx
          have hX : (sibN f s i)[i2]? = some x := by
            rw [HSP.out, List.getElem?_append_left (List.getElem?_eq_some_iff.1 HX.out).1]; exact HX.out
          unfold subV
          gi_wp2
          have hbA := (Below.refl A.heap.size A).alloc (Nat.le_refl _) (.cells #[.int .i64 (x.1 : Int), .int .i64 (x.2 : Int)] 94)
          have hcA := heap_new A (.cells #[.int .i64 (x.1 : Int), .int .i64 (x.2 : Int)] 94)
          have hzA : A.heap.size ≤ (A.alloc (.cells #[.int .i64 (x.1 : Int), .int .i64 (x.2 : Int)] 94)).heap.size := hbA.size
          refine ⟨KeepI.alloc _, fun B2 hB2 => ?_⟩
          have hj2 : J i2 B2 := HJ.out i2 _ _ (HJ.out i2 A _ HA1.out (Abide.of_below hbA (by omega))) (hB2.mono hs6)
          have hl2 : Lies L1 B2 := (HA3.out.abide HL1.out (Abide.of_below hbA (Nat.le_refl _))).abide HL1.out hB2
          have HL2 := Lib.hid hl2
          have hl3 := hl2
          rw [← HE1.out] at hl3
          obtain ⟨e1, _, _, _⟩ := hl3.four
          have d0 := cells_at e1 0 (v := .func (.yield l) #[] #[]) rfl
          have ex := hB2.cells _ _ hcA rfl
          have d1 := cells_at ex 0 (v := .int .i64 (x.1 : Int)) rfl
          have d2 := cells_at ex 1 (v := .int .i64 (x.2 : Int)) rfl
          have hz2 : W4.heap.size ≤ B2.heap.size := Nat.le_trans h2 (Nat.le_trans hzA hB2.below.size)
          obtain ⟨fn, tmps, assign, body, hy, hR⟩ := HY.out i2 x B2 hX hj2
          unfold subV at hy
          clear hbA hcA hzA hj2 hl2 hl3 e1 ex hX hB2 HA1 HA3 HX
          gi_wp2
          refine (roundIn_wr hR).mono ?_
          clear hR hy d0 d1 d2
          rintro e B3 ⟨rfl, hj3, hk3⟩
          gi_wp2
          exact ⟨hk3.mono hs6, hj3, Nat.le_trans hz2 hk3.size, HL2.out.keepI HL1.out hk3⟩
        case fin =>
          rintro D B hD ⟨h1, h2, h3⟩ hd
          rw [← HE1.out] at h3
          obtain ⟨e1, e2, _, _⟩ := h3.four
          have d0 := cells_at e1 0 (v := .func (.yield l) #[] #[]) rfl
          have d1 := cells_at e2 0 (v := .int .i64 (g : Int)) rfl
          have d2 := cells_at e2 1 (v := .int .i64 (m : Int)) rfl
          have HD := Lib.hid hd
          have hX : (sibN f s i)[(sibN f k i).length]? = some (g, m) := by
            rw [HSP.out, List.getElem?_append_right (Nat.le_refl _), Nat.sub_self]; rfl
          have HLE := Lib.hid (show (sibN f k i).length + 1 = (sibN f s i).length by rw [HSP.out, List.length_append]; rfl)
          obtain ⟨fn, tmps, assign, body, hy, hR⟩ := HY.out _ (g, m) B hX h1
          unfold subV at hy
          clear h1 h3 e1 e2 hd HL1 HLL HE1 H4 hX
          clear L1
          gi_wp2
          refine hR.mono ?_
          clear hR hy d0 d1 d2
          rintro e B3 ⟨rfl, hj3, hk3⟩
          rw [HLE.out] at hj3
          have HF := Lib.hid hj3
          have hd3 := hk3.same D _ (by omega) HD.out rfl
          clear hj3 hk3 HD HLE HSP
          gi_wp2
          have hf1 := HJ.out _ _ _ HF.out (Abide.putObj (N := W.heap.size) (.deferred none) hd3 rfl (by omega))
          exact ⟨by simp, .inl ⟨_, _, rfl, run_takeDeferred hd3, .tuple #[], results_none rfl _ _ _, ⟨_, rfl⟩, hf1⟩⟩
      · have hge : (g : Int) ≤ i := by omega
        have HSP := Lib.hid (show sibN f s i = sibN g m i ++ [(f, k)] by rw [HK.out, HG.out, HM.out]; exact sibN_right f hP2 (by rw [← HG.out]; exact hlt))
        clear HK HG HM
        have f0 := frozen_of_row W3 W2.heap.size 0 _ _ hL3
        have f1 := frozen_of_row W3 W2.heap.size 1 _ _ hL3
        have g0 := frozen_of_row W3 (W2.heap.size + 1) 0 _ _ hR3
        have g1 := frozen_of_row W3 (W2.heap.size + 1) 1 _ _ hR3
        have ne1 : W2.heap.size ≠ W2.heap.size + 1 := by omega
        obtain ⟨Wp, hWp⟩ : ∃ Wp, (((W3.setCell { block := W2.heap.size, off := 0 } (.int .i64 (g : Int))).setCell { block := W2.heap.size, off := 1 } (.int .i64 (m : Int))).setCell { block := W2.heap.size + 1, off := 0 } (.int .i64 (f : Int))).setCell { block := W2.heap.size + 1, off := 1 } (.int .i64 (k : Int)) = Wp := ⟨_, rfl⟩
        have e0 : ((W3.setCell { block := W2.heap.size, off := 0 } (.int .i64 (g : Int))).setCell { block := W2.heap.size, off := 1 } (.int .i64 (m : Int))).heap[W2.heap.size]? = some (.cells #[.int .i64 (g : Int), .int .i64 (m : Int)] 94 (0, 0)) := heap_setCell_same _ _ 1 _ _ _ (heap_setCell_same _ _ 0 _ _ _ hL3)
        have e1 : ((W3.setCell { block := W2.heap.size, off := 0 } (.int .i64 (g : Int))).setCell { block := W2.heap.size, off := 1 } (.int .i64 (m : Int))).heap[W2.heap.size + 1]? = some (.cells #[.int .i64 (g : Int), .int .i64 (m : Int)] 94 (0, 0)) := by
          rw [Below.heap_setCell _ _ _ _ (by simp), Below.heap_setCell _ _ _ _ (by simp)]
          exact hR3
        have hP : Wp.heap[W2.heap.size]? = some (.cells #[.int .i64 (g : Int), .int .i64 (m : Int)] 94 (0, 0)) := by
          rw [← hWp, Below.heap_setCell _ _ _ _ (by simp), Below.heap_setCell _ _ _ _ (by simp)]
          exact e0
        have hQ : Wp.heap[W2.heap.size + 1]? = some (.cells #[.int .i64 (f : Int), .int .i64 (k : Int)] 94 (0, 0)) := by
          rw [← hWp]
          exact heap_setCell_same _ _ 1 _ _ _ (heap_setCell_same _ _ 0 _ _ _ e1)
        have hbp : Below W2.heap.size W2 Wp := by
          rw [← hWp]
          exact (((hb3.setCell (Nat.le_refl _) _).setCell (Nat.le_refl _) _).setCell (Nat.le_succ _) _).setCell (Nat.le_succ _) _
        have hs4 : W2.heap.size + 1 < Wp.heap.size := (Array.getElem?_eq_some_iff.1 hQ).1
        have hp3 := cell_keep hw2 hbp
        have hp0 := cells_at hP 0 (v := .int .i64 (g : Int)) rfl
        have hp1 := cells_at hP 1 (v := .int .i64 (m : Int)) rfl
        clear e0 e1 hL3 hR3
        gi_wp2
        clear hWp f0 f1 g0 g1 ne1 p0 p1 q0 q1 hp3 hW3 hb3 hw2
        refine ⟨trivial, (callsIn_wide.2 (siblings_any g m i Wp)).mono ?_⟩
        rintro e W4 ⟨b3, b4, rfl, hcl, hge1, hge2, hb34⟩
        have hs5 := hb34.size
        have hL1 : OkL W.heap.size [(W.heap.size, .cells #[.func (.yield l) #[] #[]] 134 (0, 0)), (W2.heap.size + 1, .cells #[.int .i64 (f : Int), .int .i64 (k : Int)] 94 (0, 0)), (b3, .cells #[.int .i64 (g : Int), .int .i64 (m : Int)] 94 (0, 0)), (b4, .cells #[.int .i64 i] 3 (0, 0))] := by
          intro p hp
          simp only [List.mem_cons, List.not_mem_nil, or_false] at hp
          rcases hp with rfl | rfl | rfl | rfl
          · exact ⟨Nat.le_refl _, rfl, rfl⟩
          · exact ⟨by show W.heap.size ≤ W2.heap.size + 1; omega, rfl, rfl⟩
          · exact ⟨by show W.heap.size ≤ b3; omega, rfl, rfl⟩
          · exact ⟨by show W.heap.size ≤ b4; omega, rfl, rfl⟩
        have hl1 : Lies [(W.heap.size, .cells #[.func (.yield l) #[] #[]] 134 (0, 0)), (W2.heap.size + 1, .cells #[.int .i64 (f : Int), .int .i64 (k : Int)] 94 (0, 0)), (b3, .cells #[.int .i64 (g : Int), .int .i64 (m : Int)] 94 (0, 0)), (b4, .cells #[.int .i64 i] 3 (0, 0))] W4 := by
          intro p hp
          simp only [List.mem_cons, List.not_mem_nil, or_false] at hp
          rcases hp with rfl | rfl | rfl | rfl
          · exact heap_keep ((hbp.block _ (by omega)).trans (heap_keep HYB.out hb2)) hb34
          · exact heap_keep hQ hb34
          · exact hcl.1
          · exact hcl.2
        have hb14 : Below W1.heap.size W1 W4 := (hb2.trans (hbp.mono (by omega))).trans (hb34.mono (by omega))
        have HL1 := Lib.hid hL1
        have HLL := Lib.hid hl1
        have H4 := Lib.hid (HJ.out 0 W1 W4 H1.out (Abide.of_below hb14 (by omega)))
        clear hb2 hbp hQ hP hcl hb34 hL1 hl1 hb14 H1 HYB hp0 hp1 hp2
        gi_wp2
        have hs6 : W.heap.size ≤ W4.heap.size := by omega
        generalize hL : [(W.heap.size, (Obj.cells #[.func (.yield l) #[] #[]] 134 (0, 0))), (W2.heap.size + 1, .cells #[.int .i64 (f : Int), .int .i64 (k : Int)] 94 (0, 0)), (b3, .cells #[.int .i64 (g : Int), .int .i64 (m : Int)] 94 (0, 0)), (b4, .cells #[.int .i64 i] 3 (0, 0))] = L1 at HL1 HLL
        have HE1 := Lib.hid hL
        clear hL
        refine wpIn_rangeAll (gf := 99) (lb := #[.pointer (some ⟨b3, 0, none⟩), .pointer (some ⟨b4, 0, none⟩)]) rfl (enters_of Tryd.func99 (by kernel_rfl) rfl) (fun x : Nat × Nat => #[subV x.1 x.2]) (fun _ => rfl)
          (sibN g m i) (SbB b3 b4 g m i) (IH.out g m i b3 b4 HKM.out.2.1 HKM.out.2.2.2.1 HKM.out.2.2.2.2.2) (fun i A => J i A ∧ W4.heap.size ≤ A.heap.size ∧ Lies L1 A) ?jg ?jj ?j0 2 ?round ?fin
        case jg =>
          rintro i A ⟨h1, _, h2⟩
          rw [← HE1.out] at h2
          obtain ⟨_, _, e3, e4⟩ := h2.four
          exact ⟨e3, e4⟩
        case jj =>
          rintro i A B ⟨h1, h2, h3⟩ hb
          exact ⟨HJ.out i A B h1 (hb.mono hs6), Nat.le_trans h2 hb.below.size, h3.abide HL1.out hb⟩
        case j0 => exact ⟨H4.out, Nat.le_refl _, HLL.out⟩
        case round =>
          rintro l2 i2 x A hx hl2 ⟨h1, h2, h3⟩
          have HA1 := Lib.hid h1
          have HA3 := Lib.hid h3
          have HX := Lib.hid hx
          clear h1 h3 hx
          have hX : (sibN f s i)[i2]? = some x := by
            rw [HSP.out, List.getElem?_append_left (List.getElem?_eq_some_iff.1 HX.out).1]; exact HX.out
          unfold subV
          gi_wp2
          have hbA := (Below.refl A.heap.size A).alloc (Nat.le_refl _) (.cells #[.int .i64 (x.1 : Int), .int .i64 (x.2 : Int)] 94)
          have hcA := heap_new A (.cells #[.int .i64 (x.1 : Int), .int .i64 (x.2 : Int)] 94)
          have hzA : A.heap.size ≤ (A.alloc (.cells #[.int .i64 (x.1 : Int), .int .i64 (x.2 : Int)] 94)).heap.size := hbA.size
          refine ⟨KeepI.alloc _, fun B2 hB2 => ?_⟩
          have hj2 : J i2 B2 := HJ.out i2 _ _ (HJ.out i2 A _ HA1.out (Abide.of_below hbA (by omega))) (hB2.mono hs6)
          have hl2 : Lies L1 B2 := (HA3.out.abide HL1.out (Abide.of_below hbA (Nat.le_refl _))).abide HL1.out hB2
          have HL2 := Lib.hid hl2
          have hl3 := hl2
          rw [← HE1.out] at hl3
          obtain ⟨e1, _, _, _⟩ := hl3.four
          have d0 := cells_at e1 0 (v := .func (.yield l) #[] #[]) rfl
          have ex := hB2.cells _ _ hcA rfl
          have d1 := cells_at ex 0 (v := .int .i64 (x.1 : Int)) rfl
          have d2 := cells_at ex 1 (v := .int .i64 (x.2 : Int)) rfl
          have hz2 : W4.heap.size ≤ B2.heap.size := Nat.le_trans h2 (Nat.le_trans hzA hB2.below.size)
          obtain ⟨fn, tmps, assign, body, hy, hR⟩ := HY.out i2 x B2 hX hj2
          unfold subV at hy
          clear hbA hcA hzA hj2 hl2 hl3 e1 ex hX hB2 HA1 HA3 HX
          gi_wp2
          refine (roundIn_wr hR).mono ?_
          clear hR hy d0 d1 d2
          rintro e B3 ⟨rfl, hj3, hk3⟩
          gi_wp2
          exact ⟨hk3.mono hs6, hj3, Nat.le_trans hz2 hk3.size, HL2.out.keepI HL1.out hk3⟩
        case fin =>
          rintro D B hD ⟨h1, h2, h3⟩ hd
          rw [← HE1.out] at h3
          obtain ⟨e1, e2, _, _⟩ := h3.four
          have d0 := cells_at e1 0 (v := .func (.yield l) #[] #[]) rfl
          have d1 := cells_at e2 0 (v := .int .i64 (f : Int)) rfl
          have d2 := cells_at e2 1 (v := .int .i64 (k : Int)) rfl
          have HD := Lib.hid hd
          have hX : (sibN f s i)[(sibN g m i).length]? = some (f, k) := by
            rw [HSP.out, List.getElem?_append_right (Nat.le_refl _), Nat.sub_self]; rfl
          have HLE := Lib.hid (show (sibN g m i).length + 1 = (sibN f s i).length by rw [HSP.out, List.length_append]; rfl)
          obtain ⟨fn, tmps, assign, body, hy, hR⟩ := HY.out _ (f, k) B hX h1
          unfold subV at hy
          clear h1 h3 e1 e2 hd HL1 HLL HE1 H4 hX
          clear L1
          gi_wp2
          refine hR.mono ?_
          clear hR hy d0 d1 d2
          rintro e B3 ⟨rfl, hj3, hk3⟩
          rw [HLE.out] at hj3
          have HF := Lib.hid hj3
          have hd3 := hk3.same D _ (by omega) HD.out rfl
          clear hj3 hk3 HD HLE HSP
          gi_wp2
          have hf1 := HJ.out _ _ _ HF.out (Abide.putObj (N := W.heap.size) (.deferred none) hd3 rfl (by omega))
          exact ⟨by simp, .inl ⟨_, _, rfl, run_takeDeferred hd3, .tuple #[], results_none rfl _ _ _, ⟨_, rfl⟩, hf1⟩⟩
end Go.Proofs.YtgkojdbepgonkaaDoor

/- Contracts of package sha256: Pair. -/
namespace Go.Proofs.YtgkojdbepgonkaaDoor
set_option linter.unusedVariables false
set_option linter.unusedSimpArgs false
set_option maxRecDepth 8000
open Go.RowKit
attribute [local simp] z32_ne z32_run
attribute [-simp] Tryd.zeroValue34 Tryd.isAgg34 Tryd.sizeOf34
theorem run_buildB1 {ev : Operand → Value} {o : Oper} {x : Operand} (y : Nat) (ho : o.op = .buildSlice 29 1 #[(0, x)]) (hx : ev x = .int .u8 (y : Int)) (w : World) :
    (execOp ev o).run Tryd.prog w = .ok (.value (.slice (some ⟨w.heap.size, 0, none⟩) 1 1)) (w.alloc (.cells #[.int .u8 (y : Int)] 5)) := by
  unfold execOp
  rw [ho]
  simp only [List.map_toArray, List.map_cons, List.map_nil, hx]
  go_simp
theorem run_sliceD {ev : Operand → Value} {o : Oper} {x : Operand} (g : Nat) (ho : o.op = .slice 34 x none none none) (hx : ev x = .pointer (some ⟨g, 0, none⟩)) (w : World) :
    (execOp ev o).run Tryd.prog w = .ok (.value (.slice (some ⟨g, 0, none⟩) 32 32)) w := by
  unfold execOp
  rw [ho]
  simp only [hx]
  go_simp
set_option maxHeartbeats 2000000 in
theorem pair_any (x y : List Nat) (w : World) (hx : x.length = 32) (hy : y.length = 32) (hxb : ∀ z ∈ x, z < 256) (hyb : ∀ z ∈ y, z < 256) (hG : Gl w) (R : List Nat) (hR : shaN (1 :: (x ++ y)) = R) :
    Calls Tryd.prog 92 #[.agg (celB x).toArray, .agg (celB y).toArray] w fun e w' => e = .returned (.agg (celB R).toArray) ∧ Below w.heap.size w w' := by
  have hl : R.length = 32 := by rw [← hR]; exact shaN_length _
  have HR := Lib.hid hR
  have HG := Lib.hid hG
  have HXL := Lib.hid hx
  have HYL := Lib.hid hy
  have HXB := Lib.hid hxb
  have HYB := Lib.hid hyb
  clear hR hG hx hy hxb hyb
  go_enter Tryd.func92, Tryd.ntmps92
  go_upto_region 1 with fail
  refine wp_named3 (fun w1 hb1 g0 g1 g2 hlt1 => ?_)
  have H0 : Hid (RowB w1 34 w.heap.size x) := Lib.hid g0
  have H1 : Hid (RowB w1 34 (w.heap.size + 1) y) := Lib.hid g1
  have H2 : Hid (RowB w1 34 (w.heap.size + 1 + 1) (List.replicate 32 0)) := Lib.hid g2
  have HB1 := Lib.hid hb1
  clear g0 g1 g2 hb1
  refine wp_held_tailB 5 (w.heap.size + 1 + 1) (by kernel_rfl) (lexOK_of (by kernel_rfl) (by kernel_rfl)) (chainOK_of (by kernel_rfl)) rfl (by kernel_rfl) (by kernel_rfl) (fun W0 hbW hSW => ?_)
  have H00 := Lib.hid (H0.out.keep hbW)
  have H10 := Lib.hid (H1.out.keep hbW)
  have H20 := Lib.hid (H2.out.keep hbW)
  have HB0 := Lib.hid (bel_step HB1.out hbW)
  have HSS := Lib.hid hSW
  have hz0 : w.heap.size + 1 + 1 < W0.heap.size := by have := hbW.size; omega
  clear hbW hSW H0 H1 H2 HB1
  have hb2 : Below W0.heap.size W0 (W0.alloc (.cells #[.int .u8 ((1 : Nat) : Int)] 5)) := (Below.refl _ _).alloc (Nat.le_refl _) _
  refine wpHeld_run _ _ (by kernel_rfl) (by kernel_rfl) (run_buildB1 1 rfl rfl _) (LaterB.step HSS.out (hb2.mono (by omega))) ?_
  simp only [List.take_succ_cons, List.take_zero, List.drop_succ_cons, List.drop_zero, Act.put, List.setIfInBounds_toArray, List.set_cons_zero, List.set_cons_succ]
  have HO := Lib.hid (show RowB (W0.alloc (.cells #[.int .u8 ((1 : Nat) : Int)] 5)) 5 W0.heap.size [1] from heap_new W0 _)
  have H01 := Lib.hid (H00.out.keep hb2)
  have H11 := Lib.hid (H10.out.keep hb2)
  have H21 := Lib.hid (H20.out.keep hb2)
  have HB2 := Lib.hid (bel_step HB0.out hb2)
  have HS2 := Lib.hid (LaterB.step HSS.out (hb2.mono (by omega)))
  have hz2 := hb2.size
  clear hb2 H00 H10 H20 HB0 HSS
  generalize W0.alloc (.cells #[.int .u8 ((1 : Nat) : Int)] 5) = W2 at *
  refine wpHeld_seg 2 HS2.out (by kernel_rfl) ?_
  simp only [List.take_succ_cons, List.take_zero, List.drop_succ_cons, List.drop_zero]
  refine wpQuiet_val (by kernel_rfl) _ (fun v _ => run_sliceD w.heap.size rfl rfl v) ?_
  simp only [Act.put, List.setIfInBounds_toArray, List.set_cons_zero, List.set_cons_succ]
  refine wpQuiet_val (by kernel_rfl) _ (fun v _ => run_sliceD (w.heap.size + 1) rfl rfl v) ?_
  simp only [Act.put, List.setIfInBounds_toArray, List.set_cons_zero, List.set_cons_succ]
  refine wpQuiet_nil ?_
  have hb3 : Below W2.heap.size W2 (W2.alloc (.cells #[.slice (some ⟨W0.heap.size, 0, none⟩) 1 1, .slice (some ⟨w.heap.size, 0, none⟩) 32 32, .slice (some ⟨w.heap.size + 1, 0, none⟩) 32 32] 29)) := (Below.refl _ _).alloc (Nat.le_refl _) _
  refine wpHeld_run _ _ (by kernel_rfl) (by kernel_rfl) (run_buildP3 _ _ _ _ _ _ _ _ _ rfl rfl rfl rfl _) (LaterB.step HS2.out (hb3.mono (by omega))) ?_
  simp only [Act.put, List.setIfInBounds_toArray, List.set_cons_zero, List.set_cons_succ]
  have hrow := heap_new W2 (.cells #[.slice (some ⟨W0.heap.size, 0, none⟩) 1 1, .slice (some ⟨w.heap.size, 0, none⟩) 32 32, .slice (some ⟨w.heap.size + 1, 0, none⟩) 32 32] 29)
  have hs1 := (HO.out.keep hb3).all (n := 1) (c := 1) (by decide) rfl (Nat.le_refl _) (by omega)
  have hs2 := (H01.out.keep hb3).all (n := 32) (c := 32) HXB.out HXL.out.symm (Nat.le_refl _) (by omega)
  have hs3 := (H11.out.keep hb3).all (n := 32) (c := 32) HYB.out HYL.out.symm (Nat.le_refl _) (by omega)
  have H22 := Lib.hid (H21.out.keep hb3)
  have HB3 := Lib.hid (bel_step HB2.out hb3)
  have HS3 := Lib.hid (LaterB.step HS2.out (hb3.mono (show w.heap.size + 1 + 1 ≤ W2.heap.size by omega)))
  have hz3 := hb3.size
  clear hb3
  generalize W2.alloc (.cells #[.slice (some ⟨W0.heap.size, 0, none⟩) 1 1, .slice (some ⟨w.heap.size, 0, none⟩) 32 32, .slice (some ⟨w.heap.size + 1, 0, none⟩) 32 32] 29) = W3 at *
  refine wpHeld_call 100 Tryd.func100 (by kernel_rfl) (by kernel_rfl) _ _ #[.slice (some ⟨W2.heap.size, 0, none⟩) 3 3] rfl (by kernel_rfl) (by kernel_rfl) ?_
  refine (hash3 W2.heap.size _ 1 1 _ 32 32 _ 32 32 [1] x y W3 hrow hs1 hs2 hs3 (by omega) (HG.out.keep HB3.out) R HR.out).mono ?_
  rintro e W4 ⟨rfl, hb4⟩
  have H23 := Lib.hid (H22.out.keep hb4)
  have HB4 := Lib.hid (bel_step HB3.out hb4)
  have HS4 := Lib.hid (LaterB.step HS3.out (hb4.mono (show w.heap.size + 1 + 1 ≤ W3.heap.size by omega)))
  clear hb4
  refine ⟨_, rfl, HS4.out, ?_⟩
  simp only [Act.put, List.setIfInBounds_toArray, List.set_cons_zero, List.set_cons_succ]
  refine wpHeld_nil ?_
  refine mOp_run0 _ rfl rfl (exec_storeD hl (List.length_replicate) H23.out rfl rfl rfl) ?_
  go_wp2_with fail
  refine bodyPost_ret (v := .agg (celB R).toArray) ?_ rfl ⟨rfl, bel_setRow HB4.out (by omega) _⟩
  exact results_cell_row rfl _ _ (w.heap.size + 1 + 1) 34 _ (0, 0) _ rfl (H23.out.row R) Tryd.underlying34 rfl (dig_size hl)
end Go.Proofs.YtgkojdbepgonkaaDoor

/- Contracts of package sha256: keyBlock. -/
namespace Go.Proofs.YtgkojdbepgonkaaDoor
set_option linter.unusedVariables false
set_option linter.unusedSimpArgs false
set_option maxRecDepth 8000
open Go.RowKit
/-- the first k bytes masked -/
def mL (L : List Nat) (m k : Nat) : List Nat := (L.take k).map (· ^^^ m) ++ L.drop k
def maskN (key : List Nat) (m : Nat) : List Nat := (key ++ List.replicate 32 0).map (· ^^^ m)
theorem mL_get {L : List Nat} {m k : Nat} (h : k < L.length) : (mL L m k)[k]? = some (L.getD k 0) := by
  unfold mL
  have e : ((L.take k).map (· ^^^ m)).length = k := by simp; omega
  rw [List.getElem?_append_right (by omega), e, Nat.sub_self, List.getElem?_drop, List.getD_eq_getElem?_getD, Nat.add_zero, List.getElem?_eq_getElem h]
  rfl
theorem mL_set {L : List Nat} {m k : Nat} (h : k < L.length) : (mL L m k).set k (L.getD k 0 ^^^ m) = mL L m (k + 1) := by
  unfold mL
  have e : ((L.take k).map (· ^^^ m)).length = k := by simp; omega
  rw [List.set_append_right _ _ (by omega), e, Nat.sub_self, List.drop_eq_getElem_cons h, List.take_succ_eq_append_getElem h, List.set_cons_zero, List.getD_eq_getElem?_getD, List.getElem?_eq_getElem h, List.map_append, List.append_assoc]
  rfl
theorem mL_length {L : List Nat} {m k : Nat} : (mL L m k).length = L.length := by unfold mL; simp; omega
theorem xor_byte {a b : Nat} (ha : a < 256) (hb : b < 256) : a ^^^ b < 256 := Nat.xor_lt_two_pow (n := 8) ha hb
theorem maskN_length (key : List Nat) (m : Nat) (h : key.length = 32) : (maskN key m).length = 64 := by unfold maskN; simp [h]
theorem maskN_lt (key : List Nat) (m : Nat) (h : ∀ x ∈ key, x < 256) (hm : m < 256) : ∀ x ∈ maskN key m, x < 256 := by
  intro x hx
  unfold maskN at hx
  obtain ⟨y, hy, rfl⟩ := List.mem_map.1 hx
  refine xor_byte ?_ hm
  rcases List.mem_append.1 hy with hy | hy
  · exact h y hy
  · rw [(List.mem_replicate.1 hy).2]; decide
end Go.Proofs.YtgkojdbepgonkaaDoor

/- Contracts of package sha256: Keyed. -/
namespace Go.Proofs.YtgkojdbepgonkaaDoor
set_option linter.unusedVariables false
set_option linter.unusedSimpArgs false
set_option maxRecDepth 8000
open Go.RowKit
def hmacN (key b : List Nat) : List Nat := shaN (maskN key 92 ++ shaN (maskN key 54 ++ b))
end Go.Proofs.YtgkojdbepgonkaaDoor

/- The reference's constants. -/
namespace Go.Proofs.YtgkojdbepgonkaaDoor
set_option linter.unusedVariables false
set_option linter.unusedSimpArgs false
set_option maxRecDepth 8000
open Go.RowKit
attribute [local simp] z64_ne z64_run
attribute [-simp] Tryd.zeroValue146 Tryd.isAgg146 Tryd.sizeOf146
def kA : Array Value := (celW kN).toArray
set_option maxRecDepth 100000 in
theorem rconst_any (w : World) :
    Calls Tryd.prog 105 #[] w fun e w' => e = .returned (.agg kA) ∧ Below w.heap.size w w' := by
  go_enter Tryd.func105, Tryd.ntmps105
  go_upto_region 1 with fail
  refine wp_named1 (fun w1 hb1 g0 hlt1 => ?_)
  have H0 : Hid (RowW w1 146 w.heap.size (List.replicate 64 0)) := Lib.hid g0
  refine wp_region_lit ?_
  refine wpList_val rfl (.agg kA) w1 (by kernel_rfl) ?_
  refine wpList_skip0 rfl (w1.setRow w.heap.size kA) (exec_storeRow w.heap.size (celW (List.replicate 64 0)).toArray kA rfl rfl rfl H0.out (by kernel_rfl) (by kernel_rfl) (by kernel_rfl)) ?_
  refine wpList_nil ?_
  simp only [Act.put, List.setIfInBounds_toArray, List.set_cons_zero, List.set_cons_succ]
  have H1 := Lib.hid (show RowW (w1.setRow w.heap.size kA) 146 w.heap.size kN from H0.out.row kN)
  have HB1 := Lib.hid (bel_setRow hb1 (Nat.le_refl _) kA)
  clear hb1 g0 hlt1 H0
  generalize w1.setRow w.heap.size kA = w2 at *
  go_wp2_with fail
  refine bodyPost_ret (v := .agg kA) ?_ rfl ⟨rfl, HB1.out⟩
  exact results_cell_row rfl _ _ w.heap.size 146 _ (0, 0) _ rfl H1.out Tryd.underlying146 rfl (by kernel_rfl)
attribute [-simp] Tryd.isAgg127 Tryd.sizeOf127
theorem rinitial_any (w : World) :
    Calls Tryd.prog 85 #[] w fun e w' => e = .returned (.agg (celW (chL ch0)).toArray) ∧ Below w.heap.size w w' := by
  go_enter Tryd.func85, Tryd.ntmps85
  go_upto_region 1 with fail
  refine wp_named1 (fun w1 hb1 g0 hlt1 => ?_)
  have H0 : Hid (RowW w1 127 w.heap.size [0, 0, 0, 0, 0, 0, 0, 0]) := Lib.hid g0
  refine wp_region_lit ?_
  refine wpList_val rfl (.agg (celW (chL ch0)).toArray) w1 (by kernel_rfl) ?_
  refine wpList_skip0 rfl (w1.setRow w.heap.size (celW (chL ch0)).toArray) (exec_storeRow w.heap.size (celW [0, 0, 0, 0, 0, 0, 0, 0]).toArray _ rfl rfl rfl H0.out (by kernel_rfl) (by kernel_rfl) (by kernel_rfl)) ?_
  refine wpList_nil ?_
  simp only [Act.put, List.setIfInBounds_toArray, List.set_cons_zero, List.set_cons_succ]
  have H1 := Lib.hid (H0.out.row (chL ch0))
  have HB1 := Lib.hid (bel_setRow hb1 (Nat.le_refl _) (celW (chL ch0)).toArray)
  clear hb1 g0 hlt1 H0
  generalize w1.setRow w.heap.size (celW (chL ch0)).toArray = w2 at *
  go_wp2_with fail
  refine bodyPost_ret (v := .agg (celW (chL ch0)).toArray) ?_ rfl ⟨rfl, HB1.out⟩
  exact results_cell_row rfl _ _ w.heap.size 127 _ (0, 0) _ rfl H1.out Tryd.underlying127 rfl (by kernel_rfl)
end Go.Proofs.YtgkojdbepgonkaaDoor
