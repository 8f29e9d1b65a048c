/- Several texts in one: Mkr, Ora, Mko. -/
import Derived.Test.YtgkojdbepgonkaaDoorH14
import Derived.Test.YtgkojdbepgonkaaDoorH08
import Derived.Test.YtgkojdbepgonkaaDoorH07
/- The root that results from opened leaves and nodes: rebuilt. -/
namespace Go.Proofs.YtgkojdbepgonkaaDoor
set_option maxRecDepth 8000
set_option linter.unusedVariables false
set_option linter.unusedSimpArgs false
open Go.RowKit
attribute [local simp] z32_ne z32_run
attribute [-simp] Tryd.zeroValue34 Tryd.isAgg34 Tryd.sizeOf34
theorem SameX.trans {x : Nat} {A B C : World} (h : SameX x A B) (k : SameX x B C) : SameX x A C := ⟨Nat.le_trans h.1 k.1, fun b hb hx => (k.2 b (by have := h.1; omega) hx).trans (h.2 b hb hx)⟩
theorem SameX.obj {x b : Nat} {A B : World} {o : Obj} (h : SameX x A B) (ho : A.heap[b]? = some o) (hx : b ≠ x) : B.heap[b]? = some o := (h.2 b (Array.getElem?_eq_some_iff.1 ho).1 hx).trans ho
theorem SameX.of_below {x : Nat} {A B : World} (h : Below A.heap.size A B) : SameX x A B := ⟨h.size, fun b hb _ => h.block b hb⟩
theorem SameX.rowNew {x b : Nat} {A B : World} (h : SameX x A B) (cs : Array Value) (hb : A.heap.size ≤ b) : SameX x A (B.setRow b cs) :=
  ⟨by have := h.1; simpa [World.setRow] using this, fun k hk hx => (row_far (by omega) cs).trans (h.2 k hk hx)⟩
/-- the worlds behind W3 in which all but block x is as it was -/
def RbS (x : Nat) (w0 W3 W : World) : Prop := SameX x W3 W ∧ Below w0.heap.size w0 W
set_option maxRecDepth 100000 in
set_option maxHeartbeats 4000000 in
theorem rebuilt_any : ∀ (K f s : Nat) (is : List Int) (bs ns : List (List Nat)) (A : Option Addr) (n c : Nat) (B : Option Addr) (d x : Nat) (R : Option Addr) (k e : Nat) (w0 w : World), s ≤ K → 1 ≤ s → f + s ≤ 65536 → Ib w0 A n c is → Pb w0 B n d bs → (∀ b ∈ bs, b.length ≤ 140737488351232) → Gl w0 →
    Below w0.heap.size w0 w → w0.heap.size ≤ x → One w x 26 (.slice R k e) → Db w R k e ns → (closedN f s is).length ≤ ns.length →
    Calls Tryd.prog 55 #[subV f s, .agg #[.slice A n c, .slice B n d], .func (.func 96) #[] #[.pointer (some ⟨x, 0, none⟩)]] w fun e2 w' => e2 = .returned (.agg (celB (rebN f s is bs ns).1).toArray) ∧ Below w0.heap.size w0 w' ∧ SameX x w w' ∧ ∃ R' k' e', One w' x 26 (.slice R' k' e') ∧ ∀ X, Db X R k e ns → Db X R' k' e' (rebN f s is bs ns).2 := by
  intro K
  induction K with
  | zero => intro f s is bs ns A n c B d x R k e w0 w h1 h2; omega
  | succ K ih =>
    intro f s is bs ns A n c B d x R k e w0 w hK hs1 hs hI hP hL hG hb0 hx0 hx hD hcl
    have hxl := hx.lt
    have hlen := hI.len
    have hsz0 := hb0.size
    have HI := Lib.hid hI
    have HP := Lib.hid hP
    have HL := Lib.hid hL
    have HG := Lib.hid hG
    have HB0 := Lib.hid hb0
    have HX := Lib.hid hx
    have HD := Lib.hid hD
    have HCL := Lib.hid hcl
    have HLN := Lib.hid hlen
    have IH := Lib.hid ih
    clear hI hP hL hG hb0 hx hD hcl ih hlen
    unfold subV
    go_enter Tryd.func55, Tryd.ntmps55
    go_upto_region 1 with fail
    refine wp_named3 (fun w1 hb1 g0 g1 g2 hlt1 => ?_)
    have c0 := cells_at g0 0 (v := .int .i64 (f : Int)) rfl
    have c1 := cells_at g0 1 (v := .int .i64 (s : Int)) rfl
    have c2 := cells_at g1 0 (v := .slice A n c) rfl
    have c3 := cells_at g1 1 (v := .slice B n d) rfl
    have G0 := Lib.hid g0
    have G1 := Lib.hid g1
    have H2 : Hid (RowB w1 34 (w.heap.size + 1 + 1) (List.replicate 32 0)) := Lib.hid g2
    have HB1 := Lib.hid hb1
    have HX1 := Lib.hid (HX.out.keep hb1)
    have HD1 := Lib.hid (HD.out.keep hb1)
    have HB01 := Lib.hid (HB0.out.trans (hb1.mono (by omega)))
    clear g0 g1 g2 hb1 HX HD HB0
    by_cases hn : n = 0
    · subst hn
      obtain rfl : is = [] := List.length_eq_zero_iff.1 HLN.out.symm
      have hc := HCL.out
      rw [closedN_nil f hs1] at hc
      obtain ⟨q, ns, rfl⟩ : ∃ q ns', ns = q :: ns' := by
        match ns, hc with
        | q :: ns, _ => exact ⟨q, ns, rfl⟩
      have hr := rebN_nil f bs (q :: ns) hs1
      have hq32 := (HD1.out.dig q List.mem_cons_self).1
      clear hc
      go_wp2_with fail
      refine (consumer1_any x R k e q ns w1 HX1.out HD1.out).mono ?_
      rintro e W2 ⟨rfl, hbx, hsx, R', k', e', hx2, hd2⟩
      have H22 := Lib.hid (show RowB W2 34 (w.heap.size + 1 + 1) (List.replicate 32 0) from hsx.obj H2.out (by omega))
      have hsc := run_storeB (P := Tryd.prog) (ws := q) H22.out (by rw [hq32, List.length_replicate])
      have hsz : (celB q).length = 32 := by rw [celB_length, hq32]
      have HSX := Lib.hid (show SameX x w W2 from (SameX.of_below HB1.out).trans hsx)
      have HBX := Lib.hid (show Below w0.heap.size w0 W2 from HB01.out.trans (hbx.mono hx0))
      have HX2 := Lib.hid hx2
      have HD2 := Lib.hid hd2
      have HX0 := Lib.hid HX1.out
      clear hbx hsx hx2 hd2 H2
      go_wp2_with fail
      simp only [Tryd.sizeOf34, Result.andThen, ↓reduceIte, hsc]
      rw [Oper.upon_skip]
      go_wp2_with fail
      have hsr : SameX x w (W2.setRow (w.heap.size + 1 + 1) (celB q).toArray) := HSX.out.rowNew _ (by omega)
      have hxr : One (W2.setRow (w.heap.size + 1 + 1) (celB q).toArray) x 26 (.slice R' k' e') := (row_far (by omega) _).trans HX2.out
      rw [hr]
      refine bodyPost_ret (v := .agg (celB q).toArray) ?_ rfl ⟨rfl, bel_setRow HBX.out (by omega) _, hsr, R', k', e', hxr, ?_⟩
      · exact results_cell_row rfl _ _ (w.heap.size + 1 + 1) 34 _ (0, 0) _ rfl (H22.out.row q) Tryd.underlying34 rfl (dig_size hq32)
      · exact HD2.out
    · have hni : ¬ ((n : Int) = 0) := by omega
      have hne : is ≠ [] := fun e => hn (by rw [HLN.out, e]; rfl)
      have hbl : bs.length = n := HP.out.len.symm
      by_cases h1 : s = 1
      · subst h1
        obtain ⟨b, bs, rfl⟩ : ∃ b bs', bs = b :: bs' := by
          match bs, hbl with
          | [], h => exact absurd h.symm hn
          | b :: bs, _ => exact ⟨b, bs, rfl⟩
        have hr := rebN_one f (b :: bs) ns hne
        have hb6 := HL.out b List.mem_cons_self
        obtain ⟨ad, B', m, d', rfl, hc, hs⟩ := (HP.out.keep HB01.out).cells 0 b rfl
        have hcap := HP.out.cap
        have htop := HP.out.top
        have hc4 : w1.cell? ad = some (.slice B' m d') := by rw [← hc, addr_add0]
        have HSb := Lib.hid hs
        have hm6 : m ≤ 140737488351232 := by have := hs.len; omega
        obtain ⟨q, hq⟩ : ∃ q, lfN b = q := ⟨_, rfl⟩
        have hq32 : q.length = 32 := by rw [← hq]; exact lfN_length b
        have HQ := Lib.hid (show shaN (0 :: b) = q from hq)
        have HR := Lib.hid (show rebN f 1 is (b :: bs) ns = (q, ns) by rw [hr]; show (lfN b, ns) = _; rw [hq])
        have HG1 := Lib.hid (HG.out.keep HB01.out)
        clear hc hs hr hq HP HL
        go_wp2_with fail
        refine (leaf_any B' m d' b w1 HSb.out (by omega) HG1.out q HQ.out).mono ?_
        rintro e' W2 ⟨rfl, hb⟩
        have H22 := Lib.hid (show RowB W2 34 (w.heap.size + 1 + 1) (List.replicate 32 0) from H2.out.keep hb)
        have hsc := run_storeB (P := Tryd.prog) (ws := q) H22.out (by rw [hq32, List.length_replicate])
        have hsz : (celB q).length = 32 := by rw [celB_length, hq32]
        have HB2 := Lib.hid (bel_step HB1.out hb)
        have HB02 := Lib.hid (HB01.out.trans (hb.mono (by have := HB1.out.size; omega)))
        have HX2 := Lib.hid (HX1.out.keep hb)
        clear hb H2 HSb hc4 c0 c1 c2 c3
        go_wp2_with fail
        simp only [Tryd.sizeOf34, Result.andThen, ↓reduceIte, hsc]
        rw [Oper.upon_skip]
        go_wp2_with fail
        have hsr : SameX x w (W2.setRow (w.heap.size + 1 + 1) (celB q).toArray) := (SameX.of_below HB2.out).rowNew _ (by omega)
        have hxr : One (W2.setRow (w.heap.size + 1 + 1) (celB q).toArray) x 26 (.slice R k e) := (row_far (by omega) _).trans HX2.out
        rw [HR.out]
        refine bodyPost_ret (v := .agg (celB q).toArray) ?_ rfl ⟨rfl, bel_setRow HB02.out (by omega) _, hsr, R, k, e, hxr, fun X hX => hX⟩
        exact results_cell_row rfl _ _ (w.heap.size + 1 + 1) 34 _ (0, 0) _ rfl (H22.out.row q) Tryd.underlying34 rfl (dig_size hq32)
      · have hsi : ¬ ((s : Int) = 1) := by omega
        go_upto_region 5 with fail
        go_wp2_with fail
        refine (parts_any f s w1 (by omega) (by omega) (by omega)).mono ?_
        rintro e' W2 ⟨rfl, hb2⟩
        have hP2 : 2 ≤ s := by omega
        obtain ⟨p, hp⟩ : ∃ p, leftN s = p := ⟨_, rfl⟩
        obtain ⟨m, hm⟩ : ∃ m, s - p = m := ⟨_, rfl⟩
        obtain ⟨g, hg⟩ : ∃ g, f + p = g := ⟨_, rfl⟩
        have HKM := Lib.hid (show p ≤ K ∧ m ≤ K ∧ 1 ≤ p ∧ 1 ≤ m ∧ f + p ≤ 65536 ∧ g + m ≤ 65536 by
          have := leftN_lt (n := s) (by omega)
          have := leftN_pos s
          omega)
        obtain ⟨j, hj⟩ : ∃ j, belowN is ((g : Nat) : Int) = j := ⟨_, rfl⟩
        have hjn : j ≤ n := by rw [← hj, HLN.out]; exact belowN_le _ _
        have hsp := rebN_split f (j := j) bs ns hne hP2 (by rw [hp, hg]; exact hj)
        have hcs := closedN_split f hne hP2
        rw [hp, hm, hg] at hsp
        rw [hp, hm, hg, hj] at hcs
        have HSP := Lib.hid hsp
        have HCS := Lib.hid hcs
        unfold subV
        rw [hp, hm, hg]
        clear hp hm hg hsp hcs
        obtain ⟨W3, hW3⟩ : ∃ W3, (W2.alloc (.cells #[.int .i64 (f : Int), .int .i64 (p : Int)] 94)).alloc (.cells #[.int .i64 (g : Int), .int .i64 (m : Int)] 94) = W3 := ⟨_, rfl⟩
        have hL3 : W3.heap[W2.heap.size]? = some (.cells #[.int .i64 (f : Int), .int .i64 (p : Int)] 94 (0, 0)) := by rw [← hW3]; exact heap_old _ (heap_new W2 _)
        have hR3 : W3.heap[W2.heap.size + 1]? = some (.cells #[.int .i64 (g : Int), .int .i64 (m : Int)] 94 (0, 0)) := by
          rw [← hW3]
          have h := heap_new (W2.alloc (.cells #[.int .i64 (f : Int), .int .i64 (p : Int)] 94)) (.cells #[.int .i64 (g : Int), .int .i64 (m : Int)] 94)
          rwa [alloc_sz] at h
        have hb3 : Below W2.heap.size W2 W3 := by rw [← hW3]; exact ((Below.refl _ _).alloc (Nat.le_refl _) _).alloc (by simp) _
        have hs2 := hb2.size
        have hs3 := hb3.size
        have hs4 : W2.heap.size + 1 < W3.heap.size := (Array.getElem?_eq_some_iff.1 hR3).1
        have hb13 : Below w1.heap.size w1 W3 := hb2.trans (hb3.mono (by omega))
        have d2 := cell_keep c2 hb13
        have d5 := cells_at hR3 0 (v := .int .i64 (g : Int)) rfl
        have HG1 := Lib.hid (heap_keep G1.out hb13)
        have HG0 := Lib.hid (heap_keep G0.out hb13)
        have H23 := Lib.hid (H2.out.keep hb13)
        have HX3 := Lib.hid (HX1.out.keep hb13)
        have HD3 := Lib.hid (HD1.out.keep hb13)
        have HB3 := Lib.hid (bel_step HB1.out hb13)
        have HB03 := Lib.hid (HB01.out.trans (hb13.mono (by have := HB1.out.size; omega)))
        have hs1' := HB1.out.size
        clear c0 c1 c2 c3 G0 G1 H2 HX1 HD1 HB1 HB01 hb2 hb3 hb13
        go_wp2_with fail
        refine (below_any A n c is _ W3 (HI.out.keep HB03.out)).mono ?_
        rintro e' W3 ⟨rfl, rfl⟩
        rw [hj]
        have HBE := Lib.hid hj
        clear hj hW3 d2 d5
        obtain ⟨ad, rfl⟩ := HI.out.some_ (by omega)
        obtain ⟨bd, rfl⟩ := HP.out.some_ (by omega)
        have hcap := HI.out.cap
        have hcap2 := HP.out.cap
        have htop := HI.out.top
        have htop2 := HP.out.top
        have hj0 : (0 : Int) ≤ (j : Int) := by omega
        have hj1 : (j : Int) ≤ (c : Int) := by omega
        have hj2 : (j : Int) ≤ (d : Int) := by omega
        have hj3 : (j : Int) ≤ (n : Int) := by omega
        obtain ⟨q1, ns1, hq1⟩ : ∃ q1 ns1, rebN f p (is.take j) (bs.take j) ns = (q1, ns1) := ⟨_, _, (Prod.eta _).symm⟩
        have hrest := rebN_rest p HKM.out.2.2.1 f (is.take j) (bs.take j) ns
        have hlens := HCL.out
        rw [HCS.out, List.length_append] at hlens
        have hsz1 := rebN_size p HKM.out.2.2.1 f (is.take j) (bs.take j) ns HD3.out.dig (by omega)
        rw [hq1] at hrest hsz1
        have hsp := HSP.out
        rw [hq1] at hsp
        simp only [] at hrest hsz1 hsp
        have hsz2 := rebN_size m HKM.out.2.2.2.1 g (is.drop j) (bs.drop j) ns1 (fun d hd => HD3.out.dig d (List.mem_of_mem_drop (hrest ▸ hd))) (by rw [hrest, List.length_drop]; omega)
        have hl2 : (closedN g m (is.drop j)).length ≤ ns1.length := by rw [hrest, List.length_drop]; omega
        obtain ⟨q2, ns2, hq2⟩ : ∃ q2 ns2, rebN g m (is.drop j) (bs.drop j) ns1 = (q2, ns2) := ⟨_, _, (Prod.eta _).symm⟩
        rw [hq2] at hsp hsz2
        simp only [] at hsp hsz2
        have HQ1 := Lib.hid hq1
        have HQ2 := Lib.hid hq2
        have HSZ1 := Lib.hid hsz1
        have HSZ2 := Lib.hid hsz2
        have HL1 := Lib.hid (show (closedN f p (is.take j)).length ≤ ns.length by omega)
        have HL2 := Lib.hid hl2
        clear hlens HSP
        have HSP := Lib.hid hsp
        clear hq1 hq2 hsz1 hsz2 hl2 hrest hsp HCL HCS
        have l0 := LaterS.get (S := RbS x w0 W3) (fun W hS => cell_same hS.1 (cells_at hL3 0 (v := .int .i64 (f : Int)) rfl) (by show W2.heap.size ≠ x; omega))
        have l1 := LaterS.get (S := RbS x w0 W3) (fun W hS => cell_same hS.1 (cells_at hL3 1 (v := .int .i64 (p : Int)) rfl) (by show W2.heap.size ≠ x; omega))
        have l2 := LaterS.get (S := RbS x w0 W3) (fun W hS => cell_same hS.1 (cells_at HG1.out 0 (v := .slice (some ad) n c) rfl) (by show w.heap.size + 1 ≠ x; omega))
        have l3 := LaterS.get (S := RbS x w0 W3) (fun W hS => cell_same hS.1 (cells_at HG1.out 1 (v := .slice (some bd) n d) rfl) (by show w.heap.size + 1 ≠ x; omega))
        have hS0 : RbS x w0 W3 W3.drew := ⟨SameX.of_below (Below.refl _ _).drew, HB03.out.drew⟩
        haveI := LaterS.inh hS0
        go_upto_region 7 with fail
        refine wp_callDecl (RbS x w0 W3) (fun v W => v = .agg (celB q1).toArray ∧ ∃ R' k' e', One W x 26 (.slice R' k' e') ∧ ∀ X, Db X R k e ns → Db X R' k' e' ns1) W3.heap.size 11 (.cells z32 34) (by kernel_rfl) (by kernel_rfl) (fun _ _ dt _ _ h => by cases dt <;> exact h) rfl (by kernel_rfl) (by kernel_rfl) rfl rfl rfl (by kernel_rfl) (by kernel_rfl) (by kernel_rfl) (by kernel_rfl) (by kernel_rfl) (by kernel_rfl) rfl rfl rfl
          hS0 (fun W hS => hS.1.1) (fun ev W => run_allocD ev _ W rfl) (fun W hS => ⟨hS.1.trans (SameX.of_below ((Below.refl _ _).alloc (Nat.le_refl _) _)), hS.2.alloc (by have := hS.2.size; omega) _⟩)
          (fun v W hS hP => ⟨hP.1, by obtain ⟨R', k', e', h1, h2⟩ := hP.2; exact ⟨R', k', e', h1.alloc _, h2⟩⟩) ?_
        simp only [List.take_succ_cons, List.take_zero]
        iterate 11 (go_big_quiet_step (fail))
        refine wpQuiet_nil ?_
        clear l0 l1 l2 l3
        refine ⟨fun W hbW hSW => ?_, fun v b X hSX hz hbb hp => ?_⟩
        · refine hOp_call 55 Tryd.func55 (by kernel_rfl) (by kernel_rfl) _ _ #[subV f p, .agg #[.slice (some ad) j c, .slice (some bd) j d], .func (.func 96) #[] #[.pointer (some ⟨x, 0, none⟩)]] rfl (by kernel_rfl) ?_
          refine (IH.out f p (is.take j) (bs.take j) ns (some ad) j c (some bd) d x R k e w0 W HKM.out.1 HKM.out.2.2.1 HKM.out.2.2.2.2.1 (HI.out.take hjn) (HP.out.take hjn) (fun b hb => HL.out b (List.mem_of_mem_take hb)) HG.out hSW.2 hx0 (HX3.out.keep hbW) (HD3.out.keep hbW) HL1.out).mono ?_
          rintro e2 w' ⟨rfl, h1, h2, h3⟩
          rw [HQ1.out] at h3 ⊢
          exact ⟨_, rfl, ⟨hSW.1.trans h2, h1⟩, fun b o hb ho => h2.obj ho (by have := hs4; omega), rfl, h3⟩
        · obtain ⟨rfl, R1, k1, e1, hx1, hd1⟩ := hp
          unfold hOp
          rw [exec_storeD HSZ1.out.1 List.length_replicate (show RowB X 34 b (List.replicate 32 0) from hz) rfl rfl rfl]
          refine ⟨?_, hSX.1.rowNew _ hbb, bel_setRow hSX.2 (by have := HB03.out.size; omega) _⟩
          simp only [Act.put, ptr, List.setIfInBounds_toArray, List.set_cons_zero, List.set_cons_succ]
          have hs5 : SameX x W3 (X.setRow b (celB q1).toArray) := hSX.1.rowNew _ hbb
          have HX4 := Lib.hid (show One (X.setRow b (celB q1).toArray) x 26 (.slice R1 k1 e1) from (row_far (by omega) _).trans hx1)
          have HD4 := Lib.hid (hd1 _ (HD3.out.keepX HX3.out (fun z e => by cases e) hs5))
          have HB4 := Lib.hid (bel_setRow hSX.2 (show w0.heap.size ≤ b by have := HB03.out.size; omega) (celB q1).toArray)
          have HR4 := Lib.hid ((show RowB X 34 b (List.replicate 32 0) from hz).row q1)
          have HS5 := Lib.hid hs5
          have hb4 : b < (X.setRow b (celB q1).toArray).heap.size := by
            have := (Array.getElem?_eq_some_iff.1 hz).1
            simpa [World.setRow] using this
          have HD1 := Lib.hid hd1
          clear hs5 hx1 hz hSX hd1
          generalize X.setRow b (celB q1).toArray = W4 at *
          have hL4 := HS5.out.obj hR3 (by omega)
          have hG4 := HS5.out.obj HG1.out (by omega)
          have l0 := LaterS.get (S := RbS x w0 W4) (fun W hS => cell_same hS.1 (cells_at hL4 0 (v := .int .i64 (g : Int)) rfl) (by show W2.heap.size + 1 ≠ x; omega))
          have l1 := LaterS.get (S := RbS x w0 W4) (fun W hS => cell_same hS.1 (cells_at hL4 1 (v := .int .i64 (m : Int)) rfl) (by show W2.heap.size + 1 ≠ x; omega))
          have l2 := LaterS.get (S := RbS x w0 W4) (fun W hS => cell_same hS.1 (cells_at hG4 0 (v := .slice (some ad) n c) rfl) (by show w.heap.size + 1 ≠ x; omega))
          have l3 := LaterS.get (S := RbS x w0 W4) (fun W hS => cell_same hS.1 (cells_at hG4 1 (v := .slice (some bd) n d) rfl) (by show w.heap.size + 1 ≠ x; omega))
          have hS0 : RbS x w0 W4 W4.drew := ⟨SameX.of_below (Below.refl _ _).drew, HB4.out.drew⟩
          haveI := LaterS.inh hS0
          have hs5 := HS5.out.1
          clear hL4 hG4
          go_upto_region 8 with fail
          refine wp_callDecl (RbS x w0 W4) (fun v W => v = .agg (celB q2).toArray ∧ ∃ R' k' e', One W x 26 (.slice R' k' e') ∧ ∀ X, Db X R1 k1 e1 ns1 → Db X R' k' e' ns2) W4.heap.size 11 (.cells z32 34) (by kernel_rfl) (by kernel_rfl) (fun _ _ dt _ _ h => by cases dt <;> exact h) rfl (by kernel_rfl) (by kernel_rfl) rfl rfl rfl (by kernel_rfl) (by kernel_rfl) (by kernel_rfl) (by kernel_rfl) (by kernel_rfl) (by kernel_rfl) rfl rfl rfl
            hS0 (fun W hS => hS.1.1) (fun ev W => run_allocD ev _ W rfl) (fun W hS => ⟨hS.1.trans (SameX.of_below ((Below.refl _ _).alloc (Nat.le_refl _) _)), hS.2.alloc (by have := hS.2.size; omega) _⟩)
            (fun v W hS hP => ⟨hP.1, by obtain ⟨R', k', e', h1, h2⟩ := hP.2; exact ⟨R', k', e', h1.alloc _, h2⟩⟩) ?_
          simp only [List.take_succ_cons, List.take_zero]
          iterate 11 (go_big_quiet_step (fail))
          refine wpQuiet_nil ?_
          clear l0 l1 l2 l3
          obtain ⟨A2, hA2⟩ : ∃ A2, (if c = j then some ad else some (ad.add j)) = A2 := ⟨_, rfl⟩
          obtain ⟨B2, hB2⟩ : ∃ B2, (if d = j then some bd else some (bd.add j)) = B2 := ⟨_, rfl⟩
          have HI2 := Lib.hid (show Ib w0 A2 (n - j) (c - j) (is.drop j) by
            have := HI.out.drop hjn
            rw [← hA2]
            by_cases e : c = j
            · rw [if_pos e] at this ⊢; exact this
            · rw [if_neg e] at this ⊢; exact this)
          have HP2 := Lib.hid (show Pb w0 B2 (n - j) (d - j) (bs.drop j) by
            have := HP.out.drop hjn
            rw [← hB2]
            by_cases e : d = j
            · rw [if_pos e] at this ⊢; exact this
            · rw [if_neg e] at this ⊢; exact this)
          rw [hA2, hB2]
          clear hA2 hB2
          refine ⟨fun W hbW hSW => ?_, fun v b2 X hSX hz hbb2 hp => ?_⟩
          · refine hOp_call 55 Tryd.func55 (by kernel_rfl) (by kernel_rfl) _ _ #[subV g m, .agg #[.slice A2 (n - j) (c - j), .slice B2 (n - j) (d - j)], .func (.func 96) #[] #[.pointer (some ⟨x, 0, none⟩)]] rfl (by kernel_rfl) ?_
            refine (IH.out g m (is.drop j) (bs.drop j) ns1 A2 (n - j) (c - j) B2 (d - j) x R1 k1 e1 w0 W HKM.out.2.1 HKM.out.2.2.2.1 HKM.out.2.2.2.2.2 HI2.out HP2.out (fun b hb => HL.out b (List.mem_of_mem_drop hb)) HG.out hSW.2 hx0 (HX4.out.keep hbW) (HD4.out.keep hbW) HL2.out).mono ?_
            rintro e2 w' ⟨rfl, h1, h2, h3⟩
            rw [HQ2.out] at h3 ⊢
            exact ⟨_, rfl, ⟨hSW.1.trans h2, h1⟩, fun b o hb ho => h2.obj ho (by omega), rfl, h3⟩
          · obtain ⟨rfl, R2, k2, e2, hx2, hd2⟩ := hp
            unfold hOp
            rw [exec_storeD HSZ2.out.1 List.length_replicate (show RowB X 34 b2 (List.replicate 32 0) from hz) rfl rfl rfl]
            refine ⟨?_, hSX.1.rowNew _ hbb2, bel_setRow hSX.2 (by have := HB03.out.size; omega) _⟩
            simp only [Act.put, ptr, List.setIfInBounds_toArray, List.set_cons_zero, List.set_cons_succ]
            have HS6 := Lib.hid (hSX.1.rowNew (celB q2).toArray hbb2)
            have HX5 := Lib.hid (show One (X.setRow b2 (celB q2).toArray) x 26 (.slice R2 k2 e2) from (row_far (by omega) _).trans hx2)
            have HB5 := Lib.hid (bel_setRow hSX.2 (show w0.heap.size ≤ b2 by have := HB03.out.size; omega) (celB q2).toArray)
            have HR5 := Lib.hid ((show RowB X 34 b2 (List.replicate 32 0) from hz).row q2)
            have HR6 : Hid (RowB (X.setRow b2 (celB q2).toArray) 34 b q1) := Lib.hid (HS6.out.obj HR4.out (by omega))
            have H26 : Hid (RowB (X.setRow b2 (celB q2).toArray) 34 (w.heap.size + 1 + 1) (List.replicate 32 0)) := Lib.hid (HS6.out.obj (HS5.out.obj H23.out (by omega)) (by omega))
            have HD2 := Lib.hid hd2
            clear hSX hz hx2 hd2
            generalize X.setRow b2 (celB q2).toArray = W5 at *
            have hw6 : w.heap.size + 1 + 1 < W5.heap.size := (Array.getElem?_eq_some_iff.1 H26.out).1
            go_upto_region 9 with fail
            refine wp_region_lit ?_
            refine wpList_val rfl (.agg (celB q1).toArray) W5 (exec_loadD HSZ1.out.1 HR6.out rfl rfl) ?_
            simp only [Act.put, List.setIfInBounds_toArray, List.set_cons_zero, List.set_cons_succ]
            refine wpList_val rfl (.agg (celB q2).toArray) W5 (exec_loadD HSZ2.out.1 HR5.out rfl rfl) ?_
            simp only [Act.put, List.setIfInBounds_toArray, List.set_cons_zero, List.set_cons_succ]
            obtain ⟨q, hq⟩ : ∃ q, prN q1 q2 = q := ⟨_, rfl⟩
            have hq32 : q.length = 32 := by rw [← hq]; exact prN_length q1 q2
            have HSP2 := Lib.hid (show rebN f s is bs ns = (q, ns2) by rw [HSP.out, hq])
            have HQ := Lib.hid (show shaN (1 :: (q1 ++ q2)) = q from hq)
            clear hq
            go_wp2_with fail
            refine (pair_any q1 q2 W5 HSZ1.out.1 HSZ2.out.1 HSZ1.out.2 HSZ2.out.2 (HG.out.keep HB5.out) q HQ.out).mono ?_
            rintro e' W6 ⟨rfl, hb⟩
            have H27 := Lib.hid (show RowB W6 34 (w.heap.size + 1 + 1) (List.replicate 32 0) from H26.out.keep hb)
            have hsc := run_storeB (P := Tryd.prog) (ws := q) H27.out (by rw [hq32, List.length_replicate])
            have hsz : (celB q).length = 32 := by rw [celB_length, hq32]
            have HSW := Lib.hid (show SameX x w W6 from (((SameX.of_below HB3.out).trans HS5.out).trans HS6.out).trans (SameX.of_below hb))
            have HBW := Lib.hid (HB5.out.trans (hb.mono (by have := HB5.out.size; omega)))
            have HX6 := Lib.hid (HX5.out.keep hb)
            clear hb H26 HR6 HR5
            go_wp2_with fail
            simp only [Tryd.sizeOf34, Result.andThen, ↓reduceIte, hsc]
            rw [Oper.upon_skip]
            go_wp2_with fail
            rw [HSP2.out]
            refine bodyPost_ret (v := .agg (celB q).toArray) ?_ rfl ⟨rfl, bel_setRow HBW.out (by omega) _, HSW.out.rowNew _ (by omega), R2, k2, e2, (row_far (by omega) _).trans HX6.out, fun X hX => HD2.out X (HD1.out X hX)⟩
            exact results_cell_row rfl _ _ (w.heap.size + 1 + 1) 34 _ (0, 0) _ rfl (H27.out.row q) Tryd.underlying34 rfl (dig_size hq32)
end Go.Proofs.YtgkojdbepgonkaaDoor

/- A statement whose order is open, walked in an order of one's own: what only looks is taken first under a condition on the world, what calls or stores comes up alone. No program, no conditions. -/
namespace Go.Proofs.YtgkojdbepgonkaaDoor
set_option linter.unusedVariables false
set_option linter.unusedSimpArgs false
set_option maxRecDepth 8000
open Go.RowKit
section
variable {P : Program} {Q : Exit → Act → World → Prop} {ops : Array Oper} {S : World → Prop}
/-- the walk: (i, true) is taken first, (i, false) comes up alone -/
def wpO (P : Program) (ops : Array Oper) (S : World → Prop) (Q : Exit → Act → World → Prop) : List (Nat × Bool) → Act → World → Prop
  | [], a, w => Q .normal a w
  | (i, true) :: is, a, w => ∃ o, ops[i]? = some o ∧ ∃ v, YieldsIf P ops S o v a ∧ wpO P ops S Q is (a.put o.dst v) w
  | (i, false) :: is, a, w => ∃ o, ops[i]? = some o ∧ Region.wanted o (yielded ops a.tmps) = true ∧ hOp P o (fun v w' => S w' ∧ wpO P ops S Q is (a.put o.dst v) w') a w
def okO (ops : Array Oper) : List (Nat × Bool) → Array Bool → Bool
  | [], m => (Region.ready .any ops m).isEmpty
  | (i, true) :: is, m => Region.free .any ops m i && (Region.ready .any ops m).contains i && okO ops is (m.setIfInBounds i true)
  | (i, false) :: is, m => (Region.ready .any ops m == [i]) && okO ops is (m.setIfInBounds i true)
theorem wpAnyH_of_wpO (hs : Region.noSelect ops = true) (hQ : ∀ c a (dt : Option Tmp) v w, Q (.panic c) (Act.put a dt v) w → Q (.panic c) a w) : ∀ (is : List (Nat × Bool)) (m : Array Bool) (a : Act) (w : World), okO ops is m = true → S w → wpO P ops S Q is a w → wpAnyH P .any ops Q S is.length m a w
  | [], m, a, w, ho, hS, h => wpAnyH_done (by unfold okO at ho; simpa using ho) h _
  | (i, true) :: is, m, a, w, ho, hS, h => by
    unfold okO at ho
    rw [Bool.and_eq_true, Bool.and_eq_true] at ho
    obtain ⟨o, hi, v, hy, hk⟩ := h
    exact wpAnyH_take hi hs ho.1.1 ho.1.2 (fun c a w h => hQ c a _ _ w h) hy hS (wpAnyH_of_wpO hs hQ is _ _ w ho.2 hS hk)
  | (i, false) :: is, m, a, w, ho, hS, h => by
    unfold okO at ho
    rw [Bool.and_eq_true] at ho
    obtain ⟨o, hi, hw, hk⟩ := h
    refine wpAnyH_all (rs := [i]) (by simpa using ho.1) (by simp) ?_
    intro j hj
    obtain rfl : j = i := by simpa using hj
    exact wpOp_of_hOp hi hw (hOp_mono (fun v w' hk => ⟨hk.1, wpAnyH_of_wpO hs hQ is _ _ w' ho.2 hk.1 hk.2⟩) hk)
theorem wp_ordA (S : World → Prop) (is : List (Nat × Bool)) {id : Nat} {a : Act} {w : World} {l : List Oper} (hm : P.follows .mixedOrders = true) (hs : Region.noSelect l.toArray = true) (hQ : ∀ c a (dt : Option Tmp) v w, Q (.panic c) (Act.put a dt v) w → Q (.panic c) a w)
    (hn : is.length = l.length) (ho : okO l.toArray is (Array.replicate l.length false) = true) (hS : S w.drew) (h : wpO P l.toArray S Q is a w.drew) : (Code.region id l.toArray true).wp P Q a w := by
  refine wp_region_held (S := S) hm ?_
  have := wpAnyH_of_wpO hs hQ is _ a w.drew ho hS h
  rw [hn] at this
  simpa using this
theorem wpO_nil {a : Act} {w : World} (h : Q .normal a w) : wpO P ops S Q [] a w := h
theorem wpO_q {i : Nat} {is : List (Nat × Bool)} {o : Oper} {l : List Oper} {a : Act} {w : World} (hi : l[i]? = some o) (hst : stillA o = true) (h : wpQuiet P l.toArray (fun w' => ∃ x : LaterS S, w' = x.at) (fun a' => wpO P l.toArray S Q is a' w) [o] a) : wpO P l.toArray S Q ((i, true) :: is) a w := by
  refine ⟨o, by simpa using hi, ?_⟩
  unfold wpQuiet at h
  by_cases hw : Region.wanted o (yielded l.toArray a.tmps) = true
  · rw [if_pos hw] at h
    obtain ⟨v, hv, hn⟩ := h
    refine ⟨v, .inl ⟨hw, fun w' hS' => ?_⟩, hn⟩
    have h1 := hv w' (LaterS.some hS')
    unfold Oper.quietAt at h1
    cases hr : (execOp a.eval o).run P w' with
    | ok n w2 =>
      obtain ⟨x, rfl⟩ := stillA_value hst hr
      rw [hr] at h1
      obtain ⟨e1, e2⟩ := h1
      rw [e1, e2]
    | halt x w2 => rw [hr] at h1; exact h1.elim
  · rw [if_neg hw] at h
    exact ⟨undef, .inr ⟨by simpa using hw, rfl⟩, h⟩
/-- a value that is laid -/
theorem wpO_val {i : Nat} {is : List (Nat × Bool)} {o : Oper} {l : List Oper} {a : Act} {w : World} (v : Value) (hi : l[i]? = some o) (hg : o.guard = none) (hr : ∀ w', S w' → (execOp a.eval o).run P w' = .ok (.value v) w') (h : wpO P l.toArray S Q is (a.put o.dst v) w) : wpO P l.toArray S Q ((i, true) :: is) a w :=
  ⟨o, by simpa using hi, v, .inl ⟨by unfold Region.wanted; rw [hg], hr⟩, h⟩
/-- what is guarded and not wanted -/
theorem wpO_skip {i : Nat} {is : List (Nat × Bool)} {o : Oper} {l : List Oper} {a : Act} {w : World} (hi : l[i]? = some o) (hw : Region.wanted o (yielded l.toArray a.tmps) = false) (h : wpO P l.toArray S Q is (a.put o.dst undef) w) : wpO P l.toArray S Q ((i, true) :: is) a w :=
  ⟨o, by simpa using hi, undef, .inr ⟨hw, rfl⟩, h⟩
theorem wpO_op {i : Nat} {is : List (Nat × Bool)} {o : Oper} {l : List Oper} {a : Act} {w : World} (hi : l[i]? = some o) (hw : Region.wanted o (yielded l.toArray a.tmps) = true) (h : hOp P o (fun v w' => S w' ∧ wpO P l.toArray S Q is (a.put o.dst v) w') a w) : wpO P l.toArray S Q ((i, false) :: is) a w := ⟨o, by simpa using hi, hw, h⟩
end
section
variable {lp m : Nat} {P : Program} {Q : Exit → Act → World → Prop}
/-- the same in a round -/
theorem wpR_ordA (S : World → Prop) (is : List (Nat × Bool)) {id : Nat} {a : Act} {w : World} {l : List Oper} (hm : P.follows .mixedOrders = true) (hd : noDefer l = true) (hL : ¬ LetsOut Q) (hs : Region.noSelect l.toArray = true) (hQ : ∀ c a (dt : Option Tmp) v w, Q (.panic c) (Act.put a dt v) w → Q (.panic c) a w)
    (hn : is.length = l.length) (ho : okO l.toArray is (Array.replicate l.length false) = true) (hS : S w.drew) (h : wpO P l.toArray S Q is a w.drew) : (Code.region id l.toArray true).wpIn (Fence.wide.inRound lp) m P Q a w := by
  refine wpIn_region_any hm (wpAnyIn_of_wpAny (noDefer_spec hd) hL _ _ _ _ ?_)
  have := wpAny_of_held _ _ _ _ (wpAnyH_of_wpO hs hQ is _ a w.drew ho hS h)
  rw [hn] at this
  simpa using this
/-- a call of a function value that takes nothing -/
theorem hOp_callV {o : Oper} {a : Act} {w : World} {K : Value → World → Prop} {fn : Func} (f : FuncId) (hf : P.funcs[f]? = some fn) (hname : (fn.name == "runtime.NumGoroutine") = false) (hb : fn.body.isNone = false) (x : Tmp) (lb : Array Value) (ts : Array TypeId) (ho : o.op = .call { callee := .value (.tmp x), args := #[], argTypes := ts })
    (hx : a.eval (.tmp x) = .func (.func f) #[] lb) (h : Calls P f lb w fun e w' => ∃ v, e = .returned v ∧ K v w') : hOp P o K a w := by
  unfold hOp execOp
  simp only [ho]
  have e : (do let d ← resolve a.eval { callee := .value (.tmp x), args := #[], argTypes := ts } o.type; invoke d.target d.args : Sem Next).run P w = .ok (.enter f lb) w := by
    have h1 : fn.name ≠ "runtime.NumGoroutine" := by simpa using hname
    have h2 : fn.body ≠ none := by
      intro e
      rw [e] at hb
      cases hb
    have hx' : a.tmps[x]?.getD undef = .func (.func f) #[] lb := by simpa [Act.eval] using hx
    simp [resolve, Deferred.ofValue, invoke, go_sem, hx', callFunc, hf, h1, h2]
  rw [e]
  exact h
/-- a piece that is left in one way alone -/
def onlyN (Q : Exit → Act → World → Prop) : Exit → Act → World → Prop
  | .normal, a, w => Q .normal a w
  | _, _, _ => False
theorem onlyN_ok {a : Act} {w : World} (h : Q .normal a w) : onlyN Q .normal a w := h
theorem wpIn_normal {N : Nat} {c : Code} {a : Act} {w : World} (h : c.wp P (onlyN Q) a w) : c.wpIn Fence.wide N P Q a w :=
  wpIn_mono (wpIn_wide.2 h) fun e a w hq => by cases e <;> first | exact hq | exact hq.elim
end
end Go.Proofs.YtgkojdbepgonkaaDoor

/- Honest openings and paths are accepted; their sizes. No program. -/
namespace Go.Proofs.YtgkojdbepgonkaaDoor
set_option linter.unusedVariables false
set_option linter.unusedSimpArgs false
set_option maxRecDepth 8000
open Go.RowKit
theorem incF_pw : ∀ {is : List Int} {least n : Int}, incF least n is = true → is.Pairwise (· < ·) ∧ ∀ x ∈ is, least ≤ x ∧ x < n
  | [], _, _, _ => ⟨List.Pairwise.nil, fun _ h => by cases h⟩
  | x :: is, least, n, h => by
    rw [incF_cons] at h
    by_cases hx : x < least ∨ n ≤ x
    · rw [if_pos hx] at h; cases h
    · rw [if_neg hx] at h
      obtain ⟨h1, h2⟩ := incF_pw h
      refine ⟨List.pairwise_cons.2 ⟨fun y hy => by have := (h2 y hy).1; omega, h1⟩, fun y hy => ?_⟩
      rcases List.mem_cons.1 hy with rfl | hy
      · omega
      · have := h2 y hy
        omega
theorem incF_of_pw : ∀ {is : List Int} {least n : Int}, is.Pairwise (· < ·) → (∀ x ∈ is, least ≤ x ∧ x < n) → incF least n is = true
  | [], _, _, _, _ => rfl
  | x :: is, least, n, h1, h2 => by
    have hx := h2 x List.mem_cons_self
    rw [incF_cons, if_neg (by omega)]
    exact incF_of_pw (List.pairwise_cons.1 h1).2 fun y hy => ⟨by have := (List.pairwise_cons.1 h1).1 y hy; omega, (h2 y (List.mem_cons_of_mem _ hy)).2⟩
theorem take_below : ∀ {is : List Int} (m : Int), is.Pairwise (· < ·) → is.take (belowN is m) = is.filter (fun x => decide (x < m)) ∧ is.drop (belowN is m) = is.filter (fun x => decide (m ≤ x))
  | [], m, _ => ⟨rfl, rfl⟩
  | x :: is, m, h => by
    obtain ⟨h1, h2⟩ := List.pairwise_cons.1 h
    obtain ⟨e1, e2⟩ := take_below m h2
    by_cases hx : x < m
    · have e : belowN (x :: is) m = belowN is m + 1 := by unfold belowN; rw [List.takeWhile_cons, if_pos (by simpa using hx)]; rfl
      rw [e, List.take_succ_cons, List.drop_succ_cons, e1, e2, List.filter_cons, if_pos (by simpa using hx), List.filter_cons, if_neg (by simpa using hx)]
      exact ⟨rfl, rfl⟩
    · have e : belowN (x :: is) m = 0 := by unfold belowN; rw [List.takeWhile_cons, if_neg (by simpa using hx)]; rfl
      rw [e, List.take_zero, List.drop_zero]
      refine ⟨(List.filter_eq_nil_iff.2 fun y hy => ?_).symm, (List.filter_eq_self.2 fun y hy => ?_).symm⟩
      · rcases List.mem_cons.1 hy with rfl | hy
        · simpa using hx
        · have := h1 y hy; simp; omega
      · rcases List.mem_cons.1 hy with rfl | hy
        · simpa using hx
        · have := h1 y hy; simp; omega
theorem mem_take_below {is : List Int} {m x : Int} (h : is.Pairwise (· < ·)) : x ∈ is.take (belowN is m) ↔ x ∈ is ∧ x < m := by
  rw [(take_below m h).1, List.mem_filter]; simp
theorem mem_drop_below {is : List Int} {m x : Int} (h : is.Pairwise (· < ·)) : x ∈ is.drop (belowN is m) ↔ x ∈ is ∧ m ≤ x := by
  rw [(take_below m h).2, List.mem_filter]; simp
/-- indices in a subtree -/
def InS (f s : Nat) (is : List Int) : Prop := is.Pairwise (· < ·) ∧ ∀ x ∈ is, (f : Int) ≤ x ∧ x < ((f + s : Nat) : Int)
theorem InS.left {f s k : Nat} {is : List Int} (h : InS f s is) : InS f k (is.take (belowN is ((f + k : Nat) : Int))) :=
  ⟨h.1.sublist (List.take_sublist _ _), fun x hx => by have := (mem_take_below h.1).1 hx; exact ⟨(h.2 x this.1).1, this.2⟩⟩
theorem InS.right {f s k : Nat} {is : List Int} (h : InS f s is) (hk : k ≤ s) : InS (f + k) (s - k) (is.drop (belowN is ((f + k : Nat) : Int))) :=
  ⟨h.1.sublist (List.drop_sublist _ _), fun x hx => by have := (mem_drop_below h.1).1 hx; have h2 := h.2 x this.1; exact ⟨this.2, by omega⟩⟩
theorem InS.single {f : Nat} {is : List Int} (h : InS f 1 is) (hne : is ≠ []) : is = [(f : Int)] := by
  match is, hne with
  | [x], _ =>
    have := h.2 x List.mem_cons_self
    rw [show x = (f : Int) by omega]
  | x :: y :: is, _ =>
    have h1 := h.2 x List.mem_cons_self
    have h2 := h.2 y (List.mem_cons_of_mem _ List.mem_cons_self)
    have h3 := (List.pairwise_cons.1 h.1).1 y List.mem_cons_self
    omega
theorem InS.of_inc {n : Nat} {is : List Int} (h : incF 0 (n : Int) is = true) : InS 0 n is := by
  obtain ⟨h1, h2⟩ := incF_pw h
  exact ⟨h1, fun x hx => by have := h2 x hx; exact ⟨this.1, by simpa using this.2⟩⟩
/-- the leaves of a subtree -/
def subL (Ls : List (List Nat)) (f s : Nat) : List (List Nat) := (Ls.drop f).take s
theorem subL_length {Ls : List (List Nat)} {f s : Nat} (h : f + s ≤ Ls.length) : (subL Ls f s).length = s := by
  unfold subL; rw [List.length_take, List.length_drop]; omega
theorem subL_one {Ls : List (List Nat)} {f : Nat} (h : f + 1 ≤ Ls.length) : subL Ls f 1 = [Ls.getD f []] := by
  unfold subL
  rw [List.drop_eq_getElem_cons (by omega), List.getD_eq_getElem?_getD, List.getElem?_eq_getElem (by omega)]
  rfl
theorem root_subL {Ls : List (List Nat)} {f s : Nat} (h : f + s ≤ Ls.length) (hs : 2 ≤ s) : rootN (subL Ls f s) = prN (rootN (subL Ls f (leftN s))) (rootN (subL Ls (f + leftN s) (s - leftN s))) := by
  have hl := subL_length h
  have hk := leftN_lt hs
  rw [rootN_split (by omega), hl]
  unfold prN subL
  rw [List.take_take, Nat.min_eq_left (by omega), List.drop_take, List.drop_drop]
theorem reb_honest {Ls : List (List Nat)} : ∀ (s : Nat), 1 ≤ s → ∀ (f : Nat) (is : List Int) (rest : List (List Nat)), f + s ≤ Ls.length → InS f s is →
    (rebN f s is (is.map fun x => Ls.getD x.toNat []) (digsN Ls (closedN f s is) ++ rest)).1 = rootN (subL Ls f s) := by
  refine tree_ind ?_ ?_
  · intro f is rest hf hi
    by_cases h : is = []
    · subst h
      rw [rebN_nil f _ _ (Nat.le_refl _), closedN_nil f (Nat.le_refl _)]
      rfl
    · rw [rebN_one f _ _ h, hi.single h, subL_one hf]
      rfl
  · intro s hs hp hl ihl ihr f is rest hf hi
    by_cases h : is = []
    · subst h
      rw [rebN_nil f _ _ (by omega), closedN_nil f (by omega)]
      rfl
    · rw [rebN_split f _ _ h hs rfl, closedN_split f h hs, root_subL hf hs]
      simp only [← List.map_take, ← List.map_drop]
      unfold digsN at ihl ihr ⊢
      rw [List.map_append, List.append_assoc, ihl f _ _ (by omega) hi.left, rebN_rest _ hp, List.drop_left' (by rw [List.length_map]), ihr (f + leftN s) _ _ (by omega) (hi.right (by omega))]
theorem climbN_append (i : Int) (x : Nat × Nat) : ∀ (xs : List (Nat × Nat)) (ns : List (List Nat)) (d : List Nat), climbN i (xs ++ [x]) ns d = if i < ((x.1 : Nat) : Int) then prN (climbN i xs ns d) ((ns.drop xs.length).headD []) else prN ((ns.drop xs.length).headD []) (climbN i xs ns d)
  | [], ns, d => rfl
  | y :: xs, ns, d => by
    show climbN i (xs ++ [x]) ns.tail _ = _
    rw [climbN_append i x xs]
    have : ns.tail.drop xs.length = ns.drop (xs.length + 1) := by rw [← List.drop_one, List.drop_drop, Nat.add_comm]
    rw [this]
    rfl
/-- only as many nodes count as there are siblings -/
theorem climbN_take (i : Int) : ∀ (xs : List (Nat × Nat)) (ns : List (List Nat)) (d : List Nat), climbN i xs (ns.take xs.length) d = climbN i xs ns d
  | [], _, _ => rfl
  | _ :: _, [], _ => rfl
  | _ :: xs, _ :: ns, _ => climbN_take i xs ns _
theorem climb_honest {Ls : List (List Nat)} : ∀ (s : Nat), 1 ≤ s → ∀ (f i : Nat), f + s ≤ Ls.length → f ≤ i → i < f + s →
    ∀ rest, climbN (i : Int) (sibN f s i) (digsN Ls (sibN f s i) ++ rest) (lfN (Ls.getD i [])) = rootN (subL Ls f s) := by
  refine tree_ind ?_ ?_
  · intro f i hf h1 h2 rest
    obtain rfl : i = f := by omega
    rw [subL_one hf]
    rfl
  · intro s hs hp hl ihl ihr f i hf h1 h2 rest
    by_cases h : (i : Int) < ((f + leftN s : Nat) : Int)
    · rw [sibN_left f hs h, climbN_append, if_pos h, root_subL hf hs]
      unfold digsN at ihl ⊢
      rw [List.map_append, List.append_assoc, ihl f i (by omega) h1 (by omega), List.drop_left' (by rw [List.length_map])]
      rfl
    · rw [sibN_right f hs h, climbN_append, if_neg (by simp; omega), root_subL hf hs]
      unfold digsN at ihr ⊢
      rw [List.map_append, List.append_assoc, ihr (f + leftN s) i (by omega) (by omega) (by omega), List.drop_left' (by rw [List.length_map])]
      rfl
/-- the opening of one leaf has the digests of its path -/
theorem closed_single : ∀ (s : Nat), 1 ≤ s → ∀ (f : Nat) (i : Int), (f : Int) ≤ i → i < ((f + s : Nat) : Int) → (closedN f s [i]).Perm (sibN f s i) := by
  refine tree_ind ?_ ?_
  · intro f i h1 h2
    rw [closedN_one f (by simp), sibN_one]
  · intro s hs hp hl ihl ihr f i h1 h2
    rw [closedN_split f (by simp) hs]
    by_cases h : i < ((f + leftN s : Nat) : Int)
    · have e : belowN [i] ((f + leftN s : Nat) : Int) = 1 := by unfold belowN; rw [List.takeWhile_cons, if_pos (by simpa using h)]; rfl
      rw [e, sibN_left f hs h]
      show (closedN f (leftN s) [i] ++ closedN (f + leftN s) (s - leftN s) []).Perm _
      rw [closedN_nil _ (by omega)]
      exact (ihl f i h1 h).append_right _
    · have e : belowN [i] ((f + leftN s : Nat) : Int) = 0 := by unfold belowN; rw [List.takeWhile_cons, if_neg (by simpa using h)]; rfl
      rw [e, sibN_right f hs h]
      show (closedN f (leftN s) [] ++ closedN (f + leftN s) (s - leftN s) [i]).Perm _
      rw [closedN_nil _ hp]
      exact List.perm_append_comm.trans ((ihr (f + leftN s) i (by omega) (by omega)).append_right _)
/-- no subtree is closed where all leaves are opened -/
theorem closed_all : ∀ (s : Nat), 1 ≤ s → ∀ (f : Nat) (is : List Int), InS f s is → is.length = s → closedN f s is = [] := by
  refine tree_ind ?_ ?_
  · intro f is hi hl
    exact closedN_one f (fun e => by rw [e] at hl; cases hl)
  · intro s hs hp hl ihl ihr f is hi hle
    have hne : is ≠ [] := fun e => by rw [e] at hle; simp at hle; omega
    have hL := (hi.left (k := leftN s))
    have hR := (hi.right (k := leftN s) (by omega))
    have hcap : ∀ (f s : Nat) (js : List Int), InS f s js → js.length ≤ s := by
      intro f s
      induction s generalizing f with
      | zero =>
        intro js h
        match js with
        | [] => exact Nat.le_refl _
        | x :: js => have := h.2 x List.mem_cons_self; omega
      | succ s ih =>
        intro js h
        match js with
        | [] => simp
        | x :: js =>
          have hx := h.2 x List.mem_cons_self
          have := ih (f + 1) js ⟨(List.pairwise_cons.1 h.1).2, fun y hy => by
            have h1 := (List.pairwise_cons.1 h.1).1 y hy
            have h2 := h.2 y (List.mem_cons_of_mem _ hy)
            omega⟩
          simpa using this
    have h1 := hcap _ _ _ hL
    have h2 := hcap _ _ _ hR
    have h3 : (is.take (belowN is ((f + leftN s : Nat) : Int))).length + (is.drop (belowN is ((f + leftN s : Nat) : Int))).length = s := by
      rw [← List.length_append, List.take_append_drop]; exact hle
    rw [closedN_split f hne hs, ihl _ _ hL (by omega), ihr _ _ hR (by omega)]
    rfl
/-- the paths of these leaves together -/
def pathsN (f s : Nat) (is : List Int) : Nat := (is.map fun i => (sibN f s i).length).sum
theorem pathsN_left {f s : Nat} (hs : 2 ≤ s) : ∀ (is : List Int), (∀ x ∈ is, x < ((f + leftN s : Nat) : Int)) → pathsN f s is = pathsN f (leftN s) is + is.length
  | [], _ => rfl
  | x :: is, h => by
    have := pathsN_left hs is (fun y hy => h y (List.mem_cons_of_mem _ hy))
    unfold pathsN at this ⊢
    rw [List.map_cons, List.sum_cons, this, sibN_left f hs (h x List.mem_cons_self), List.length_append, List.map_cons, List.sum_cons]
    simp
    omega
theorem pathsN_right {f s : Nat} (hs : 2 ≤ s) : ∀ (is : List Int), (∀ x ∈ is, ((f + leftN s : Nat) : Int) ≤ x) → pathsN f s is = pathsN (f + leftN s) (s - leftN s) is + is.length
  | [], _ => rfl
  | x :: is, h => by
    have := pathsN_right hs is (fun y hy => h y (List.mem_cons_of_mem _ hy))
    have hx := h x List.mem_cons_self
    unfold pathsN at this ⊢
    rw [List.map_cons, List.sum_cons, this, sibN_right f hs (by omega), List.length_append, List.map_cons, List.sum_cons]
    simp
    omega
theorem pathsN_append (f s : Nat) (is js : List Int) : pathsN f s (is ++ js) = pathsN f s is + pathsN f s js := by
  unfold pathsN; rw [List.map_append, List.sum_append]
/-- an opening has at most as many digests as the paths of its leaves together -/
theorem closed_paths : ∀ (s : Nat), 1 ≤ s → ∀ (f : Nat) (is : List Int), is.Pairwise (· < ·) → is ≠ [] → (closedN f s is).length ≤ pathsN f s is := by
  refine tree_ind ?_ ?_
  · intro f is hi h
    rw [closedN_one f h]
    exact Nat.zero_le _
  · intro s hs hp hl ihl ihr f is hi h
    rw [closedN_split f h hs, List.length_append]
    have e := pathsN_append f s (is.take (belowN is ((f + leftN s : Nat) : Int))) (is.drop (belowN is ((f + leftN s : Nat) : Int)))
    rw [List.take_append_drop] at e
    rw [e, pathsN_left hs _ (fun x hx => ((mem_take_below hi).1 hx).2), pathsN_right hs _ (fun x hx => ((mem_drop_below hi).1 hx).2)]
    have hL := hi.sublist (List.take_sublist (belowN is ((f + leftN s : Nat) : Int)) is)
    have hR := hi.sublist (List.drop_sublist (belowN is ((f + leftN s : Nat) : Int)) is)
    have hj : (is.take (belowN is ((f + leftN s : Nat) : Int))).length + (is.drop (belowN is ((f + leftN s : Nat) : Int))).length = is.length := by
      rw [← List.length_append, List.take_append_drop]
    have hpos := List.length_pos_iff.2 h
    by_cases h1 : is.take (belowN is ((f + leftN s : Nat) : Int)) = []
    · have h2 : is.drop (belowN is ((f + leftN s : Nat) : Int)) ≠ [] := fun e2 => by rw [h1, e2] at hj; simp at hj; omega
      have := ihr (f + leftN s) _ hR h2
      have hp2 := List.length_pos_iff.2 h2
      rw [h1, closedN_nil _ hp]
      simp only [List.length_singleton, List.length_nil]
      omega
    · have hp1 := List.length_pos_iff.2 h1
      have i1 := ihl f _ hL h1
      by_cases h2 : is.drop (belowN is ((f + leftN s : Nat) : Int)) = []
      · rw [h2, closedN_nil _ (by omega)]
        simp only [List.length_singleton, List.length_nil]
        omega
      · have := ihr (f + leftN s) _ hR h2
        omega
end Go.Proofs.YtgkojdbepgonkaaDoor
