/- The reference's Open. -/
import Derived.Test.YtcephdkcjcbanaaDoorWMvo
namespace Go.Proofs.YtcephdkcjcbanaaDoor
set_option maxRecDepth 8000
set_option linter.unusedVariables false
set_option linter.unusedSimpArgs false
open Go.RowKit
attribute [local simp] z32_ne z32_run
attribute [-simp] Tryd.zeroValue31 Tryd.isAgg31 Tryd.sizeOf31
section
variable {ev : Operand → Value} {o : Oper}
theorem exec_idxX {x y : Operand} (w : World) (g n c i : Nat) (hi : i < n) (ho : o.op = .indexAddr 72 x y) (hx : ev x = .slice (some ⟨g, 0, none⟩) n c) (hy : ev y = .int .i64 ((i : Nat) : Int)) :
    (execOp ev o).run Tryd.prog w = .ok (.value (.pointer (some ⟨g, 2 * i, none⟩))) w := by
  have h0 : (0 : Int) ≤ (i : Int) := by omega
  have h1 : (i : Int) < (n : Int) := by omega
  have hm : i * 2 = 2 * i := Nat.mul_comm _ _
  unfold execOp
  simp only [ho, hx, hy]
  go_simp
  first | done | rw [hm] | (rw [ad_base, hm])
theorem exec_midP {x y z : Operand} (w : World) (ad : Addr) (n c k h : Nat) (hk : k < h) (hh : h ≤ n) (hc : n ≤ c) (ho : o.op = .slice 22 x (some y) (some z) none) (hx : ev x = .slice (some ad) n c) (hy : ev y = .int .i64 ((k : Nat) : Int)) (hz : ev z = .int .i64 ((h : Nat) : Int)) :
    (execOp ev o).run Tryd.prog w = .ok (.value (.slice (some (ad.add k)) (h - k) (c - k))) w := by
  have h0 : (0 : Int) ≤ (k : Int) := by omega
  have h00 : (0 : Int) ≤ (h : Int) := by omega
  have h1 : (k : Int) ≤ (h : Int) := by omega
  have h2 : (h : Int) ≤ (c : Int) := by omega
  have h3 : (k : Int) ≤ (c : Int) := by omega
  have h4 : ¬ c = k := by omega
  unfold execOp
  simp only [ho, hx]
  go_simp
theorem exec_loadI8 {x : Operand} {w : World} (a : Addr) (z : Int) (hc : w.cell? a = some (.int .i64 z)) (ho : o.op = .load 3 x) (hx : ev x = .pointer (some a)) :
    (execOp ev o).run Tryd.prog w = .ok (.value (.int .i64 z)) w := by
  unfold execOp
  simp only [ho, hx]
  go_simp
end
theorem Pb.mid {w : World} {ad : Addr} {n c : Nat} {Ps : List (List Nat)} (h : Pb w (some ad) n c Ps) {k s : Nat} (hs : 1 ≤ s) (hk : k + s ≤ n) : Pb w (some (ad.add k)) (k + s - k) (c - k) ((Ps.drop k).take s) := by
  have hc := h.cap
  have h1 := h.dropTo (k := k) (by omega) hc
  have h2 := h1.take (k := s) (by omega)
  rwa [show k + s - k = s by omega]
theorem digsN_snoc (Ls : List (List Nat)) {xs : List (Nat × Nat)} {j : Nat} {x : Nat × Nat} (h : xs[j]? = some x) : digsN Ls (xs.take (j + 1)) = digsN Ls (xs.take j) ++ [rootN ((Ls.drop x.1).take x.2)] := by
  rw [List.take_add_one, h]
  unfold digsN
  simp
set_option maxHeartbeats 4000000 in
theorem ropen_any (ad : Addr) (n c : Nat) (Ls : List (List Nat)) (I : Option Addr) (k d : Nat) (is : List Int) (w : World) (h : Pb w (some ad) n c Ls) (hi : Ib w I k d is) (hn1 : 1 ≤ n) (hn : n ≤ 65536) (hL : ∀ l ∈ Ls, l.length ≤ 59999) :
    Calls Tryd.prog 14 #[.slice (some ad) n c, .slice I k d] w fun e w' => (incF 0 (n : Int) is = true ∧ ∃ v, e = .returned (.tuple #[.agg #[v], .int .i64 0]) ∧ OwD w' w.heap.size v (closedN 0 n is).length (digsN Ls (closedN 0 n is)) ∧ Below w.heap.size w w') ∨
      (incF 0 (n : Int) is = false ∧ e = .returned (.tuple #[.agg #[.slice none 0 0], .int .i64 1]) ∧ Below w.heap.size w w') := by
  have HP := Lib.hid h
  have HI := Lib.hid hi
  have HL := Lib.hid hL
  have HCP := Lib.hid h.cap
  have HLN := Lib.hid h.len
  clear h hi hL
  obtain ⟨xs, hxs⟩ : ∃ xs, closedN 0 n is = xs := ⟨_, rfl⟩
  have HIN := Lib.hid (fun x hx => closedN_in n hn1 0 is x hx)
  have hxl := closedN_len n hn1 0 is
  rw [hxs] at HIN hxl ⊢
  obtain ⟨N, hN⟩ : ∃ N, xs.length = N := ⟨_, rfl⟩
  rw [hN] at hxl ⊢
  have HXS := Lib.hid hxs
  have HN := Lib.hid hN
  clear hxs hN
  go_enter Tryd.func14, Tryd.ntmps14
  go_upto_region 1 with fail
  refine wp_named1 (fun w1 hb1 g0 hlt1 => ?_)
  have H0 : Hid (One w1 w.heap.size 37 (.slice none 0 0)) := Lib.hid g0
  have HB1 := Lib.hid hb1
  have HI1 := Lib.hid (HI.out.keep hb1)
  clear g0 hb1
  have hn0 : ¬ ((n : Int) < 1) := by omega
  go_wp2_with fail
  refine (rincreasing_any I k d is (n : Int) w1 HI1.out).mono ?_
  rintro e W1 ⟨rfl, hb⟩
  have H1 := Lib.hid (H0.out.keep hb)
  have HI2 := Lib.hid (HI1.out.keep hb)
  have HB2 := Lib.hid (bel_step HB1.out hb)
  clear hb H0 HI1 HB1
  by_cases hinc : incF 0 (n : Int) is = true
  · rw [hinc]
    go_wp2_with fail
    refine (size8_ok n W1 hn1 hn).mono ?_
    rintro e W2 ⟨rfl, rfl⟩
    have hpw := (incF_pw hinc).1
    have hsl : slN is ((0 : Nat) : Int) ((0 + n : Nat) : Int) = is := by rw [Nat.zero_add]; exact slN_all (InS.of_inc hinc)
    have HSL := Lib.hid hsl
    clear hsl
    go_upto_region 5 with fail
    refine wp_region_lit ?_
    refine wpList_run (by kernel_rfl) (.agg #[.slice none 0 0]) W2 (by unfold execOp; go_simp) ?_
    simp only [Act.put, List.setIfInBounds_toArray, List.set_cons_zero, List.set_cons_succ]
    refine wpList_val rfl (.slice I k d) W2 rfl ?_
    simp only [Act.put, List.setIfInBounds_toArray, List.set_cons_zero, List.set_cons_succ]
    refine wpList_val rfl (.slice (some ad) n c) W2 rfl ?_
    simp only [Act.put, List.setIfInBounds_toArray, List.set_cons_zero, List.set_cons_succ]
    refine wpList_val rfl (.int .i64 (n : Int)) W2 (by first | rfl | (unfold execOp; go_simp)) ?_
    simp only [Act.put, List.setIfInBounds_toArray, List.set_cons_zero, List.set_cons_succ]
    refine wpList_call (by kernel_rfl) 41 Tryd.func41 (by kernel_rfl) (by kernel_rfl) _ _ #[.slice I k d, .int .i64 ((0 : Nat) : Int), .int .i64 (n : Int)] rfl (by kernel_rfl) ?_
    refine (rclosed_any n 0 n I k d is W2 HI2.out hpw (Nat.le_refl _) hn1 (by omega) n (by omega)).mono ?_
    rintro e W3 ⟨v7, rfl, ho, hb⟩
    rw [HSL.out, HXS.out, HN.out] at ho
    have HM := Lib.hid ho
    have H2 := Lib.hid (H1.out.keep hb)
    have HB3 := Lib.hid (bel_step HB2.out hb)
    clear ho hb H1 HB2 HI2
    refine ⟨_, rfl, ?_⟩
    simp only [Act.put, List.setIfInBounds_toArray, List.set_cons_zero, List.set_cons_succ]
    refine wpList_decl #[.slice none 0 0] #[.slice none 0 0] 37 (by kernel_rfl) (exec_allocOp _ rfl) (fun _ => by kernel_rfl) (fun b W h0 => exec_storeOp b _ _ _ _ rfl rfl rfl h0) ?_
    intro b6 V5 hge h6 hb
    have HM5 := Lib.hid (HM.out.keep hb)
    have H5 := Lib.hid (H2.out.keep hb)
    have HB5 := Lib.hid (bel_step HB3.out hb)
    have HW6 := Lib.hid (show One V5 b6 37 (.slice none 0 0) from h6)
    have hw3 := HB3.out.size
    have hlt0 := H2.out.lt
    have hlt6 := HW6.out.lt
    have hne06 : w.heap.size ≠ b6 := by omega
    have hM0 := HM.out
    clear hb h6 H2 HB3 HM
    simp only [ptr, Act.put, List.setIfInBounds_toArray, List.set_cons_zero, List.set_cons_succ]
    refine wpList_val rfl v7 V5 rfl ?_
    simp only [Act.put, List.setIfInBounds_toArray, List.set_cons_zero, List.set_cons_succ]
    refine wpList_nil ?_
    have HEL : Hid (∀ (j : Nat) (x : Nat × Nat), xs[j]? = some x → ∃ g cp, v7 = .slice (some ⟨g, 0, none⟩) N cp ∧ g < W3.heap.size ∧ V5.cell? ⟨g, 2 * j, none⟩ = some (.int .i64 (x.1 : Int)) ∧ V5.cell? ⟨g, 2 * j + 1, none⟩ = some (.int .i64 ((x.1 + x.2 : Nat) : Int))) := Lib.hid (fun j x hx => by
      have hjN := (List.getElem?_eq_some_iff.1 hx).1
      have hN := HN.out
      have h5 := HM5.out
      obtain ⟨c1, c2⟩ := celM_get hx
      rcases hM0.2 with ⟨_, h0⟩ | ⟨g, cap, cur, hv, hbs, hgg, h1, h2, h3, h4⟩
      · omega
      · have hgl := (Array.getElem?_eq_some_iff.1 hgg).1
        rcases h5.2 with ⟨_, h0⟩ | ⟨g', cap', cur', hv', hbs', hgg', h1', h2', h3', h4'⟩
        · omega
        · rw [hv] at hv'
          injection hv' with e1 e2 e3
          injection e1 with e1
          injection e1 with e1
          subst e1
          refine ⟨g, cap, hv, hgl, ?_, ?_⟩
          · rw [← h4', List.getElem?_take_of_lt (by omega)] at c1
            simpa [World.cell?, hgg'] using c1
          · rw [← h4', List.getElem?_take_of_lt (by omega)] at c2
            simpa [World.cell?, hgg'] using c2)
    have hlenv : ∃ A cp, v7 = .slice A N cp := by
      rcases hM0.2 with ⟨hv, h0⟩ | ⟨g, cap, cur, hv, _⟩
      · subst h0; exact ⟨none, 0, hv⟩
      · exact ⟨_, _, hv⟩
    obtain ⟨A7, c7, rfl⟩ := hlenv
    have hs5 : W3.heap.size ≤ b6 := hge
    clear hM0 HM5 hge
    go_wp2_with fail
    go_loopw [8] (fun s wr => ∃ (j : Nat) (v6 : Value), j ≤ N ∧ s = .int .i64 j ∧ One wr b6 37 v6 ∧ OwD wr V5.heap.size v6 j (digsN Ls (xs.take j)) ∧ SameX b6 V5 wr ∧ Below w.heap.size w wr) (fun s _ => N - (intOf s).toNat)
    case atStart => exact ⟨0, .slice none 0 0, Nat.zero_le _, rfl, HW6.out, ⟨World.ownsRow_nil V5 _ _ _, fun _ hx => by cases hx⟩, SameX.refl _ _, HB5.out⟩
    case round =>
      obtain ⟨j, v6, hj, rfl, h6, ho6, hsx, hbw⟩ := hrel
      have H6 := Lib.hid h6
      have HO6 := Lib.hid ho6
      have HSX := Lib.hid hsx
      have HBW := Lib.hid hbw
      clear h6 ho6 hsx hbw HW6 HB5
      by_cases hlt : j < N
      · have hlt2 : (j : Int) < (N : Int) := by omega
        obtain ⟨x, hx⟩ : ∃ x, xs[j]? = some x := ⟨_, List.getElem?_eq_getElem (by have := HN.out; omega)⟩
        obtain ⟨g, cp, hv7, hgl, hc1, hc2⟩ := HEL.out j x hx
        injection hv7 with e1 e2 e3
        subst e1 e3
        have hin := HIN.out x (List.mem_of_getElem? hx)
        have hgV : g < V5.heap.size := World.block_lt_of_cell? V5 _ hc1
        have hd1 : wr.cell? ⟨g, 2 * j, none⟩ = some (.int .i64 (x.1 : Int)) := (World.cell?_of_block (HSX.out.2 g hgV (by omega))).trans hc1
        have hd2 : wr.cell? ⟨g, 2 * j + 1, none⟩ = some (.int .i64 ((x.1 + x.2 : Nat) : Int)) := (World.cell?_of_block (HSX.out.2 g hgV (by omega))).trans hc2
        have HD1 := Lib.hid hd1
        have HD2 := Lib.hid hd2
        have HSN := Lib.hid (digsN_snoc Ls hx)
        obtain ⟨R, hR⟩ : ∃ R, rootN ((Ls.drop x.1).take x.2) = R := ⟨_, rfl⟩
        have hR32 : R.length = 32 := by rw [← hR]; exact rootN_length (by rw [List.length_take, List.length_drop]; have := HLN.out; omega)
        have HR := Lib.hid hR
        rw [hR] at HSN
        have hx1 : x.1 + x.2 ≤ n := by omega
        have hx2 : 1 ≤ x.2 := hin.2.2.1
        have hcc := HCP.out
        obtain ⟨lo, hlo⟩ : ∃ lo, x.1 = lo := ⟨_, rfl⟩
        obtain ⟨sz, hsz⟩ : ∃ sz, x.2 = sz := ⟨_, rfl⟩
        rw [hlo, hsz] at hx1 HD2 HR
        rw [hlo] at HD1
        rw [hsz] at hx2
        clear hd1 hd2 hc1 hc2 hx hR hin hlo hsz
        have hsz5 : V5.heap.size ≤ wr.heap.size := HSX.out.1
        go_upto_region 9 with fail
        refine Tl.wp_held_tailB 18 V5.heap.size (by kernel_rfl) (lexOK_of (by kernel_rfl) (by kernel_rfl)) (Tl.chainW_of (by kernel_rfl)) rfl (by kernel_rfl) (by kernel_rfl) (fun W0 hbW hSW => ?_)
        simp only [List.take_succ_cons, List.take_zero]
        have HS0 := Lib.hid hSW
        have HO60 := Lib.hid (HO6.out.keep hbW)
        have HBW0 := Lib.hid (bel_step HBW.out hbW)
        have hz0 := hbW.size
        clear hSW hbW
        refine wpHeld_seg 14 HS0.out (by kernel_rfl) ?_
        simp only [List.take_succ_cons, List.take_zero, List.drop_succ_cons, List.drop_zero]
        obtain ⟨A6, n6, c6, hv6⟩ := HO6.out.slice
        have HV6 := Lib.hid hv6
        clear hv6
        refine wpQuiet_val (by kernel_rfl) (.pointer (some ⟨b6, 0, none⟩)) (fun v hv => by unfold execOp; go_simp) ?_
        simp only [Act.put, List.setIfInBounds_toArray, List.set_cons_zero, List.set_cons_succ]
        refine wpQuiet_val (by kernel_rfl) v6 (fun v hv => by rw [HV6.out]; exact exec_loadSD _ A6 n6 c6 (((LaterB.of hv).cell (show b6 < V5.heap.size from hlt6)).trans (by have := H6.out.c; rwa [HV6.out] at this)) rfl rfl) ?_
        simp only [Act.put, List.setIfInBounds_toArray, List.set_cons_zero, List.set_cons_succ]
        refine wpQuiet_val (by kernel_rfl) (.slice (some ad) n c) (fun v hv => rfl) ?_
        simp only [Act.put, List.setIfInBounds_toArray, List.set_cons_zero, List.set_cons_succ]
        refine wpQuiet_val (by kernel_rfl) (.slice (some ⟨g, 0, none⟩) N c7) (fun v hv => rfl) ?_
        simp only [Act.put, List.setIfInBounds_toArray, List.set_cons_zero, List.set_cons_succ]
        refine wpQuiet_val (by kernel_rfl) (.int .i64 ((j : Nat) : Int)) (fun v hv => rfl) ?_
        simp only [Act.put, List.setIfInBounds_toArray, List.set_cons_zero, List.set_cons_succ]
        refine wpQuiet_val (by kernel_rfl) (.pointer (some ⟨g, 2 * j, none⟩)) (fun v hv => exec_idxX v g N c7 j hlt rfl rfl rfl) ?_
        simp only [Act.put, List.setIfInBounds_toArray, List.set_cons_zero, List.set_cons_succ]
        refine wpQuiet_val (by kernel_rfl) (.pointer (some ⟨g, 2 * j, none⟩)) (fun v hv => by unfold execOp; go_simp) ?_
        simp only [Act.put, List.setIfInBounds_toArray, List.set_cons_zero, List.set_cons_succ]
        refine wpQuiet_val (by kernel_rfl) (.int .i64 ((lo : Nat) : Int)) (fun v hv => exec_loadI8 _ _ (((LaterB.of hv).cell (show g < V5.heap.size from hgV)).trans HD1.out) rfl rfl) ?_
        simp only [Act.put, List.setIfInBounds_toArray, List.set_cons_zero, List.set_cons_succ]
        refine wpQuiet_val (by kernel_rfl) (.slice (some ⟨g, 0, none⟩) N c7) (fun v hv => rfl) ?_
        simp only [Act.put, List.setIfInBounds_toArray, List.set_cons_zero, List.set_cons_succ]
        refine wpQuiet_val (by kernel_rfl) (.int .i64 ((j : Nat) : Int)) (fun v hv => rfl) ?_
        simp only [Act.put, List.setIfInBounds_toArray, List.set_cons_zero, List.set_cons_succ]
        refine wpQuiet_val (by kernel_rfl) (.pointer (some ⟨g, 2 * j, none⟩)) (fun v hv => exec_idxX v g N c7 j hlt rfl rfl rfl) ?_
        simp only [Act.put, List.setIfInBounds_toArray, List.set_cons_zero, List.set_cons_succ]
        refine wpQuiet_val (by kernel_rfl) (.pointer (some ⟨g, 2 * j + 1, none⟩)) (fun v hv => by unfold execOp; go_simp) ?_
        simp only [Act.put, List.setIfInBounds_toArray, List.set_cons_zero, List.set_cons_succ]
        refine wpQuiet_val (by kernel_rfl) (.int .i64 ((lo + sz : Nat) : Int)) (fun v hv => exec_loadI8 _ _ (((LaterB.of hv).cell (show g < V5.heap.size from hgV)).trans HD2.out) rfl rfl) ?_
        simp only [Act.put, List.setIfInBounds_toArray, List.set_cons_zero, List.set_cons_succ]
        refine wpQuiet_val (by kernel_rfl) (.slice (some (ad.add lo)) (lo + sz - lo) (c - lo)) (fun v hv => exec_midP v ad n c lo (lo + sz) (by omega) hx1 hcc rfl rfl rfl rfl) ?_
        simp only [Act.put, List.setIfInBounds_toArray, List.set_cons_zero, List.set_cons_succ]
        refine wpQuiet_nil ?_
        refine wpHeld_call 35 Tryd.func35 (by kernel_rfl) (by kernel_rfl) _ _ #[.slice (some (ad.add lo)) (lo + sz - lo) (c - lo)] rfl (by kernel_rfl) (by kernel_rfl) ?_
        refine (rdigest8_any n (some (ad.add lo)) (lo + sz - lo) (c - lo) ((Ls.drop lo).take sz) W0 ((HP.out.mid hx2 hx1).keep HBW0.out) (by omega) (by omega) (by omega) (fun l hl => HL.out l (List.mem_of_mem_drop (List.mem_of_mem_take hl))) R HR.out).mono ?_
        rintro e W6 ⟨rfl, hb6⟩
        have HS6 := Lib.hid (LaterB.step HS0.out (hb6.mono (by omega)))
        have HO66 := Lib.hid (HO60.out.keep hb6)
        have HBW6 := Lib.hid (bel_step HBW0.out hb6)
        have hz6 : V5.heap.size ≤ W6.heap.size := by have := hb6.size; omega
        clear hb6 HO60 HBW0
        refine ⟨_, rfl, HS6.out, ?_⟩
        simp only [Act.put, List.setIfInBounds_toArray, List.set_cons_zero, List.set_cons_succ]
        refine wpHeld_mk (by kernel_rfl) (by kernel_rfl) (celB R).toArray 31 1 1 (run_buildS1 hR32 rfl rfl _) ?_
        intro g51 W7 hge7 h07 hb7
        have HS7 := Lib.hid (LaterB.step HS6.out (hb7.mono hz6))
        have HO67 := Lib.hid (HO66.out.keep hb7)
        have HBW7 := Lib.hid (bel_step HBW6.out hb7)
        have HRow := Lib.hid (show RowB W7 31 g51 R from h07)
        have hz7 : V5.heap.size ≤ W7.heap.size := by have := hb7.size; omega
        refine ⟨HS7.out, ?_⟩
        clear hb7 h07 hge7 HO66 HBW6
        simp only [Act.put, List.setIfInBounds_toArray, List.set_cons_zero, List.set_cons_succ]
        refine wpHeld_op (by kernel_rfl) (by kernel_rfl) ?_
        refine hOp_appendD (.tmp 37) (.tmp 51) rfl V5.heap.size v6 j _ rfl HO67.out g51 1 R rfl HRow.out hR32 (by omega) hz7 ?_
        intro v8 W8 ho8 hg8
        have hb8 := HO67.out.below hg8 hz7
        have HS8 := Lib.hid (LaterB.step HS7.out hb8)
        have HO8 := Lib.hid ho8
        have HBW8 := Lib.hid (HBW7.out.trans (hb8.mono (by have := HBW.out.size; have := HSX.out.1; omega)))
        refine ⟨HS8.out, ?_⟩
        clear ho8 hg8 hb8
        simp only [Act.put, List.setIfInBounds_toArray, List.set_cons_zero, List.set_cons_succ]
        refine wpHeld_seg 1 HS8.out (by kernel_rfl) ?_
        simp only [List.take_succ_cons, List.take_zero, List.drop_succ_cons, List.drop_zero]
        refine wpQuiet_val (by kernel_rfl) (.pointer (some ⟨b6, 0, none⟩)) (fun v hv => by unfold execOp; go_simp) ?_
        simp only [Act.put, List.setIfInBounds_toArray, List.set_cons_zero, List.set_cons_succ]
        refine wpQuiet_nil ?_
        refine wpHeld_nil ?_
        have hB8 := LaterB.of HS8.out
        have H68 : One W8 b6 37 v6 := (hB8.block b6 hlt6).trans H6.out
        refine mOp_run0 _ rfl rfl (run_storeDs b6 v8 HO8.out.slice rfl rfl rfl H68) ?_
        have HOX := Lib.hid (HO8.out.same (w' := W8.setCell ⟨b6, 0, none⟩ v8) (fun b o hb ho => (Below.heap_setCell _ _ _ b (by show b ≠ b6; omega)).trans ho))
        have HX6 := Lib.hid (H68.set v8)
        have HSX9 := Lib.hid (show SameX b6 V5 (W8.setCell ⟨b6, 0, none⟩ v8) from ⟨by have := hB8.size; show V5.heap.size ≤ (W8.heap.modify b6 _).size; rw [Array.size_modify]; omega, fun b hb hne => (Below.heap_setCell _ _ _ b (by show b ≠ b6; exact hne)).trans ((hB8.block b hb).trans (HSX.out.2 b hb hne))⟩)
        have HBX := Lib.hid (HBW8.out.setCell (p := ⟨b6, 0, none⟩) (by show w.heap.size ≤ b6; omega) v8)
        clear hB8 H68
        generalize W8.setCell ⟨b6, 0, none⟩ v8 = W9 at *
        have hwj : IntKind.i64.wrap ((j : Int) + 1) = ((j + 1 : Nat) : Int) := by rw [IntKind.wrap_i64]; omega
        go_wp2_with fail
        go_roundw
        case rel => exact ⟨j + 1, v8, by omega, by first | rfl | go_num, HX6.out, by rw [HSN.out]; exact HOX.out, HSX9.out, HBX.out⟩
        case measure => simp [intOf]; omega
      · obtain rfl : j = N := by omega
        have hlt2 : ¬ (j : Int) < (j : Int) := by omega
        obtain ⟨A6, n6, c6, hv6⟩ := HO6.out.slice
        subst hv6
        have H0W := Lib.hid (show One wr w.heap.size 37 (.slice none 0 0) from (HSX.out.2 _ (by have := H5.out.lt; exact this) hne06).trans H5.out)
        go_upto_region 10 with fail
        refine wp_region_lit ?_
        refine wpList_run (by kernel_rfl) (.agg #[.slice A6 n6 c6]) wr (exec_loadOp _ _ rfl rfl H6.out) ?_
        simp only [Act.put, List.setIfInBounds_toArray, List.set_cons_zero, List.set_cons_succ]
        refine wpList_skip0 rfl (wr.setRow w.heap.size #[.slice A6 n6 c6]) (exec_storeOp _ _ _ _ _ rfl rfl rfl H0W.out) ?_
        refine wpList_val rfl (.int .i64 0) _ rfl ?_
        simp only [Act.put, List.setIfInBounds_toArray, List.set_cons_zero, List.set_cons_succ]
        refine wpList_nil ?_
        have hrow : (wr.setRow w.heap.size #[.slice A6 n6 c6]).heap[w.heap.size]? = some (.cells #[.slice A6 n6 c6] 37 (0, 0)) := by
          have h0 : wr.heap[w.heap.size]? = _ := H0W.out
          obtain ⟨hlt, hk⟩ := Array.getElem?_eq_some_iff.1 h0
          show (wr.heap.modify w.heap.size _)[w.heap.size]? = _
          rw [Array.getElem?_eq_getElem (by rw [Array.size_modify]; exact hlt), Array.getElem_modify_self, hk]
        have hxx : xs.take j = xs := List.take_of_length_le (by have := HN.out; omega)
        have hVw : w.heap.size < V5.heap.size := H5.out.lt
        go_wp2_with fail
        refine bodyPost_ret (v := .tuple #[.agg #[.slice A6 n6 c6], .int .i64 0]) ?_ rfl ⟨_, rfl, ?_, bel_setRow HBW.out (Nat.le_refl _) _⟩
        · exact results_row_tmp rfl _ _ w.heap.size 37 _ (0, 0) _ _ rfl rfl hrow Tryd.underlying37 rfl (by kernel_rfl)
        · have h9 := HO6.out
          rw [hxx] at h9
          exact (h9.same (fun b o hb ho => (row_far (by omega) _).trans ho)).lower (by omega)
  · have hinf : incF 0 (n : Int) is = false := by simpa using hinc
    rw [hinf]
    go_upto_region 2 with fail
    refine wp_region_lit ?_
    refine wpList_run (by kernel_rfl) (.agg #[.slice none 0 0]) W1 (by unfold execOp; go_simp) ?_
    simp only [Act.put, List.setIfInBounds_toArray, List.set_cons_zero, List.set_cons_succ]
    refine wpList_skip0 rfl (W1.setRow w.heap.size #[.slice none 0 0]) (exec_storeOp _ _ _ _ _ rfl rfl rfl H1.out) ?_
    refine wpList_val rfl (.int .i64 1) _ rfl ?_
    simp only [Act.put, List.setIfInBounds_toArray, List.set_cons_zero, List.set_cons_succ]
    refine wpList_nil ?_
    have hrow : (W1.setRow w.heap.size #[.slice none 0 0]).heap[w.heap.size]? = some (.cells #[.slice none 0 0] 37 (0, 0)) := by
      have h0 : W1.heap[w.heap.size]? = _ := H1.out
      obtain ⟨hlt, hk⟩ := Array.getElem?_eq_some_iff.1 h0
      show (W1.heap.modify w.heap.size _)[w.heap.size]? = _
      rw [Array.getElem?_eq_getElem (by rw [Array.size_modify]; exact hlt), Array.getElem_modify_self, hk]
    go_wp2_with fail
    refine bodyPost_ret (v := .tuple #[.agg #[.slice none 0 0], .int .i64 1]) ?_ rfl (.inr ⟨hinf, rfl, bel_setRow HB2.out (Nat.le_refl _) _⟩)
    exact results_row_tmp rfl _ _ w.heap.size 37 _ (0, 0) _ _ rfl rfl hrow Tryd.underlying37 rfl (by kernel_rfl)
end Go.Proofs.YtcephdkcjcbanaaDoor
