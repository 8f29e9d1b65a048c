/- Contracts of package sha256: blocks, hash. -/
import Derived.Test.YtliflbelhogopaaDoorShh
namespace Go.Proofs.YtliflbelhogopaaDoor
set_option maxRecDepth 8000
open Go.RowKit
open Go.Shelf
/-- the first variable of the program holds the initial chain -/
def IC (w : World) : Prop := ∀ i, i < 8 → w.cell? ⟨0, i, none⟩ = some (.int .u32 ((chL ch0).getD i 0 : Nat))
theorem IC.keep {w w' : World} (h : IC w) (hb : Below w.heap.size w w') : IC w' := fun i hi => cell_keep (h i hi) hb
/-- both variables -/
def Gl (w : World) : Prop := KT w ∧ IC w
theorem Gl.keep {w w' : World} (h : Gl w) (hb : Below w.heap.size w w') : Gl w' := ⟨h.1.keep hb, h.2.keep hb⟩
theorem run_loadIC {P : Program} {w : World} (h : IC w) : (loadCellsFrom ⟨0, 0, none⟩ 0 8 #[]).run P w = .ok (celW (chL ch0)).toArray w := by
  have := run_loadCells_list (P := P) w ⟨0, 0, none⟩ (celW (chL ch0)) (fun j v hv => by
    rw [ad_base]
    have hj : j < 8 := by have := (List.getElem?_eq_some_iff.1 hv).1; rw [celW_length, chL_length] at this; exact this
    have h1 := h j hj
    have h2 := celW_get (ws := chL ch0) (i := j) (x := (chL ch0).getD j 0) (by rw [List.getD_eq_getElem?_getD, List.getElem?_eq_getElem (by rw [chL_length]; exact hj)]; rfl)
    rw [h2] at hv
    injection hv with hv
    rw [← hv]
    exact h1)
  rw [celW_length, chL_length] at this
  simpa [loadCells] using this
theorem not_loop {w : World} {a : Addr} {v : Value} {l : Nat} (hc : w.cell? a = some v) (hl : ∃ L, w.heap[l]? = some (.loop L)) : a.block ≠ l := by
  intro e
  obtain ⟨L, hl⟩ := hl
  subst e
  simp [World.cell?, hl] at hc
theorem KeepA.row {N : Nat} {A B : World} (h : KeepA N A B) {x : Nat} (hx : x < N) (cs : Array Value) : KeepA N A (B.setRow x cs) :=
  ⟨by simpa [World.setRow] using h.1, fun b o hb ho => by
    have : x ≠ b := by omega
    simp [World.setRow, Array.getElem?_modify, this]
    exact h.2 b o hb ho⟩
theorem flat_msg (Ps : List (List Nat)) : (Ps ++ [padN (sumL Ps)]).flatten = msgN Ps.flatten := by
  unfold msgN sumL
  rw [List.flatten_append]
  simp
theorem sum_msg (Ps : List (List Nat)) : sumL (Ps ++ [padN (sumL Ps)]) = 64 * nblk (sumL Ps) := by
  rw [show sumL (Ps ++ [padN (sumL Ps)]) = ((Ps ++ [padN (sumL Ps)]).flatten).length from rfl, flat_msg, msgN_length]
  rfl
/-- the state of hash behind i blocks -/
def HashJ (w W : World) (t t2 : Nat) (p : List Nat) (i : Nat) (B : World) : Prop :=
  SameX (w.heap.size + 1) W B ∧ RowB B t w.heap.size (List.replicate 32 0) ∧ RowW B t2 (w.heap.size + 1) (chL (stN ch0 p i)) ∧ Below w.heap.size w B
set_option maxHeartbeats 1000000 in
theorem blocks_any (A : Option Addr) (n c : Nat) (w : World) :
    Calls Tryd.prog 36 #[.slice A n c] w fun e w' => e = .returned (.func (.func 40) #[] #[.pointer (some ⟨w.heap.size, 0, none⟩)]) ∧ w' = w.alloc (.cells #[.slice A n c] 57) := by
  go_enter Tryd.func36, Tryd.ntmps36
  go_wp2
  go_ret
  exact ⟨rfl, rfl⟩
attribute [local go_sem] Oper.semAt_some
attribute [local simp] z32_ne z32_run
attribute [-simp] Tryd.zeroValue26 Tryd.isAgg26 Tryd.sizeOf26 Tryd.isAgg58 Tryd.sizeOf58
set_option maxRecDepth 100000 in
set_option maxHeartbeats 8000000 in
theorem hash_any (A : Option Addr) (n c : Nat) (Ps : List (List Nat)) (w : World) (h : Pb w A n c Ps) (hn1 : 1 ≤ n) (hn : n ≤ 900) (hL : sumL Ps ≤ 70000) (hG : Gl w) (hpb : ∀ x ∈ Ps.flatten, x < 256) :
    Calls Tryd.prog 31 #[.slice A n c] w fun e w' => e = .returned (.agg (celB (shaN Ps.flatten)).toArray) ∧ Below w.heap.size w w' := by
  have HP := Lib.hid h
  have HG := Lib.hid hG
  have HPB := Lib.hid hpb
  clear h hG hpb
  have hld := run_loadIC (P := Tryd.prog) (HG.out.keep ((Below.refl _ _).alloc (Nat.le_refl _) (.cells z32 26))).2
  refine (callsIn_wide (n := 3)).1 ?_
  refine callsIn_of_wp_marks Tryd.func31 rfl trivial ?_ rfl
  simp only [Tryd.ntmps31, List.size_toArray, List.length_cons, List.length_nil, Nat.reduceAdd, Nat.reduceSub, Array.replicate_succ, Array.replicate_zero, List.push_toArray, List.append_toArray, List.nil_append, List.cons_append]
  gi_wp2
  simp only [Tryd.isAgg58, Tryd.sizeOf58, Result.andThen, ↓reduceIte, hld]
  rw [Oper.uponIn_value]
  clear hld
  have hsc := run_storeCells_new (P := Tryd.prog) (w.alloc (.cells z32 26)) 58 #[.int .u32 0, .int .u32 0, .int .u32 0, .int .u32 0, .int .u32 0, .int .u32 0, .int .u32 0, .int .u32 0] (celW (chL ch0)).toArray (by kernel_rfl) rfl celW_one
  rw [alloc_sz] at hsc
  have hsz : (celW (chL ch0)).length = 8 := rfl
  generalize hcs : celW (chL ch0) = cs at *
  gi_wp2
  simp only [Tryd.sizeOf58, Result.andThen, ↓reduceIte, hsc]
  rw [Oper.uponIn_skip]
  clear hsc
  gi_wp2
  refine ⟨trivial, ?_⟩
  have HB2 := Lib.hid (((Below.refl w.heap.size w).alloc (Nat.le_refl _) (.cells z32 26)).alloc (by simp) (.cells cs.toArray 58))
  have HR0 : Hid (RowB ((w.alloc (.cells z32 26)).alloc (.cells cs.toArray 58)) 26 w.heap.size (List.replicate 32 0)) := Lib.hid (heap_old _ (heap_new w _))
  have HR1 : Hid (RowW ((w.alloc (.cells z32 26)).alloc (.cells cs.toArray 58)) 58 (w.heap.size + 1) (chL ch0)) := Lib.hid (by
    have h := heap_new (w.alloc (.cells z32 26)) (.cells cs.toArray 58)
    rw [alloc_sz] at h
    unfold RowW
    rw [hcs]
    exact h)
  clear hcs hsz
  generalize (w.alloc (.cells z32 26)).alloc (.cells cs.toArray 58) = w2 at *
  refine (callsIn_wide.2 (padded_any A n c Ps w2 (HP.out.keep HB2.out) hn1 (by omega) hL)).mono ?_
  rintro e W3 ⟨g, c', rfl, hp, hb⟩
  have HP3 := Lib.hid hp
  have HR03 := Lib.hid (HR0.out.keep hb)
  have HR13 := Lib.hid (HR1.out.keep hb)
  have HB3 := Lib.hid (bel_step HB2.out hb)
  clear hp hb HR0 HR1 HB2 HP
  gi_wp2_with (refine ⟨trivial, ?_⟩; gi_at_call 36; refine (callsIn_wide.2 (blocks_any _ _ _ _)).mono ?_; rintro e W4 ⟨rfl, rfl⟩)
  have hb : Below W3.heap.size W3 (W3.alloc (.cells #[.slice (some ⟨g, 0, none⟩) (n + 1) c'] 57)) := (Below.refl _ _).alloc (Nat.le_refl _) _
  have HX4 := Lib.hid (One.new W3 57 (.slice (some ⟨g, 0, none⟩) (n + 1) c'))
  have HP4 := Lib.hid (HP3.out.keep hb)
  have HR04 := Lib.hid (HR03.out.keep hb)
  have HR14 := Lib.hid (HR13.out.keep hb)
  have HB4 := Lib.hid (bel_step HB3.out hb)
  clear hb HP3 HR03 HR13 HB3
  generalize W3.heap.size = b1 at *
  generalize W3.alloc (.cells #[.slice (some ⟨g, 0, none⟩) (n + 1) c'] 57) = W4 at *
  have hs4 : w.heap.size + 1 < W4.heap.size := HR14.out.lt
  have hm := flat_msg Ps
  have hsm := sum_msg Ps
  have HQ := Lib.hid (HP4.out.keepX HR14.out)
  have hpb2 : ∀ x ∈ (Ps ++ [padN (sumL Ps)]).flatten, x < 256 := by rw [hm]; exact msgN_lt HPB.out
  have hsh : Hid (shaN Ps.flatten = digN (stN ch0 (Ps ++ [padN (sumL Ps)]).flatten (nblk (sumL Ps))) 32) := Lib.hid (by rw [hm]; rfl)
  have hk8 : nblk (sumL Ps) ≤ 1200 := by unfold nblk; omega
  clear hm HP4
  generalize nblk (sumL Ps) = K at *
  have hqn : sumL (Ps ++ [padN (sumL Ps)]) ≤ 80000 := by omega
  generalize Ps ++ [padN (sumL Ps)] = Qs at *
  refine wpIn_rangeOwn (gf := 40) (lb := #[.pointer (some ⟨b1, 0, none⟩)]) rfl (enters_of Tryd.func40 (by kernel_rfl) rfl)
    (fun x : Addr × Nat => #[.slice (some x.1) 64 x.2]) (fun _ => rfl) K (HashJ w W4 26 58 Qs.flatten) (fun _ _ => False) (fun i x B => BlkX Qs.flatten i x B)
    (fun i A B h hb => ⟨h.1.below hb, h.2.1.same (hb.block _ (by omega)), h.2.2.1.same (hb.block _ hs4), h.2.2.2.trans (hb.mono (by omega))⟩) (fun i A B h hb => h)
    ⟨SameX.refl _ _, HR04.out, HR14.out, HB4.out⟩ ?iter ?round ?fin ?stop
  case iter =>
    intro l W0 J' Jx' hJ' hJB hWW hY h0
    have hX0 := (hJB 0 W0 h0).1.1
    exact blk_iter (SameX (w.heap.size + 1) W4) (some ⟨g, 0, none⟩) (n + 1) c' Qs HQ.out (by omega) K b1 hsm hqn hpb2 l W0 J' Jx' hJ' (fun i B h => ⟨(hJB i B h).1.1, (hJB i B h).2⟩) (cell_same hX0 HX4.out.c (HR14.out.other HX4.out.c (fun _ e => by cases e))) (fun i x B hi hj hx => hY i x B hi hj hx) h0
  case stop =>
    intro D i B _ _ h
    exact h.elim
  case round =>
    rintro l i x A2 hi hl hlA hLp ⟨h1, h2, h3, h4⟩ hx
    have H1 := Lib.hid h1
    have H2 := Lib.hid h2
    have H3 := Lib.hid h3
    have H4 := Lib.hid h4
    have HX := Lib.hid hx
    have HLP := Lib.hid hLp
    clear h1 h2 h3 h4 hx hLp
    gi_wp2
    refine ⟨KeepA.refl _ _, ⟨H1.out, H2.out, H3.out, H4.out⟩, fun B2 hk hb2 hk2 => ?_⟩
    have hxb : BlkX Qs.flatten i x B2 := by
      refine ⟨⟨HX.out.1.byte, fun j hj => ?_⟩, HX.out.2⟩
      have hc := HX.out.1.cell j hj
      have hne := not_loop hc HLP.out
      refine (World.cell?_of_block ?_).trans hc
      have hlt := World.block_lt_of_cell? _ _ hc
      rw [hk2 _ _ hne (Array.getElem?_eq_getElem hlt), Array.getElem?_eq_getElem hlt]
    have HXB := Lib.hid hxb
    have hr0 : RowB B2 26 w.heap.size (List.replicate 32 0) := H2.out.same (hb2.block _ (by omega))
    have hr1 : RowW B2 58 (w.heap.size + 1) (chL (stN ch0 Qs.flatten i)) := H3.out.same (hb2.block _ hs4)
    have hX2 := H1.out.below hb2
    have hB2 : Below w.heap.size w B2 := H4.out.trans (hb2.mono (by omega))
    have HR0 := Lib.hid hr0
    have HR1 := Lib.hid hr1
    have HXX := Lib.hid hX2
    have HBB := Lib.hid hB2
    clear hxb hr0 hr1 hX2 hB2 H1 H2 H3 H4 HX HLP hk hb2 hk2
    have hld := run_loadW (P := Tryd.prog) HR1.out 8 rfl
    generalize hS : stN ch0 Qs.flatten i = S at *
    have HSS := Lib.hid hS
    have hok : S.Ok := by rw [← hS]; exact stN_ok ch0_ok _ _
    clear hS
    gi_wp2
    simp only [Tryd.isAgg58, Tryd.sizeOf58, Result.andThen, ↓reduceIte, hld]
    rw [Oper.uponIn_value]
    clear hld
    gi_wp2_with (refine ⟨trivial, ?_⟩; gi_at_call 38; (refine (CallsIn.inRound l (callsIn_wide.2 (comp_any S x.1 (blkF Qs.flatten i) x.2 B2 hok (HG.out.keep HBB.out).1 HXB.out.1 HXB.out.2.1 HXB.out.2.2))).mono ?_); rintro e W5 ⟨rfl, hb5⟩)
    have HR5 := Lib.hid (HR1.out.keep hb5)
    have H05 := Lib.hid (HR0.out.keep hb5)
    have HX5 := Lib.hid (HXX.out.below (hb5.mono (by have := HXX.out.1; omega)))
    have HB5 := Lib.hid (bel_step HBB.out hb5)
    have HK5 := Lib.hid (KeepA.of_below (N := W4.heap.size) hb5)
    have hst : stN ch0 Qs.flatten (i + 1) = compN S (blkF Qs.flatten i) := by rw [stN, HSS.out]
    generalize compN S (blkF Qs.flatten i) = T at *
    have hsc := run_storeW (P := Tryd.prog) (ws := chL T) HR5.out (by rw [chL_length, chL_length])
    have hsz : (celW (chL T)).length = 8 := by rw [celW_length, chL_length]
    simp only [Tryd.sizeOf58, Result.andThen, ↓reduceIte, hsc, hsz]
    rw [Oper.uponIn_skip]
    clear hsc hsz
    gi_wp2
    refine ⟨HK5.out.row hs4 _, HX5.out.row _, H05.out.farRow (by omega) _, ?_, bel_setRow HB5.out (by omega) _⟩
    rw [hst]
    exact HR5.out.row _
  case fin =>
    rintro D B hD ⟨h1, h2, h3, h4⟩ hdk
    have H2 := Lib.hid h2
    have H3 := Lib.hid h3
    have H4 := Lib.hid h4
    have HD := Lib.hid hdk
    clear h1 h2 h3 h4 hdk
    have hld := run_loadW (P := Tryd.prog) H3.out 8 rfl
    generalize hS : stN ch0 Qs.flatten K = S at *
    have hok : S.Ok := by rw [← hS]; exact stN_ok ch0_ok _ _
    clear hS
    gi_wp2
    simp only [Tryd.isAgg58, Tryd.sizeOf58, Result.andThen, ↓reduceIte, hld]
    rw [Oper.uponIn_value]
    clear hld
    gi_wp2_with (refine ⟨trivial, ?_⟩; gi_at_call 39; refine (callsIn_wide.2 (digest_any S B hok)).mono ?_; rintro e W5 ⟨rfl, hb5⟩)
    have H05 := Lib.hid (H2.out.keep hb5)
    have HB5 := Lib.hid (bel_step H4.out hb5)
    have HD5 := Lib.hid (heap_keep HD.out hb5)
    have hb : Below w.heap.size w W5 := HB5.out
    clear hb5 H2 H3 H4 HD
    have hsc := run_storeB (P := Tryd.prog) (ws := digN S 32) H05.out (by rw [digN_length]; rfl)
    have hsz : (celB (digN S 32)).length = 32 := by rw [celB_length, digN_length]
    have hll := digN_length S 32
    have hSh := hsh.out
    generalize digN S 32 = R at *
    simp only [Tryd.sizeOf26, Result.andThen, ↓reduceIte, hsc, hsz]
    rw [Oper.uponIn_skip]
    clear hsc
    have HR6 := Lib.hid (H05.out.row R)
    have HB6 := Lib.hid (bel_setRow HB5.out (Nat.le_refl _) (celB R).toArray)
    have HD6 : Hid ((W5.setRow w.heap.size (celB R).toArray).heap[D]? = some (.deferred (some []))) := Lib.hid (by
      have : w.heap.size ≠ D := by omega
      simp [World.setRow, Array.getElem?_modify, this]
      exact HD5.out)
    clear H05 HB5 HD5
    generalize W5.setRow w.heap.size (celB R).toArray = W6 at *
    gi_wp2
    have hTR : RowB (W6.putObj D (.deferred none)) 26 w.heap.size R := (World.putObj_heap_other (by omega)).trans HR6.out
    have hbp : Below w.heap.size w (W6.putObj D (.deferred none)) := HB6.out.trans ⟨rfl, rfl, rfl, by simp, fun k hk => World.putObj_heap_other (by omega)⟩
    refine ⟨by simp, .inl ⟨_, _, rfl, run_takeDeferred HD6.out, ?_⟩⟩
    refine ⟨.agg (celB R).toArray, ?_, by rw [hSh], hbp⟩
    exact results_cell_row rfl _ _ w.heap.size 26 _ (0, 0) _ rfl hTR Tryd.underlying26 rfl (dig_size hll)
end Go.Proofs.YtliflbelhogopaaDoor
