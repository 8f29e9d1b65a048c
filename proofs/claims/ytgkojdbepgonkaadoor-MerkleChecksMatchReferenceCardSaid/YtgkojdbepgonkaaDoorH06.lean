/- Several texts in one: Shi, Shk, Mka, Mke, Mkf. -/
import Derived.Test.YtgkojdbepgonkaaDoorH05
import Derived.Test.YtgkojdbepgonkaaDoorH03
/- Contracts of package sha256: blocks, hash. -/
namespace Go.Proofs.YtgkojdbepgonkaaDoor
set_option maxRecDepth 8000
set_option linter.unusedVariables false
set_option linter.unusedSimpArgs false
open Go.RowKit
open Go.Shelf
/-- the first variable of the program holds the initial chain -/
def IC (w : World) : Prop := ∀ i, i < 8 → w.cell? ⟨0, i, none⟩ = some (.int .u32 ((chL ch0).getD i 0 : Nat))
theorem IC.keep {w w' : World} (h : IC w) (hb : Below w.heap.size w w') : IC w' := fun i hi => cell_keep (h i hi) hb
/-- both variables -/
def Gl (w : World) : Prop := KT w ∧ IC w
theorem Gl.keep {w w' : World} (h : Gl w) (hb : Below w.heap.size w w') : Gl w' := ⟨h.1.keep hb, h.2.keep hb⟩
theorem run_loadIC {P : Program} {w : World} (h : IC w) : (loadCellsFrom ⟨0, 0, none⟩ 0 8 #[]).run P w = .ok (celW (chL ch0)).toArray w := by
  have := run_loadCells_list (P := P) w ⟨0, 0, none⟩ (celW (chL ch0)) (fun j v hv => by
    rw [ad_base]
    have hj : j < 8 := by have := (List.getElem?_eq_some_iff.1 hv).1; rw [celW_length, chL_length] at this; exact this
    have h1 := h j hj
    have h2 := celW_get (ws := chL ch0) (i := j) (x := (chL ch0).getD j 0) (by rw [List.getD_eq_getElem?_getD, List.getElem?_eq_getElem (by rw [chL_length]; exact hj)]; rfl)
    rw [h2] at hv
    injection hv with hv
    rw [← hv]
    exact h1)
  rw [celW_length, chL_length] at this
  simpa [loadCells] using this
theorem not_loop {w : World} {a : Addr} {v : Value} {l : Nat} (hc : w.cell? a = some v) (hl : ∃ L, w.heap[l]? = some (.loop L)) : a.block ≠ l := by
  intro e
  obtain ⟨L, hl⟩ := hl
  subst e
  simp [World.cell?, hl] at hc
theorem KeepA.row {N : Nat} {A B : World} (h : KeepA N A B) {x : Nat} (hx : x < N) (cs : Array Value) : KeepA N A (B.setRow x cs) :=
  ⟨by simpa [World.setRow] using h.1, fun b o hb ho => by
    have : x ≠ b := by omega
    simp [World.setRow, Array.getElem?_modify, this]
    exact h.2 b o hb ho⟩
theorem flat_msg (Ps : List (List Nat)) : (Ps ++ [padN (sumL Ps)]).flatten = msgN Ps.flatten := by
  unfold msgN sumL
  rw [List.flatten_append]
  simp
theorem sum_msg (Ps : List (List Nat)) : sumL (Ps ++ [padN (sumL Ps)]) = 64 * nblk (sumL Ps) := by
  rw [show sumL (Ps ++ [padN (sumL Ps)]) = ((Ps ++ [padN (sumL Ps)]).flatten).length from rfl, flat_msg, msgN_length]
  rfl
/-- the state of hash behind i blocks -/
def HashJ (w W : World) (t t2 : Nat) (p : List Nat) (i : Nat) (B : World) : Prop :=
  SameX (w.heap.size + 1) W B ∧ RowB B t w.heap.size (List.replicate 32 0) ∧ RowW B t2 (w.heap.size + 1) (chL (stN ch0 p i)) ∧ Below w.heap.size w B
set_option maxHeartbeats 1000000 in
theorem blocks_any (A : Option Addr) (n c : Nat) (w : World) :
    Calls Tryd.prog 109 #[.slice A n c] w fun e w' => e = .returned (.func (.func 113) #[] #[.pointer (some ⟨w.heap.size, 0, none⟩)]) ∧ w' = w.alloc (.cells #[.slice A n c] 23) := by
  go_enter Tryd.func109, Tryd.ntmps109
  go_wp2
  go_ret
  exact ⟨rfl, rfl⟩
attribute [local go_sem] Oper.semAt_some
attribute [local simp] z32_ne z32_run
attribute [-simp] Tryd.zeroValue34 Tryd.isAgg34 Tryd.sizeOf34 Tryd.isAgg151 Tryd.sizeOf151
set_option maxRecDepth 100000 in
set_option maxHeartbeats 8000000 in
theorem hash_any (A : Option Addr) (n c : Nat) (Ps : List (List Nat)) (w : World) (h : Pb w A n c Ps) (hn1 : 1 ≤ n) (hn : n ≤ 900) (hL : sumL Ps ≤ 140737488353000) (hG : Gl w) (hpb : ∀ x ∈ Ps.flatten, x < 256) :
    Calls Tryd.prog 100 #[.slice A n c] w fun e w' => e = .returned (.agg (celB (shaN Ps.flatten)).toArray) ∧ Below w.heap.size w w' := by
  have HP := Lib.hid h
  have HG := Lib.hid hG
  have HPB := Lib.hid hpb
  clear h hG hpb
  have hld := run_loadIC (P := Tryd.prog) (HG.out.keep ((Below.refl _ _).alloc (Nat.le_refl _) (.cells z32 34))).2
  refine (callsIn_wide (n := 3)).1 ?_
  refine callsIn_of_wp_marks Tryd.func100 rfl trivial ?_ rfl
  simp only [Tryd.ntmps100, List.size_toArray, List.length_cons, List.length_nil, Nat.reduceAdd, Nat.reduceSub, Array.replicate_succ, Array.replicate_zero, List.push_toArray, List.append_toArray, List.nil_append, List.cons_append]
  gi_wp2
  simp only [Tryd.isAgg151, Tryd.sizeOf151, Result.andThen, ↓reduceIte, hld]
  rw [Oper.uponIn_value]
  clear hld
  have hsc := run_storeCells_new (P := Tryd.prog) (w.alloc (.cells z32 34)) 151 #[.int .u32 0, .int .u32 0, .int .u32 0, .int .u32 0, .int .u32 0, .int .u32 0, .int .u32 0, .int .u32 0] (celW (chL ch0)).toArray (by kernel_rfl) rfl celW_one
  rw [alloc_sz] at hsc
  have hsz : (celW (chL ch0)).length = 8 := rfl
  generalize hcs : celW (chL ch0) = cs at *
  gi_wp2
  simp only [Tryd.sizeOf151, Result.andThen, ↓reduceIte, hsc]
  rw [Oper.uponIn_skip]
  clear hsc
  gi_wp2
  refine ⟨trivial, ?_⟩
  have HB2 := Lib.hid (((Below.refl w.heap.size w).alloc (Nat.le_refl _) (.cells z32 34)).alloc (by simp) (.cells cs.toArray 151))
  have HR0 : Hid (RowB ((w.alloc (.cells z32 34)).alloc (.cells cs.toArray 151)) 34 w.heap.size (List.replicate 32 0)) := Lib.hid (heap_old _ (heap_new w _))
  have HR1 : Hid (RowW ((w.alloc (.cells z32 34)).alloc (.cells cs.toArray 151)) 151 (w.heap.size + 1) (chL ch0)) := Lib.hid (by
    have h := heap_new (w.alloc (.cells z32 34)) (.cells cs.toArray 151)
    rw [alloc_sz] at h
    unfold RowW
    rw [hcs]
    exact h)
  clear hcs hsz
  generalize (w.alloc (.cells z32 34)).alloc (.cells cs.toArray 151) = w2 at *
  refine (callsIn_wide.2 (padded_any A n c Ps w2 (HP.out.keep HB2.out) hn1 (by omega) hL)).mono ?_
  rintro e W3 ⟨g, c', rfl, hp, hb⟩
  have HP3 := Lib.hid hp
  have HR03 := Lib.hid (HR0.out.keep hb)
  have HR13 := Lib.hid (HR1.out.keep hb)
  have HB3 := Lib.hid (bel_step HB2.out hb)
  clear hp hb HR0 HR1 HB2 HP
  gi_wp2_with (refine ⟨trivial, ?_⟩; gi_at_call 109; refine (callsIn_wide.2 (blocks_any _ _ _ _)).mono ?_; rintro e W4 ⟨rfl, rfl⟩)
  have hb : Below W3.heap.size W3 (W3.alloc (.cells #[.slice (some ⟨g, 0, none⟩) (n + 1) c'] 23)) := (Below.refl _ _).alloc (Nat.le_refl _) _
  have HX4 := Lib.hid (One.new W3 23 (.slice (some ⟨g, 0, none⟩) (n + 1) c'))
  have HP4 := Lib.hid (HP3.out.keep hb)
  have HR04 := Lib.hid (HR03.out.keep hb)
  have HR14 := Lib.hid (HR13.out.keep hb)
  have HB4 := Lib.hid (bel_step HB3.out hb)
  clear hb HP3 HR03 HR13 HB3
  generalize W3.heap.size = b1 at *
  generalize W3.alloc (.cells #[.slice (some ⟨g, 0, none⟩) (n + 1) c'] 23) = W4 at *
  have hs4 : w.heap.size + 1 < W4.heap.size := HR14.out.lt
  have hm := flat_msg Ps
  have hsm := sum_msg Ps
  have HQ := Lib.hid (HP4.out.keepX HR14.out)
  have hpb2 : ∀ x ∈ (Ps ++ [padN (sumL Ps)]).flatten, x < 256 := by rw [hm]; exact msgN_lt HPB.out
  have hsh : Hid (shaN Ps.flatten = digN (stN ch0 (Ps ++ [padN (sumL Ps)]).flatten (nblk (sumL Ps))) 32) := Lib.hid (by rw [hm]; rfl)
  have hk8 : nblk (sumL Ps) ≤ 2199023255520 := by unfold nblk; omega
  clear hm HP4
  generalize nblk (sumL Ps) = K at *
  have hqn : sumL (Ps ++ [padN (sumL Ps)]) ≤ 140737488354000 := by omega
  generalize Ps ++ [padN (sumL Ps)] = Qs at *
  refine wpIn_rangeOwn (gf := 113) (lb := #[.pointer (some ⟨b1, 0, none⟩)]) rfl (enters_of Tryd.func113 (by kernel_rfl) rfl)
    (fun x : Addr × Nat => #[.slice (some x.1) 64 x.2]) (fun _ => rfl) K (HashJ w W4 34 151 Qs.flatten) (fun _ _ => False) (fun i x B => BlkX Qs.flatten i x B)
    (fun i A B h hb => ⟨h.1.below hb, h.2.1.same (hb.block _ (by omega)), h.2.2.1.same (hb.block _ hs4), h.2.2.2.trans (hb.mono (by omega))⟩) (fun i A B h hb => h)
    ⟨SameX.refl _ _, HR04.out, HR14.out, HB4.out⟩ ?iter ?round ?fin ?stop
  case iter =>
    intro l W0 J' Jx' hJ' hJB hWW hY h0
    have hX0 := (hJB 0 W0 h0).1.1
    exact blk_iter (SameX (w.heap.size + 1) W4) (some ⟨g, 0, none⟩) (n + 1) c' Qs HQ.out (by omega) K b1 hsm hqn hpb2 l W0 J' Jx' hJ' (fun i B h => ⟨(hJB i B h).1.1, (hJB i B h).2⟩) (cell_same hX0 HX4.out.c (HR14.out.other HX4.out.c (fun _ e => by cases e))) (fun i x B hi hj hx => hY i x B hi hj hx) h0
  case stop =>
    intro D i B _ _ h
    exact h.elim
  case round =>
    rintro l i x A2 hi hl hlA hLp ⟨h1, h2, h3, h4⟩ hx
    have H1 := Lib.hid h1
    have H2 := Lib.hid h2
    have H3 := Lib.hid h3
    have H4 := Lib.hid h4
    have HX := Lib.hid hx
    have HLP := Lib.hid hLp
    clear h1 h2 h3 h4 hx hLp
    gi_wp2
    refine ⟨KeepA.refl _ _, ⟨H1.out, H2.out, H3.out, H4.out⟩, fun B2 hk hb2 hk2 => ?_⟩
    have hxb : BlkX Qs.flatten i x B2 := by
      refine ⟨⟨HX.out.1.byte, fun j hj => ?_⟩, HX.out.2⟩
      have hc := HX.out.1.cell j hj
      have hne := not_loop hc HLP.out
      refine (World.cell?_of_block ?_).trans hc
      have hlt := World.block_lt_of_cell? _ _ hc
      rw [hk2 _ _ hne (Array.getElem?_eq_getElem hlt), Array.getElem?_eq_getElem hlt]
    have HXB := Lib.hid hxb
    have hr0 : RowB B2 34 w.heap.size (List.replicate 32 0) := H2.out.same (hb2.block _ (by omega))
    have hr1 : RowW B2 151 (w.heap.size + 1) (chL (stN ch0 Qs.flatten i)) := H3.out.same (hb2.block _ hs4)
    have hX2 := H1.out.below hb2
    have hB2 : Below w.heap.size w B2 := H4.out.trans (hb2.mono (by omega))
    have HR0 := Lib.hid hr0
    have HR1 := Lib.hid hr1
    have HXX := Lib.hid hX2
    have HBB := Lib.hid hB2
    clear hxb hr0 hr1 hX2 hB2 H1 H2 H3 H4 HX HLP hk hb2 hk2
    have hld := run_loadW (P := Tryd.prog) HR1.out 8 rfl
    generalize hS : stN ch0 Qs.flatten i = S at *
    have HSS := Lib.hid hS
    have hok : S.Ok := by rw [← hS]; exact stN_ok ch0_ok _ _
    clear hS
    gi_wp2
    simp only [Tryd.isAgg151, Tryd.sizeOf151, Result.andThen, ↓reduceIte, hld]
    rw [Oper.uponIn_value]
    clear hld
    gi_wp2_with (refine ⟨trivial, ?_⟩; gi_at_call 111; (refine (CallsIn.inRound l (callsIn_wide.2 (comp_any S x.1 (blkF Qs.flatten i) x.2 B2 hok (HG.out.keep HBB.out).1 HXB.out.1 HXB.out.2.1 HXB.out.2.2))).mono ?_); rintro e W5 ⟨rfl, hb5⟩)
    have HR5 := Lib.hid (HR1.out.keep hb5)
    have H05 := Lib.hid (HR0.out.keep hb5)
    have HX5 := Lib.hid (HXX.out.below (hb5.mono (by have := HXX.out.1; omega)))
    have HB5 := Lib.hid (bel_step HBB.out hb5)
    have HK5 := Lib.hid (KeepA.of_below (N := W4.heap.size) hb5)
    have hst : stN ch0 Qs.flatten (i + 1) = compN S (blkF Qs.flatten i) := by rw [stN, HSS.out]
    generalize compN S (blkF Qs.flatten i) = T at *
    have hsc := run_storeW (P := Tryd.prog) (ws := chL T) HR5.out (by rw [chL_length, chL_length])
    have hsz : (celW (chL T)).length = 8 := by rw [celW_length, chL_length]
    simp only [Tryd.sizeOf151, Result.andThen, ↓reduceIte, hsc, hsz]
    rw [Oper.uponIn_skip]
    clear hsc hsz
    gi_wp2
    refine ⟨HK5.out.row hs4 _, HX5.out.row _, H05.out.farRow (by omega) _, ?_, bel_setRow HB5.out (by omega) _⟩
    rw [hst]
    exact HR5.out.row _
  case fin =>
    rintro D B hD ⟨h1, h2, h3, h4⟩ hdk
    have H2 := Lib.hid h2
    have H3 := Lib.hid h3
    have H4 := Lib.hid h4
    have HD := Lib.hid hdk
    clear h1 h2 h3 h4 hdk
    have hld := run_loadW (P := Tryd.prog) H3.out 8 rfl
    generalize hS : stN ch0 Qs.flatten K = S at *
    have hok : S.Ok := by rw [← hS]; exact stN_ok ch0_ok _ _
    clear hS
    gi_wp2
    simp only [Tryd.isAgg151, Tryd.sizeOf151, Result.andThen, ↓reduceIte, hld]
    rw [Oper.uponIn_value]
    clear hld
    gi_wp2_with (refine ⟨trivial, ?_⟩; gi_at_call 112; refine (callsIn_wide.2 (digest_any S B hok)).mono ?_; rintro e W5 ⟨rfl, hb5⟩)
    have H05 := Lib.hid (H2.out.keep hb5)
    have HB5 := Lib.hid (bel_step H4.out hb5)
    have HD5 := Lib.hid (heap_keep HD.out hb5)
    have hb : Below w.heap.size w W5 := HB5.out
    clear hb5 H2 H3 H4 HD
    have hsc := run_storeB (P := Tryd.prog) (ws := digN S 32) H05.out (by rw [digN_length]; rfl)
    have hsz : (celB (digN S 32)).length = 32 := by rw [celB_length, digN_length]
    have hll := digN_length S 32
    have hSh := hsh.out
    generalize digN S 32 = R at *
    simp only [Tryd.sizeOf34, Result.andThen, ↓reduceIte, hsc, hsz]
    rw [Oper.uponIn_skip]
    clear hsc
    have HR6 := Lib.hid (H05.out.row R)
    have HB6 := Lib.hid (bel_setRow HB5.out (Nat.le_refl _) (celB R).toArray)
    have HD6 : Hid ((W5.setRow w.heap.size (celB R).toArray).heap[D]? = some (.deferred (some []))) := Lib.hid (by
      have : w.heap.size ≠ D := by omega
      simp [World.setRow, Array.getElem?_modify, this]
      exact HD5.out)
    clear H05 HB5 HD5
    generalize W5.setRow w.heap.size (celB R).toArray = W6 at *
    gi_wp2
    have hTR : RowB (W6.putObj D (.deferred none)) 34 w.heap.size R := (World.putObj_heap_other (by omega)).trans HR6.out
    have hbp : Below w.heap.size w (W6.putObj D (.deferred none)) := HB6.out.trans ⟨rfl, rfl, rfl, by simp, fun k hk => World.putObj_heap_other (by omega)⟩
    refine ⟨by simp, .inl ⟨_, _, rfl, run_takeDeferred HD6.out, ?_⟩⟩
    refine ⟨.agg (celB R).toArray, ?_, by rw [hSh], hbp⟩
    exact results_cell_row rfl _ _ w.heap.size 34 _ (0, 0) _ rfl hTR Tryd.underlying34 rfl (dig_size hll)
end Go.Proofs.YtgkojdbepgonkaaDoor

/- Contracts of package sha256: Sum, Leaf. -/
namespace Go.Proofs.YtgkojdbepgonkaaDoor
set_option linter.unusedVariables false
set_option linter.unusedSimpArgs false
set_option maxRecDepth 8000
open Go.RowKit
theorem Pb.one {w : World} {g : Nat} {t : Nat} {A : Option Addr} {n c : Nat} {bs : List Nat} (hg : w.heap[g]? = some (.cells #[.slice A n c] t (0, 0))) (h : Sb w A n c bs) : Pb w (some ⟨g, 0, none⟩) 1 1 [bs] :=
  Pb.row (vs := [.slice A n c]) hg rfl (Nat.le_refl _) (by omega) fun i p hp => by
    match i, hp with
    | 0, hp => injection hp with hp; subst hp; exact ⟨_, _, _, rfl, h⟩
    | i + 1, hp => simp at hp
theorem Pb.two {w : World} {g : Nat} {t : Nat} {A : Option Addr} {n c : Nat} {B : Option Addr} {m d : Nat} {xs bs : List Nat} (hg : w.heap[g]? = some (.cells #[.slice A n c, .slice B m d] t (0, 0))) (ha : Sb w A n c xs) (hb : Sb w B m d bs) : Pb w (some ⟨g, 0, none⟩) 2 2 [xs, bs] :=
  Pb.row (vs := [.slice A n c, .slice B m d]) hg rfl (Nat.le_refl _) (by omega) fun i p hp => by
    match i, hp with
    | 0, hp => injection hp with hp; subst hp; exact ⟨_, _, _, rfl, ha⟩
    | 1, hp => injection hp with hp; subst hp; exact ⟨_, _, _, rfl, hb⟩
    | i + 2, hp => simp at hp
theorem Pb.three {w : World} {g : Nat} {t : Nat} {A : Option Addr} {n c : Nat} {B : Option Addr} {m d : Nat} {C : Option Addr} {k f : Nat} {xs bs cs : List Nat} (hg : w.heap[g]? = some (.cells #[.slice A n c, .slice B m d, .slice C k f] t (0, 0))) (ha : Sb w A n c xs) (hb : Sb w B m d bs) (hc : Sb w C k f cs) : Pb w (some ⟨g, 0, none⟩) 3 3 [xs, bs, cs] :=
  Pb.row (vs := [.slice A n c, .slice B m d, .slice C k f]) hg rfl (Nat.le_refl _) (by omega) fun i p hp => by
    match i, hp with
    | 0, hp => injection hp with hp; subst hp; exact ⟨_, _, _, rfl, ha⟩
    | 1, hp => injection hp with hp; subst hp; exact ⟨_, _, _, rfl, hb⟩
    | 2, hp => injection hp with hp; subst hp; exact ⟨_, _, _, rfl, hc⟩
    | i + 3, hp => simp at hp
theorem lt_append {xs bs : List Nat} (ha : ∀ x ∈ xs, x < 256) (hb : ∀ x ∈ bs, x < 256) : ∀ x ∈ xs ++ bs, x < 256 := fun x hx => (List.mem_append.1 hx).elim (ha x) (hb x)
/-- hash of one, of two, of three portions -/
theorem hash1 (g : Nat) (A : Option Addr) (n c : Nat) (bs : List Nat) (w : World) {t : Nat} (hg : w.heap[g]? = some (.cells #[.slice A n c] t (0, 0))) (h : Sb w A n c bs) (hn : n ≤ 140737488351233) (hG : Gl w) (R : List Nat) (hR : shaN bs = R) :
    Calls Tryd.prog 100 #[.slice (some ⟨g, 0, none⟩) 1 1] w fun e w' => e = .returned (.agg (celB R).toArray) ∧ Below w.heap.size w w' := by
  have hf : [bs].flatten = bs := by simp
  have := hash_any (some ⟨g, 0, none⟩) 1 1 [bs] w (Pb.one hg h) (by omega) (by omega) (by unfold sumL; rw [hf]; have := h.len; omega) hG (by rw [hf]; exact h.byte)
  rw [hf, hR] at this
  exact this
theorem hash2 (g : Nat) (A : Option Addr) (n c : Nat) (B : Option Addr) (m d : Nat) (xs bs : List Nat) (w : World) {t : Nat} (hg : w.heap[g]? = some (.cells #[.slice A n c, .slice B m d] t (0, 0))) (ha : Sb w A n c xs) (hb : Sb w B m d bs) (hn : n + m ≤ 140737488351233) (hG : Gl w) (R : List Nat) (hR : shaN (xs ++ bs) = R) :
    Calls Tryd.prog 100 #[.slice (some ⟨g, 0, none⟩) 2 2] w fun e w' => e = .returned (.agg (celB R).toArray) ∧ Below w.heap.size w w' := by
  have hf : [xs, bs].flatten = xs ++ bs := by simp
  have := hash_any (some ⟨g, 0, none⟩) 2 2 [xs, bs] w (Pb.two hg ha hb) (by omega) (by omega) (by unfold sumL; rw [hf, List.length_append]; have := ha.len; have := hb.len; omega) hG (by rw [hf]; exact lt_append ha.byte hb.byte)
  rw [hf, hR] at this
  exact this
theorem hash3 (g : Nat) (A : Option Addr) (n c : Nat) (B : Option Addr) (m d : Nat) (C : Option Addr) (k f : Nat) (xs bs cs : List Nat) (w : World) {t : Nat} (hg : w.heap[g]? = some (.cells #[.slice A n c, .slice B m d, .slice C k f] t (0, 0))) (ha : Sb w A n c xs) (hb : Sb w B m d bs) (hc : Sb w C k f cs) (hn : n + m + k ≤ 140737488351233) (hG : Gl w) (R : List Nat) (hR : shaN (xs ++ (bs ++ cs)) = R) :
    Calls Tryd.prog 100 #[.slice (some ⟨g, 0, none⟩) 3 3] w fun e w' => e = .returned (.agg (celB R).toArray) ∧ Below w.heap.size w w' := by
  have hf : [xs, bs, cs].flatten = xs ++ (bs ++ cs) := by simp
  have := hash_any (some ⟨g, 0, none⟩) 3 3 [xs, bs, cs] w (Pb.three hg ha hb hc) (by omega) (by omega) (by unfold sumL; rw [hf, List.length_append, List.length_append]; have := ha.len; have := hb.len; have := hc.len; omega) hG (by rw [hf]; exact lt_append ha.byte (lt_append hb.byte hc.byte))
  rw [hf, hR] at this
  exact this
attribute [local simp] z32_ne z32_run
attribute [-simp] Tryd.zeroValue34 Tryd.isAgg34 Tryd.sizeOf34
set_option maxHeartbeats 1000000 in
theorem sum_any (A : Option Addr) (n c : Nat) (bs : List Nat) (w : World) (h : Sb w A n c bs) (hn : n ≤ 140737488351233) (hG : Gl w) (R : List Nat) (hR : shaN bs = R) :
    Calls Tryd.prog 75 #[.slice A n c] w fun e w' => e = .returned (.agg (celB R).toArray) ∧ Below w.heap.size w w' := by
  have hl : R.length = 32 := by rw [← hR]; exact shaN_length _
  have HR := Lib.hid hR
  clear hR
  go_enter Tryd.func75, Tryd.ntmps75
  go_wp2_with fail
  refine calls_named2 (fun w1 hb1 g0 g1 hlt1 => ?_)
  have H0 : Hid (RowB w1 34 w.heap.size (List.replicate 32 0)) := Lib.hid g0
  have HB1 := Lib.hid hb1
  refine (hash1 (w.heap.size + 1) A n c bs w1 g1 (h.keep hb1) hn (hG.keep hb1) R HR.out).mono ?_
  rintro e w2 ⟨rfl, hb2⟩
  have H2 := Lib.hid (H0.out.keep hb2)
  have HB2 := Lib.hid (bel_step HB1.out hb2)
  clear g0 g1 hb1 hb2 hlt1 H0 HB1 h hG
  have hsc := run_storeB (P := Tryd.prog) (ws := R) H2.out (by rw [hl, List.length_replicate])
  have hsz : (celB R).length = 32 := by rw [celB_length, hl]
  go_wp2_with fail
  simp only [Tryd.sizeOf34, Result.andThen, ↓reduceIte, hsc]
  rw [Oper.upon_skip]
  go_wp2_with fail
  refine bodyPost_ret (v := .agg (celB R).toArray) ?_ rfl ⟨rfl, bel_setRow HB2.out (Nat.le_refl _) _⟩
  exact results_cell_row rfl _ _ w.heap.size 34 _ (0, 0) _ rfl (H2.out.row R) Tryd.underlying34 rfl (dig_size hl)
set_option maxHeartbeats 1000000 in
theorem leaf_any (A : Option Addr) (n c : Nat) (bs : List Nat) (w : World) (h : Sb w A n c bs) (hn : n ≤ 140737488351232) (hG : Gl w) (R : List Nat) (hR : shaN (0 :: bs) = R) :
    Calls Tryd.prog 91 #[.slice A n c] w fun e w' => e = .returned (.agg (celB R).toArray) ∧ Below w.heap.size w w' := by
  have hl : R.length = 32 := by rw [← hR]; exact shaN_length _
  have HR := Lib.hid hR
  clear hR
  go_enter Tryd.func91, Tryd.ntmps91
  go_wp2_with fail
  refine calls_named3 (fun w1 hb1 g0 g1 g2 hlt1 => ?_)
  have H0 : Hid (RowB w1 34 w.heap.size (List.replicate 32 0)) := Lib.hid g0
  have hz : RowB w1 5 (w.heap.size + 1) [0] := g1
  have HB1 := Lib.hid hb1
  refine (hash2 (w.heap.size + 1 + 1) _ 1 1 A n c [0] bs w1 g2 (hz.all (by decide) rfl (Nat.le_refl _) (by omega)) (h.keep hb1) (by omega) (hG.keep hb1) R HR.out).mono ?_
  rintro e w2 ⟨rfl, hb2⟩
  have H2 := Lib.hid (H0.out.keep hb2)
  have HB2 := Lib.hid (bel_step HB1.out hb2)
  clear g0 g1 g2 hb1 hb2 hlt1 H0 HB1 h hG hz
  have hsc := run_storeB (P := Tryd.prog) (ws := R) H2.out (by rw [hl, List.length_replicate])
  have hsz : (celB R).length = 32 := by rw [celB_length, hl]
  go_wp2_with fail
  simp only [Tryd.sizeOf34, Result.andThen, ↓reduceIte, hsc]
  rw [Oper.upon_skip]
  go_wp2_with fail
  refine bodyPost_ret (v := .agg (celB R).toArray) ?_ rfl ⟨rfl, bel_setRow HB2.out (Nat.le_refl _) _⟩
  exact results_cell_row rfl _ _ w.heap.size 34 _ (0, 0) _ rfl (H2.out.row R) Tryd.underlying34 rfl (dig_size hl)
end Go.Proofs.YtgkojdbepgonkaaDoor

/- Trees of digests over lists: the size of the left part, the root; slices of byte slices cut in two. No program, no conditions but lengths. -/
namespace Go.Proofs.YtgkojdbepgonkaaDoor
set_option linter.unusedVariables false
set_option linter.unusedSimpArgs false
set_option maxRecDepth 8000
open Go.RowKit

/-- the largest power of two below n (n ≥ 2) -/
def leftN (n : Nat) : Nat := 2 ^ Nat.log2 (n - 1)
theorem leftN_pos (n : Nat) : 1 ≤ leftN n := Nat.one_le_two_pow
theorem leftN_lt {n : Nat} (h : 2 ≤ n) : leftN n < n := by
  have := Nat.log2_self_le (show n - 1 ≠ 0 by omega)
  unfold leftN
  omega
theorem leftN_half {n : Nat} (h : 2 ≤ n) : n ≤ 2 * leftN n := by
  have := Nat.lt_log2_self (n := n - 1)
  unfold leftN
  rw [Nat.pow_succ] at this
  omega
theorem leftN_of {n j : Nat} (h : 2 ^ j < n) (h2 : n ≤ 2 * 2 ^ j) : 2 ^ j = leftN n := by
  unfold leftN
  have h1 : 1 ≤ 2 ^ j := Nat.one_le_two_pow
  have e : Nat.log2 (n - 1) = j := (Nat.log2_eq_iff (show n - 1 ≠ 0 by omega)).2 ⟨by omega, by rw [Nat.pow_succ]; omega⟩
  rw [e]

/-- the root of a tree with these leaves; f bounds the depth -/
def rootF : Nat → List (List Nat) → List Nat
  | 0, _ => []
  | f + 1, ls => if ls.length ≤ 1 then shaN (0 :: ls.headD []) else shaN (1 :: (rootF f (ls.take (leftN ls.length)) ++ rootF f (ls.drop (leftN ls.length))))
def rootN (ls : List (List Nat)) : List Nat := rootF ls.length ls
theorem rootF_more : ∀ (f g : Nat) (ls : List (List Nat)), ls.length ≤ f → ls.length ≤ g → 1 ≤ ls.length → rootF f ls = rootF g ls
  | 0, _, ls, h, _, h1 => by omega
  | _, 0, ls, _, h, h1 => by omega
  | f + 1, g + 1, ls, hf, hg, h1 => by
    unfold rootF
    by_cases h : ls.length ≤ 1
    · rw [if_pos h, if_pos h]
    · rw [if_neg h, if_neg h]
      have hl := leftN_lt (show 2 ≤ ls.length by omega)
      have hp := leftN_pos ls.length
      rw [rootF_more f g (ls.take (leftN ls.length)) (by rw [List.length_take]; omega) (by rw [List.length_take]; omega) (by rw [List.length_take]; omega),
        rootF_more f g (ls.drop (leftN ls.length)) (by rw [List.length_drop]; omega) (by rw [List.length_drop]; omega) (by rw [List.length_drop]; omega)]
theorem rootN_one (b : List Nat) : rootN [b] = shaN (0 :: b) := rfl
theorem rootN_split {ls : List (List Nat)} (h : 2 ≤ ls.length) : rootN ls = shaN (1 :: (rootN (ls.take (leftN ls.length)) ++ rootN (ls.drop (leftN ls.length)))) := by
  have hl := leftN_lt h
  have hp := leftN_pos ls.length
  obtain ⟨f, hf⟩ : ∃ f, ls.length = f + 1 := ⟨ls.length - 1, by omega⟩
  have e : rootN ls = rootF (f + 1) ls := by unfold rootN; rw [hf]
  have h1 : (ls.take (leftN ls.length)).length = leftN ls.length := by rw [List.length_take]; omega
  have h2 : (ls.drop (leftN ls.length)).length = ls.length - leftN ls.length := List.length_drop
  rw [e]
  unfold rootF
  rw [if_neg (by omega)]
  unfold rootN
  rw [rootF_more f (ls.take (leftN ls.length)).length (ls.take (leftN ls.length)) (by omega) (Nat.le_refl _) (by omega), rootF_more f (ls.drop (leftN ls.length)).length (ls.drop (leftN ls.length)) (by omega) (Nat.le_refl _) (by omega)]
theorem rootF_length : ∀ (f : Nat) (ls : List (List Nat)), 1 ≤ f → (rootF f ls).length = 32
  | f + 1, ls, _ => by
    unfold rootF
    split <;> exact shaN_length _
theorem rootN_length {ls : List (List Nat)} (h : 1 ≤ ls.length) : (rootN ls).length = 32 := rootF_length _ _ h
theorem rootF_lt : ∀ (f : Nat) (ls : List (List Nat)), ∀ x ∈ rootF f ls, x < 256
  | 0, _, _, h => by cases h
  | f + 1, ls, x, h => by
    unfold rootF at h
    split at h <;> exact shaN_lt _ x h
theorem rootN_lt (ls : List (List Nat)) : ∀ x ∈ rootN ls, x < 256 := rootF_lt _ _

section
variable {w : World} {A : Option Addr} {n c : Nat} {Ps : List (List Nat)}
theorem Pb.some_ (h : Pb w A n c Ps) (hn : 0 < n) : ∃ ad, A = some ad := by
  have hl := h.len
  obtain ⟨ad, _, _, _, e, _⟩ := h.cells 0 (Ps[0]'(by omega)) (List.getElem?_eq_getElem _)
  exact ⟨ad, e⟩
theorem Pb.take {k : Nat} (h : Pb w A n c Ps) (hk : k ≤ n) : Pb w A k c (Ps.take k) :=
  ⟨by rw [List.length_take]; have := h.len; omega, by have := h.cap; omega, h.top, h.nil, fun i p hp => h.cells i p (by
    have hl := (List.getElem?_eq_some_iff.1 hp).1
    rw [List.getElem?_take_of_lt (by rw [List.length_take] at hl; omega)] at hp
    exact hp)⟩
theorem Pb.drop {k : Nat} {ad : Addr} (h : Pb w (some ad) n c Ps) (hk : k ≤ n) : Pb w (some (if c = k then ad else ad.add k)) (n - k) (c - k) (Ps.drop k) := by
  have hl := h.len
  have hcp := h.cap
  refine ⟨by rw [List.length_drop]; omega, by omega, by have := h.top; omega, (fun e => by cases e), fun i p hp => ?_⟩
  have hi := (List.getElem?_eq_some_iff.1 hp).1
  rw [List.length_drop] at hi
  rw [List.getElem?_drop] at hp
  obtain ⟨ad', B, m, d, e, hc, hs⟩ := h.cells _ _ hp
  injection e with e
  subst e
  refine ⟨_, B, m, d, rfl, ?_, hs⟩
  rw [if_neg (by omega), ad_add]
  exact hc
end
end Go.Proofs.YtgkojdbepgonkaaDoor

/- Slices of indices read as lists; how many lie below a limit, between two limits. -/
namespace Go.Proofs.YtgkojdbepgonkaaDoor
set_option linter.unusedVariables false
set_option linter.unusedSimpArgs false
set_option maxRecDepth 8000
open Go.RowKit
/-- a slice value that reads as the integers is -/
structure Ib (w : World) (A : Option Addr) (n c : Nat) (is : List Int) : Prop where
  len : n = is.length
  cap : n ≤ c
  top : c ≤ 9223372036854775807
  nil : A = none → c = 0
  cells : ∀ (i : Nat) (z : Int), is[i]? = some z → ∃ ad, A = some ad ∧ w.cell? (ad.add i) = some (.int .i64 z)
section
variable {w w' : World} {A : Option Addr} {n c : Nat} {is : List Int}
theorem Ib.keep (h : Ib w A n c is) (hb : Below w.heap.size w w') : Ib w' A n c is :=
  ⟨h.len, h.cap, h.top, h.nil, fun i z hz => by obtain ⟨ad, e, hc⟩ := h.cells i z hz; exact ⟨ad, e, cell_keep hc hb⟩⟩
theorem Ib.at_ {ad : Addr} (h : Ib w (some ad) n c is) {i : Nat} (hi : i < n) : w.cell? (ad.add i) = some (.int .i64 (is.getD i 0)) := by
  have hl := h.len
  obtain ⟨ad', e, hc⟩ := h.cells i (is.getD i 0) (by rw [List.getD_eq_getElem?_getD, List.getElem?_eq_getElem (show i < is.length by omega)]; rfl)
  injection e with e
  subst e
  exact hc
theorem Ib.some_ (h : Ib w A n c is) (hn : 0 < n) : ∃ ad, A = some ad := by
  have hl := h.len
  obtain ⟨ad, e, _⟩ := h.cells 0 (is[0]'(by omega)) (List.getElem?_eq_getElem _)
  exact ⟨ad, e⟩
theorem Ib.nil_ (w : World) : Ib w none 0 0 [] := ⟨rfl, Nat.le_refl _, Nat.zero_le _, fun _ => rfl, fun i z hz => by simp at hz⟩
theorem Ib.take {k : Nat} (h : Ib w A n c is) (hk : k ≤ n) : Ib w A k c (is.take k) :=
  ⟨by rw [List.length_take]; have := h.len; omega, by have := h.cap; omega, h.top, h.nil, fun i p hp => h.cells i p (by
    have hl := (List.getElem?_eq_some_iff.1 hp).1
    rw [List.getElem?_take_of_lt (by rw [List.length_take] at hl; omega)] at hp
    exact hp)⟩
theorem Ib.drop {k : Nat} {ad : Addr} (h : Ib w (some ad) n c is) (hk : k ≤ n) : Ib w (some (if c = k then ad else ad.add k)) (n - k) (c - k) (is.drop k) := by
  have hl := h.len
  have hcp := h.cap
  refine ⟨by rw [List.length_drop]; omega, by omega, by have := h.top; omega, (fun e => by cases e), fun i p hp => ?_⟩
  have hi := (List.getElem?_eq_some_iff.1 hp).1
  rw [List.length_drop] at hi
  rw [List.getElem?_drop] at hp
  obtain ⟨ad', e, hc⟩ := h.cells _ _ hp
  injection e with e
  subst e
  refine ⟨_, rfl, ?_⟩
  rw [if_neg (by omega), ad_add]
  exact hc
end
/-- how many of the first lie below the limit -/
def belowN (is : List Int) (lim : Int) : Nat := (is.takeWhile fun x => decide (x < lim)).length
theorem belowN_of : ∀ (is : List Int) (lim : Int) (j : Nat), j ≤ is.length → (∀ i, i < j → is.getD i 0 < lim) → (j = is.length ∨ ¬ is.getD j 0 < lim) → belowN is lim = j
  | [], lim, j, h, _, _ => by simp at h; subst h; rfl
  | x :: is, lim, 0, h, _, h2 => by
    rcases h2 with h2 | h2
    · simp at h2
    · have hx : ¬ x < lim := h2
      unfold belowN
      rw [List.takeWhile_cons, if_neg (by simpa using hx)]
      rfl
  | x :: is, lim, j + 1, h, h1, h2 => by
    have hx : x < lim := h1 0 (by omega)
    have := belowN_of is lim j (by simpa using h) (fun i hi => h1 (i + 1) (by omega)) (h2.elim (fun e => .inl (by simpa using e)) .inr)
    unfold belowN at this ⊢
    rw [List.takeWhile_cons, if_pos (by simpa using hx), List.length_cons, this]
/-- how many lie in low .. high - 1 -/
def withinN (is : List Int) (lo hi : Int) : Nat := (is.filter fun x => decide (lo ≤ x ∧ x < hi)).length
theorem withinN_take {is : List Int} {lo hi : Int} {j : Nat} (h : j < is.length) : withinN (is.take (j + 1)) lo hi = withinN (is.take j) lo hi + (if lo ≤ is.getD j 0 ∧ is.getD j 0 < hi then 1 else 0) := by
  have e : is.take (j + 1) = is.take j ++ [is.getD j 0] := by rw [List.take_add_one, List.getElem?_eq_getElem h, List.getD_eq_getElem?_getD, List.getElem?_eq_getElem h]; rfl
  unfold withinN
  rw [e, List.filter_append, List.length_append]
  congr 1
  generalize is.getD j 0 = x
  by_cases hh : lo ≤ x ∧ x < hi
  · rw [if_pos hh, List.filter_cons, if_pos (decide_eq_true hh)]; rfl
  · rw [if_neg hh, List.filter_cons, if_neg (by simpa using hh)]; rfl
theorem withinN_le (is : List Int) (lo hi : Int) : withinN is lo hi ≤ is.length := List.length_filter_le _ _
set_option maxHeartbeats 1000000 in
theorem below_any (A : Option Addr) (n c : Nat) (is : List Int) (lim : Int) (w : World) (h : Ib w A n c is) :
    Calls Tryd.prog 95 #[.slice A n c, .int .i64 lim] w fun e w' => e = .returned (.int .i64 ((belowN is lim : Nat) : Int)) ∧ w' = w := by
  have HLN := Lib.hid h.len
  have HS := Lib.hid h
  have hcap := h.cap
  have htop := h.top
  clear h
  go_enter Tryd.func95, Tryd.ntmps95
  go_wp2_with fail
  go_loopw [5] (fun s wr => ∃ j : Nat, j ≤ n ∧ s = .int .i64 j ∧ (∀ i, i < j → is.getD i 0 < lim) ∧ wr = w) (fun s _ => n - (intOf s).toNat)
  case atStart => exact ⟨0, by omega, rfl, fun i hi => by omega, rfl⟩
  case round =>
    obtain ⟨j, hj, rfl, hall, rfl⟩ := hrel
    have HA := Lib.hid hall
    clear hall
    have hk0 : (0 : Int) ≤ (j : Int) := by omega
    by_cases hlt : j < n
    · have hk1 : (j : Int) < (n : Int) := by omega
      obtain ⟨ad, rfl⟩ := HS.out.some_ (by omega)
      have hcl := HS.out.at_ hlt
      have HXJ : ∃ x, is.getD j 0 = x := ⟨_, rfl⟩
      obtain ⟨x, hx⟩ := HXJ
      rw [hx] at hcl
      have HX := Lib.hid hx
      clear hx
      by_cases hxl : x < lim
      · go_wp2_with fail
        go_roundw
        case rel =>
          refine ⟨j + 1, hlt, by go_num, fun i hi => ?_, by first | trivial | rfl⟩
          by_cases e : i = j
          · subst e; rw [HX.out]; exact hxl
          · exact HA.out i (by omega)
        case measure => simp [intOf]; omega
      · have e : belowN is lim = j := belowN_of is lim j (by have := HLN.out; omega) HA.out (.inr (by rw [HX.out]; exact hxl))
        go_wp2_with fail
        go_ret
        first | exact ⟨rfl, rfl⟩ | (rw [e]; exact ⟨rfl, rfl⟩)
    · have e : belowN is lim = j := belowN_of is lim j (by have := HLN.out; omega) HA.out (.inl (by have := HLN.out; omega))
      obtain rfl : j = n := by omega
      go_wp2_with fail
      go_ret
      first | exact ⟨rfl, rfl⟩ | (rw [e]; exact ⟨rfl, rfl⟩)
set_option maxHeartbeats 1000000 in
theorem within_any (A : Option Addr) (n c : Nat) (is : List Int) (lo hi : Int) (w : World) (h : Ib w A n c is) :
    Calls Tryd.prog 97 #[.slice A n c, .int .i64 lo, .int .i64 hi] w fun e w' => e = .returned (.int .i64 ((withinN is lo hi : Nat) : Int)) ∧ w' = w := by
  have HLN := Lib.hid h.len
  have HS := Lib.hid h
  have hcap := h.cap
  have htop := h.top
  clear h
  go_enter Tryd.func97, Tryd.ntmps97
  go_wp2_with fail
  go_loopw [7, 8] (fun t s wr => ∃ j m : Nat, j ≤ n ∧ m ≤ j ∧ s = .int .i64 j ∧ t = .int .i64 m ∧ withinN (is.take j) lo hi = m ∧ wr = w) (fun _ s _ => n - (intOf s).toNat)
  case atStart => exact ⟨0, 0, by omega, by omega, rfl, rfl, rfl, rfl⟩
  case round =>
    obtain ⟨j, m, hj, hmj, rfl, rfl, hm, rfl⟩ := hrel
    have HM := Lib.hid hm
    clear hm
    have hk0 : (0 : Int) ≤ (j : Int) := by omega
    by_cases hlt : j < n
    · have hk1 : (j : Int) < (n : Int) := by omega
      obtain ⟨ad, rfl⟩ := HS.out.some_ (by omega)
      have hcl := HS.out.at_ hlt
      have HT := Lib.hid (withinN_take (is := is) (lo := lo) (hi := hi) (j := j) (by have := HLN.out; omega))
      generalize is.getD j 0 = x at *
      by_cases hx1 : lo ≤ x
      · by_cases hx2 : x < hi
        · have HT2 := Lib.hid (show withinN (is.take (j + 1)) lo hi = m + 1 by rw [HT.out, HM.out, if_pos ⟨hx1, hx2⟩])
          clear HT HM
          go_wp2_with fail
          go_roundw
          case rel => exact ⟨j + 1, m + 1, hlt, by omega, by go_num, by go_num, HT2.out, by first | trivial | rfl⟩
          case measure => simp [intOf]; omega
        · have HT2 := Lib.hid (show withinN (is.take (j + 1)) lo hi = m by rw [HT.out, HM.out, if_neg (fun h => hx2 h.2)]; rfl)
          clear HT HM
          go_wp2_with fail
          go_roundw
          case rel => exact ⟨j + 1, m, hlt, by omega, by go_num, rfl, HT2.out, by first | trivial | rfl⟩
          case measure => simp [intOf]; omega
      · have HT2 := Lib.hid (show withinN (is.take (j + 1)) lo hi = m by rw [HT.out, HM.out, if_neg (fun h => hx1 h.1)]; rfl)
        clear HT HM
        go_wp2_with fail
        go_roundw
        case rel => exact ⟨j + 1, m, hlt, by omega, by go_num, rfl, HT2.out, by first | trivial | rfl⟩
        case measure => simp [intOf]; omega
    · have e : withinN is lo hi = m := by
        have h1 := HM.out
        rwa [List.take_of_length_le (by have := HLN.out; omega)] at h1
      go_wp2_with fail
      go_ret
      first | exact ⟨rfl, rfl⟩ | (rw [e]; exact ⟨rfl, rfl⟩)
end Go.Proofs.YtgkojdbepgonkaaDoor

/- Indices in increasing order, both sides. -/
namespace Go.Proofs.YtgkojdbepgonkaaDoor
set_option linter.unusedVariables false
set_option linter.unusedSimpArgs false
set_option maxRecDepth 8000
open Go.RowKit
/-- strictly increasing from least on, and below n -/
def incF : Int → Int → List Int → Bool
  | _, _, [] => true
  | least, n, x :: is => if x < least ∨ n ≤ x then false else incF (x + 1) n is
theorem incF_cons (least n x : Int) (is : List Int) : incF least n (x :: is) = if x < least ∨ n ≤ x then false else incF (x + 1) n is := rfl
theorem drop_cons {is : List Int} {j : Nat} (h : j < is.length) : is.drop j = is.getD j 0 :: is.drop (j + 1) := by
  rw [List.drop_eq_getElem_cons h, List.getD_eq_getElem?_getD, List.getElem?_eq_getElem h]; rfl
theorem incF_step {least n : Int} {is : List Int} {j : Nat} (h : j < is.length) (h1 : ¬ is.getD j 0 < least) (h2 : ¬ n ≤ is.getD j 0) : incF least n (is.drop j) = incF (is.getD j 0 + 1) n (is.drop (j + 1)) := by
  rw [drop_cons h, incF_cons]
  rw [if_neg (by omega)]
theorem incF_no {least n : Int} {is : List Int} {j : Nat} (h : j < is.length) (h1 : is.getD j 0 < least ∨ n ≤ is.getD j 0) : incF least n (is.drop j) = false := by
  rw [drop_cons h, incF_cons]
  rw [if_pos h1]
/-- what the order means -/
theorem incF_iff {least n : Int} {is : List Int} : incF least n is = true ↔ ∀ i, i < is.length → least ≤ is.getD i 0 ∧ is.getD i 0 < n ∧ (0 < i → is.getD (i - 1) 0 < is.getD i 0) := by
  induction is generalizing least with
  | nil => exact ⟨fun _ i hi => by simp at hi, fun _ => rfl⟩
  | cons x is ih =>
    rw [incF_cons]
    by_cases hx : x < least ∨ n ≤ x
    · rw [if_pos hx]
      refine ⟨fun h => (by cases h), fun h => ?_⟩
      have h0 := h 0 (by simp)
      simp at h0
      omega
    · rw [if_neg hx, ih]
      constructor
      · intro h i hi
        match i with
        | 0 => exact ⟨by simp; omega, by simp; omega, fun h0 => absurd h0 (Nat.lt_irrefl 0)⟩
        | i + 1 =>
          have hi' : i < is.length := by simpa using hi
          have h1 := h i hi'
          refine ⟨?_, by simpa using h1.2.1, fun _ => ?_⟩
          · have := h1.1
            simp at this ⊢
            omega
          · match i with
            | 0 =>
              have := h1.1
              simp at this ⊢
              omega
            | i + 1 => simpa using h1.2.2 (by omega)
      · intro h i hi
        have h1 := h (i + 1) (by simpa using hi)
        refine ⟨?_, by simpa using h1.2.1, fun h0 => ?_⟩
        · clear ih
          induction i with
          | zero =>
            have := h1.2.2 (by omega)
            simp at this ⊢
            omega
          | succ i ihi =>
            have h2 := ihi (by omega) (h (i + 1) (by simp; omega))
            have := h1.2.2 (by omega)
            simp at this h2 ⊢
            omega
        · obtain ⟨k, rfl⟩ : ∃ k, i = k + 1 := ⟨i - 1, by omega⟩
          simpa using h1.2.2 (by omega)
set_option maxHeartbeats 1000000 in
theorem increasing_any (A : Option Addr) (n c : Nat) (is : List Int) (lim : Int) (w : World) (h : Ib w A n c is) (hlim : lim ≤ 9223372036854775807) :
    Calls Tryd.prog 51 #[.slice A n c, .int .i64 lim] w fun e w' => e = .returned (.bool (incF 0 lim is)) ∧ w' = w := by
  have HLN := Lib.hid h.len
  have HS := Lib.hid h
  have hcap := h.cap
  have htop := h.top
  clear h
  go_enter Tryd.func51, Tryd.ntmps51
  go_wp2_with fail
  go_loopw [5, 10] (fun t s wr => ∃ (j : Nat) (least : Int), j ≤ n ∧ 0 ≤ least ∧ least ≤ 9223372036854775807 ∧ s = .int .i64 j ∧ t = .int .i64 least ∧ incF 0 lim is = incF least lim (is.drop j) ∧ wr = w) (fun _ s _ => n - (intOf s).toNat)
  case atStart => exact ⟨0, 0, by omega, by omega, by omega, rfl, rfl, rfl, rfl⟩
  case round =>
    obtain ⟨j, least, hj, hl0, hl1, rfl, rfl, hm, rfl⟩ := hrel
    have HM := Lib.hid hm
    clear hm
    have hk0 : (0 : Int) ≤ (j : Int) := by omega
    by_cases hlt : j < n
    · have hk1 : (j : Int) < (n : Int) := by omega
      obtain ⟨ad, rfl⟩ := HS.out.some_ (by omega)
      have hcl := HS.out.at_ hlt
      have hjl : j < is.length := by have := HLN.out; omega
      have HT := Lib.hid (fun h1 h2 => incF_step (least := least) (n := lim) (is := is) (j := j) hjl h1 h2)
      have HF := Lib.hid (fun h1 => incF_no (least := least) (n := lim) (is := is) (j := j) hjl h1)
      clear hjl
      generalize is.getD j 0 = x at *
      by_cases hx1 : x < least
      · have e := HM.out.trans (HF.out (.inl hx1))
        go_wp2_with fail
        go_ret
        first | exact ⟨rfl, rfl⟩ | (rw [e]; exact ⟨rfl, rfl⟩)
      · by_cases hx2 : lim ≤ x
        · have e := HM.out.trans (HF.out (.inr hx2))
          go_wp2_with fail
          go_ret
          first | exact ⟨rfl, rfl⟩ | (rw [e]; exact ⟨rfl, rfl⟩)
        · have HT2 := Lib.hid (HM.out.trans (HT.out hx1 hx2))
          have hw1 : IntKind.i64.wrap (x + 1) = x + 1 := by rw [IntKind.wrap_i64]; omega
          clear HT HM HF
          go_wp2_with fail
          go_roundw
          case rel => exact ⟨j + 1, x + 1, hlt, by omega, by omega, by go_num, rfl, HT2.out, by first | trivial | rfl⟩
          case measure => simp [intOf]; omega
    · have e : incF 0 lim is = true := by
        rw [HM.out, List.drop_eq_nil_of_le (by have := HLN.out; omega)]
        rfl
      go_wp2_with fail
      go_ret
      first | exact ⟨rfl, rfl⟩ | (rw [e]; exact ⟨rfl, rfl⟩)
theorem cell_lt' {w : World} {a : Addr} {v : Value} (h : w.cell? a = some v) : a.block < w.heap.size := by
  rcases Nat.lt_or_ge a.block w.heap.size with hh | hh
  · exact hh
  · unfold World.cell? at h
    rw [Array.getElem?_eq_none hh] at h
    cases h
set_option maxHeartbeats 2000000 in
theorem rincreasing_any (A : Option Addr) (n c : Nat) (is : List Int) (lim : Int) (w : World) (h : Ib w A n c is) :
    Calls Tryd.prog 57 #[.slice A n c, .int .i64 lim] w fun e w' => e = .returned (.bool (incF 0 lim is)) ∧ Below w.heap.size w w' := by
  have HLN := Lib.hid h.len
  have HS := Lib.hid h
  have hcap := h.cap
  have htop := h.top
  clear h
  go_enter Tryd.func57, Tryd.ntmps57
  go_wp2_with fail
  go_loopw [5] (fun s wr => ∃ j : Nat, j ≤ n ∧ s = .int .i64 j ∧ (∀ i, i < j → 0 ≤ is.getD i 0 ∧ is.getD i 0 < lim ∧ (0 < i → is.getD (i - 1) 0 < is.getD i 0)) ∧ Below w.heap.size w wr) (fun s _ => n - (intOf s).toNat)
  case atStart => exact ⟨0, by omega, rfl, fun i hi => by omega, Below.refl _ _⟩
  case round =>
    obtain ⟨j, hj, rfl, hm, hb⟩ := hrel
    have HM := Lib.hid hm
    have HB := Lib.hid hb
    clear hm hb
    have hk0 : (0 : Int) ≤ (j : Int) := by omega
    by_cases hlt : j < n
    · have hk1 : (j : Int) < (n : Int) := by omega
      obtain ⟨ad, rfl⟩ := HS.out.some_ (by omega)
      have hjl : j < is.length := by have := HLN.out; omega
      have hcl := (HS.out.keep HB.out).at_ hlt
      have l0 := LaterB.cell (B := wr.heap.size) hcl (cell_lt' hcl)
      have HT := Lib.hid (fun (h : 0 ≤ is.getD j 0 ∧ is.getD j 0 < lim ∧ (0 < j → is.getD (j - 1) 0 < is.getD j 0)) => (fun i hi => by
        by_cases e : i = j
        · subst e; exact h
        · exact HM.out i (by omega) : ∀ i, i < j + 1 → 0 ≤ is.getD i 0 ∧ is.getD i 0 < lim ∧ (0 < i → is.getD (i - 1) 0 < is.getD i 0)))
      have HF := Lib.hid (fun (h : ¬ (0 ≤ is.getD j 0 ∧ is.getD j 0 < lim ∧ (0 < j → is.getD (j - 1) 0 < is.getD j 0))) => (by
        cases e : incF 0 lim is with
        | false => rfl
        | true => exact absurd (incF_iff.1 e j hjl) h : incF 0 lim is = false))
      clear hcl hjl
      obtain ⟨x, hx⟩ : ∃ x, is.getD j 0 = x := ⟨_, rfl⟩
      rw [hx] at HT HF l0
      by_cases hx1 : x < 0
      · clear hx
        go_upto_region 4 with fail
        refine wp_heldB wr.heap.size (by kernel_rfl) (lexOK_of (by kernel_rfl) (by kernel_rfl)) (chainOK_of (by kernel_rfl)) (fun W0 hbW hSW => ?_)
        have HSS := Lib.hid hSW
        have HB0 := Lib.hid (bel_step HB.out hbW)
        clear hbW hSW
        refine wpHeld_seg 29 HSS.out (by kernel_rfl) ?_
        simp only [List.take_succ_cons, List.take_zero, List.drop_succ_cons, List.drop_zero]
        iterate 29 (go_big_quiet_step (fail))
        refine wpQuiet_nil (wpHeld_nil ?_)
        go_wp2_with fail
        go_ret
        exact ⟨by rw [HF.out (fun h => by omega)]; rfl, HB0.out⟩
      · by_cases hx2 : lim ≤ x
        · clear hx
          go_upto_region 4 with fail
          refine wp_heldB wr.heap.size (by kernel_rfl) (lexOK_of (by kernel_rfl) (by kernel_rfl)) (chainOK_of (by kernel_rfl)) (fun W0 hbW hSW => ?_)
          have HSS := Lib.hid hSW
          have HB0 := Lib.hid (bel_step HB.out hbW)
          clear hbW hSW
          refine wpHeld_seg 29 HSS.out (by kernel_rfl) ?_
          simp only [List.take_succ_cons, List.take_zero, List.drop_succ_cons, List.drop_zero]
          iterate 29 (go_big_quiet_step (fail))
          refine wpQuiet_nil (wpHeld_nil ?_)
          go_wp2_with fail
          go_ret
          exact ⟨by rw [HF.out (fun h => by omega)]; rfl, HB0.out⟩
        · by_cases hj0 : j = 0
          · have hk2 : ¬ (0 : Int) < (j : Int) := by omega
            have hk4 : decide (0 < j) = false := decide_eq_false (by omega)
            have HJ0 := Lib.hid hj0
            clear hx hj0
            go_upto_region 4 with fail
            refine wp_heldB wr.heap.size (by kernel_rfl) (lexOK_of (by kernel_rfl) (by kernel_rfl)) (chainOK_of (by kernel_rfl)) (fun W0 hbW hSW => ?_)
            have HSS := Lib.hid hSW
            have HB0 := Lib.hid (bel_step HB.out hbW)
            clear hbW hSW
            refine wpHeld_seg 29 HSS.out (by kernel_rfl) ?_
            simp only [List.take_succ_cons, List.take_zero, List.drop_succ_cons, List.drop_zero]
            iterate 29 (go_big_quiet_step (fail))
            refine wpQuiet_nil (wpHeld_nil ?_)
            go_wp2_with fail
            go_roundw
            case rel => exact ⟨j + 1, hlt, by go_num, HT.out ⟨by omega, by omega, fun h => by have := HJ0.out; omega⟩, HB0.out⟩
            case measure => simp [intOf]; omega
          · obtain ⟨q, hq⟩ : ∃ q, j - 1 = q := ⟨_, rfl⟩
            have hqn : q < n := by omega
            have hk2 : (0 : Int) < (j : Int) := by omega
            have hk4 : decide (0 < j) = true := decide_eq_true (by omega)
            have hqj : (j : Int) - 1 = (q : Int) := by omega
            have hq0 : (0 : Int) ≤ (q : Int) := by omega
            have hq1 : (q : Int) < (n : Int) := by omega
            have hw1 : IntKind.i64.wrap (q : Int) = (q : Int) := by rw [IntKind.wrap_i64]; omega
            have l1 := LaterB.cell (B := wr.heap.size) ((HS.out.keep HB.out).at_ hqn) (cell_lt' ((HS.out.keep HB.out).at_ hqn))
            rw [hq] at HT HF
            have hjp : 0 < j := by omega
            clear hx hq
            generalize is.getD q 0 = y at *
            by_cases hxy : x ≤ y
            · skip
              go_upto_region 4 with fail
              refine wp_heldB wr.heap.size (by kernel_rfl) (lexOK_of (by kernel_rfl) (by kernel_rfl)) (chainOK_of (by kernel_rfl)) (fun W0 hbW hSW => ?_)
              have HSS := Lib.hid hSW
              have HB0 := Lib.hid (bel_step HB.out hbW)
              clear hbW hSW
              refine wpHeld_seg 29 HSS.out (by kernel_rfl) ?_
              simp only [List.take_succ_cons, List.take_zero, List.drop_succ_cons, List.drop_zero]
              iterate 29 (go_big_quiet_step (fail))
              refine wpQuiet_nil (wpHeld_nil ?_)
              go_wp2_with fail
              go_ret
              exact ⟨by rw [HF.out (fun h => by have := h.2.2 hjp; omega)]; rfl, HB0.out⟩
            · skip
              go_upto_region 4 with fail
              refine wp_heldB wr.heap.size (by kernel_rfl) (lexOK_of (by kernel_rfl) (by kernel_rfl)) (chainOK_of (by kernel_rfl)) (fun W0 hbW hSW => ?_)
              have HSS := Lib.hid hSW
              have HB0 := Lib.hid (bel_step HB.out hbW)
              clear hbW hSW
              refine wpHeld_seg 29 HSS.out (by kernel_rfl) ?_
              simp only [List.take_succ_cons, List.take_zero, List.drop_succ_cons, List.drop_zero]
              iterate 29 (go_big_quiet_step (fail))
              refine wpQuiet_nil (wpHeld_nil ?_)
              go_wp2_with fail
              go_roundw
              case rel => exact ⟨j + 1, hlt, by go_num, HT.out (⟨by omega, by omega, fun _ => by omega⟩), HB0.out⟩
              case measure => simp [intOf]; omega
    · have e : incF 0 lim is = true := incF_iff.2 fun i hi => HM.out i (by have := HLN.out; omega)
      go_wp2_with fail
      go_ret
      first | exact ⟨rfl, HB.out⟩ | exact ⟨by rw [e]; rfl, HB.out⟩
end Go.Proofs.YtgkojdbepgonkaaDoor
