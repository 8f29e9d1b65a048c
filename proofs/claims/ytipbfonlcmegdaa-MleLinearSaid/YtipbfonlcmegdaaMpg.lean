/- Contracts of package mle: the equality polynomial; no conditions but lengths. Contracts of package mle: points of lines; no conditions but lengths. Contracts of package mle: the weights of indices, streaming; no conditions but lengths. -/
import Derived.Test.YtipbfonlcmegdaaMpf
import Derived.Test.YtipbfonlcmegdaaMpe
namespace Go.Proofs.Ytipbfonlcmegdaa
set_option maxRecDepth 8000
section
open Go.RowKit Gold
open Go.Shelf
attribute [local go_sem] Oper.semAt_some

set_option maxHeartbeats 400000 in
theorem combine_any (A : Option Addr) (n c : Nat) (B : Option Addr) (m d : Nat) (f : FuncId) (cap : Array Value) (w : World) :
    Calls Try.prog 88 #[.slice A n c, .slice B m d, .func (.func f) #[] cap] w fun e w' => e = .returned (.func (.func 109) #[] #[.pointer (some ⟨w.heap.size, 0, none⟩), .pointer (some ⟨w.heap.size + 1, 0, none⟩), .pointer (some ⟨w.heap.size + 1 + 1, 0, none⟩)])
      ∧ w' = ((w.alloc (.cells #[.slice A n c] 22)).alloc (.cells #[.slice B m d] 22)).alloc (.cells #[.func (.func f) #[] cap] 33) := by
  go_enter Try.func88, Try.ntmps88
  go_wp2
  go_ret
  exact ⟨rfl, rfl⟩
theorem one_at {W : World} {b : Nat} {t : TypeId} {u : Value} (e : b = W.heap.size) : One (W.alloc (.cells #[u] t)) b t u := e ▸ One.new W t u
theorem keepsOthers_of {W W1 : World} (hb : Below W.heap.size W W1) : KeepsOthers W W1 := ⟨hb.size, fun _ _ hk _ => heap_keep hk hb⟩
theorem own_two {β : Type} (b : Nat) (t : TypeId) (f g : β → Value) : Own (fun s W => Two W b t (f s) (g s)) := fun _ _ _ _ hs hg hr => (grownBy_keeps_cells hg hr hs rfl).trans hs
theorem own_one {β : Type} (b : Nat) (t : TypeId) (f : β → Value) : Own (fun s W => One W b t (f s)) := fun _ _ _ _ hs hg hr => (grownBy_keeps_cells hg hr hs rfl).trans hs
theorem own_both {β : Type} {I J : β → World → Prop} (h : Own I) (k : Own J) : Own (fun s W => I s W ∧ J s W) := fun s X Y row hs hg hr => ⟨h s X Y row hs.1 hg hr, k s X Y row hs.2 hg hr⟩
theorem wpIn_named {F : Fence} {m : Nat} {P : Program} {c : Code} {Q : Exit → Act → World → Prop} {a : Act} {w : World} (K : World → Prop) (hK : K w) (h : ∀ W, K W → c.wpIn F m P Q a W) : c.wpIn F m P Q a w := h w hK

/-- what the cells of Eq hold when the factors pre have come -/
def EqI (w : World) (b5 : Nat) (pre : List E2) (W : World) : Prop :=
  (Two W w.heap.size 27 (.int .u64 0) (.int .u64 0) ∧ Two W b5 27 (.int .u64 (vF (pre.foldl (· * ·) E2.one).A)) (.int .u64 (vF (pre.foldl (· * ·) E2.one).B))) ∧ Below w.heap.size w W
theorem EqI.own (w : World) (b5 B : Nat) (hB : w.heap.size ≤ B) : OwnFrom B (EqI w b5) :=
  OwnFrom.and (Own.from (own_both (own_two _ _ (fun _ => .int .u64 0) (fun _ => .int .u64 0)) (own_two _ _ _ _)) _) (ownFrom_below (Nat.le_refl _) hB)

set_option maxRecDepth 100000 in
set_option maxHeartbeats 4000000 in
theorem mleEq_any (A : Option Addr) (n c : Nat) (xs : List E2) (B : Option Addr) (m d : Nat) (ys : List E2) (w : World) (h : Sl w A n c xs) (h' : Sl w B m d ys) (hnm : n = m) :
    Calls Try.prog 54 #[.slice A n c, .slice B m d] w fun e w' => e = .returned (.agg #[.int .u64 (vF (eqE xs ys).A), .int .u64 (vF (eqE xs ys).B)]) ∧ Below w.heap.size w w' := by
  subst hnm
  have HX := Lib.hid h
  have HY := Lib.hid h'
  clear h h'
  refine (callsIn_wide (n := 3)).1 ?_
  refine callsIn_of_wp_marks Try.func54 rfl trivial ?_ rfl
  simp only [Try.ntmps54, List.size_toArray, List.length_cons, List.length_nil, Nat.reduceAdd, Nat.reduceSub, Array.replicate_succ, Array.replicate_zero, List.push_toArray, List.append_toArray, List.nil_append, List.cons_append]
  gi_wp2_with (first
    | (refine ⟨trivial, ?_⟩; gi_at_call 85; refine (callsIn_wide.2 (mleOne_any _)).mono ?_; rintro e W1 ⟨rfl, hb1⟩; have HB1 := Lib.hid (below_step ((Below.refl _ w).alloc (Nat.le_refl _) _) hb1); have HZ1 := Lib.hid ((Two.new w 27 (.int .u64 0) (.int .u64 0)).keep hb1); clear hb1)
    | (refine ⟨trivial, ?_⟩; gi_at_call 88; refine (callsIn_wide.2 (combine_any _ _ _ _ _ _ _ _ _)).mono ?_; rintro e W2 ⟨rfl, rfl⟩))
  have hz1 : w.heap.size + 1 ≤ W1.heap.size := HZ1.out.lt
  refine wpIn_named (fun W => EqI w W1.heap.size [] W ∧ Boxes w (W1.heap.size + 1) (W1.heap.size + 1 + 1) (W1.heap.size + 1 + 1 + 1) (.slice A n c) (.slice B n d) (.func (.func 89) #[] #[]) (fun _ => True) W ∧ W1.heap.size + 1 + 1 + 1 < W.heap.size)
    ⟨⟨⟨(((HZ1.out.alloc _).alloc _).alloc _).alloc _, (((Two.new W1 _ _ _).alloc _).alloc _).alloc _⟩, (((HB1.out.alloc (by omega) _).alloc (by simp; omega) _).alloc (by simp; omega) _).alloc (by simp; omega) _⟩,
      ⟨(((HB1.out.alloc (by omega) _).alloc (by simp; omega) _).alloc (by simp; omega) _).alloc (by simp; omega) _, ((one_at (by simp)).alloc _).alloc _, (one_at (by simp)).alloc _, one_at (by simp), trivial⟩, by simp⟩ ?_
  rintro W ⟨hI, hG, hsz⟩
  have HI := Lib.hid hI
  have HG := Lib.hid hG
  clear hI hG HZ1 HB1
  generalize hb5 : W1.heap.size = b5 at *
  clear hb5
  have hwW : w.heap.size ≤ W.heap.size := by omega
  refine wpIn_rangeFunc_ownH rfl (by omega) (gf := 109) (lb := #[.pointer (some ⟨b5 + 1, 0, none⟩), .pointer (some ⟨b5 + 1 + 1, 0, none⟩), .pointer (some ⟨b5 + 1 + 1 + 1, 0, none⟩)]) rfl trivial (enters_of Try.func109 (by kernel_rfl) rfl)
    (combine_agr w A n c xs B n d ys HX.out HY.out rfl (b5 + 1) (b5 + 1 + 1) (b5 + 1 + 1 + 1) W HG.out) (fun h k g => k (h g)) (boxes_put (w := W) hwW (fun _ _ _ _ _ _ => trivial)) (Below.refl _ _) (fun _ => rfl)
    (EqI w b5) (fun _ _ _ => False) (EqI.own w b5 _ hwW) (fun _ _ _ _ _ hs _ _ => hs) HI.out
    (fun x a' W' => ∃ b6, a' = { tmps := #[.slice A n c, .slice B n d, undef, undef, .pointer (some ⟨w.heap.size, 0, none⟩), .pointer (some ⟨b5, 0, none⟩), .pointer (some ⟨b6, 0, none⟩), .agg #[.int .u64 (vF E2.one.A), .int .u64 (vF E2.one.B)], .slice A n c, .slice B n d, .func (.func 109) #[] #[.pointer (some ⟨b5 + 1, 0, none⟩), .pointer (some ⟨b5 + 1 + 1, 0, none⟩), .pointer (some ⟨b5 + 1 + 1 + 1, 0, none⟩)], .agg #[.int .u64 (vF x.A), .int .u64 (vF x.B)], undef, undef, undef, undef], defers := [] } ∧ Two W' b6 27 (.int .u64 (vF x.A)) (.int .u64 (vF x.B))) ?_ ?assign ?body ?done ?stop
  case assign =>
    intro l pre x V K hI hK
    gi_wp2
    exact hK _ _ ((KeepsOthers.alloc V _).from _) (fun h => h.later (fun _ _ _ _ => trivial) ((Below.refl _ _).alloc (Nat.le_refl _) _)) ⟨⟨hI.1.1.alloc _, hI.1.2.alloc _⟩, hI.2.alloc hI.2.size _⟩ ⟨V.heap.size, rfl, Two.new V _ _ _⟩
  case body =>
    clear HI HG
    rintro l pre x a' Wb hl hr ⟨⟨h0, h5⟩, hB⟩ ⟨b6, rfl, h6⟩ hlen
    have c50 := h5.c0
    have c51 := h5.c1
    have f50 := h5.f0
    have f51 := h5.f1
    have c60 := h6.c0
    have c61 := h6.c1
    have H0 := Lib.hid h0
    have H5 := Lib.hid h5
    have HB := Lib.hid hB
    clear h0 h5 h6 hB hl hr hlen
    generalize hq : pre.foldl (· * ·) E2.one = q at *
    have HQ := Lib.hid hq
    clear hq
    gi_wp2_with (refine ⟨trivial, ?_⟩; gi_at_call 15; ((with_reducible refine (CallsIn.inRound l (callsIn_wide.2 (extMul_any q x _))).mono ?_)); rintro e W3 ⟨rfl, hb⟩; replace f50 := free_after hb c50 f50; replace f51 := free_after hb c51 f51; replace c50 := cell_after hb c50; replace c51 := cell_after hb c51; have H03 := Lib.hid (H0.out.keep hb); have H53 := Lib.hid (H5.out.keep hb); have HB3 := Lib.hid (below_step HB.out hb); have HK3 := Lib.hid (keepsOthers_of hb); have HG3 := Lib.hid (fun (g : Boxes w (b5 + 1) (b5 + 1 + 1) (b5 + 1 + 1 + 1) (.slice A n c) (.slice B n d) (.func (.func 89) #[] #[]) (fun _ => True) Wb) => g.later (fun _ _ _ _ => trivial) hb); clear hb)
    refine ⟨(HK3.out.trans ((KeepsOthers.setCell _ _ _).trans (KeepsOthers.setCell _ _ _))).from _, fun g => ?_, ⟨(H03.out.far _ (by simp; omega)).far _ (by simp; omega), ?_⟩, (HB3.out.setCell (by simp; omega) _).setCell (by simp; omega) _⟩
    · have g3 := HG3.out g
      exact ⟨(g3.1.setCell (by simp; omega) _).setCell (by simp; omega) _, (g3.2.1.far _ (by simp)).far _ (by simp), (g3.2.2.1.far _ (by simp; omega)).far _ (by simp; omega), (g3.2.2.2.1.far _ (by simp; omega)).far _ (by simp; omega), trivial⟩
    · rw [List.foldl_append, HQ.out]
      exact (H53.out.set0 _).set1 _
  case done =>
    rintro D zs W2 hD hzs ⟨⟨h0, h5⟩, hB2⟩ hK
    rw [hzs] at h5
    replace h5 : Two W2 b5 27 (.int .u64 (vF (eqE xs ys).A)) (.int .u64 (vF (eqE xs ys).B)) := h5
    generalize hqe : eqE xs ys = q at *
    have HQ := Lib.hid hqe
    clear hqe
    have c50 := h5.c0
    have c51 := h5.c1
    have c00 := h0.c0
    have c01 := h0.c1
    have f00 := h0.f0
    have f01 := h0.f1
    have H0 := Lib.hid h0
    have HK := Lib.hid hK
    have HB := Lib.hid hB2
    have HD := Lib.hid hD
    clear HI HG h0 h5 hK hB2 hD hzs HX HY
    gi_wp2
    have k1 := (KeepsOthers.setCell W2 ⟨w.heap.size, 0, none⟩ (.int .u64 (vF q.A))).same D _ HK.out rfl
    have k2 := (KeepsOthers.setCell _ ⟨w.heap.size, 1, none⟩ (.int .u64 (vF q.B))).same D _ k1 rfl
    have T1 := (H0.out.set0 (.int .u64 (vF q.A))).set1 (.int .u64 (vF q.B))
    have T2 := (grownBy_keeps_cells (grownBy_putObj' _ D (.deferred none)) (fun r e => by cases e; exact ⟨_, k2, rfl⟩) T1 rfl).trans T1
    have r0 := Two.c0 T2
    have r1 := Two.c1 T2
    refine ⟨by simp, .inl ⟨_, _, rfl, run_takeDeferred k2, ?_⟩⟩
    refine ⟨.agg #[.int .u64 (vF q.A), .int .u64 (vF q.B)], by simp [results, Try.f54, go_sem, r0, r1], by rw [HQ.out], ?_⟩
    exact ((HB.out.setCell (Nat.le_refl _) _).setCell (Nat.le_refl _) _).trans (belowK_b (w := W) hwW _ D _ _ HD.out k2 rfl rfl)
  case stop =>
    rintro D c pre W _ _ h _
    exact h.elim
  · intro x a' s X Y row hs hg hr
    obtain ⟨b6, ha, ht⟩ := hs
    exact ⟨b6, ha, own_two b6 _ (fun _ : Unit => _) (fun _ => _) () X Y row ht hg (fun r e => (hr r e).2)⟩
end

section
open Go.RowKit Gold
open Go.Shelf
attribute [local go_sem] Oper.semAt_some

theorem below_grown0 {w0 w w' : World} (hb : Below w0.heap.size w0 w) (h : w.grownBy w' none) : Below w0.heap.size w0 w' := hb.trans (Below.grown (Below.refl _ w) h hb.size (fun q hq => by cases hq))
theorem two_at {W : World} {b : Nat} {t : TypeId} {u v : Value} (e : b = W.heap.size) : Two (W.alloc (.cells #[u, v] t)) b t u v := e ▸ Two.new W t u v
theorem cells_two {w : World} {g : Nat} {y : E2} {t : TypeId} (hy : Two w g t (.int .u64 (vF y.A)) (.int .u64 (vF y.B))) (j : Nat) (u : Value) (hj : [Value.int .u64 (vF y.A), Value.int .u64 (vF y.B)][j]? = some u) : w.cell? ((⟨g, 0, none⟩ : Addr).add j) = some u := by
  rw [add_base]
  match j, hj with
  | 0, hj => injection hj with hj; subst hj; exact hy.c0
  | 1, hj => injection hj with hj; subst hj; exact hy.c1
  | j + 2, hj => simp at hj
theorem cells_ones {y : E2} (u : Value) (hu : u ∈ [Value.int .u64 (vF y.A), Value.int .u64 (vF y.B)]) : u.oneCell' = true := by
  simp at hu
  rcases hu with rfl | rfl <;> rfl
/-- what the cells of Line hold when the coordinates pre have come -/
def LnI (w : World) (b7 g n : Nat) (pre : List E2) (W : World) : Prop :=
  (∃ v, Boxed W b7 22 v ∧ W.ownsRow (w.heap.size + 1) 27 2 v pre.length (cellsE pre) ∧ v = .slice (some ⟨g, 0, none⟩) pre.length n) ∧ Below w.heap.size w W
theorem LnI.own (w : World) (b7 g n B : Nat) (hB : w.heap.size ≤ B) : OwnFrom B (LnI w b7 g n) :=
  OwnFrom.and (Own.from (holdsRow_own _ _ _ _ _ List.length cellsE (fun s v => v = .slice (some ⟨g, 0, none⟩) s.length n)) _) (ownFrom_below (Nat.le_refl _) hB)

set_option maxRecDepth 100000 in
set_option maxHeartbeats 4000000 in
theorem mleLine_any (A : Option Addr) (n c : Nat) (xs : List E2) (B : Option Addr) (m d : Nat) (ys : List E2) (r : E2) (w : World) (h : Sl w A n c xs) (h' : Sl w B m d ys) (hnm : n = m) (hn : n ≤ 65536) :
    Calls Try.prog 56 #[.slice A n c, .slice B m d, .agg #[.int .u64 (vF r.A), .int .u64 (vF r.B)]] w fun e w' => ∃ A' c', e = .returned (.slice A' n c') ∧ Sl w' A' n c' (lineE xs ys r) ∧ Below w.heap.size w w' := by
  subst hnm
  have HX := Lib.hid h
  have HY := Lib.hid h'
  clear h h'
  obtain ⟨i, hi, hz, hs2, hb⟩ := info_parts ext_info
  refine (callsIn_wide (n := 3)).1 ?_
  refine callsIn_of_wp_marks Try.func56 rfl trivial ?_ rfl
  simp only [Try.ntmps56, List.size_toArray, List.length_cons, List.length_nil, Nat.reduceAdd, Nat.reduceSub, Array.replicate_succ, Array.replicate_zero, List.push_toArray, List.append_toArray, List.nil_append, List.cons_append]
  gi_wp2_with (first
    | (gi_at_make; refine wpListIn_make_own _ rfl (.const (.int .i64 0)) (.tmp 10) 22 rfl (w.heap.size + 1) 27 i (.agg #[.int .u64 0, .int .u64 0]) 2 Try.underlying22 hi hz hs2 .i64 .i64 (n : Int) n rfl rfl rfl (by rw [hb]; omega) (by unfold maxLen; omega) (by simp) ?_; intro V1 hown1 hg1; rw [World.size_alloc] at hown1; have HO1 := Lib.hid hown1; have HB1 := Lib.hid (below_grown0 (w0 := w) ((Below.refl _ _).alloc (Nat.le_refl _) _) hg1); have HR1 := Lib.hid (show Two V1 w.heap.size 27 (.int .u64 (vF r.A)) (.int .u64 (vF r.B)) from (hg1.block _ (by simp) (by simp)).trans (Two.new w 27 (.int .u64 (vF r.A)) (.int .u64 (vF r.B)))); have k0 := cell_alloc HR1.out.c0 (.cells #[.slice (some ⟨w.heap.size + 1, 0, none⟩) 0 n] 22); have k1 := cell_alloc HR1.out.c1 (.cells #[.slice (some ⟨w.heap.size + 1, 0, none⟩) 0 n] 22); clear hown1 hg1)
    | (refine ⟨trivial, ?_⟩; gi_at_call 65; refine (callsIn_wide.2 (between_any _ _)).mono ?_; rintro e W1 ⟨rfl, rfl⟩)
    | (refine ⟨trivial, ?_⟩; gi_at_call 88; refine (callsIn_wide.2 (combine_any _ _ _ _ _ _ _ _ _)).mono ?_; rintro e W2 ⟨rfl, rfl⟩))
  clear k0 k1
  have hgb : w.heap.size + 1 < V1.heap.size := (World.ownsRow.lt HO1.out _ (by simp [Value.ownBlock])).2
  refine wpIn_named (fun W => LnI w V1.heap.size (w.heap.size + 1) n [] W ∧ Boxes w (V1.heap.size + 1 + 1) (V1.heap.size + 1 + 1 + 1) (V1.heap.size + 1 + 1 + 1 + 1) (.slice A n c) (.slice B n d) (.func (.func 94) #[] #[.pointer (some ⟨V1.heap.size + 1, 0, none⟩)]) (fun W => Two W (V1.heap.size + 1) 27 (.int .u64 (vF r.A)) (.int .u64 (vF r.B))) W ∧ V1.heap.size + 1 + 1 + 1 + 1 < W.heap.size)
    ⟨⟨⟨_, ((((Boxed.new V1 22 (.slice (some ⟨w.heap.size + 1, 0, none⟩) 0 n)).alloc _).alloc _).alloc _).alloc _, ownsRow_keep HO1.out ((((((Below.refl _ _).alloc (Nat.le_refl _) _).alloc (by simp) _).alloc (by simp; omega) _).alloc (by simp; omega) _).alloc (by simp; omega) _), by simp⟩, (((((HB1.out.alloc (by omega) _).alloc (by simp; omega) _).alloc (by simp; omega) _).alloc (by simp; omega) _).alloc (by simp; omega) _)⟩,
      ⟨(((((HB1.out.alloc (by omega) _).alloc (by simp; omega) _).alloc (by simp; omega) _).alloc (by simp; omega) _).alloc (by simp; omega) _), ((one_at (by simp)).alloc _).alloc _, (one_at (by simp)).alloc _, one_at (by simp), (((two_at (by simp)).alloc _).alloc _).alloc _⟩, by simp⟩ ?_
  rintro W ⟨hI, hG, hsz⟩
  have HI := Lib.hid hI
  have HG := Lib.hid hG
  clear hI hG HO1 HB1 HR1
  generalize hb7 : V1.heap.size = b7 at *
  clear hb7
  have hwW : w.heap.size ≤ W.heap.size := by omega
  refine wpIn_rangeFunc_ownH rfl (by omega) (gf := 109) (lb := #[.pointer (some ⟨b7 + 1 + 1, 0, none⟩), .pointer (some ⟨b7 + 1 + 1 + 1, 0, none⟩), .pointer (some ⟨b7 + 1 + 1 + 1 + 1, 0, none⟩)]) rfl trivial (enters_of Try.func109 (by kernel_rfl) rfl)
    (combine_btw w A n c xs B n d ys HX.out HY.out rfl (b7 + 1 + 1) (b7 + 1 + 1 + 1) (b7 + 1 + 1 + 1 + 1) (b7 + 1) r W HG.out) (fun h k g => k (h g)) (boxes_put (w := W) hwW (fun X Y row hx hg hr => own_two (b7 + 1) _ (fun _ : Unit => _) (fun _ => _) () X Y row hx hg hr)) (Below.refl _ _) (fun _ => rfl)
    (LnI w b7 (w.heap.size + 1) n) (fun _ _ _ => False) (LnI.own w b7 _ n _ hwW) (fun _ _ _ _ _ hs _ _ => hs) HI.out
    (fun x a' W' => ∃ b8, a' = { tmps := #[.slice A n c, .slice B n d, .agg #[.int .u64 (vF r.A), .int .u64 (vF r.B)], undef, undef, .pointer (some ⟨w.heap.size, 0, none⟩), .slice none 0 0, .pointer (some ⟨b7, 0, none⟩), .pointer (some ⟨b8, 0, none⟩), .slice A n c, .int .i64 (n : Int), .slice (some ⟨w.heap.size + 1, 0, none⟩) 0 n, .slice A n c, .slice B n d, .agg #[.int .u64 (vF r.A), .int .u64 (vF r.B)], .func (.func 94) #[] #[.pointer (some ⟨b7 + 1, 0, none⟩)], .func (.func 109) #[] #[.pointer (some ⟨b7 + 1 + 1, 0, none⟩), .pointer (some ⟨b7 + 1 + 1 + 1, 0, none⟩), .pointer (some ⟨b7 + 1 + 1 + 1 + 1, 0, none⟩)], .agg #[.int .u64 (vF x.A), .int .u64 (vF x.B)], undef, undef, undef, undef, undef], defers := [] } ∧ Two W' b8 27 (.int .u64 (vF x.A)) (.int .u64 (vF x.B))) ?_ ?assign ?body ?done ?stop
  case assign =>
    intro l pre x V K hI hK
    gi_wp2
    obtain ⟨⟨v, h7, hO, hv⟩, hB⟩ := hI
    exact hK _ _ ((KeepsOthers.alloc V _).from _) (fun h => h.later (fun _ _ h hb => h.keep hb) ((Below.refl _ _).alloc (Nat.le_refl _) _)) ⟨⟨v, h7.alloc _, ownsRow_keep hO ((Below.refl _ _).alloc (Nat.le_refl _) _), hv⟩, hB.alloc hB.size _⟩ ⟨V.heap.size, rfl, Two.new V _ _ _⟩
  case body =>
    clear HI HG
    rintro l pre x a' Wb hl hr ⟨⟨v, h7, hO, rfl⟩, hB⟩ ⟨b8, rfl, h8⟩ hlen
    have c7 := Boxed.cell h7
    have c80 := h8.c0
    have c81 := h8.c1
    have H7 := Lib.hid h7
    have HO := Lib.hid hO
    have HB := Lib.hid hB
    have hlt7 := h7.lt
    clear h7 h8 hO hB hl hr
    gi_wp2_with (gi_at_builtin; refine wpListIn_append_fits _ rfl (.tmp 18) (.tmp 20) 22 rfl (w.heap.size + 1) 27 i 2 Try.underlying22 hi hs2 (w.heap.size + 1) pre.length n (cellsE pre) rfl (ownsRow_keep HO.out ((Below.refl _ _).alloc (Nat.le_refl _) _)) ⟨Wb.heap.size, 0, none⟩ 1 1 [.int .u64 (vF x.A), .int .u64 (vF x.B)] rfl rfl (cells_two (Two.new Wb _ _ _)) cells_ones (by omega) ?_; intro W2 hown2 hg2; have HO2 := Lib.hid hown2; have HG2 := Lib.hid hg2; have H72 := Lib.hid ((Boxed.alloc H7.out (.cells #[.int .u64 (vF x.A), .int .u64 (vF x.B)] 27)).kept hg2 (by simp; omega)); have c72 := Boxed.cell H72.out; have f72 := Boxed.frozen H72.out; clear hown2 hg2)
    refine ⟨(((KeepsOthers.alloc Wb _).from _).trans (KeepsFrom.of_grownBy HG2.out (fun j e => by cases e; omega))).trans ((KeepsOthers.setCell _ _ _).from _), fun g => ?_, ⟨⟨_, Boxed.set _ H72.out, ?_, by simp⟩, ?_⟩⟩
    · have g3 := g.later (fun _ _ h hb => h.keep hb) ((Below.refl _ _).alloc (Nat.le_refl _) (.cells #[.int .u64 (vF x.A), .int .u64 (vF x.B)] 27))
      exact ⟨(below_of_grown g3.1 HG2.out (by omega) g3.1.size).setCell (by simp; omega) _, (g3.2.1.other HG2.out (by omega)).far _ (by simp; omega), (g3.2.2.1.other HG2.out (by omega)).far _ (by simp; omega), (g3.2.2.2.1.other HG2.out (by omega)).far _ (by simp; omega), (Two.other g3.2.2.2.2 HG2.out (by omega)).far _ (by simp)⟩
    · rw [List.length_append, cellsE_append]
      exact ownsRow_setCell HO2.out _ (by simp [Value.ownBlock]; omega)
    · exact (below_of_grown (HB.out.alloc HB.out.size _) HG2.out (by omega) (by have := HB.out.size; simp; omega)).setCell (by simp; omega) _
  case done =>
    rintro D zs W2 hD hzs ⟨⟨v, h7, hO, rfl⟩, hB2⟩ hK
    have hzl : zs.length = n := by rw [hzs, List.length_zipWith, ← HX.out.len, ← HY.out.len, Nat.min_self]
    have HZ := Lib.hid (show zs = lineE xs ys r from hzs)
    have c7 := Boxed.cell h7
    have HO := Lib.hid hO
    have HK := Lib.hid hK
    have HB := Lib.hid hB2
    have HD := Lib.hid hD
    clear HI HG h7 hO hK hB2 hD hzs HX HY
    gi_wp2
    refine ⟨by simp, .inl ⟨_, _, rfl, run_takeDeferred HK.out, ?_⟩⟩
    refine ⟨.slice (some ⟨w.heap.size + 1, 0, none⟩) n n, by simp [results, Try.f56, go_sem], ?_⟩
    have hO3 := ownsRow_putObj HO.out (.deferred none) HK.out rfl
    refine ⟨_, n, rfl, ?_, HB.out.trans (belowK_b (w := W) hwW _ D _ _ HD.out HK.out rfl rfl)⟩
    have hs := OwE.sl' (xs := zs) hO3
    rw [hzl, HZ.out] at hs
    exact hs
  case stop =>
    rintro D c pre W _ _ h _
    exact h.elim
  · intro x a' s X Y row hs hg hr
    obtain ⟨b6, ha, ht⟩ := hs
    exact ⟨b6, ha, own_two b6 _ (fun _ : Unit => _) (fun _ => _) () X Y row ht hg (fun r e => (hr r e).2)⟩
end

section
open Go.RowKit Gold

set_option maxHeartbeats 1000000 in
theorem mleEqIndex_any (i : Nat) (B : Option Addr) (m d : Nat) (ps : List E2) (w : World) (h : Sl w B m d ps) (hi : i ≤ 4611686018427387904) (hm : m ≤ 16) :
    Calls Try.prog 53 #[.int .i64 (i : Int), .slice B m d] w fun e w' => e = .returned (.agg #[.int .u64 (vF (eqW i ps).A), .int .u64 (vF (eqW i ps).B)]) ∧ Below w.heap.size w w' := by
  have HP := Lib.hid h
  have HL := Lib.hid h.len
  clear h
  go_enter Try.func53, Try.ntmps53
  go_wp2_with fail
  refine calls_named1 (fun V hbV g0 hzV => ?_)
  have HZ := Lib.hid (show Two V w.heap.size 27 (.int .u64 0) (.int .u64 0) from g0)
  have HB := Lib.hid hbV
  clear g0 hbV
  refine (vertex_any i m V hi (by omega)).mono ?_
  rintro e W1 ⟨g, rfl, hr, hb⟩
  have HZ1 := Lib.hid (HZ.out.keep hb)
  have HB1 := Lib.hid (below_step HB.out hb)
  have HV1 := Lib.hid (hr.slc (n := m) (c := m) (vtx_length i m).symm (Nat.le_refl _) (by omega))
  clear hr hb HZ HB
  go_wp2_with fail
  refine (mleEq_any _ _ _ _ _ _ _ _ _ HV1.out (HP.out.keep HB1.out) rfl).mono ?_
  rintro e W2 ⟨rfl, hb⟩
  have HZ2 := Lib.hid (HZ1.out.keep hb)
  have HB2 := Lib.hid (below_step HB1.out hb)
  clear hb
  rw [eqE_vtx' ps i m HL.out.symm]
  have c0 := HZ2.out.c0
  have c1 := HZ2.out.c1
  have f0 := HZ2.out.f0
  have f1 := HZ2.out.f1
  go_wp2_with fail
  exact bodyPost_ret (v := .agg #[.int .u64 (vF (eqW i ps).A), .int .u64 (vF (eqW i ps).B)]) (by simp [results, Try.results53, go_sem, c0, c1]) rfl ⟨rfl, (HB2.out.setCell (Nat.le_refl _) _).setCell (Nat.le_refl _) _⟩

set_option maxHeartbeats 1000000 in
theorem mleAccumulate_any (v : E2) (i : Nat) (dl : E2) (B : Option Addr) (m d : Nat) (ps : List E2) (w : World) (h : Sl w B m d ps) (hi : i ≤ 4611686018427387904) (hm : m ≤ 16) :
    Calls Try.prog 55 #[.agg #[.int .u64 (vF v.A), .int .u64 (vF v.B)], .int .i64 (i : Int), .agg #[.int .u64 (vF dl.A), .int .u64 (vF dl.B)], .slice B m d] w fun e w' => e = .returned (.agg #[.int .u64 (vF (v + dl * eqW i ps).A), .int .u64 (vF (v + dl * eqW i ps).B)]) ∧ Below w.heap.size w w' := by
  have HP := Lib.hid h
  clear h
  go_enter Try.func55, Try.ntmps55
  go_wp2_with fail
  refine wp_named3 (fun W hB g0 g1 g2 hz => ?_)
  have HB := Lib.hid hB
  have c20 := Two.c0 g2; have c21 := Two.c1 g2; have f20 := Two.f0 g2; have f21 := Two.f1 g2
  have l00 := Later.cell (Two.c0 g0); have l01 := Later.cell (Two.c1 g0); have l10 := Later.cell (Two.c0 g1); have l11 := Later.cell (Two.c1 g1)
  clear hB g0 g1 g2
  refine wp_later_tail 7 (by kernel_rfl) (by kernel_rfl) ?_
  simp only [List.take_succ_cons, List.take_zero, List.drop_succ_cons, List.drop_zero]
  repeat (go_big_quiet_step (first
    | (go_at_call 53; with_reducible exact Calls.later (mleEqIndex_any i B m d ps _ ((HP.out.keep HB.out).keep (Later.below _)) hi hm))
    | (go_at_call 15; with_reducible exact Calls.later (extMul_any dl (eqW i ps) _))
    | (go_at_call 14; with_reducible exact Calls.later (extAdd_any v (dl * eqW i ps) _))))
  refine wpQuiet_nil ?_
  intro X
  clear l00 l01 l10 l11
  have hb := X.below
  replace f20 := free_after hb c20 f20; replace f21 := free_after hb c21 f21; replace c20 := cell_after hb c20; replace c21 := cell_after hb c21
  replace HB := Lib.hid (HB.out.trans (hb.mono HB.out.size))
  clear hb
  go_wp2
  exact bodyPost_ret (v := .agg #[.int .u64 (vF (v + dl * eqW i ps).A), .int .u64 (vF (v + dl * eqW i ps).B)]) (by simp [results, Try.results55, go_sem, c20, c21]) rfl ⟨rfl, (HB.out.setCell (by simp; try omega) _).setCell (by simp; try omega) _⟩
end

end Go.Proofs.Ytipbfonlcmegdaa
