/- Contracts of package mle and of its reference in the form that walks of drawn regions take: slices by what they read as; makers of words; examples; no conditions but lengths. -/
import Derived.Test.YtipbfonlcmegdaaMre
import Derived.Test.YtipbfonlcmegdaaMrc
import Derived.Test.YtipbfonlcmegdaaMpb
import Derived.Test.YtipbfonlcmegdaaMpg
import Derived.Test.YtipbfonlcmegdaaMpj
import Derived.Test.YtipbfonlcmegdaaZst
import Derived.Test.YtipbfonlcmegdaaLex
namespace Go.Proofs.Ytipbfonlcmegdaa
set_option maxRecDepth 8000
open Go.RowKit Gold

theorem mleBind_sl (A : Option Addr) (n c : Nat) (xs : List E2) (r : E2) (m : Nat) (w : World) (h : Sl w A n c xs) (hn : n ≤ 65536) (h0 : 0 < n) (hm : n / 2 = m) :
    Calls Try.prog 51 #[.slice A n c, .agg #[.int .u64 (vF r.A), .int .u64 (vF r.B)]] w fun e w' => ∃ A' c', e = .returned (.slice A' m c') ∧ Sl w' A' m c' (bndE xs r) ∧ Below w.heap.size w w' :=
  (mleBind_any A n c xs r w h hn h0).mono fun _ _ ⟨g, c', he, hT, _, hc, ht, hb⟩ => ⟨_, c', hm ▸ he, hm ▸ hT.sl (by rw [bndE_length, ← h.len]) hc ht, hb⟩
theorem rBind_sl (A : Option Addr) (n c : Nat) (xs : List E2) (r : E2) (m : Nat) (w : World) (h : Sl w A n c xs) (hn : n ≤ 65536) (hm : n / 2 = m) :
    Calls Try.prog 35 #[.slice A n c, .agg #[.int .u64 (vF r.A), .int .u64 (vF r.B)]] w fun e w' => ∃ A' c', e = .returned (.slice A' m c') ∧ Sl w' A' m c' (bndE xs r) ∧ Below w.heap.size w w' :=
  (rBind_any A n c xs r w h hn).mono fun _ _ ⟨A', c', he, hs, hb⟩ => ⟨A', c', hm ▸ he, hm ▸ hs, hb⟩
theorem mleEqTable_sl (B : Option Addr) (n d : Nat) (ps : List E2) (N : Nat) (w : World) (h : Sl w B n d ps) (hn : n ≤ 16) (hN : 2 ^ n = N) :
    Calls Try.prog 52 #[.slice B n d] w fun e w' => ∃ A' c', e = .returned (.slice A' N c') ∧ Sl w' A' N c' (eqT ps) ∧ Below w.heap.size w w' :=
  (mleEqTable_any B n d ps w h hn).mono fun _ _ ⟨g, M, he, hM, hr, hb⟩ => by
    have e1 : M = N := hM.trans hN
    subst e1
    have hl := h.len
    exact ⟨_, M, he, hr.slc (by rw [eqT_length, ← hl]; exact hM) (Nat.le_refl _) (by have : 2 ^ n ≤ 65536 := Nat.pow_le_pow_right (n := 2) (by omega) hn; omega), hb⟩
theorem mleLift_sl (A : Option Addr) (n c : Nat) (xs : List F) (w : World) (h : Sf w A n c xs) (hn : n ≤ 65536) :
    Calls Try.prog 57 #[.slice A n c] w fun e w' => ∃ A' c', e = .returned (.slice A' n c') ∧ Sl w' A' n c' (xs.map E2.ofF) ∧ Below w.heap.size w w' :=
  (mleLift_any A n c xs w h hn).mono fun _ _ ⟨g, he, hr, hb⟩ => ⟨_, n, he, hr.slc (by rw [List.length_map]; exact h.len) (Nat.le_refl _) (by omega), hb⟩
theorem mleEqIndex_at (i : Int) (k : Nat) (B : Option Addr) (m d : Nat) (ps : List E2) (w : World) (h : Sl w B m d ps) (e : (k : Int) = i) (hi : k ≤ 4611686018427387904) (hm : m ≤ 16) :
    Calls Try.prog 53 #[.int .i64 i, .slice B m d] w fun e w' => e = .returned (.agg #[.int .u64 (vF (eqW k ps).A), .int .u64 (vF (eqW k ps).B)]) ∧ Below w.heap.size w w' := e ▸ mleEqIndex_any k B m d ps w h hi hm
theorem rEqIndex_at (i : Int) (k : Nat) (B : Option Addr) (m d : Nat) (ps : List E2) (w : World) (h : Sl w B m d ps) (e : (k : Int) = i) (hi : k ≤ 4611686018427387904) (hm : m ≤ 16) :
    Calls Try.prog 77 #[.int .i64 i, .slice B m d] w fun e w' => e = .returned (.agg #[.int .u64 (vF (eqW k ps).A), .int .u64 (vF (eqW k ps).B)]) ∧ Below w.heap.size w w' := e ▸ rEqIndex_any k B m d ps w h hi hm
theorem mleAccumulate_at (v : E2) (i : Int) (k : Nat) (dl : E2) (B : Option Addr) (m d : Nat) (ps : List E2) (w : World) (h : Sl w B m d ps) (e : (k : Int) = i) (hi : k ≤ 4611686018427387904) (hm : m ≤ 16) :
    Calls Try.prog 55 #[.agg #[.int .u64 (vF v.A), .int .u64 (vF v.B)], .int .i64 i, .agg #[.int .u64 (vF dl.A), .int .u64 (vF dl.B)], .slice B m d] w fun e w' => e = .returned (.agg #[.int .u64 (vF (v + dl * eqW k ps).A), .int .u64 (vF (v + dl * eqW k ps).B)]) ∧ Below w.heap.size w w' := e ▸ mleAccumulate_any v k dl B m d ps w h hi hm
theorem rVertex_at (i : Int) (k n : Nat) (w : World) (e : (k : Int) = i) (hi : k ≤ 4611686018427387904) (hn : n ≤ 62) :
    Calls Try.prog 102 #[.int .i64 i, .int .i64 (n : Int)] w fun e w' => ∃ A c, e = .returned (.slice A n c) ∧ Sl w' A n c (vtx k n) ∧ Below w.heap.size w w' := e ▸ rVertex_any k n w hi hn

set_option maxHeartbeats 1000000 in
theorem same5_yes (A : Option Addr) (n c : Nat) (B : Option Addr) (m d : Nat) (xs : List E2) (w : World) (h : Sl w A n c xs) (h' : Sl w B m d xs) :
    Calls Try.prog 50 #[.slice A n c, .slice B m d] w fun e w' => e = .returned (.bool true) ∧ Below w.heap.size w w' := by
  have hm : m = n := h'.len.trans h.len.symm
  subst hm
  have hnc := h.cap
  have hct := h.top
  have hnd := h'.cap
  have hdt := h'.top
  have HS := Lib.hid h
  have HS' := Lib.hid h'
  clear h h'
  go_enter Try.func50, Try.ntmps50
  go_wp2_with fail
  go_loopw [5] (fun s wr => ∃ k : Nat, k ≤ m ∧ s = .int .i64 k ∧ Below w.heap.size w wr) (fun s _ => m - (intOf s).toNat)
  case atStart => exact ⟨0, Nat.zero_le _, rfl, Below.refl _ _⟩
  case round =>
    obtain ⟨k, hk, rfl, hb⟩ := hrel
    have HB := Lib.hid hb
    clear hb
    by_cases hlt : k < m
    · obtain ⟨x, hx⟩ := HS.out.get hlt
      obtain ⟨ad, rfl, h0, h1⟩ := HS.out.at_ hx
      obtain ⟨ad2, rfl, h2, h3⟩ := HS'.out.at_ hx
      have l0 := Later.cell (cell_keep h0 HB.out)
      have l1 := Later.cell (cell_keep h1 HB.out)
      have l2 := Later.cell (cell_keep h2 HB.out)
      have l3 := Later.cell (cell_keep h3 HB.out)
      clear hx h0 h1 h2 h3
      go_wp2_with fail
      refine wp_later_lex (by kernel_rfl) (lexOK_of (by kernel_rfl) (by kernel_rfl)) ?_
      repeat (go_big_quiet_step (fail))
      refine wpQuiet_nil ?_
      intro X
      clear l0 l1 l2 l3
      have HB1 := Lib.hid (below_step HB.out X.below)
      go_wp2_with fail
      go_roundw
      case rel => exact ⟨k + 1, by omega, by go_num, HB1.out⟩
      case measure => simp [intOf]; omega
    · go_wp2_with fail
      go_ret
      exact ⟨rfl, HB.out⟩

/-! ### Moves of drawn regions: slices of words -/
section
variable {ops : Array Oper} {w0 : World} {Q : Exit → Act → World → Prop}
theorem run_buildW2 {ev : Operand → Value} {o : Oper} {p q : Operand} (y z : Int) (ho : o.op = .buildSlice 83 2 #[(0, p), (1, q)]) (hp : ev p = .int .u64 y) (hq : ev q = .int .u64 z) (w : World) :
    (execOp ev o).run Try.prog w = .ok (.value (.slice (some ⟨w.heap.size, 0, none⟩) 2 2)) (w.alloc (.cells #[.int .u64 y, .int .u64 z] 25)) := by
  unfold execOp
  rw [ho]
  simp only [List.map_toArray, List.map_cons, List.map_nil, hp, hq]
  go_simp
theorem wpF_words2 {o : Oper} {l : List Oper} {a : Act} {w : World} {p q : Operand} (y z : F) (u v : Int) (ho : o.op = .buildSlice 83 2 #[(0, p), (1, q)]) (hp : a.eval p = .int .u64 u) (hq : a.eval q = .int .u64 v) (hu : u = vF y) (hv : v = vF z) (hw : Region.wanted o (yielded ops a.tmps) = true)
    (h : ∀ b V, Below w.heap.size w V → Sf V (some ⟨b, 0, none⟩) 2 2 [y, z] → wpF Try.prog ops w0 Q l (a.put o.dst (.slice (some ⟨b, 0, none⟩) 2 2)) V) : wpF Try.prog ops w0 Q (o :: l) a w := by
  subst hu
  subst hv
  have hm : makerOp o = true := by unfold makerOp; rw [ho]
  have hs : stillOp o = false := by unfold stillOp; rw [ho]
  have hvv : ∀ b, mkVal o b = .slice (some ⟨b, 0, none⟩) 2 2 := fun b => by unfold mkVal; rw [ho]
  refine wpF_make (.cells #[.int .u64 (vF y), .int .u64 (vF z)] 25) hs hm hw (fun W => ?_) (fun b V hb hg _ => ?_)
  · rw [hvv]
    exact run_buildW2 (vF y) (vF z) ho hp hq W
  · rw [hvv]
    exact h b V hb (RowF.sl (xs := [y, z]) hg rfl (by omega) (by omega))
end

theorem rFromNd5 (n : Int) (w : World) (h0 : -9223372036854775808 ≤ n) (h1 : n < 9223372036854775808) : Calls Try.prog 47 #[.int .i64 n] w fun e w' => e = .returned (.agg #[.int .u64 (vF (ndZ n).A), .int .u64 (vF (ndZ n).B)]) ∧ Below w.heap.size w w' := rFromInt_any n w h0 h1
/-! ### Examples -/
theorem san_eval : mleE [ndZ (1), ndZ (2), ndZ (5), ndZ (9)] [ndZ (2), ndZ (3)] = ndZ (33) := by decide +kernel
theorem san_one : mleE [ndZ (1)] [] = ndZ (1) := by decide +kernel
theorem san_bind : bndE [ndZ (1), ndZ (2), ndZ (5), ndZ (9)] (ndZ (2)) = [ndZ (3), ndZ (13)] := by decide +kernel
theorem san_tab : eqT [ndZ (2), ndZ (3)] = [ndZ (2), ndZ (-4), ndZ (-3), ndZ (6)] := by decide +kernel
theorem san_tab0 : eqT [] = [ndZ (1)] := by decide +kernel
theorem san_idx : eqW 2 [ndZ (2), ndZ (3)] = ndZ (-3) := by decide +kernel
theorem san_eq : eqE [ndZ (2), ndZ (3)] [ndZ (2), ndZ (3)] = ndZ (65) := by decide +kernel
theorem san_acc : ndZ (33) + ndZ (2) * eqW 3 [ndZ (2), ndZ (3)] = ndZ (45) := by decide +kernel
theorem san_line : lineE [ndZ (1), ndZ (5)] [ndZ (4), ndZ (3)] (ndZ (2)) = [ndZ (7), ndZ (1)] := by decide +kernel
theorem san_lift : ([7, 0] : List F).map E2.ofF = [ndZ (7), ndZ (0)] := by decide +kernel
theorem san_pow3 (K : Nat) (h : K ≤ 16) : 3 ≠ 2 ^ K := by
  have k : ∀ k : Fin 17, 3 ≠ 2 ^ k.val := by decide
  exact k ⟨K, by omega⟩
theorem san_pow0 (K : Nat) (_ : K ≤ 16) : 0 ≠ 2 ^ K := by have := Nat.two_pow_pos K; omega
theorem san_bad : allV [(18446744069414584321, 0)] = false := by decide
theorem vF_seven : (7 : Int) = vF (7 : F) := by decide
theorem vF_nil : (0 : Int) = vF (0 : F) := by decide
theorem mleE_eqT {ps ss : List E2} (h : ps.length = ss.length) : mleE (eqT ps) ss = eqE ps ss := by
  rw [← mleF_eqW ps ss h]
  unfold mleE eqT
  refine mleF_congr fun i hi => ?_
  rw [cfE_tabE, if_pos (by rw [h]; exact hi)]
theorem mleE_vtx {xs : List E2} {n i : Nat} (h : i < 2 ^ n) : mleE xs (vtx i n) = cfE xs i := mleF_vtx n i _ h
/-- a query in its box -/
def Box4 (W : World) (b : Nat) (t : TypeId) (v0 v1 v2 v3 : Value) : Prop := W.heap[b]? = some (.cells #[v0, v1, v2, v3] t (0, 0))
section
variable {W W1 : World} {b : Nat} {t : TypeId} {v0 v1 v2 v3 : Value}
theorem Box4.keep (h : Box4 W b t v0 v1 v2 v3) (hb : Below W.heap.size W W1) : Box4 W1 b t v0 v1 v2 v3 := heap_keep h hb
theorem Box4.c0 (h : Box4 W b t v0 v1 v2 v3) : W.cell? ⟨b, 0, none⟩ = some v0 := by simp [World.cell?, show W.heap[b]? = _ from h]
theorem Box4.c1 (h : Box4 W b t v0 v1 v2 v3) : W.cell? ⟨b, 1, none⟩ = some v1 := by simp [World.cell?, show W.heap[b]? = _ from h]
theorem Box4.c2 (h : Box4 W b t v0 v1 v2 v3) : W.cell? ⟨b, 2, none⟩ = some v2 := by simp [World.cell?, show W.heap[b]? = _ from h]
theorem Box4.c3 (h : Box4 W b t v0 v1 v2 v3) : W.cell? ⟨b, 3, none⟩ = some v3 := by simp [World.cell?, show W.heap[b]? = _ from h]
end
end Go.Proofs.Ytipbfonlcmegdaa
