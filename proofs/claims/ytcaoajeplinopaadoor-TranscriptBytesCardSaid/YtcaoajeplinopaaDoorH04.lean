/- Several texts in one: Shf, Shg, Shj, Shh, Shi, Shk, Shl, Shp, Shq. -/
import Derived.Test.YtcaoajeplinopaaDoorH03
import Derived.RangeFuncNested
import Derived.RangeFuncBound
import Derived.RangeFuncCalls
import Derived.RangeFuncLeaves
import Derived.RangeFuncBox
import Derived.Shelf.Abstract
import Derived.Shelf.RegionOpen
import Derived.OwnWalkIn
import Derived.TacticsInMore
import Derived.LoopNIn
import Derived.LoopIn
import Derived.Laws.EntriesVeiled
import Derived.Sort.CutIn
import Derived.Laws.CopyOwn
namespace Go.Proofs.YtcaoajeplinopaaDoor
set_option linter.unusedVariables false
set_option linter.unusedSimpArgs false
set_option maxRecDepth 8000
open Go.RowKit
set_option maxHeartbeats 2000000 in
theorem padded_any (A : Option Addr) (n c : Nat) (Ps : List (List Nat)) (w : World) (h : Pb w A n c Ps) (hn1 : 1 ≤ n) (hn : n ≤ 1000) (hL : sumL Ps ≤ 140737488353000) :
    Calls Tryd.prog 66 #[.slice A n c] w fun e w' => ∃ g c', e = .returned (.slice (some ⟨g, 0, none⟩) (n + 1) c') ∧ Pb w' (some ⟨g, 0, none⟩) (n + 1) c' (Ps ++ [padN (sumL Ps)]) ∧ Below w.heap.size w w' := by
  have hcap := h.cap
  have htop := h.top
  have HS := Lib.hid h
  clear h
  go_enter Tryd.func66, Tryd.ntmps66
  go_wp2_with fail
  go_loopw [3, 8] (fun s i wr => ∃ k : Nat, k ≤ n ∧ s = .int .u64 ((sumL (Ps.take k) : Nat) : Int) ∧ i = .int .i64 k ∧ wr = w) (fun _ i _ => n - (intOf i).toNat)
  case atStart => exact ⟨0, by omega, rfl, rfl, rfl⟩
  case round =>
    obtain ⟨k, hk, rfl, rfl, rfl⟩ := hrel
    by_cases hlt : k < n
    · have hk1 : (k : Int) < (n : Int) := by omega
      have hk0 : (0 : Int) ≤ (k : Int) := by omega
      obtain ⟨p, hp⟩ : ∃ p, Ps[k]? = some p := ⟨Ps[k]'(by have := HS.out.len; omega), List.getElem?_eq_getElem _⟩
      obtain ⟨ad, B, m, d, rfl, hc, hs⟩ := HS.out.cells k p hp
      have hst := sumL_take hp
      have hsl := sumL_le Ps (k + 1)
      have hml := hs.len
      rw [← hml] at hst
      have HX := Lib.hid hst
      have hm : m ≤ 140737488353000 := by omega
      have hm2 : sumL (Ps.take k) + m ≤ 140737488353000 := by omega
      clear hst hsl hml hs hp
      generalize sumL (Ps.take k) = s at *
      go_wp2_with fail
      go_roundw
      case rel => exact ⟨k + 1, by omega, by rw [HX.out]; go_num, by go_num, trivial⟩
      case measure => simp [intOf]; omega
    · obtain rfl : k = n := by omega
      have hts : Ps.take k = Ps := List.take_of_length_le (by have := HS.out.len; omega)
      rw [hts]
      clear hts
      generalize hss : sumL Ps = s at *
      go_upto_region 7 with fail
      obtain ⟨ad, rfl⟩ : ∃ ad, A = some ad := by
        obtain ⟨p, hp⟩ : ∃ p, Ps[0]? = some p := ⟨Ps[0]'(by have := HS.out.len; omega), List.getElem?_eq_getElem _⟩
        obtain ⟨ad, _, _, _, e, _⟩ := HS.out.cells 0 _ hp
        exact ⟨ad, e⟩
      refine wp_heldB wr.heap.size (by kernel_rfl) (lexOK_of (by kernel_rfl) (by kernel_rfl)) (chainOK_of (by kernel_rfl)) (fun W hbW hSW => ?_)
      have HSl := Lib.hid (HS.out.keep hbW)
      have HBW := Lib.hid hbW
      have HSW := Lib.hid hSW
      have hz0 := hbW.size
      clear hbW hSW
      refine wpHeld_seg 7 HSW.out (by kernel_rfl) ?_
      simp only [List.take_succ_cons, List.take_zero, List.drop_succ_cons, List.drop_zero]
      repeat (go_big_quiet_step (fail))
      refine wpQuiet_nil ?_
      refine wpHeld_call 70 Tryd.func70 (by kernel_rfl) (by kernel_rfl) _ _ #[.int .u64 (s : Int)] rfl (by kernel_rfl) (by kernel_rfl) ?_
      refine (padding_any s _ hL).mono ?_
      rintro e W1 ⟨rfl, hr, hb⟩
      have hz1 := hb.size
      have HR1 := Lib.hid (hr.all (padN_lt s) (n := zerosN s + 9) (c := zerosN s + 9) (padN_length s).symm (Nat.le_refl _) (by have := zerosN_le s; omega))
      have HSl1 := Lib.hid (HSl.out.keep hb)
      have HB1 := Lib.hid (bel_step HBW.out hb)
      have HS1 := Lib.hid (LaterB.step HSW.out (hb.mono hz0))
      clear hb hr
      refine ⟨_, rfl, HS1.out, ?_⟩
      simp only [Act.put, List.setIfInBounds_toArray, List.set_cons_zero, List.set_cons_succ]
      have hb2 : Below W1.heap.size W1 (W1.alloc (.cells #[.slice (some ⟨W.heap.size, 0, none⟩) (zerosN s + 9) (zerosN s + 9)] 22)) := (Below.refl _ _).alloc (Nat.le_refl _) _
      refine wpHeld_run _ _ (by kernel_rfl) (by kernel_rfl) (run_buildP1 _ _ _ rfl rfl _) (LaterB.step HS1.out (hb2.mono (by omega))) ?_
      simp only [Act.put, List.setIfInBounds_toArray, List.set_cons_zero, List.set_cons_succ]
      have HO2 := Lib.hid (One.new W1 22 (.slice (some ⟨W.heap.size, 0, none⟩) (zerosN s + 9) (zerosN s + 9)))
      have HR2 := Lib.hid (HR1.out.keep hb2)
      have HSl2 := Lib.hid (HSl1.out.keep hb2)
      have HB2 := Lib.hid (bel_step HB1.out hb2)
      have HS2 := Lib.hid (LaterB.step HS1.out (hb2.mono (show wr.heap.size ≤ W1.heap.size by omega)))
      have hz2 := hb2.size
      clear hb2
      generalize W1.alloc (.cells #[.slice (some ⟨W.heap.size, 0, none⟩) (zerosN s + 9) (zerosN s + 9)] 22) = W2 at *
      have hpk : Pb W2 (some ad) k k Ps := ⟨HSl2.out.len, Nat.le_refl _, by omega, (fun e => by cases e), HSl2.out.cells⟩
      refine wpHeld_op (by kernel_rfl) (by kernel_rfl) ?_
      refine hOp_appendP (.tmp 23) (.tmp 26) rfl hpk W1.heap.size _ _ _ _ rfl rfl HO2.out HR2.out hn ?_
      intro c' W3 hb3 hp3
      have HP3 := Lib.hid hp3
      have HB3 := Lib.hid (bel_step HB2.out hb3)
      have HS3 := Lib.hid (LaterB.step HS2.out (hb3.mono (by omega)))
      clear hb3 hp3 hpk
      refine ⟨HS3.out, ?_⟩
      simp only [Act.put, List.setIfInBounds_toArray, List.set_cons_zero, List.set_cons_succ]
      refine wpHeld_seg 1 HS3.out (by kernel_rfl) ?_
      simp only [List.take_succ_cons, List.take_zero, List.drop_succ_cons, List.drop_zero]
      repeat (go_big_quiet_step (fail))
      refine wpQuiet_nil (wpHeld_nil ?_)
      go_wp2_with fail
      go_ret
      exact ⟨_, c', rfl, by rw [hss]; exact HP3.out, HB3.out⟩
end Go.Proofs.YtcaoajeplinopaaDoor

namespace Go.Proofs.YtcaoajeplinopaaDoor
set_option linter.unusedVariables false
set_option linter.unusedSimpArgs false
set_option maxRecDepth 8000
open Go.RowKit
open Go.Shelf

/-- portions that read alike in all worlds of a class -/
structure PbG (G : World → Prop) (A : Option Addr) (n c : Nat) (Ps : List (List Nat)) : Prop where
  len : n = Ps.length
  cap : n ≤ c
  top : c ≤ 9223372036854775807
  cells : ∀ (i : Nat) (p : List Nat), Ps[i]? = some p → ∃ ad B m d, A = some ad ∧ ∀ w, G w → w.cell? (ad.add i) = some (.slice B m d) ∧ Sb w B m d p
/-- B has all of A but for block x -/
def SameX (x : Nat) (A B : World) : Prop := A.heap.size ≤ B.heap.size ∧ ∀ b, b < A.heap.size → b ≠ x → B.heap[b]? = A.heap[b]?
theorem SameX.refl (x : Nat) (A : World) : SameX x A A := ⟨Nat.le_refl _, fun _ _ _ => rfl⟩
theorem SameX.below {x : Nat} {A B C : World} (h : SameX x A B) (hb : Below A.heap.size B C) : SameX x A C := ⟨Nat.le_trans h.1 hb.size, fun b hb1 hx => (hb.block b hb1).trans (h.2 b hb1 hx)⟩
theorem SameX.row {x : Nat} {A B : World} (h : SameX x A B) (cs : Array Value) : SameX x A (B.setRow x cs) :=
  ⟨by simpa [World.setRow] using h.1, fun b hb hx => by simp [World.setRow, Array.getElem?_modify, Ne.symm hx]; exact h.2 b hb hx⟩
theorem SameX.same {x : Nat} {A B C : World} (h : SameX x A B) (hs : B.heap.size ≤ C.heap.size) (e : ∀ b, b < A.heap.size → C.heap[b]? = B.heap[b]?) : SameX x A C := ⟨Nat.le_trans h.1 hs, fun b hb hx => (e b hb).trans (h.2 b hb hx)⟩
/-- what is no word of 32 bits lies outside a row of such words -/
theorem RowW.other {w : World} {t x : Nat} {ws : List Nat} (h : RowW w t x ws) {a : Addr} {v : Value} (hc : w.cell? a = some v) (hv : ∀ z, v ≠ .int .u32 z) : a.block ≠ x := by
  intro e
  subst e
  unfold RowW at h
  simp [World.cell?, h] at hc
  have hm := List.mem_of_getElem? hc.2
  simp [celW] at hm
  obtain ⟨z, _, rfl⟩ := hm
  exact hv _ rfl
theorem cell_same {x : Nat} {A B : World} (h : SameX x A B) {a : Addr} {v : Value} (hc : A.cell? a = some v) (hx : a.block ≠ x) : B.cell? a = some v :=
  (World.cell?_of_block (h.2 _ (World.block_lt_of_cell? A a hc) hx)).trans hc
theorem Sb.keepX {w B : World} {t x : Nat} {ws : List Nat} {A : Option Addr} {n c : Nat} {bs : List Nat} (h : Sb w A n c bs) (hr : RowW w t x ws) (hb : SameX x w B) : Sb B A n c bs :=
  ⟨h.len, h.cap, h.top, h.nil, h.byte, fun i z hz => by obtain ⟨ad, e, hc⟩ := h.cells i z hz; exact ⟨ad, e, cell_same hb hc (hr.other hc (fun _ e => by cases e))⟩⟩
theorem Pb.keepX {w : World} {t x : Nat} {ws : List Nat} {A : Option Addr} {n c : Nat} {Ps : List (List Nat)} (h : Pb w A n c Ps) (hr : RowW w t x ws) : PbG (SameX x w) A n c Ps :=
  ⟨h.len, h.cap, h.top, fun i p hp => by
    obtain ⟨ad, B, m, d, e, hc, hs⟩ := h.cells i p hp
    exact ⟨ad, B, m, d, e, fun W hW => ⟨cell_same hW hc (hr.other hc (fun _ e => by cases e)), hs.keepX hr hW⟩⟩⟩

theorem flat_drop {Ps : List (List Nat)} {k : Nat} {q : List Nat} (h : Ps[k]? = some q) (t : Nat) (ht : t ≤ q.length) : (Ps.flatten.drop (sumL (Ps.take k) + t)).take (q.length - t) = q.drop t := by
  obtain ⟨h1, e1⟩ := List.getElem?_eq_some_iff.1 h
  have e2 : Ps.flatten = (Ps.take k).flatten ++ (q ++ (Ps.drop (k + 1)).flatten) := by
    conv => lhs; rw [← List.take_append_drop k Ps, List.drop_eq_getElem_cons h1, e1]
    rw [List.flatten_append, List.flatten_cons]
  rw [e2, ← List.drop_drop]
  have e3 : ((Ps.take k).flatten ++ (q ++ (Ps.drop (k + 1)).flatten)).drop (sumL (Ps.take k)) = q ++ (Ps.drop (k + 1)).flatten := by
    unfold sumL
    exact List.drop_left
  rw [e3, List.drop_append_of_le_length ht, List.take_left' (by simp)]
/-- the next bytes of the message, out of what is left of a portion -/
theorem flat_next {Ps : List (List Nat)} {k i r t n : Nat} {q : List Nat} (h : Ps[k]? = some q) (ht : t + n ≤ q.length) (hp : 64 * i + r = sumL (Ps.take k) + t) :
    (Ps.flatten.drop (64 * i)).take r ++ (q.drop t).take n = (Ps.flatten.drop (64 * i)).take (r + n) := by
  rw [List.take_add, List.drop_drop, hp, ← flat_drop h t (by omega), List.take_take, Nat.min_eq_left (by omega)]
theorem getD_take {l : List Nat} {n j : Nat} (h : j < n) : (l.take n).getD j 0 = l.getD j 0 := by
  rw [List.getD_eq_getElem?_getD, List.getElem?_take_of_lt h, ← List.getD_eq_getElem?_getD]
theorem getD_drop' {l : List Nat} {n j : Nat} : (l.drop n).getD j 0 = l.getD (n + j) 0 := by
  rw [List.getD_eq_getElem?_getD, List.getElem?_drop, ← List.getD_eq_getElem?_getD]
theorem flat_blk {Ps : List (List Nat)} {k i t j : Nat} {q : List Nat} (h : Ps[k]? = some q) (ht : t + 64 ≤ q.length) (hp : 64 * i = sumL (Ps.take k) + t) (hj : j < 64) : (q.drop t).getD j 0 = blkF Ps.flatten i j := by
  have e := flat_next (n := 64) (r := 0) h ht (by omega)
  rw [List.take_zero, List.nil_append, Nat.zero_add] at e
  have e2 := congrArg (fun l : List Nat => l.getD j 0) e
  rw [getD_take hj, getD_take hj, getD_drop', getD_drop'] at e2
  rw [getD_drop', e2]
  rfl
theorem part_blk {p : List Nat} {i j : Nat} (hj : j < 64) : ((p.drop (64 * i)).take 64).getD j 0 = blkF p i j := by
  rw [getD_take hj, getD_drop']
  rfl
theorem OwB.same {w w' : World} {base : Nat} {v : Value} {n : Nat} {bs : List Nat} (h : OwB w base v n bs) (hk : ∀ b o, base ≤ b → w.heap[b]? = some o → w'.heap[b]? = some o) : OwB w' base v n bs := by
  refine ⟨⟨h.1.1, ?_⟩, h.2⟩
  rcases h.1.2 with hn | ⟨g, cap, cur, rfl, hbs, hgg, rest⟩
  · exact .inl hn
  · exact .inr ⟨g, cap, cur, rfl, hbs, hk g _ hbs hgg, rest⟩
theorem OwB.zero {w : World} {base : Nat} {g n c : Nat} {bs : List Nat} (h : OwB w base (.slice (some ⟨g, 0, none⟩) n c) n bs) : OwB w base (.slice (some ⟨g, 0, none⟩) 0 c) 0 [] := by
  refine ⟨⟨rfl, ?_⟩, fun _ h => by cases h⟩
  rcases h.1.2 with ⟨hn, _⟩ | ⟨g', cap, cur, e, hbs, hgg, h1, h2, h3, h4⟩
  · cases hn
  · injection e with e1 e2 e3
    subst e3
    exact .inr ⟨g', _, cur, by rw [e1], hbs, hgg, Nat.zero_le _, h2, h3, by simp [celB]⟩
/-- make([]byte, 0, N) -/
theorem OwB.fresh (w : World) (N : Nat) (hN : N ≤ 140737488353000) : OwB (w.alloc (.cells (celB (List.replicate N 0)).toArray 5)) w.heap.size (.slice (some ⟨w.heap.size, 0, none⟩) 0 N) 0 [] :=
  ⟨⟨rfl, .inr ⟨w.heap.size, N, _, rfl, Nat.le_refl _, heap_new w _, Nat.zero_le _, by unfold maxLen; omega, by simp [celB_length], by simp [celB]⟩⟩, fun _ h => by cases h⟩
end Go.Proofs.YtcaoajeplinopaaDoor

namespace Go.Proofs.YtcaoajeplinopaaDoor
set_option linter.unusedVariables false
set_option linter.unusedSimpArgs false
set_option maxRecDepth 8000
open Go.RowKit
open Go.Shelf

/-- whatever lies at or beyond block N in A lies there in B -/
def KeepA (N : Nat) (A B : World) : Prop := A.heap.size ≤ B.heap.size ∧ ∀ b o, N ≤ b → A.heap[b]? = some o → B.heap[b]? = some o
theorem KeepA.refl (N : Nat) (A : World) : KeepA N A A := ⟨Nat.le_refl _, fun _ _ _ h => h⟩
theorem KeepA.trans {N : Nat} {A B C : World} (h : KeepA N A B) (k : KeepA N B C) : KeepA N A C := ⟨Nat.le_trans h.1 k.1, fun b o hb ho => k.2 b o hb (h.2 b o hb ho)⟩
theorem KeepA.of_below {N : Nat} {A B : World} (h : Below A.heap.size A B) : KeepA N A B := ⟨h.size, fun _ _ _ ho => heap_keep ho h⟩
theorem KeepA.set {N : Nat} {A B : World} (h : KeepA N A B) {p : Addr} (hp : p.block < N) (x : Value) : KeepA N A (B.setCell p x) :=
  ⟨by simp [World.setCell]; exact h.1, fun b o hb ho => (Below.heap_setCell B p x b (by omega)).trans (h.2 b o hb ho)⟩
theorem KeepA.mono {N M : Nat} {A B : World} (h : KeepA N A B) (hN : N ≤ M) : KeepA M A B := ⟨h.1, fun b o hb ho => h.2 b o (by omega) ho⟩

/-- what a round of the loop leaves -/
def ownEnd (N : Nat) (J1 : World → Prop) (Jx : World → Prop) (A : World) : Exit → Act → World → Prop
  | .normal, _, B => KeepA N A B ∧ J1 B
  | .ret, _, B => KeepA N A B ∧ Jx B
  | _, _, _ => False

theorem wpIn_rangeOwn {P : Program} {α : Type} {g : Operand} {ps : Array Tmp} {assign body : Code} {Q : Exit → Act → World → Prop} {a : Act} {w : World} {gf : Nat} {lb : Array Value}
    (hg : a.eval g = .func (.func gf) #[] lb) (eg : ∀ args w, (callFunc gf args).run P w = .ok (.enter gf args) w) (encs : α → Array Value) (hps : ∀ x, (encs x).size = ps.size)
    (n : Nat) (J : Nat → World → Prop) (Jx : Nat → World → Prop) (X : Nat → α → World → Prop) (hJ : ∀ i A B, J i A → Below w.heap.size A B → J i B) (hJx : ∀ i A B, Jx i A → Below w.heap.size A B → Jx i B) (h0 : J 0 w)
    (hiter : ∀ (l : Nat) (W : World) (J' Jx' : Nat → World → Prop), (∀ i A B, J' i A → Below W.heap.size A B → J' i B) → (∀ i A, J' i A → J i A ∧ W.heap.size ≤ A.heap.size) → w.heap.size ≤ W.heap.size →
      (∀ i x A, i < n → J' i A → X i x A → YieldAt Fence.wide 1 P l (encs x) A fun e B => (e = .returned (.bool true) ∧ J' (i + 1) B ∧ KeepA W.heap.size A B) ∨ (e = .returned (.bool false) ∧ Jx' i B)) → J' 0 W →
      CallsIn Fence.wide 2 P gf (#[.func (.yield l) #[] #[]] ++ lb) W fun e B => (∃ v, e = .returned v) ∧ (J' n B ∨ ∃ i, i < n ∧ Jx' i B))
    (hround : ∀ (l i : Nat) (x : α) (A : World), i < n → w.heap.size ≤ l → l < A.heap.size → (∃ L, A.heap[l]? = some (.loop L)) → J i A → X i x A →
      assign.wpIn (Fence.wide.inRound l) 1 P (Exit.then (fun a' B => KeepA w.heap.size A B ∧ J i B ∧ ∀ B2, KeepA (l + 1) B B2 → Below w.heap.size B B2 → (∀ b o, b ≠ l → B.heap[b]? = some o → B2.heap[b]? = some o) → body.wpIn (Fence.wide.inRound l) 1 P (ownEnd w.heap.size (J (i + 1)) (Jx i) B2) a' B2) (fun _ _ _ => False))
        { tmps := (ps.zip (encs x)).foldl (fun t (p, v) => t.setIfInBounds p v) a.tmps, defers := [] } A)
    (hdone : ∀ (D : Nat) (B : World), w.heap.size ≤ D → J n B → B.heap[D]? = some (.deferred (some [])) → Q .normal { a with defers := { target := .collected D, args := #[] } :: a.defers } B)
    (hstop : ∀ (D i : Nat) (B : World), w.heap.size ≤ D → i < n → Jx i B → B.heap[D]? = some (.deferred (some [])) → Code.ret.wpIn Fence.wide 3 P Q { a with defers := { target := .collected D, args := #[] } :: a.defers } B) :
    (Code.rangeFunc g ps assign body).wpIn Fence.wide 3 P Q a w := by
  refine wpIn_rangeFunc fun fn hfn => ?_
  let R : LoopState → Option Code → Loop := fun st pe => { state := st, pending := pe, fn := fn, tmps := a.tmps, params := ps, assign := assign, body := body, defers := w.heap.size }
  let W : World := (w.alloc (.deferred (some []))).alloc (.loop (R .ready none))
  have hsz : W.heap.size = w.heap.size + 1 + 1 := by simp [W]
  have hbW : Below w.heap.size w W := ((Below.refl _ w).alloc (Nat.le_refl _) _).alloc (by simp) _
  have hWL : W.heap[w.heap.size + 1]? = some (.loop (R .ready none)) := by
    have h := World.alloc_heap_new (w.alloc (.deferred (some []))) (.loop (R .ready none))
    rwa [World.size_alloc] at h
  have hWD : W.heap[w.heap.size]? = some (.deferred (some [])) := heap_old _ (heap_new w _)
  have put : ∀ (A : World) (o o' : Obj), A.heap[w.heap.size + 1]? = some o → Below w.heap.size A (A.putObj (w.heap.size + 1) o') ∧ KeepA (w.heap.size + 1 + 1) A (A.putObj (w.heap.size + 1) o') ∧ (A.putObj (w.heap.size + 1) o').heap[w.heap.size + 1]? = some o' ∧ ∀ b q, b ≠ w.heap.size + 1 → A.heap[b]? = some q → (A.putObj (w.heap.size + 1) o').heap[b]? = some q := fun A o o' h =>
    ⟨⟨rfl, rfl, rfl, by simp, fun k hk => World.putObj_heap_other (by omega)⟩, ⟨by simp, fun b q hb hq => (World.putObj_heap_other (by omega)).trans hq⟩, World.putObj_heap_same (Array.getElem?_eq_some_iff.1 h).1, fun b q hb hq => (World.putObj_heap_other hb).trans hq⟩
  refine ⟨w.heap.size + 1, [{ target := .collected w.heap.size, args := #[] }], W, { target := .fn (.func gf) lb, args := #[.func (.yield (w.heap.size + 1)) #[] #[]] }, W, gf, #[.func (.yield (w.heap.size + 1)) #[] #[]] ++ lb, W, run_enterLoop_outer _ _ _ _ _, ?_, fun _ _ => trivial, ?_, fun _ => by omega, ?_⟩
  · simp only [resolve, hg]
    simp [go_sem]
  · simp [invoke, go_sem, eg]
  · refine (hiter (w.heap.size + 1) W
      (fun i A => J i A ∧ W.heap.size ≤ A.heap.size ∧ A.heap[w.heap.size + 1]? = some (.loop (R .ready none)) ∧ A.heap[w.heap.size]? = some (.deferred (some [])))
      (fun i A => Jx i A ∧ A.heap[w.heap.size + 1]? = some (.loop (R .done (some .ret))) ∧ A.heap[w.heap.size]? = some (.deferred (some [])))
      (fun i A B h hb => ⟨hJ i A B h.1 (hb.mono hbW.size), Nat.le_trans h.2.1 hb.size, (hb.block _ (by omega)).trans h.2.2.1, (hb.block _ (by omega)).trans h.2.2.2⟩)
      (fun i A h => ⟨h.1, h.2.1⟩) hbW.size ?_ ⟨hJ 0 w W h0 hbW, Nat.le_refl _, hWL, hWD⟩).mono ?_
    · intro i x A hin ⟨hj, hs, hl, hd⟩ hx
      refine ⟨fn, _, assign, body, run_yield hl (hps x), roundIn_of_wpIn hfn ?_⟩
      refine wpIn_mono (hround (w.heap.size + 1) i x A hin (Nat.le_succ _) (Array.getElem?_eq_some_iff.1 hl).1 ⟨_, hl⟩ hj hx) ?_
      rintro e a' B hp
      cases e with
      | normal =>
        obtain ⟨hk, hjB, hbody⟩ := hp
        have hl2 := hk.2 _ _ (Nat.le_succ _) hl
        have hd2 := hk.2 _ _ (Nat.le_refl _) hd
        obtain ⟨p1, p2, p3, p4⟩ := put B _ (.loop (R .busy none)) hl2
        refine ⟨_, run_beginRound hl2 rfl, ?_⟩
        refine wpIn_mono (hbody _ p2 p1 p4) ?_
        rintro e2 a3 C hp2
        cases e2 with
        | normal =>
          obtain ⟨hk3, hj3⟩ := hp2
          have hl3 := hk3.2 _ _ (Nat.le_succ _) p3
          have hd3 := hk3.2 _ _ (Nat.le_refl _) (p4 _ _ (by omega) hd2)
          obtain ⟨q1, q2, q3, q4⟩ := put C _ (.loop (R .ready none)) hl3
          refine ⟨_, _, run_endRound none hl3, .inl ⟨rfl, ⟨hJ _ _ _ hj3 q1, ?_, q3, q4 _ _ (by omega) hd3⟩, ?_⟩⟩
          · exact Nat.le_trans hs (Nat.le_trans hk.1 (Nat.le_trans p2.1 (Nat.le_trans hk3.1 q2.1)))
          · rw [hsz]
            exact ((hk.mono (by omega)).trans p2).trans ((hk3.mono (by omega)).trans q2)
        | ret =>
          obtain ⟨hk3, hj3⟩ := hp2
          have hl3 := hk3.2 _ _ (Nat.le_succ _) p3
          have hd3 := hk3.2 _ _ (Nat.le_refl _) (p4 _ _ (by omega) hd2)
          obtain ⟨q1, q2, q3, q4⟩ := put C _ (.loop (R .done (some .ret))) hl3
          exact ⟨_, _, run_endRound (some .ret) hl3, .inr ⟨rfl, hJx _ _ _ hj3 q1, q3, q4 _ _ (by omega) hd3⟩⟩
        | exit id => exact hp2.elim
        | goto t => exact hp2.elim
        | panic ch => exact hp2.elim
        | outgrown => exact hp2.elim
      | _ => exact hp.elim
    · rintro e B ⟨⟨v, rfl⟩, (⟨hj, _, hl, hd⟩ | ⟨i, hin, hj, hl, hd⟩)⟩
      · obtain ⟨q1, q2, q3, q4⟩ := put B _ (.loop (R .exhausted none)) hl
        exact ⟨none, _, run_endLoop hl (by simp [R]), hdone _ _ (Nat.le_refl _) (hJ _ _ _ hj q1) (q4 _ _ (by omega) hd)⟩
      · obtain ⟨q1, q2, q3, q4⟩ := put B _ (.loop (R .exhausted (some .ret))) hl
        exact ⟨some .ret, _, run_endLoop hl (by simp [R]), hstop _ i _ (Nat.le_refl _) hin (hJx _ _ _ hj q1) (q4 _ _ (by omega) hd)⟩

end Go.Proofs.YtcaoajeplinopaaDoor

namespace Go.Proofs.YtcaoajeplinopaaDoor
set_option linter.unusedVariables false
set_option linter.unusedSimpArgs false
set_option maxRecDepth 8000
open Go.RowKit
open Go.Shelf
attribute [local go_sem] Oper.semAt_some
theorem Sb.empty (w : World) (A : Option Addr) (c : Nat) (hc : c ≤ 9223372036854775807) (h0 : A = none → c = 0) : Sb w A 0 c [] := ⟨rfl, Nat.zero_le _, hc, h0, (fun _ h => by cases h), fun i z hz => by simp at hz⟩
/-- what a yielded slice reads as: block i of the message -/
def BlkX (p : List Nat) (i : Nat) (x : Addr × Nat) (w : World) : Prop := Blk w x.1 (blkF p i) ∧ 64 ≤ x.2 ∧ x.2 ≤ 9223372036854775807
theorem blkx_part {Ps : List (List Nat)} {i g base : Nat} {w : World} (h : OwB w base (.slice (some ⟨g, 0, none⟩) 64 64) 64 ((Ps.flatten.drop (64 * i)).take 64)) (hb : ∀ x ∈ Ps.flatten, x < 256) : BlkX Ps.flatten i ((⟨g, 0, none⟩ : Addr), 64) w := by
  refine ⟨⟨fun j => blkF_lt hb i j, fun j hj => ?_⟩, Nat.le_refl _, by omega⟩
  have h1 := h.sl'.at_ (i := j) (by omega)
  rwa [part_blk hj] at h1
theorem wpListIn_appendBf {F : Fence} {N : Nat} {ops : Array Oper} {rest : List Oper} {o : Oper} {a : Act} {Q : Exit → Act → World → Prop} {w : World} (hgd : o.guard = none) (s x : Operand)
    (ho : o.op = .call { callee := .builtin .append, args := #[s, x], argTypes := #[22, 22] }) (base g k cap : Nat) (bs : List Nat) (hs : a.eval s = .slice (some ⟨g, 0, none⟩) k cap) (hown : OwB w base (.slice (some ⟨g, 0, none⟩) k cap) k bs)
    (ad : Addr) (m c : Nat) (ys : List Nat) (hx : a.eval x = .slice (some ad) m c) (hy : Sb w (some ad) m c ys) (k2 : Nat) (hk2 : k + m = k2) (hn : k2 ≤ cap) (hbase : base ≤ w.heap.size)
    (h : ∀ w', OwB w' base (.slice (some ⟨g, 0, none⟩) k2 cap) k2 (bs ++ ys) → Below base w w' → wpListIn F N Tryd.prog ops Q rest (a.put o.dst (.slice (some ⟨g, 0, none⟩) k2 cap)) w') : wpListIn F N Tryd.prog ops Q (o :: rest) a w := by
  subst hk2
  obtain ⟨i, hi, hz, hs2, hb⟩ := info_parts u8_info
  refine wpListIn_append_fits w hgd s x 22 ho base 5 i 1 Tryd.underlying22 hi hs2 g k cap (celB bs) hs hown.1 ad m c (celB ys) hx (by rw [celB_length, ← hy.len, Nat.mul_one]) (celB_src hy) (fun u hu => celB_one' hu) hn ?_
  intro w' hown' hg
  refine h w' ⟨?_, fun z hz => ?_⟩ (OwB.below hown hg hbase)
  · rw [celB_append]
    exact hown'
  · rcases List.mem_append.1 hz with hz | hz
    · exact hown.2 z hz
    · exact hy.byte z hz
set_option maxRecDepth 100000 in
set_option maxHeartbeats 4000000 in
theorem blk_iter (G : World → Prop) (A : Option Addr) (n c : Nat) (Ps : List (List Nat)) (hP : PbG G A n c Ps) (hn : n ≤ 1000) (K b1 : Nat) (hK : sumL Ps = 64 * K) (hKs : sumL Ps ≤ 140737488354000) (hpb : ∀ x ∈ Ps.flatten, x < 256)
    (l : Nat) (W : World) (J Jx : Nat → World → Prop) (hJ : ∀ i A B, J i A → Below W.heap.size A B → J i B) (hJB : ∀ i B, J i B → G B ∧ W.heap.size ≤ B.heap.size) (hc1 : W.cell? ⟨b1, 0, none⟩ = some (.slice A n c))
    (hY : ∀ i (x : Addr × Nat) B, i < K → J i B → BlkX Ps.flatten i x B → YieldAt Fence.wide 1 Tryd.prog l #[.slice (some x.1) 64 x.2] B fun e B' => (e = .returned (.bool true) ∧ J (i + 1) B' ∧ KeepA W.heap.size B B') ∨ (e = .returned (.bool false) ∧ Jx i B'))
    (h0 : J 0 W) :
    CallsIn Fence.wide 2 Tryd.prog 69 (#[.func (.yield l) #[] #[]] ++ #[.pointer (some ⟨b1, 0, none⟩)]) W fun e B => (∃ v, e = .returned v) ∧ (J K B ∨ ∃ i, i < K ∧ Jx i B) := by
  have hcap := hP.cap
  have htop := hP.top
  have HP := Lib.hid hP
  have HJ := Lib.hid hJ
  have HJB := Lib.hid hJB
  have HPB := Lib.hid hpb
  have HK := Lib.hid hK
  have H0 := Lib.hid h0
  clear hP hJ hJB h0 hpb hK
  refine callsIn_of_wp Tryd.func69 rfl trivial ?_ rfl
  simp only [Tryd.ntmps69, List.size_toArray, List.length_cons, List.length_nil, Nat.reduceAdd, Nat.reduceSub, Array.replicate_succ, Array.replicate_zero, List.push_toArray, List.append_toArray, List.nil_append, List.cons_append]
  have hmk0 : ∀ w : World, (Instr.makeSlice 22 (.int .i64 0) (.int .i64 64)).run Tryd.prog w = .ok (.slice (some ⟨w.heap.size, 0, none⟩) 0 64) (w.alloc (.cells (celB (List.replicate 64 0)).toArray 5)) := fun w => run_makeB 0 64 (by omega) (by omega) w
  have HO1 := Lib.hid (OwB.fresh W 64 (by omega))
  obtain ⟨zs, hzs⟩ : ∃ zs : List Value, zs = celB (List.replicate 64 0) := ⟨_, rfl⟩
  rw [← hzs] at HO1
  have hmk : ∀ w : World, (Instr.makeSlice 22 (.int .i64 0) (.int .i64 64)).run Tryd.prog w = .ok (.slice (some ⟨w.heap.size, 0, none⟩) 0 64) (w.alloc (.cells zs.toArray 5)) := fun w => by rw [hzs]; exact hmk0 w
  clear hmk0 hzs
  have hc1' := cell_alloc hc1 (.cells zs.toArray 5)
  gi_wp2
  clear hmk hc1 hc1'
  have HJ1 := Lib.hid (HJ.out 0 W _ H0.out ((Below.refl _ _).alloc (Nat.le_refl _) (.cells zs.toArray 5)))
  clear H0
  generalize W.alloc (.cells zs.toArray 5) = W1 at *
  gi_loopw [3, 11] (fun pt s wr => ∃ k i r : Nat, k ≤ n ∧ r < 64 ∧ s = .int .i64 k ∧ pt = .slice (some ⟨W.heap.size, 0, none⟩) r 64 ∧ 64 * i + r = sumL (Ps.take k) ∧ J i wr ∧ OwB wr W.heap.size (.slice (some ⟨W.heap.size, 0, none⟩) r 64) r ((Ps.flatten.drop (64 * i)).take r)) (fun _ s _ => n - (intOf s).toNat)
  case atStart => exact ⟨0, 0, 0, Nat.zero_le _, by omega, rfl, rfl, rfl, HJ1.out, HO1.out⟩
  case round =>
    clear HJ1 HO1
    obtain ⟨k, i, r, hk, hr, rfl, rfl, hir, hj, ho⟩ := hrel
    have HIR := Lib.hid hir
    have HJi := Lib.hid hj
    have HO := Lib.hid ho
    have hg := (HJB.out i wr hj).1
    clear hir hj ho
    by_cases hlt : k < n
    · have hk1 : (k : Int) < (n : Int) := by omega
      have hk0 : (0 : Int) ≤ (k : Int) := by omega
      obtain ⟨q, hq⟩ : ∃ q, Ps[k]? = some q := ⟨Ps[k]'(by have := HP.out.len; omega), List.getElem?_eq_getElem _⟩
      obtain ⟨ad, B, m, d, rfl, hG⟩ := HP.out.cells k q hq
      obtain ⟨hc, hs⟩ := hG wr hg
      have HQ := Lib.hid hq
      have HG := Lib.hid hG
      obtain rfl : m = q.length := hs.len
      have hST := sumL_take hq
      have hSL := sumL_le Ps (k + 1)
      rw [hST] at hSL
      have HST := Lib.hid hST
      clear hq hs hg hG hST
      gi_wp2
      have HLT := Lib.hid hlt
      clear hc hlt hk1
      gi_loopw [3, 5] (fun pt rs wr => ∃ i r t m d, ∃ R : Option Addr, r < 64 ∧ t ≤ q.length ∧ m = q.length - t ∧ pt = .slice (some ⟨W.heap.size, 0, none⟩) r 64 ∧ rs = .slice R m d ∧ 64 * i + r = sumL (Ps.take k) + t ∧ (∀ w, G w → Sb w R m d (q.drop t)) ∧ J i wr ∧ OwB wr W.heap.size (.slice (some ⟨W.heap.size, 0, none⟩) r 64) r ((Ps.flatten.drop (64 * i)).take r)) (fun _ rs _ => match rs with | .slice _ m _ => m | _ => 0)
      case atStart => exact ⟨i, r, 0, q.length, d, B, hr, Nat.zero_le _, by omega, rfl, rfl, HIR.out, fun w hw => (HG.out w hw).2, HJi.out, HO.out⟩
      case round =>
        clear HIR HJi HO HG hr
        obtain ⟨i, r, t, m, d, R, hr, ht, hm, rfl, rfl, hir, hS, hj, ho⟩ := hrel
        have HIR := Lib.hid hir
        have HJi := Lib.hid hj
        have HO := Lib.hid ho
        have HS := Lib.hid hS
        have hg := (HJB.out i wr hj).1
        have hsb := hS wr hg
        have hmd := hsb.cap
        have hdt := hsb.top
        clear hir hj ho hS
        have HMq := Lib.hid hm
        clear hm
        by_cases hm0 : m = 0
        · subst hm0
          have hm1 : ¬ ((0 : Int) < ((0 : Nat) : Int)) := by simp
          have htq : t = q.length := by have := HMq.out; omega
          subst htq
          gi_wp2
          go_roundw
          case rel =>
            refine ⟨k + 1, i, r, HLT.out, hr, by go_num, rfl, ?_, HJi.out, HO.out⟩
            rw [HST.out]; exact HIR.out
          case measure => have := HLT.out; simp [intOf]; omega
        · have hm1 : (0 : Int) < (m : Int) := by omega
          obtain ⟨ad2, rfl⟩ := hsb.some_ (by omega)
          obtain ⟨M, hM⟩ : ∃ M, M = 64 - r := ⟨_, rfl⟩
          have e1 : (64 : Int) - (r : Int) = (M : Int) := by omega
          have HM := Lib.hid hM
          have hM1 : 1 ≤ M ∧ M ≤ 64 := by omega
          clear hM
          have hbase := (HJB.out i wr HJi.out).2
          by_cases hmM : m < M
          · have hm64 : (m : Int) < 64 := by omega
            have hrm : r + m < 64 := by have := HM.out; omega
            have hrm2 : ((r + m : Nat) : Int) < 64 := by omega
            by_cases hd : m = d
            · subst hd
              have hd0 := hm0
              have hsbm := hsb.take (Nat.le_refl m)
              gi_wp2_with (gi_at_builtin; refine wpListIn_appendBf rfl (.tmp 32) (.tmp 33) rfl W.heap.size W.heap.size r 64 _ rfl HO.out ad2 m _ _ rfl hsbm (r + m) (by omega) (by omega) hbase ?_; intro W2 ho2 hb2; have HO2 := Lib.hid ho2; have HB2 := Lib.hid hb2; clear ho2 hb2)
              go_roundw
              case rel =>
                have htq : t + m = q.length := by have := HMq.out; omega
                have hnx := flat_next (i := i) (r := r) (t := t) (n := m) HQ.out (by omega) HIR.out
                refine ⟨i, r + m, t + m, 0, _, _, hrm, by omega, by omega, rfl, rfl, by have := HIR.out; omega, fun w hw => ?_, HJ.out i _ _ HJi.out HB2.out, ?_⟩
                · rw [List.drop_of_length_le (by omega)]
                  exact Sb.empty _ _ _ (by omega) (fun e => by cases e)
                · rw [← hnx]
                  exact HO2.out
              case measure => simp; omega
            · have hd2 : ¬ d = m := fun e => hd e.symm
              clear hd
              have hsbm := hsb.take (Nat.le_refl m)
              gi_wp2_with (gi_at_builtin; refine wpListIn_appendBf rfl (.tmp 32) (.tmp 33) rfl W.heap.size W.heap.size r 64 _ rfl HO.out ad2 m _ _ rfl hsbm (r + m) (by omega) (by omega) hbase ?_; intro W2 ho2 hb2; have HO2 := Lib.hid ho2; have HB2 := Lib.hid hb2; clear ho2 hb2)
              go_roundw
              case rel =>
                have htq : t + m = q.length := by have := HMq.out; omega
                have hnx := flat_next (i := i) (r := r) (t := t) (n := m) HQ.out (by omega) HIR.out
                refine ⟨i, r + m, t + m, 0, _, _, hrm, by omega, by omega, rfl, rfl, by have := HIR.out; omega, fun w hw => ?_, HJ.out i _ _ HJi.out HB2.out, ?_⟩
                · rw [List.drop_of_length_le (by omega)]
                  exact Sb.empty _ _ _ (by omega) (fun e => by cases e)
                · rw [← hnx]
                  exact HO2.out
              case measure => simp; omega
          · have htM : t + M ≤ q.length := by have := HMq.out; omega
            have hi : i < K := by have := HIR.out; have := HM.out; have := HK.out; omega
            have htM' : M ≤ m := by omega
            by_cases h64 : M = 64
            · subst h64
              obtain rfl : r = 0 := by have := HM.out; omega
              have hx : BlkX Ps.flatten i (ad2, d) wr := by
                refine ⟨⟨fun j => blkF_lt HPB.out i j, fun j hj => ?_⟩, by omega, by omega⟩
                have h1 := hsb.at_ (i := j) (by omega)
                rwa [flat_blk HQ.out (by omega) (by have := HIR.out; omega) hj] at h1
              obtain ⟨fn, tmps, assign, body, hy, hR⟩ := hY i (ad2, d) wr hi HJi.out hx
              clear hx
              have HM : Hid ((64 : Nat) = 64 - 0) := Lib.hid rfl
              by_cases hd : d = 64
              · subst hd
                have hS2 := fun w (hw : G w) => (HS.out w hw).drop (k := 64) (by omega)
                rw [if_pos rfl, show m - 64 = 0 by omega] at hS2
                simp only [List.drop_drop, Nat.sub_self] at hS2
                have HS2 := Lib.hid hS2
                clear hS2
                gi_wp2
                clear hy
                refine hR.mono ?_
                rintro e W3 (⟨rfl, hj3, hk3⟩ | ⟨rfl, hx3⟩)
                · have HJ3 := Lib.hid hj3
                  have HO3 := Lib.hid (HO.out.same hk3.2)
                  clear hj3 hk3
                  gi_wp2
                  go_roundw
                  case rel =>
                    refine ⟨i + 1, 0, t + 64, 0, _, _, by omega, htM, by have := HMq.out; omega, rfl, rfl, by have := HIR.out; have := HM.out; omega, fun w hw => ?_, HJ3.out, HO3.out.zero⟩
                    exact HS2.out w hw
                  case measure => simp; omega
                · gi_wp2
                  refine bodyPost_ret (results_none rfl _ _ _) rfl ?_
                  exact ⟨⟨_, rfl⟩, .inr ⟨i, hi, hx3⟩⟩
              · have hS2 := fun w (hw : G w) => (HS.out w hw).drop (k := 64) (by omega)
                rw [if_neg hd] at hS2
                simp only [List.drop_drop] at hS2
                have HS2 := Lib.hid hS2
                clear hS2
                gi_wp2
                clear hy
                refine hR.mono ?_
                rintro e W3 (⟨rfl, hj3, hk3⟩ | ⟨rfl, hx3⟩)
                · have HJ3 := Lib.hid hj3
                  have HO3 := Lib.hid (HO.out.same hk3.2)
                  clear hj3 hk3
                  gi_wp2
                  go_roundw
                  case rel =>
                    refine ⟨i + 1, 0, t + 64, m - 64, _, _, by omega, htM, by have := HMq.out; omega, rfl, rfl, by have := HIR.out; have := HM.out; omega, fun w hw => ?_, HJ3.out, HO3.out.zero⟩
                    exact HS2.out w hw
                  case measure => simp; omega
                · gi_wp2
                  refine bodyPost_ret (results_none rfl _ _ _) rfl ?_
                  exact ⟨⟨_, rfl⟩, .inr ⟨i, hi, hx3⟩⟩
            · have hM64 : (M : Int) < 64 := by omega
              by_cases hd : M = d
              · subst hd
                have hsbm := hsb.take htM'
                have hS2 := fun w (hw : G w) => (HS.out w hw).drop (k := M) (by omega)
                rw [if_pos rfl, show m - M = 0 by omega] at hS2
                simp only [List.drop_drop, Nat.sub_self] at hS2
                have HS2 := Lib.hid hS2
                clear hS2
                gi_wp2_with (gi_at_builtin; refine wpListIn_appendBf rfl (.tmp 32) (.tmp 33) rfl W.heap.size W.heap.size r 64 _ rfl HO.out ad2 M _ _ rfl hsbm 64 (by have := HM.out; omega) (by omega) hbase ?_; intro W2 ho2 hb2; rw [flat_next HQ.out htM HIR.out, show r + M = 64 by have := HM.out; omega] at ho2; have HO2 := Lib.hid ho2; have HB2 := Lib.hid hb2; clear ho2 hb2; have hx : BlkX Ps.flatten i ((⟨W.heap.size, 0, none⟩ : Addr), 64) W2 := blkx_part HO2.out HPB.out; obtain ⟨fn, tmps, assign, body, hy, hR⟩ := hY i ((⟨W.heap.size, 0, none⟩ : Addr), 64) W2 hi (HJ.out i _ _ HJi.out HB2.out) hx; clear hx)
                clear hy
                refine hR.mono ?_
                rintro e W3 (⟨rfl, hj3, hk3⟩ | ⟨rfl, hx3⟩)
                · have HJ3 := Lib.hid hj3
                  have HO3 := Lib.hid (HO2.out.same hk3.2)
                  clear hj3 hk3
                  gi_wp2
                  go_roundw
                  case rel =>
                    refine ⟨i + 1, 0, t + M, 0, _, _, by omega, htM, by have := HMq.out; omega, rfl, rfl, by have := HIR.out; have := HM.out; omega, fun w hw => ?_, HJ3.out, HO3.out.zero⟩
                    exact HS2.out w hw
                  case measure => simp; omega
                · gi_wp2
                  refine bodyPost_ret (results_none rfl _ _ _) rfl ?_
                  exact ⟨⟨_, rfl⟩, .inr ⟨i, hi, hx3⟩⟩
              · have hd2 : ¬ d = M := fun e => hd e.symm
                clear hd
                have hsbm := hsb.take htM'
                have hS2 := fun w (hw : G w) => (HS.out w hw).drop (k := M) (by omega)
                rw [if_neg hd2] at hS2
                simp only [List.drop_drop] at hS2
                have HS2 := Lib.hid hS2
                clear hS2
                gi_wp2_with (gi_at_builtin; refine wpListIn_appendBf rfl (.tmp 32) (.tmp 33) rfl W.heap.size W.heap.size r 64 _ rfl HO.out ad2 M _ _ rfl hsbm 64 (by have := HM.out; omega) (by omega) hbase ?_; intro W2 ho2 hb2; rw [flat_next HQ.out htM HIR.out, show r + M = 64 by have := HM.out; omega] at ho2; have HO2 := Lib.hid ho2; have HB2 := Lib.hid hb2; clear ho2 hb2; have hx : BlkX Ps.flatten i ((⟨W.heap.size, 0, none⟩ : Addr), 64) W2 := blkx_part HO2.out HPB.out; obtain ⟨fn, tmps, assign, body, hy, hR⟩ := hY i ((⟨W.heap.size, 0, none⟩ : Addr), 64) W2 hi (HJ.out i _ _ HJi.out HB2.out) hx; clear hx)
                clear hy
                refine hR.mono ?_
                rintro e W3 (⟨rfl, hj3, hk3⟩ | ⟨rfl, hx3⟩)
                · have HJ3 := Lib.hid hj3
                  have HO3 := Lib.hid (HO2.out.same hk3.2)
                  clear hj3 hk3
                  gi_wp2
                  go_roundw
                  case rel =>
                    refine ⟨i + 1, 0, t + M, m - M, _, _, by omega, htM, by have := HMq.out; omega, rfl, rfl, by have := HIR.out; have := HM.out; omega, fun w hw => ?_, HJ3.out, HO3.out.zero⟩
                    exact HS2.out w hw
                  case measure => simp; omega
                · gi_wp2
                  refine bodyPost_ret (results_none rfl _ _ _) rfl ?_
                  exact ⟨⟨_, rfl⟩, .inr ⟨i, hi, hx3⟩⟩
    · have hkn : k = n := by omega
      subst hkn
      have hts : Ps.take k = Ps := List.take_of_length_le (by have := HP.out.len; omega)
      have hir := HIR.out
      rw [hts, HK.out] at hir
      obtain rfl : i = K := by omega
      clear hir hts
      gi_wp2
      go_end0
      exact ⟨⟨_, rfl⟩, .inl HJi.out⟩
end Go.Proofs.YtcaoajeplinopaaDoor

namespace Go.Proofs.YtcaoajeplinopaaDoor
set_option linter.unusedVariables false
set_option linter.unusedSimpArgs false
set_option maxRecDepth 8000
open Go.RowKit
open Go.Shelf
/-- the first variable of the program holds the initial chain -/
def IC (w : World) : Prop := ∀ i, i < 8 → w.cell? ⟨0, i, none⟩ = some (.int .u32 ((chL ch0).getD i 0 : Nat))
theorem IC.keep {w w' : World} (h : IC w) (hb : Below w.heap.size w w') : IC w' := fun i hi => cell_keep (h i hi) hb
/-- both variables -/
def Gl (w : World) : Prop := KT w ∧ IC w
theorem Gl.keep {w w' : World} (h : Gl w) (hb : Below w.heap.size w w') : Gl w' := ⟨h.1.keep hb, h.2.keep hb⟩
theorem run_loadIC {P : Program} {w : World} (h : IC w) : (loadCellsFrom ⟨0, 0, none⟩ 0 8 #[]).run P w = .ok (celW (chL ch0)).toArray w := by
  have := run_loadCells_list (P := P) w ⟨0, 0, none⟩ (celW (chL ch0)) (fun j v hv => by
    rw [ad_base]
    have hj : j < 8 := by have := (List.getElem?_eq_some_iff.1 hv).1; rw [celW_length, chL_length] at this; exact this
    have h1 := h j hj
    have h2 := celW_get (ws := chL ch0) (i := j) (x := (chL ch0).getD j 0) (by rw [List.getD_eq_getElem?_getD, List.getElem?_eq_getElem (by rw [chL_length]; exact hj)]; rfl)
    rw [h2] at hv
    injection hv with hv
    rw [← hv]
    exact h1)
  rw [celW_length, chL_length] at this
  simpa [loadCells] using this
theorem not_loop {w : World} {a : Addr} {v : Value} {l : Nat} (hc : w.cell? a = some v) (hl : ∃ L, w.heap[l]? = some (.loop L)) : a.block ≠ l := by
  intro e
  obtain ⟨L, hl⟩ := hl
  subst e
  simp [World.cell?, hl] at hc
theorem KeepA.row {N : Nat} {A B : World} (h : KeepA N A B) {x : Nat} (hx : x < N) (cs : Array Value) : KeepA N A (B.setRow x cs) :=
  ⟨by simpa [World.setRow] using h.1, fun b o hb ho => by
    have : x ≠ b := by omega
    simp [World.setRow, Array.getElem?_modify, this]
    exact h.2 b o hb ho⟩
theorem flat_msg (Ps : List (List Nat)) : (Ps ++ [padN (sumL Ps)]).flatten = msgN Ps.flatten := by
  unfold msgN sumL
  rw [List.flatten_append]
  simp
theorem sum_msg (Ps : List (List Nat)) : sumL (Ps ++ [padN (sumL Ps)]) = 64 * nblk (sumL Ps) := by
  rw [show sumL (Ps ++ [padN (sumL Ps)]) = ((Ps ++ [padN (sumL Ps)]).flatten).length from rfl, flat_msg, msgN_length]
  rfl
/-- the state of hash behind i blocks -/
def HashJ (w W : World) (t t2 : Nat) (p : List Nat) (i : Nat) (B : World) : Prop :=
  SameX (w.heap.size + 1) W B ∧ RowB B t w.heap.size (List.replicate 32 0) ∧ RowW B t2 (w.heap.size + 1) (chL (stN ch0 p i)) ∧ Below w.heap.size w B
set_option maxHeartbeats 1000000 in
theorem blocks_any (A : Option Addr) (n c : Nat) (w : World) :
    Calls Tryd.prog 65 #[.slice A n c] w fun e w' => e = .returned (.func (.func 69) #[] #[.pointer (some ⟨w.heap.size, 0, none⟩)]) ∧ w' = w.alloc (.cells #[.slice A n c] 89) := by
  go_enter Tryd.func65, Tryd.ntmps65
  go_wp2
  go_ret
  exact ⟨rfl, rfl⟩
attribute [local go_sem] Oper.semAt_some
attribute [local simp] z32_ne z32_run
attribute [-simp] Tryd.zeroValue30 Tryd.isAgg30 Tryd.sizeOf30 Tryd.isAgg98 Tryd.sizeOf98
set_option maxRecDepth 100000 in
set_option maxHeartbeats 8000000 in
theorem hash_any (A : Option Addr) (n c : Nat) (Ps : List (List Nat)) (w : World) (h : Pb w A n c Ps) (hn1 : 1 ≤ n) (hn : n ≤ 900) (hL : sumL Ps ≤ 140737488353000) (hG : Gl w) (hpb : ∀ x ∈ Ps.flatten, x < 256) :
    Calls Tryd.prog 58 #[.slice A n c] w fun e w' => e = .returned (.agg (celB (shaN Ps.flatten)).toArray) ∧ Below w.heap.size w w' := by
  have HP := Lib.hid h
  have HG := Lib.hid hG
  have HPB := Lib.hid hpb
  clear h hG hpb
  have hld := run_loadIC (P := Tryd.prog) (HG.out.keep ((Below.refl _ _).alloc (Nat.le_refl _) (.cells z32 30))).2
  refine (callsIn_wide (n := 3)).1 ?_
  refine callsIn_of_wp_marks Tryd.func58 rfl trivial ?_ rfl
  simp only [Tryd.ntmps58, List.size_toArray, List.length_cons, List.length_nil, Nat.reduceAdd, Nat.reduceSub, Array.replicate_succ, Array.replicate_zero, List.push_toArray, List.append_toArray, List.nil_append, List.cons_append]
  gi_wp2
  simp only [Tryd.isAgg98, Tryd.sizeOf98, Result.andThen, ↓reduceIte, hld]
  rw [Oper.uponIn_value]
  clear hld
  have hsc := run_storeCells_new (P := Tryd.prog) (w.alloc (.cells z32 30)) 98 #[.int .u32 0, .int .u32 0, .int .u32 0, .int .u32 0, .int .u32 0, .int .u32 0, .int .u32 0, .int .u32 0] (celW (chL ch0)).toArray (by kernel_rfl) rfl celW_one
  rw [alloc_sz] at hsc
  have hsz : (celW (chL ch0)).length = 8 := rfl
  generalize hcs : celW (chL ch0) = cs at *
  gi_wp2
  simp only [Tryd.sizeOf98, Result.andThen, ↓reduceIte, hsc]
  rw [Oper.uponIn_skip]
  clear hsc
  gi_wp2
  refine ⟨trivial, ?_⟩
  have HB2 := Lib.hid (((Below.refl w.heap.size w).alloc (Nat.le_refl _) (.cells z32 30)).alloc (by simp) (.cells cs.toArray 98))
  have HR0 : Hid (RowB ((w.alloc (.cells z32 30)).alloc (.cells cs.toArray 98)) 30 w.heap.size (List.replicate 32 0)) := Lib.hid (heap_old _ (heap_new w _))
  have HR1 : Hid (RowW ((w.alloc (.cells z32 30)).alloc (.cells cs.toArray 98)) 98 (w.heap.size + 1) (chL ch0)) := Lib.hid (by
    have h := heap_new (w.alloc (.cells z32 30)) (.cells cs.toArray 98)
    rw [alloc_sz] at h
    unfold RowW
    rw [hcs]
    exact h)
  clear hcs hsz
  generalize (w.alloc (.cells z32 30)).alloc (.cells cs.toArray 98) = w2 at *
  refine (callsIn_wide.2 (padded_any A n c Ps w2 (HP.out.keep HB2.out) hn1 (by omega) hL)).mono ?_
  rintro e W3 ⟨g, c', rfl, hp, hb⟩
  have HP3 := Lib.hid hp
  have HR03 := Lib.hid (HR0.out.keep hb)
  have HR13 := Lib.hid (HR1.out.keep hb)
  have HB3 := Lib.hid (bel_step HB2.out hb)
  clear hp hb HR0 HR1 HB2 HP
  gi_wp2_with (refine ⟨trivial, ?_⟩; gi_at_call 65; refine (callsIn_wide.2 (blocks_any _ _ _ _)).mono ?_; rintro e W4 ⟨rfl, rfl⟩)
  have hb : Below W3.heap.size W3 (W3.alloc (.cells #[.slice (some ⟨g, 0, none⟩) (n + 1) c'] 89)) := (Below.refl _ _).alloc (Nat.le_refl _) _
  have HX4 := Lib.hid (One.new W3 89 (.slice (some ⟨g, 0, none⟩) (n + 1) c'))
  have HP4 := Lib.hid (HP3.out.keep hb)
  have HR04 := Lib.hid (HR03.out.keep hb)
  have HR14 := Lib.hid (HR13.out.keep hb)
  have HB4 := Lib.hid (bel_step HB3.out hb)
  clear hb HP3 HR03 HR13 HB3
  generalize W3.heap.size = b1 at *
  generalize W3.alloc (.cells #[.slice (some ⟨g, 0, none⟩) (n + 1) c'] 89) = W4 at *
  have hs4 : w.heap.size + 1 < W4.heap.size := HR14.out.lt
  have hm := flat_msg Ps
  have hsm := sum_msg Ps
  have HQ := Lib.hid (HP4.out.keepX HR14.out)
  have hpb2 : ∀ x ∈ (Ps ++ [padN (sumL Ps)]).flatten, x < 256 := by rw [hm]; exact msgN_lt HPB.out
  have hsh : Hid (shaN Ps.flatten = digN (stN ch0 (Ps ++ [padN (sumL Ps)]).flatten (nblk (sumL Ps))) 32) := Lib.hid (by rw [hm]; rfl)
  have hk8 : nblk (sumL Ps) ≤ 2199023255520 := by unfold nblk; omega
  clear hm HP4
  generalize nblk (sumL Ps) = K at *
  have hqn : sumL (Ps ++ [padN (sumL Ps)]) ≤ 140737488354000 := by omega
  generalize Ps ++ [padN (sumL Ps)] = Qs at *
  refine wpIn_rangeOwn (gf := 69) (lb := #[.pointer (some ⟨b1, 0, none⟩)]) rfl (enters_of Tryd.func69 (by kernel_rfl) rfl)
    (fun x : Addr × Nat => #[.slice (some x.1) 64 x.2]) (fun _ => rfl) K (HashJ w W4 30 98 Qs.flatten) (fun _ _ => False) (fun i x B => BlkX Qs.flatten i x B)
    (fun i A B h hb => ⟨h.1.below hb, h.2.1.same (hb.block _ (by omega)), h.2.2.1.same (hb.block _ hs4), h.2.2.2.trans (hb.mono (by omega))⟩) (fun i A B h hb => h)
    ⟨SameX.refl _ _, HR04.out, HR14.out, HB4.out⟩ ?iter ?round ?fin ?stop
  case iter =>
    intro l W0 J' Jx' hJ' hJB hWW hY h0
    have hX0 := (hJB 0 W0 h0).1.1
    exact blk_iter (SameX (w.heap.size + 1) W4) (some ⟨g, 0, none⟩) (n + 1) c' Qs HQ.out (by omega) K b1 hsm hqn hpb2 l W0 J' Jx' hJ' (fun i B h => ⟨(hJB i B h).1.1, (hJB i B h).2⟩) (cell_same hX0 HX4.out.c (HR14.out.other HX4.out.c (fun _ e => by cases e))) (fun i x B hi hj hx => hY i x B hi hj hx) h0
  case stop =>
    intro D i B _ _ h
    exact h.elim
  case round =>
    rintro l i x A2 hi hl hlA hLp ⟨h1, h2, h3, h4⟩ hx
    have H1 := Lib.hid h1
    have H2 := Lib.hid h2
    have H3 := Lib.hid h3
    have H4 := Lib.hid h4
    have HX := Lib.hid hx
    have HLP := Lib.hid hLp
    clear h1 h2 h3 h4 hx hLp
    gi_wp2
    refine ⟨KeepA.refl _ _, ⟨H1.out, H2.out, H3.out, H4.out⟩, fun B2 hk hb2 hk2 => ?_⟩
    have hxb : BlkX Qs.flatten i x B2 := by
      refine ⟨⟨HX.out.1.byte, fun j hj => ?_⟩, HX.out.2⟩
      have hc := HX.out.1.cell j hj
      have hne := not_loop hc HLP.out
      refine (World.cell?_of_block ?_).trans hc
      have hlt := World.block_lt_of_cell? _ _ hc
      rw [hk2 _ _ hne (Array.getElem?_eq_getElem hlt), Array.getElem?_eq_getElem hlt]
    have HXB := Lib.hid hxb
    have hr0 : RowB B2 30 w.heap.size (List.replicate 32 0) := H2.out.same (hb2.block _ (by omega))
    have hr1 : RowW B2 98 (w.heap.size + 1) (chL (stN ch0 Qs.flatten i)) := H3.out.same (hb2.block _ hs4)
    have hX2 := H1.out.below hb2
    have hB2 : Below w.heap.size w B2 := H4.out.trans (hb2.mono (by omega))
    have HR0 := Lib.hid hr0
    have HR1 := Lib.hid hr1
    have HXX := Lib.hid hX2
    have HBB := Lib.hid hB2
    clear hxb hr0 hr1 hX2 hB2 H1 H2 H3 H4 HX HLP hk hb2 hk2
    have hld := run_loadW (P := Tryd.prog) HR1.out 8 rfl
    generalize hS : stN ch0 Qs.flatten i = S at *
    have HSS := Lib.hid hS
    have hok : S.Ok := by rw [← hS]; exact stN_ok ch0_ok _ _
    clear hS
    gi_wp2
    simp only [Tryd.isAgg98, Tryd.sizeOf98, Result.andThen, ↓reduceIte, hld]
    rw [Oper.uponIn_value]
    clear hld
    gi_wp2_with (refine ⟨trivial, ?_⟩; gi_at_call 67; (refine (CallsIn.inRound l (callsIn_wide.2 (comp_any S x.1 (blkF Qs.flatten i) x.2 B2 hok (HG.out.keep HBB.out).1 HXB.out.1 HXB.out.2.1 HXB.out.2.2))).mono ?_); rintro e W5 ⟨rfl, hb5⟩)
    have HR5 := Lib.hid (HR1.out.keep hb5)
    have H05 := Lib.hid (HR0.out.keep hb5)
    have HX5 := Lib.hid (HXX.out.below (hb5.mono (by have := HXX.out.1; omega)))
    have HB5 := Lib.hid (bel_step HBB.out hb5)
    have HK5 := Lib.hid (KeepA.of_below (N := W4.heap.size) hb5)
    have hst : stN ch0 Qs.flatten (i + 1) = compN S (blkF Qs.flatten i) := by rw [stN, HSS.out]
    generalize compN S (blkF Qs.flatten i) = T at *
    have hsc := run_storeW (P := Tryd.prog) (ws := chL T) HR5.out (by rw [chL_length, chL_length])
    have hsz : (celW (chL T)).length = 8 := by rw [celW_length, chL_length]
    simp only [Tryd.sizeOf98, Result.andThen, ↓reduceIte, hsc, hsz]
    rw [Oper.uponIn_skip]
    clear hsc hsz
    gi_wp2
    refine ⟨HK5.out.row hs4 _, HX5.out.row _, H05.out.farRow (by omega) _, ?_, bel_setRow HB5.out (by omega) _⟩
    rw [hst]
    exact HR5.out.row _
  case fin =>
    rintro D B hD ⟨h1, h2, h3, h4⟩ hdk
    have H2 := Lib.hid h2
    have H3 := Lib.hid h3
    have H4 := Lib.hid h4
    have HD := Lib.hid hdk
    clear h1 h2 h3 h4 hdk
    have hld := run_loadW (P := Tryd.prog) H3.out 8 rfl
    generalize hS : stN ch0 Qs.flatten K = S at *
    have hok : S.Ok := by rw [← hS]; exact stN_ok ch0_ok _ _
    clear hS
    gi_wp2
    simp only [Tryd.isAgg98, Tryd.sizeOf98, Result.andThen, ↓reduceIte, hld]
    rw [Oper.uponIn_value]
    clear hld
    gi_wp2_with (refine ⟨trivial, ?_⟩; gi_at_call 68; refine (callsIn_wide.2 (digest_any S B hok)).mono ?_; rintro e W5 ⟨rfl, hb5⟩)
    have H05 := Lib.hid (H2.out.keep hb5)
    have HB5 := Lib.hid (bel_step H4.out hb5)
    have HD5 := Lib.hid (heap_keep HD.out hb5)
    have hb : Below w.heap.size w W5 := HB5.out
    clear hb5 H2 H3 H4 HD
    have hsc := run_storeB (P := Tryd.prog) (ws := digN S 32) H05.out (by rw [digN_length]; rfl)
    have hsz : (celB (digN S 32)).length = 32 := by rw [celB_length, digN_length]
    have hll := digN_length S 32
    have hSh := hsh.out
    generalize digN S 32 = R at *
    simp only [Tryd.sizeOf30, Result.andThen, ↓reduceIte, hsc, hsz]
    rw [Oper.uponIn_skip]
    clear hsc
    have HR6 := Lib.hid (H05.out.row R)
    have HB6 := Lib.hid (bel_setRow HB5.out (Nat.le_refl _) (celB R).toArray)
    have HD6 : Hid ((W5.setRow w.heap.size (celB R).toArray).heap[D]? = some (.deferred (some []))) := Lib.hid (by
      have : w.heap.size ≠ D := by omega
      simp [World.setRow, Array.getElem?_modify, this]
      exact HD5.out)
    clear H05 HB5 HD5
    generalize W5.setRow w.heap.size (celB R).toArray = W6 at *
    gi_wp2
    have hTR : RowB (W6.putObj D (.deferred none)) 30 w.heap.size R := (World.putObj_heap_other (by omega)).trans HR6.out
    have hbp : Below w.heap.size w (W6.putObj D (.deferred none)) := HB6.out.trans ⟨rfl, rfl, rfl, by simp, fun k hk => World.putObj_heap_other (by omega)⟩
    refine ⟨by simp, .inl ⟨_, _, rfl, run_takeDeferred HD6.out, ?_⟩⟩
    refine ⟨.agg (celB R).toArray, ?_, by rw [hSh], hbp⟩
    exact results_cell_row rfl _ _ w.heap.size 30 _ (0, 0) _ rfl hTR Tryd.underlying30 rfl (dig_size hll)
end Go.Proofs.YtcaoajeplinopaaDoor

namespace Go.Proofs.YtcaoajeplinopaaDoor
set_option linter.unusedVariables false
set_option linter.unusedSimpArgs false
set_option maxRecDepth 8000
open Go.RowKit
theorem Pb.one {w : World} {g : Nat} {t : Nat} {A : Option Addr} {n c : Nat} {bs : List Nat} (hg : w.heap[g]? = some (.cells #[.slice A n c] t (0, 0))) (h : Sb w A n c bs) : Pb w (some ⟨g, 0, none⟩) 1 1 [bs] :=
  Pb.row (vs := [.slice A n c]) hg rfl (Nat.le_refl _) (by omega) fun i p hp => by
    match i, hp with
    | 0, hp => injection hp with hp; subst hp; exact ⟨_, _, _, rfl, h⟩
    | i + 1, hp => simp at hp
/-- hash of one, of two, of three portions -/
theorem hash1 (g : Nat) (A : Option Addr) (n c : Nat) (bs : List Nat) (w : World) {t : Nat} (hg : w.heap[g]? = some (.cells #[.slice A n c] t (0, 0))) (h : Sb w A n c bs) (hn : n ≤ 140737488351233) (hG : Gl w) (R : List Nat) (hR : shaN bs = R) :
    Calls Tryd.prog 58 #[.slice (some ⟨g, 0, none⟩) 1 1] w fun e w' => e = .returned (.agg (celB R).toArray) ∧ Below w.heap.size w w' := by
  have hf : [bs].flatten = bs := by simp
  have := hash_any (some ⟨g, 0, none⟩) 1 1 [bs] w (Pb.one hg h) (by omega) (by omega) (by unfold sumL; rw [hf]; have := h.len; omega) hG (by rw [hf]; exact h.byte)
  rw [hf, hR] at this
  exact this
attribute [local simp] z32_ne z32_run
attribute [-simp] Tryd.zeroValue30 Tryd.isAgg30 Tryd.sizeOf30
set_option maxHeartbeats 1000000 in
theorem sum_any (A : Option Addr) (n c : Nat) (bs : List Nat) (w : World) (h : Sb w A n c bs) (hn : n ≤ 140737488351233) (hG : Gl w) (R : List Nat) (hR : shaN bs = R) :
    Calls Tryd.prog 44 #[.slice A n c] w fun e w' => e = .returned (.agg (celB R).toArray) ∧ Below w.heap.size w w' := by
  have hl : R.length = 32 := by rw [← hR]; exact shaN_length _
  have HR := Lib.hid hR
  clear hR
  go_enter Tryd.func44, Tryd.ntmps44
  go_wp2_with fail
  refine calls_named2 (fun w1 hb1 g0 g1 hlt1 => ?_)
  have H0 : Hid (RowB w1 30 w.heap.size (List.replicate 32 0)) := Lib.hid g0
  have HB1 := Lib.hid hb1
  refine (hash1 (w.heap.size + 1) A n c bs w1 g1 (h.keep hb1) hn (hG.keep hb1) R HR.out).mono ?_
  rintro e w2 ⟨rfl, hb2⟩
  have H2 := Lib.hid (H0.out.keep hb2)
  have HB2 := Lib.hid (bel_step HB1.out hb2)
  clear g0 g1 hb1 hb2 hlt1 H0 HB1 h hG
  have hsc := run_storeB (P := Tryd.prog) (ws := R) H2.out (by rw [hl, List.length_replicate])
  have hsz : (celB R).length = 32 := by rw [celB_length, hl]
  go_wp2_with fail
  simp only [Tryd.sizeOf30, Result.andThen, ↓reduceIte, hsc]
  rw [Oper.upon_skip]
  go_wp2_with fail
  refine bodyPost_ret (v := .agg (celB R).toArray) ?_ rfl ⟨rfl, bel_setRow HB2.out (Nat.le_refl _) _⟩
  exact results_cell_row rfl _ _ w.heap.size 30 _ (0, 0) _ rfl (H2.out.row R) Tryd.underlying30 rfl (dig_size hl)
end Go.Proofs.YtcaoajeplinopaaDoor

namespace Go.Proofs.YtcaoajeplinopaaDoor
set_option linter.unusedVariables false
set_option linter.unusedSimpArgs false
set_option maxRecDepth 8000
open Go.RowKit
attribute [local simp] z32_ne z32_run
attribute [-simp] Tryd.zeroValue30 Tryd.isAgg30 Tryd.sizeOf30
theorem run_buildB1 {ev : Operand → Value} {o : Oper} {x : Operand} (y : Nat) (ho : o.op = .buildSlice 22 1 #[(0, x)]) (hx : ev x = .int .u8 (y : Int)) (w : World) :
    (execOp ev o).run Tryd.prog w = .ok (.value (.slice (some ⟨w.heap.size, 0, none⟩) 1 1)) (w.alloc (.cells #[.int .u8 (y : Int)] 5)) := by
  unfold execOp
  rw [ho]
  simp only [List.map_toArray, List.map_cons, List.map_nil, hx]
  go_simp
end Go.Proofs.YtcaoajeplinopaaDoor

namespace Go.Proofs.YtcaoajeplinopaaDoor
set_option linter.unusedVariables false
set_option linter.unusedSimpArgs false
set_option maxRecDepth 8000
open Go.RowKit
attribute [local simp] z64_ne z64_run
attribute [-simp] Tryd.zeroValue94 Tryd.isAgg94 Tryd.sizeOf94
def kA : Array Value := (celW kN).toArray
set_option maxRecDepth 100000 in
theorem rconst_any (w : World) :
    Calls Tryd.prog 63 #[] w fun e w' => e = .returned (.agg kA) ∧ Below w.heap.size w w' := by
  go_enter Tryd.func63, Tryd.ntmps63
  go_upto_region 1 with fail
  refine wp_named1 (fun w1 hb1 g0 hlt1 => ?_)
  have H0 : Hid (RowW w1 94 w.heap.size (List.replicate 64 0)) := Lib.hid g0
  refine wp_region_lit ?_
  refine wpList_val rfl (.agg kA) w1 (by kernel_rfl) ?_
  refine wpList_skip0 rfl (w1.setRow w.heap.size kA) (exec_storeRow w.heap.size (celW (List.replicate 64 0)).toArray kA rfl rfl rfl H0.out (by kernel_rfl) (by kernel_rfl) (by kernel_rfl)) ?_
  refine wpList_nil ?_
  simp only [Act.put, List.setIfInBounds_toArray, List.set_cons_zero, List.set_cons_succ]
  have H1 := Lib.hid (show RowW (w1.setRow w.heap.size kA) 94 w.heap.size kN from H0.out.row kN)
  have HB1 := Lib.hid (bel_setRow hb1 (Nat.le_refl _) kA)
  clear hb1 g0 hlt1 H0
  generalize w1.setRow w.heap.size kA = w2 at *
  go_wp2_with fail
  refine bodyPost_ret (v := .agg kA) ?_ rfl ⟨rfl, HB1.out⟩
  exact results_cell_row rfl _ _ w.heap.size 94 _ (0, 0) _ rfl H1.out Tryd.underlying94 rfl (by kernel_rfl)
attribute [-simp] Tryd.isAgg83 Tryd.sizeOf83
theorem rinitial_any (w : World) :
    Calls Tryd.prog 54 #[] w fun e w' => e = .returned (.agg (celW (chL ch0)).toArray) ∧ Below w.heap.size w w' := by
  go_enter Tryd.func54, Tryd.ntmps54
  go_upto_region 1 with fail
  refine wp_named1 (fun w1 hb1 g0 hlt1 => ?_)
  have H0 : Hid (RowW w1 83 w.heap.size [0, 0, 0, 0, 0, 0, 0, 0]) := Lib.hid g0
  refine wp_region_lit ?_
  refine wpList_val rfl (.agg (celW (chL ch0)).toArray) w1 (by kernel_rfl) ?_
  refine wpList_skip0 rfl (w1.setRow w.heap.size (celW (chL ch0)).toArray) (exec_storeRow w.heap.size (celW [0, 0, 0, 0, 0, 0, 0, 0]).toArray _ rfl rfl rfl H0.out (by kernel_rfl) (by kernel_rfl) (by kernel_rfl)) ?_
  refine wpList_nil ?_
  simp only [Act.put, List.setIfInBounds_toArray, List.set_cons_zero, List.set_cons_succ]
  have H1 := Lib.hid (H0.out.row (chL ch0))
  have HB1 := Lib.hid (bel_setRow hb1 (Nat.le_refl _) (celW (chL ch0)).toArray)
  clear hb1 g0 hlt1 H0
  generalize w1.setRow w.heap.size (celW (chL ch0)).toArray = w2 at *
  go_wp2_with fail
  refine bodyPost_ret (v := .agg (celW (chL ch0)).toArray) ?_ rfl ⟨rfl, HB1.out⟩
  exact results_cell_row rfl _ _ w.heap.size 83 _ (0, 0) _ rfl H1.out Tryd.underlying83 rfl (by kernel_rfl)
end Go.Proofs.YtcaoajeplinopaaDoor

namespace Go.Proofs.YtcaoajeplinopaaDoor
set_option linter.unusedVariables false
set_option linter.unusedSimpArgs false
set_option maxRecDepth 8000
open Go.RowKit
theorem kN_at {i : Nat} (h : i < 64) : kN[i]? = some (kN.getD i 0) := by rw [List.getD_eq_getElem?_getD, List.getElem?_eq_getElem (by rw [kN_length]; exact h)]; rfl
attribute [local simp] z64_ne z64_run
attribute [-simp] Tryd.zeroValue94 Tryd.isAgg94 Tryd.sizeOf94
set_option maxHeartbeats 1000000 in
theorem rcomp_any (s : Ch) (ad : Addr) (bt : Nat → Nat) (cp : Nat) (w : World) (hs : s.Ok) (hB : Blk w ad bt) (hcp : 64 ≤ cp) (hcm : cp ≤ 9223372036854775807) :
    Calls Tryd.prog 56 #[.agg (celW (chL s)).toArray, .slice (some ad) 64 cp] w fun e w' => e = .returned (.agg (celW (chL (compN s bt))).toArray) ∧ Below w.heap.size w w' := by
  have HB0 := Lib.hid hB
  clear hB
  go_enter Tryd.func56, Tryd.ntmps56
  go_wp2_with fail
  refine calls_named2 (fun w1 hb1 g0 g1 hlt1 => ?_)
  have hr0 : RowW w1 83 w.heap.size (chL s) := g0
  have hr1 : RowW w1 83 (w.heap.size + 1) [0, 0, 0, 0, 0, 0, 0, 0] := g1
  clear g0 g1 hlt1
  have HR0 := Lib.hid hr0
  have HR1 := Lib.hid hr1
  have HB := Lib.hid hb1
  clear hr0 hr1 hb1
  with_reducible refine (rsched_any ad bt cp w1 (HB0.out.keep HB.out) hcp hcm).mono ?_
  rintro e W1 ⟨rfl, hb⟩
  have HRA := Lib.hid (HR0.out.keep hb)
  have HRB := Lib.hid (HR1.out.keep hb)
  have HBA := Lib.hid (bel_step HB.out hb)
  clear hb HR0 HR1 HB
  generalize hcs : celW (schedN bt) = cl
  have hcz : cl.length = 64 := by rw [← hcs, celW_length, schedN_length]
  go_wp2_with fail
  refine (rconst_any W1).mono ?_
  rintro e W2 ⟨rfl, hb⟩
  have HRA2 := Lib.hid (HRA.out.keep hb)
  have HRB2 := Lib.hid (HRB.out.keep hb)
  have HBA2 := Lib.hid (bel_step HBA.out hb)
  clear hb HRA HRB HBA
  obtain ⟨kl, hks⟩ : ∃ kl : List Value, celW kN = kl := ⟨_, rfl⟩
  have hkz : kl.length = 64 := by rw [← hks, celW_length, kN_length]
  rw [show kA = kl.toArray by rw [← hks]; rfl]
  obtain ⟨W3, hW3⟩ : ∃ W3, W3 = (W2.alloc (.cells z64 94)).alloc (.cells z64 94) := ⟨_, rfl⟩
  have h5 : RowW W3 94 W2.heap.size (List.replicate 64 0) := by rw [hW3]; exact heap_old _ (heap_new W2 _)
  have h6 : RowW W3 94 (W2.heap.size + 1) (List.replicate 64 0) := by
    rw [hW3]
    have h := heap_new (W2.alloc (.cells z64 94)) (.cells z64 94)
    rw [alloc_sz] at h
    exact h
  have hb3 : Below W2.heap.size W2 W3 := by rw [hW3]; exact ((Below.refl _ _).alloc (Nat.le_refl _) _).alloc (by simp) _
  have hsc1 := run_storeW (P := Tryd.prog) (ws := schedN bt) h5 (by rw [schedN_length, List.length_replicate])
  rw [hcs, hW3] at hsc1
  have h51 := h5.row (schedN bt)
  have h61 := h6.farRow (show W2.heap.size + 1 ≠ W2.heap.size by omega) (celW (schedN bt)).toArray
  have hb4 := bel_setRow hb3 (Nat.le_refl _) (celW (schedN bt)).toArray
  rw [hcs, hW3] at h51 h61 hb4
  go_wp2_with fail
  simp only [Tryd.sizeOf94, Result.andThen, ↓reduceIte, hsc1]
  rw [Oper.upon_skip]
  clear hsc1 h5 h6 hb3 hW3 W3
  generalize ((W2.alloc (.cells z64 94)).alloc (.cells z64 94)).setRow W2.heap.size cl.toArray = W4 at *
  have hsc2 := run_storeW (P := Tryd.prog) (ws := kN) h61 (by rw [kN_length, List.length_replicate])
  rw [hks] at hsc2
  have h52 := h51.farRow (show W2.heap.size ≠ W2.heap.size + 1 by omega) (celW kN).toArray
  have h62 := h61.row kN
  have hb5 := bel_setRow hb4 (show W2.heap.size ≤ W2.heap.size + 1 by omega) (celW kN).toArray
  rw [hks] at h52 h62 hb5
  go_wp2_with fail
  simp only [Tryd.sizeOf94, Result.andThen, ↓reduceIte, hsc2]
  rw [Oper.upon_skip]
  clear hsc2 hb4 h51 h61 hcs hks
  have hg : w.heap.size + 2 ≤ W2.heap.size := HRB2.out.lt
  have hbb := bel_step HBA2.out hb5
  have hr0 := HRA2.out.keep hb5
  have hr1 := HRB2.out.keep hb5
  clear hb5 HRA2 HRB2 HBA2
  generalize W4.setRow (W2.heap.size + 1) kl.toArray = w2 at *
  generalize W2.heap.size = gw at *
  have HRW := Lib.hid h52
  have HRK := Lib.hid h62
  clear h52 h62
  have HR0 := Lib.hid hr0
  have HR1 := Lib.hid hr1
  have HB := Lib.hid hbb
  clear hr0 hr1 hbb
  go_wp2_with fail
  have c0 := HR0.out.at_ (i := 0) (x := s.a) rfl
  have c1 := HR0.out.at_ (i := 1) (x := s.b) rfl
  have c2 := HR0.out.at_ (i := 2) (x := s.c) rfl
  have c3 := HR0.out.at_ (i := 3) (x := s.d) rfl
  go_quiet (fail)
  have hb1 : Below w2.heap.size w2 (w2.drewN nq) := bel_drewN _ _ _
  have HB1 := Lib.hid hb1
  clear c0 c1 c2 c3 hb1
  generalize w2.drewN nq = w3 at *
  go_wp2_with fail
  have c4 := cell_keep (HR0.out.at_ (i := 4) (x := s.e) rfl) HB1.out
  have c5 := cell_keep (HR0.out.at_ (i := 5) (x := s.f) rfl) HB1.out
  have c6 := cell_keep (HR0.out.at_ (i := 6) (x := s.g) rfl) HB1.out
  have c7 := cell_keep (HR0.out.at_ (i := 7) (x := s.h) rfl) HB1.out
  go_quiet (fail)
  have hb1 : Below w3.heap.size w3 (w3.drewN nq) := bel_drewN _ _ _
  have HB2 := Lib.hid (bel_step HB1.out hb1)
  clear c4 c5 c6 c7 hb1
  generalize w3.drewN nq = w4 at *
  have H0 := Lib.hid (HR0.out.keep HB2.out)
  have H1 := Lib.hid (HR1.out.keep HB2.out)
  have HW := Lib.hid (HRW.out.keep HB2.out)
  have HWK := Lib.hid (HRK.out.keep HB2.out)
  have HBW := Lib.hid (bel_step HB.out HB2.out)
  clear HR0 HR1 HRW HRK HB HB1 HB2
  have HWB := Lib.hid (schedN_lt bt HB0.out.byte)
  have HWL := Lib.hid (schedN_length bt)
  have HC := Lib.hid (show compN s bt = addCh s (rndN (schedN bt) s 64) from rfl)
  clear HB0
  generalize schedN bt = ws at *
  go_wp2_with fail
  go_loopw [7, 8, 9, 10, 11, 12, 13, 14, 15] (fun va vb vc vd ve vf vg vh s0 wr => ∃ (i : Nat) (S : Ch), i ≤ 64 ∧ s0 = .int .i64 i ∧ S = rndN ws s i ∧ va = .int .u32 S.a ∧ vb = .int .u32 S.b ∧ vc = .int .u32 S.c ∧ vd = .int .u32 S.d ∧ ve = .int .u32 S.e ∧ vf = .int .u32 S.f ∧ vg = .int .u32 S.g ∧ vh = .int .u32 S.h ∧ Below w4.heap.size w4 wr) (fun _ _ _ _ _ _ _ _ s0 _ => 64 - (intOf s0).toNat)
  case atStart => exact ⟨0, s, by omega, rfl, rfl, rfl, rfl, rfl, rfl, rfl, rfl, rfl, rfl, Below.refl _ _⟩
  case round =>
    obtain ⟨i, S, hi, rfl, hS, rfl, rfl, rfl, rfl, rfl, rfl, rfl, rfl, hb⟩ := hrel
    have hok : S.Ok := by rw [hS]; exact rndN_ok ws hs i
    have HS := Lib.hid hS
    have HB := Lib.hid hb
    clear hS hb
    by_cases hlt : i < 64
    · have hk1 : (i : Int) < 64 := by omega
      have hk0 : (0 : Int) ≤ (i : Int) := by omega
      obtain ⟨a, b, c, d, e, f, g, hh⟩ := S
      obtain ⟨la, lb, lc, ld, le, lf, lg, lh⟩ := hok
      dsimp only at la lb lc ld le lf lg lh
      have LA := Lib.hid la
      have LB := Lib.hid lb
      have LC := Lib.hid lc
      have LD := Lib.hid ld
      have LE := Lib.hid le
      have LF := Lib.hid lf
      have LG := Lib.hid lg
      have LH := Lib.hid lh
      clear la lb lc ld le lf lg lh
      have lk := Later.cell (cell_keep (HWK.out.at_ (kN_at hlt)) HB.out)
      have lw := Later.cell (cell_keep (HW.out.at_ (x := ws.getD i 0) (by rw [List.getD_eq_getElem?_getD, List.getElem?_eq_getElem (by rw [HWL.out]; exact hlt)]; rfl)) HB.out)
      generalize hk : kN.getD i 0 = k at lk
      generalize hx : ws.getD i 0 = x at lw
      have HKX := Lib.hid (And.intro hk hx)
      clear hk hx
      dsimp only
      go_wp2_with fail
      refine wp_later_lex (by kernel_rfl) (lexOK_of (by kernel_rfl) (by kernel_rfl)) ?_
      repeat (go_big_quiet_step (first | (go_at_call 64; with_reducible exact Calls.later (rrotate_6 e _ LE.out)) | (go_at_call 64; with_reducible exact Calls.later (rrotate_11 e _ LE.out)) | (go_at_call 64; with_reducible exact Calls.later (rrotate_25 e _ LE.out))))
      refine wpQuiet_nil ?_
      intro X
      clear lk lw
      have HB2 := Lib.hid (bel_step HB.out X.below)
      generalize X.at = w5 at *
      go_wp2_with fail
      with_reducible refine (rrotate_2 a w5 LA.out).mono ?_
      rintro e1 W6 ⟨rfl, hb⟩
      have HB3 := Lib.hid (bel_step HB2.out hb)
      clear hb
      go_wp2_with fail
      with_reducible refine (rrotate_13 a W6 LA.out).mono ?_
      rintro e1 W7 ⟨rfl, hb⟩
      have HB4 := Lib.hid (bel_step HB3.out hb)
      clear hb
      go_wp2_with fail
      with_reducible refine (rrotate_22 a W7 LA.out).mono ?_
      rintro e1 W8 ⟨rfl, hb⟩
      have HB5 := Lib.hid (bel_step HB4.out hb)
      clear hb
      go_wp2_with fail
      go_roundw
      case rel =>
        have q1 := three_val (rotN_lt (n := 6) LE.out) (rotN_lt (n := 11) LE.out) (rotN_lt (n := 25) LE.out)
        have q2 := chs_val LE.out LF.out LG.out
        have q3 := three_val (rotN_lt (n := 2) LA.out) (rotN_lt (n := 13) LA.out) (rotN_lt (n := 22) LA.out)
        have q4 := maj_val_or LA.out LB.out LC.out
        rw [show ((4294967295 : Int) - (e : Int)) % 4294967296 = 4294967295 - (e : Int) by have := LE.out; omega]
        rw [q1, q2, q3, q4]
        refine ⟨i + 1, roundN ⟨a, b, c, d, e, f, g, hh⟩ k x, by omega, by go_num, ?_, ?_, rfl, rfl, rfl, ?_, rfl, rfl, rfl, HB5.out⟩
        · rw [rndN, ← HS.out, HKX.out.1, HKX.out.2]
        · show _ = Value.int .u32 ((((hh + Sg1 e + chN e f g + k + x) % 4294967296 + (Sg0 a + majN a b c) % 4294967296) % 4294967296 : Nat) : Int)
          refine congrArg (Value.int .u32) ?_
          unfold Sg1 Sg0
          omega
        · show _ = Value.int .u32 (((d + (hh + Sg1 e + chN e f g + k + x) % 4294967296) % 4294967296 : Nat) : Int)
          refine congrArg (Value.int .u32) ?_
          unfold Sg1
          omega
      case measure => simp [intOf]; omega
    · have hkn : i = 64 := by omega
      subst hkn
      have c0 := cell_keep (H0.out.at_ (i := 0) (x := s.a) rfl) HB.out
      have c1 := cell_keep (H0.out.at_ (i := 1) (x := s.b) rfl) HB.out
      have c2 := cell_keep (H0.out.at_ (i := 2) (x := s.c) rfl) HB.out
      have c3 := cell_keep (H0.out.at_ (i := 3) (x := s.d) rfl) HB.out
      have c4 := cell_keep (H0.out.at_ (i := 4) (x := s.e) rfl) HB.out
      have c5 := cell_keep (H0.out.at_ (i := 5) (x := s.f) rfl) HB.out
      have c6 := cell_keep (H0.out.at_ (i := 6) (x := s.g) rfl) HB.out
      have c7 := cell_keep (H0.out.at_ (i := 7) (x := s.h) rfl) HB.out
      have hr1 := H1.out.keep HB.out
      have d0 := hr1.at_ (i := 0) (x := 0) rfl
      have d1 := hr1.at_ (i := 1) (x := 0) rfl
      have d2 := hr1.at_ (i := 2) (x := 0) rfl
      have d3 := hr1.at_ (i := 3) (x := 0) rfl
      have d4 := hr1.at_ (i := 4) (x := 0) rfl
      have d5 := hr1.at_ (i := 5) (x := 0) rfl
      have d6 := hr1.at_ (i := 6) (x := 0) rfl
      have d7 := hr1.at_ (i := 7) (x := 0) rfl
      have f0 := hr1.free 0
      have f1 := hr1.free 1
      have f2 := hr1.free 2
      have f3 := hr1.free 3
      have f4 := hr1.free 4
      have f5 := hr1.free 5
      have f6 := hr1.free 6
      have f7 := hr1.free 7
      have HR := Lib.hid hr1
      clear hr1
      go_wp2_with fail
      refine bodyPost_ret (v := .agg (celW (chL (compN s bt))).toArray) ?_ rfl ⟨rfl, ?_⟩
      · have hf := ((((((((HR.out.put 0 _ _ (add_val s.a S.a)).put 1 _ _ (add_val s.b S.b)).put 2 _ _ (add_val s.c S.c)).put 3 _ _ (add_val s.d S.d)).put 4 _ _ (add_val s.e S.e)).put 5 _ _ (add_val s.f S.f)).put 6 _ _ (add_val s.g S.g)).put 7 _ _ (add_val s.h S.h))
        rw [HC.out, ← HS.out]
        exact results_cell_row rfl _ _ (w.heap.size + 1) 83 _ (0, 0) _ rfl hf Tryd.underlying83 rfl (by kernel_rfl)
      · have hb := bel_step HBW.out HB.out
        exact (((((((hb.setCell (by simp) _).setCell (by simp) _).setCell (by simp) _).setCell (by simp) _).setCell (by simp) _).setCell (by simp) _).setCell (by simp) _).setCell (by simp) _
end Go.Proofs.YtcaoajeplinopaaDoor

