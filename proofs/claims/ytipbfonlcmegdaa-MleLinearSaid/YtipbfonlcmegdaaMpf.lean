/- Contracts of package mle: the iterator over the coordinates of two points; no conditions but that its functions only add to memory. -/
import Derived.Test.YtipbfonlcmegdaaMpa
import Derived.Test.YtipbfonlcmegdaaLin
import Derived.Test.YtipbfonlcmegdaaExtT
import Derived.RangeFuncNested
import Derived.RangeFuncBound
import Derived.RangeFuncCalls
import Derived.RangeFuncLeaves
import Derived.RangeFuncBox
import Derived.Shelf.Abstract
import Derived.Shelf.RegionOpen
import Derived.OwnWalkIn
import Derived.TacticsInMore
import Derived.LoopNIn
import Derived.LoopIn
import Derived.Laws.EntriesVeiled
namespace Go.Proofs.Ytipbfonlcmegdaa
set_option maxRecDepth 8000
open Go.RowKit Gold
open Go.Shelf
attribute [local go_sem] Oper.semAt_some

theorem zip_take_succ {α β γ : Type} {f : α → β → γ} {xs : List α} {ys : List β} {k : Nat} {x : α} {y : β} (hx : xs[k]? = some x) (hy : ys[k]? = some y) : List.zipWith f (xs.take (k + 1)) (ys.take (k + 1)) = List.zipWith f (xs.take k) (ys.take k) ++ [f x y] := by
  obtain ⟨h1, e1⟩ := List.getElem?_eq_some_iff.1 hx
  obtain ⟨h2, e2⟩ := List.getElem?_eq_some_iff.1 hy
  rw [List.take_succ_eq_append_getElem h1, List.take_succ_eq_append_getElem h2, List.zipWith_append (by simp; omega), e1, e2]
  rfl
/-- what the iterator reads: its boxes, in a world that has only added to w0 -/
def Boxes (w0 : World) (b1 b2 b3 : Nat) (u1 u2 u3 : Value) (X : World → Prop) (W : World) : Prop :=
  Below w0.heap.size w0 W ∧ One W b1 22 u1 ∧ One W b2 22 u2 ∧ One W b3 33 u3 ∧ X W
theorem Boxes.later {w0 W W' : World} {b1 b2 b3 : Nat} {u1 u2 u3 : Value} {X : World → Prop} (hX : ∀ W W', X W → Below W.heap.size W W' → X W') (h : Boxes w0 b1 b2 b3 u1 u2 u3 X W) (hb : Below W.heap.size W W') : Boxes w0 b1 b2 b3 u1 u2 u3 X W' :=
  ⟨below_step h.1 hb, h.2.1.keep hb, h.2.2.1.keep hb, h.2.2.2.1.keep hb, hX _ _ h.2.2.2.2 hb⟩
theorem boxes_put {w0 : World} {b1 b2 b3 : Nat} {u1 u2 u3 : Value} {X : World → Prop} {w : World} (hw : w0.heap.size ≤ w.heap.size) (hX : ∀ W W' (row : Option Nat), X W → W.grownBy W' row → (∀ r, row = some r → ∃ o : Obj, W.heap[r]? = some o ∧ o.isCells = false) → X W') (W : World) (l : Nat) (o o' : Obj) (hl : w.heap.size ≤ l) (h : W.heap[l]? = some o) (hc : o.isCells = false) (hk : o.isWalk = false) :
    Boxes w0 b1 b2 b3 u1 u2 u3 X W → Boxes w0 b1 b2 b3 u1 u2 u3 X (W.putObj l o') := by
  rintro ⟨hB, h1, h2, h3, hx⟩
  have hr : ∀ r, some l = some r → ∃ o : Obj, W.heap[r]? = some o ∧ o.isCells = false := fun r e => by cases e; exact ⟨o, h, hc⟩
  have key : ∀ {b : Nat} {t : TypeId} {u : Value}, One W b t u → One (W.putObj l o') b t u := fun {b t u} hb => (grownBy_keeps_cells (grownBy_putObj' W l o') hr hb rfl).trans hb
  exact ⟨hB.trans (belowK_b hw W l o o' hl h hc hk), key h1, key h2, key h3, hX _ _ _ hx (grownBy_putObj' W l o') hr⟩

set_option maxRecDepth 100000 in
set_option maxHeartbeats 4000000 in
theorem combine_agr (w0 : World) (A : Option Addr) (n c : Nat) (xs : List E2) (B : Option Addr) (m d : Nat) (ys : List E2) (hp : Sl w0 A n c xs) (hq : Sl w0 B m d ys) (hnm : n = m) (b1 b2 b3 : Nat) (w : World)
    (hG : Boxes w0 b1 b2 b3 (.slice A n c) (.slice B m d) (.func (.func 89) #[] #[]) (fun _ => True) w) :
    SeqStopsK Fence.wide 2 Try.prog 109 #[.pointer (some ⟨b1, 0, none⟩), .pointer (some ⟨b2, 0, none⟩), .pointer (some ⟨b3, 0, none⟩)] (fun x : E2 => #[.agg #[.int .u64 (vF x.A), .int .u64 (vF x.B)]])
      (fun W W' => Boxes w0 b1 b2 b3 (.slice A n c) (.slice B m d) (.func (.func 89) #[] #[]) (fun _ => True) W → Boxes w0 b1 b2 b3 (.slice A n c) (.slice B m d) (.func (.func 89) #[] #[]) (fun _ => True) W')
      (fun l => l = List.zipWith (agr) xs ys) (fun _ => True) n w := fun l J Jx W hW hJA _ hY h0 => by
  have HG := Lib.hid (hG.later (fun _ _ _ _ => trivial) hW)
  have hcap := hp.cap
  have htop := hp.top
  have HP := Lib.hid hp
  have HQ := Lib.hid hq
  have HJ := Lib.hid h0
  have HJA := Lib.hid hJA
  clear hG hp hq h0 hW hJA
  have c1 := HG.out.2.1.c
  have c2 := HG.out.2.2.1.c
  refine callsIn_of_wp Try.func109 rfl trivial ?_ rfl
  simp only [Try.ntmps109, List.size_toArray, List.length_cons, List.length_nil, Nat.reduceAdd, Nat.reduceSub, Array.replicate_succ, Array.replicate_zero, List.push_toArray, List.append_toArray, List.nil_append, List.cons_append]
  subst hnm
  gi_wp2
  clear c1 c2
  gi_loopw [11] (fun s wr => ∃ k : Nat, k ≤ n ∧ s = .int .i64 k ∧ J (List.zipWith (agr) (xs.take k) (ys.take k)) wr ∧ Boxes w0 b1 b2 b3 (.slice A n c) (.slice B n d) (.func (.func 89) #[] #[]) (fun _ => True) wr) (fun s _ => n - (intOf s).toNat)
  case atStart => exact ⟨0, Nat.zero_le _, rfl, HJ.out, HG.out⟩
  case round =>
    clear HG HJ
    obtain ⟨k, hk, rfl, hJ, hG⟩ := hrel
    have HJ := Lib.hid hJ
    have HG := Lib.hid hG
    clear hJ hG
    by_cases hlt : k < n
    · obtain ⟨x, hx⟩ := HP.out.get hlt
      obtain ⟨ad, rfl, p0, p1⟩ := (HP.out.keep HG.out.1).at_ hx
      obtain ⟨y, hy⟩ := HQ.out.get hlt
      obtain ⟨ad2, rfl, q0, q1⟩ := (HQ.out.keep HG.out.1).at_ hy
      have HX := Lib.hid hx
      have HYv := Lib.hid hy
      have l1 := Later.cell HG.out.2.1.c
      have l2 := Later.cell HG.out.2.2.1.c
      have l3 := Later.cell HG.out.2.2.2.1.c
      have l4 := Later.cell p0
      have l5 := Later.cell p1
      have l6 := Later.cell q0
      have l7 := Later.cell q1
      clear hx hy p0 p1 q0 q1
      have hk0 : (0 : Int) ≤ (k : Int) := by omega
      have hk1 : (k : Int) < (n : Int) := by omega
      gi_wp2
      refine wpIn_later_tail 11 rfl (by kernel_rfl) (by kernel_rfl) ?_
      simp only [List.take_succ_cons, List.take_zero, List.drop_succ_cons, List.drop_zero]
      repeat (gi_big_quiet_step (fail))
      refine BigFrame.wpQuietIn_want (fun _ _ _ _ => trivial) rfl (fun K hK => ?_)
      gi_big_quiet_op
      apply Exists.intro
      refine ⟨fun _ => ?_, ?_⟩
      · gi_at_call 89
        with_reducible exact CallsIn.later (callsIn_wide.2 (agreement_any x y _))
      apply hK
      refine wpQuietIn_nil ?_
      intro X
      clear l1 l2 l3 l4 l5 l6 l7
      have hJX := HJA.out (List.zipWith (agr) (xs.take k) (ys.take k)) wr X.at none HJ.out (grown_of_below X.below) (fun r e => by cases e)
      have HGX := Lib.hid (HG.out.later (fun _ _ _ _ => trivial) X.below)
      obtain ⟨fn, tmps, assign, body, hy, hR⟩ := hY (List.zipWith (agr) (xs.take k) (ys.take k)) (agr x y) X.at hJX (by simp; omega)
      gi_wp2
      refine hR.mono ?_
      rintro e W3 (⟨rfl, hJ3, hk3⟩ | ⟨rfl, hJx3⟩)
      · have HG3 := Lib.hid (hk3 HGX.out)
        clear hk3
        gi_wp2
        go_roundw
        case rel => exact ⟨k + 1, by omega, by go_num, by rw [zip_take_succ HX.out HYv.out]; exact hJ3, HG3.out⟩
        case measure => simp [intOf]; omega
      · gi_wp2
        refine bodyPost_ret (results_none rfl _ _ _) rfl ?_
        exact ⟨⟨_, rfl⟩, .inr ⟨_, trivial, hJx3⟩⟩
    · have hkn : k = n := by omega
      subst hkn
      gi_wp2
      go_end0
      exact ⟨⟨_, rfl⟩, .inl ⟨_, rfl, by have h := HJ.out; rw [List.take_of_length_le (by have := HP.out.len; omega), List.take_of_length_le (by have := HQ.out.len; omega)] at h; exact h⟩⟩

set_option maxRecDepth 100000 in
set_option maxHeartbeats 4000000 in
theorem combine_btw (w0 : World) (A : Option Addr) (n c : Nat) (xs : List E2) (B : Option Addr) (m d : Nat) (ys : List E2) (hp : Sl w0 A n c xs) (hq : Sl w0 B m d ys) (hnm : n = m) (b1 b2 b3 : Nat) (b4 : Nat) (r : E2) (w : World)
    (hG : Boxes w0 b1 b2 b3 (.slice A n c) (.slice B m d) (.func (.func 94) #[] #[.pointer (some ⟨b4, 0, none⟩)]) (fun W => Two W b4 27 (.int .u64 (vF r.A)) (.int .u64 (vF r.B))) w) :
    SeqStopsK Fence.wide 2 Try.prog 109 #[.pointer (some ⟨b1, 0, none⟩), .pointer (some ⟨b2, 0, none⟩), .pointer (some ⟨b3, 0, none⟩)] (fun x : E2 => #[.agg #[.int .u64 (vF x.A), .int .u64 (vF x.B)]])
      (fun W W' => Boxes w0 b1 b2 b3 (.slice A n c) (.slice B m d) (.func (.func 94) #[] #[.pointer (some ⟨b4, 0, none⟩)]) (fun W => Two W b4 27 (.int .u64 (vF r.A)) (.int .u64 (vF r.B))) W → Boxes w0 b1 b2 b3 (.slice A n c) (.slice B m d) (.func (.func 94) #[] #[.pointer (some ⟨b4, 0, none⟩)]) (fun W => Two W b4 27 (.int .u64 (vF r.A)) (.int .u64 (vF r.B))) W')
      (fun l => l = List.zipWith (btw r) xs ys) (fun _ => True) n w := fun l J Jx W hW hJA _ hY h0 => by
  have HG := Lib.hid (hG.later (fun _ _ h hb => Two.keep h hb) hW)
  have hcap := hp.cap
  have htop := hp.top
  have HP := Lib.hid hp
  have HQ := Lib.hid hq
  have HJ := Lib.hid h0
  have HJA := Lib.hid hJA
  clear hG hp hq h0 hW hJA
  have c1 := HG.out.2.1.c
  have c2 := HG.out.2.2.1.c
  refine callsIn_of_wp Try.func109 rfl trivial ?_ rfl
  simp only [Try.ntmps109, List.size_toArray, List.length_cons, List.length_nil, Nat.reduceAdd, Nat.reduceSub, Array.replicate_succ, Array.replicate_zero, List.push_toArray, List.append_toArray, List.nil_append, List.cons_append]
  subst hnm
  gi_wp2
  clear c1 c2
  gi_loopw [11] (fun s wr => ∃ k : Nat, k ≤ n ∧ s = .int .i64 k ∧ J (List.zipWith (btw r) (xs.take k) (ys.take k)) wr ∧ Boxes w0 b1 b2 b3 (.slice A n c) (.slice B n d) (.func (.func 94) #[] #[.pointer (some ⟨b4, 0, none⟩)]) (fun W => Two W b4 27 (.int .u64 (vF r.A)) (.int .u64 (vF r.B))) wr) (fun s _ => n - (intOf s).toNat)
  case atStart => exact ⟨0, Nat.zero_le _, rfl, HJ.out, HG.out⟩
  case round =>
    clear HG HJ
    obtain ⟨k, hk, rfl, hJ, hG⟩ := hrel
    have HJ := Lib.hid hJ
    have HG := Lib.hid hG
    clear hJ hG
    by_cases hlt : k < n
    · obtain ⟨x, hx⟩ := HP.out.get hlt
      obtain ⟨ad, rfl, p0, p1⟩ := (HP.out.keep HG.out.1).at_ hx
      obtain ⟨y, hy⟩ := HQ.out.get hlt
      obtain ⟨ad2, rfl, q0, q1⟩ := (HQ.out.keep HG.out.1).at_ hy
      have HX := Lib.hid hx
      have HYv := Lib.hid hy
      have l1 := Later.cell HG.out.2.1.c
      have l2 := Later.cell HG.out.2.2.1.c
      have l3 := Later.cell HG.out.2.2.2.1.c
      have l4 := Later.cell p0
      have l5 := Later.cell p1
      have l6 := Later.cell q0
      have l7 := Later.cell q1
      clear hx hy p0 p1 q0 q1
      have HXX := Lib.hid (show Two wr b4 27 (.int .u64 (vF r.A)) (.int .u64 (vF r.B)) from HG.out.2.2.2.2)
      have hk0 : (0 : Int) ≤ (k : Int) := by omega
      have hk1 : (k : Int) < (n : Int) := by omega
      gi_wp2
      refine wpIn_later_tail 11 rfl (by kernel_rfl) (by kernel_rfl) ?_
      simp only [List.take_succ_cons, List.take_zero, List.drop_succ_cons, List.drop_zero]
      repeat (gi_big_quiet_step (fail))
      refine BigFrame.wpQuietIn_want (fun _ _ _ _ => trivial) rfl (fun K hK => ?_)
      gi_big_quiet_op
      apply Exists.intro
      refine ⟨fun _ => ?_, ?_⟩
      · gi_at_call 94
        with_reducible exact CallsIn.later (callsIn_wide.2 (between1_any r x y b4 _ (Later.two HXX.out _)))
      apply hK
      refine wpQuietIn_nil ?_
      intro X
      clear l1 l2 l3 l4 l5 l6 l7
      have hJX := HJA.out (List.zipWith (btw r) (xs.take k) (ys.take k)) wr X.at none HJ.out (grown_of_below X.below) (fun r e => by cases e)
      have HGX := Lib.hid (HG.out.later (fun _ _ h hb => Two.keep h hb) X.below)
      obtain ⟨fn, tmps, assign, body, hy, hR⟩ := hY (List.zipWith (btw r) (xs.take k) (ys.take k)) (btw r x y) X.at hJX (by simp; omega)
      gi_wp2
      refine hR.mono ?_
      rintro e W3 (⟨rfl, hJ3, hk3⟩ | ⟨rfl, hJx3⟩)
      · have HG3 := Lib.hid (hk3 HGX.out)
        clear hk3
        gi_wp2
        go_roundw
        case rel => exact ⟨k + 1, by omega, by go_num, by rw [zip_take_succ HX.out HYv.out]; exact hJ3, HG3.out⟩
        case measure => simp [intOf]; omega
      · gi_wp2
        refine bodyPost_ret (results_none rfl _ _ _) rfl ?_
        exact ⟨⟨_, rfl⟩, .inr ⟨_, trivial, hJx3⟩⟩
    · have hkn : k = n := by omega
      subst hkn
      gi_wp2
      go_end0
      exact ⟨⟨_, rfl⟩, .inl ⟨_, rfl, by have h := HJ.out; rw [List.take_of_length_le (by have := HP.out.len; omega), List.take_of_length_le (by have := HQ.out.len; omega)] at h; exact h⟩⟩

end Go.Proofs.Ytipbfonlcmegdaa
