/- Several texts in one: Kc, Kd, Ke, Qa. -/
import Derived.Test.YtbecajihgbbgjaaDoorV01
import Derived.Laws.CopyRow
import Derived.Laws.IdiomCopy
import Derived.Great.FillDense
import Derived.Great.BuildSlice
set_option linter.unusedVariables false
set_option linter.unusedSimpArgs false
set_option linter.unusedSectionVars false
namespace Go.Proofs.YtbecajihgbbgjaaDoor.K.Tl
set_option maxRecDepth 8000
open Go.RowKit Go.Proofs.YtbecajihgbbgjaaDoor.K

section
variable {P : Program} {ops : Array Oper} {S : World → Prop} {Q : Exit → Act → World → Prop} {m : Nat}

/-- every later effect waits for this operation -/
def ChainX (ops : Array Oper) (i : Nat) (listed : Array Bool) : Prop := (∀ j, Waits ops i j → listed.getD j false = false) ∧
 ∀ j oj, ops[j]? = some oj → j ≠ i → listed.getD j true = false → stillOp oj = false → Waits ops i j
structure ChainW (ops : Array Oper) : Prop where
 chain : ∀ (k j : Nat) (ok oj : Oper), k < j → ops[k]? = some ok → ops[j]? = some oj → stillOp ok = false → stillOp oj = false → Waits ops k j
theorem wpT_first (hz : ops.size = m + 1) (hs : Region.sinkB .any ops m = true) (hc : Region.chainB .any ops m = true) {i : Nat} {oi : Oper} (him : i < m) (hi : ops[i]? = some oi) (hsel : ∀ (j : Nat) (o : Oper) cs b, ops[j]? = some o → o.op ≠ .select cs b) : ∀ (n : Nat) (listed : Array Bool) (a : Act) (w : World), HeadInv .any ops m listed → S w →
   (∀ j oj, ops[j]? = some oj → j ≠ i → listed.getD j true = false → (∀ e ∈ oj.after, Region.binds .any e = true → e.on ≠ i) → oi.apart ops oj = true) →
   (stillOp oi = false → ChainX ops i listed) → i ∈ Region.ready .any ops listed → sOp P ops S i (wpT P ops S m Q n (listed.setIfInBounds i true)) a w → wpT P ops S m Q (n + 1) listed a w := by
 intro n
 induction n with
 | zero =>
  intro listed a w inv hS _ _ hr H
  refine ⟨fun h => (by rw [h] at hr; cases hr), fun j hj => ?_⟩
  by_cases hji : j = i
  ·subst hji; rw [tOp_ne (by omega)]; exact H
  ·obtain ⟨a', w', _, h0, _⟩ := sOp_out hS H
   have := ready_mono hj hji
   rw [h0] at this
   cases this
 | succ n ih =>
  intro listed a w inv hS hfree hchain hr H
  refine ⟨fun h => (by rw [h] at hr; cases hr), fun j hj => ?_⟩
  by_cases hji : j = i
  ·subst hji; rw [tOp_ne (by omega)]; exact H
  have hjm : j ≠ m := fun e => by
   subst e
   exact tail_waits hs hc (by omega) inv _ i rfl him (mem_ready.1 hr).1 j (Nat.le_refl _) hj
  have hjl := ready_lt hj
  have inv' : HeadInv .any ops m (listed.setIfInBounds j true) := inv.set hj (by omega)
  rw [tOp_ne hjm]
  obtain ⟨hjun, oj, hoj, hall⟩ := mem_ready.1 hj
  have hnot : ∀ e ∈ oj.after, Region.binds .any e = true → e.on ≠ i := fun e he hb heq => by
   have h1 := hall e he hb
   have h0 := (mem_ready.1 hr).1
   rw [heq, getD_both h0] at h1
   cases h1
  have hap := hfree j oj hoj hji hjun hnot
  obtain ⟨p1, p2, p3⟩ := Oper.apart_spec hap
  have hsi := fun cs b => hsel i oi cs b hi
  have hsj := fun cs b => hsel j oj cs b hoj
  have hfree' : ∀ k ok, ops[k]? = some ok → k ≠ i → (listed.setIfInBounds j true).getD k true = false →
    (∀ e ∈ ok.after, Region.binds .any e = true → e.on ≠ i) → oi.apart ops ok = true := fun k ok hk hki hun hno => by
   refine hfree k ok hk hki ?_ hno
   by_cases hjk : j = k
   ·subst hjk; exact hjun
   ·rw [getD_set_ne true hjk] at hun; exact hun
  have h0i : listed.getD i false = false := getD_both (mem_ready.1 hr).1
  have hjs : stillOp oi = false → stillOp oj = true := fun hs => by
   cases e : stillOp oj with
   | true => rfl
   | false => exact (Waits.not_ready (hchain hs).1 h0i ((hchain hs).2 j oj hoj hji hjun e) hoj hall).elim
  have hchain' : stillOp oi = false → ChainX ops i (listed.setIfInBounds j true) := fun hs => by
   refine ⟨fun k hw => ?_, fun k ok hk hki hun hks => ?_⟩
   ·have h1 := (hchain hs).1 k hw
    by_cases hjk : j = k
    ·subst hjk
     exact (Waits.not_ready (hchain hs).1 h0i hw hoj hall).elim
    ·rw [getD_set_ne false hjk]; exact h1
   ·have hjk : j ≠ k := by
     rintro rfl
     rw [hoj] at hk
     injection hk with hk
     rw [← hk, hjs hs] at hks
     cases hks
    rw [getD_set_ne true hjk] at hun
    exact (hchain hs).2 k ok hk hki hun hks
  have hr' := ready_mono hr (Ne.symm hji)
  have hrj := ready_mono hj hji
  unfold sOp at H
  rw [hi] at H
  rcases H with ⟨hq, v, hy, HK⟩ | ⟨hnq, hh⟩
  ·have hkj := HK.2 j hrj
   rw [tOp_ne hjm] at hkj
   have h2 := sOp_put hoj hap hsi hsj hq hy hkj
   refine sOp_mono hS (fun a' w' hS' ⟨hq', hy', hk'⟩ => ih (listed.setIfInBounds j true) a' w' inv' hS' hfree' hchain' hr' ?_) h2
   unfold sOp
   rw [hi]
   refine .inl ⟨hq', v, hy', ?_⟩
   rw [Array.setIfInBounds_comm _ _ hji]
   exact hk'
  ·have hs : stillOp oi = false := by
    cases e : stillOp oi with
    | false => rfl
    | true => exact absurd (.inl e) hnq
   have hj' := hjs hs
   obtain ⟨v0, w0, hS0, hK0⟩ := hOp_out hh
   have h1 := hK0.2 j hrj
   rw [tOp_ne hjm] at h1
   unfold sOp at h1
   rw [hoj] at h1
   obtain ⟨vj, hyj⟩ : ∃ vj, YieldsIf P ops S oj vj a := by
    rcases h1 with ⟨_, u, hu, _⟩ | ⟨e, _⟩
    ·exact ⟨u, hu.of_same (execOp_put oj hsj a oi.dst v0 p1).symm (wanted_put oj a oi.dst v0 p1).symm⟩
    ·exact absurd (.inl hj') e
   unfold sOp
   rw [hoj]
   refine .inl ⟨.inl hj', vj, hyj, ih (listed.setIfInBounds j true) (a.put oj.dst vj) w inv' hS hfree' hchain' hr' ?_⟩
   unfold sOp
   rw [hi]
   refine .inr ⟨fun e => hnq ((quietNow_put p3).1 e), hOp_put hsi p3 (hOp_mono (fun v w' ⟨hS', hk'⟩ => ⟨hS', ?_⟩) hh)⟩
   have h2 := hk'.2 j hrj
   rw [tOp_ne hjm] at h2
   unfold sOp at h2
   rw [hoj] at h2
   rcases h2 with ⟨_, u, hu, hk2⟩ | ⟨e, _⟩
   ·have hu' : YieldsIf P ops S oj u a := hu.of_same (execOp_put oj hsj a oi.dst v p1).symm (wanted_put oj a oi.dst v p1).symm
    have e := YieldsIf.one hS' hu' hyj
    subst e
    rw [Array.setIfInBounds_comm _ _ hji, ← Act.put_comm a v u p2]
    exact hk2
   ·exact absurd (.inl hj') e

end

end Go.Proofs.YtbecajihgbbgjaaDoor.K.Tl

namespace Go.Proofs.YtbecajihgbbgjaaDoor.K
open Go.RowKit

section
variable {P : Program} {ops : Array Oper} {w0 : World} {Q : Exit → Act → World → Prop}
theorem wpG_firstP {i : Nat} {oi : Oper} (hi : ops[i]? = some oi) (hsel : ∀ (j : Nat) (o : Oper) cs b, ops[j]? = some o → o.op ≠ .select cs b) : ∀ (n : Nat) (listed : Array Bool) (a : Act) (w : World), SL w0 w →
   (∀ j oj, ops[j]? = some oj → j ≠ i → listed.getD j true = false → (∀ e ∈ oj.after, Region.binds .any e = true → e.on ≠ i) → oi.apart ops oj = true) →
   (∀ j, listed.getD j true = false → j ≠ i → i + 1 < ops.size) →
   (stillOp oi = false → ChainF ops i listed) → i ∈ Region.ready .any ops listed → gOp P ops w0 i (wpG P ops w0 Q n (listed.setIfInBounds i true)) a w → wpG P ops w0 Q (n + 1) listed a w := by
 intro n
 induction n with
 | zero =>
  intro listed a w hS _ _ _ hr H
  refine ⟨fun h => (by rw [h] at hr; cases hr), fun j hj => ?_⟩
  by_cases hji : j = i
  ·subst hji; exact H
  ·obtain ⟨a', w', h0, _⟩ := gOp_out hS H
   have := ready_mono hj hji
   rw [h0] at this
   cases this
 | succ n ih =>
  intro listed a w hS hfree hgt hchain hr H
  refine ⟨fun h => (by rw [h] at hr; cases hr), fun j hj => ?_⟩
  by_cases hji : j = i
  ·subst hji; exact H
  obtain ⟨hjun, oj, hoj, hall⟩ := mem_ready.1 hj
  have hnot : ∀ e ∈ oj.after, Region.binds .any e = true → e.on ≠ i := fun e he hb heq => by
   have h1 := hall e he hb
   have h0 := (mem_ready.1 hr).1
   rw [heq, getD_both h0] at h1
   cases h1
  have hap := hfree j oj hoj hji hjun hnot
  obtain ⟨p1, p2, p3⟩ := Oper.apart_spec hap
  have hsi := fun cs b => hsel i oi cs b hi
  have hsj := fun cs b => hsel j oj cs b hoj
  have hij := hgt j hjun hji
  have hjlt : j < ops.size := (Array.getElem?_eq_some_iff.1 hoj).1
  have hfree' : ∀ k ok, ops[k]? = some ok → k ≠ i → (listed.setIfInBounds j true).getD k true = false →
    (∀ e ∈ ok.after, Region.binds .any e = true → e.on ≠ i) → oi.apart ops ok = true := fun k ok hk hki hun hno => by
   refine hfree k ok hk hki ?_ hno
   by_cases hjk : j = k
   ·subst hjk; exact hjun
   ·rw [getD_set_ne true hjk] at hun; exact hun
  have hgt' : ∀ k, (listed.setIfInBounds j true).getD k true = false → k ≠ i → i + 1 < ops.size := fun k hun hki => by
   refine hgt k ?_ hki
   by_cases hjk : j = k
   ·subst hjk; exact hjun
   ·rw [getD_set_ne true hjk] at hun; exact hun
  -- where i calls or makes, j does not call
  have hjc : stillOp oi = false → ¬ (stillOp oj = false ∧ makerOp oj = false) := fun hs ⟨h1, h2⟩ => by
   exact ((hchain hs).2 j oj hoj hji hjun h1 h2).not_ready (hchain hs).1 (getD_both (mem_ready.1 hr).1) hoj hall
  have hchain' : stillOp oi = false → ChainF ops i (listed.setIfInBounds j true) := fun hs => by
   refine ⟨fun k hk => ?_, fun k ok hk hki hun hks hkm => ?_⟩
   ·have hjk : j ≠ k := by
     rintro rfl
     exact hk.not_ready (hchain hs).1 (getD_both (mem_ready.1 hr).1) hoj hall
    rw [getD_set_ne false hjk]
    exact (hchain hs).1 k hk
   ·refine (hchain hs).2 k ok hk hki ?_ hks hkm
    by_cases hjk : j = k
    ·subst hjk; exact hjun
    ·rw [getD_set_ne true hjk] at hun; exact hun
  have hr' := ready_mono hr (Ne.symm hji)
  have hjr := ready_mono hj hji
  have nst : ¬ quietNow ops oi a → stillOp oi = false := fun h => by
   cases e : stillOp oi with
   | false => rfl
   | true => exact absurd (.inl e) h
  have nst' : ¬ quietNow ops oj a → stillOp oj = false := fun h => by
   cases e : stillOp oj with
   | false => rfl
   | true => exact absurd (.inl e) h
  have qj : ∀ v, quietNow ops oj (a.put oi.dst v) ↔ quietNow ops oj a := fun v => quietNow_put p1
  have qi : ∀ v, quietNow ops oi (a.put oj.dst v) ↔ quietNow ops oi a := fun v => quietNow_put p3
  have yj : ∀ {u v : Value}, YieldsIf P ops (SL w0) oj u (a.put oi.dst v) → YieldsIf P ops (SL w0) oj u a := fun h => h.of_same (execOp_put oj hsj a oi.dst _ p1).symm (wanted_put oj a oi.dst _ p1).symm
  have yi : ∀ {u v : Value}, YieldsIf P ops (SL w0) oi u a → YieldsIf P ops (SL w0) oi u (a.put oj.dst v) := fun h => h.of_same (execOp_put oi hsi a oj.dst _ p3) (wanted_put oi a oj.dst _ p3)
  have mj : ∀ {z : Obj × (Nat → Value)} {v : Value}, Makes P ops oj z (a.put oi.dst v) → Makes P ops oj z a := fun h => h.of_same (execOp_put oj hsj a oi.dst _ p1).symm
  have mi : ∀ {z : Obj × (Nat → Value)} {v : Value}, Makes P ops oi z a → Makes P ops oi z (a.put oj.dst v) := fun h => h.of_same (execOp_put oi hsi a oj.dst _ p3)
  have cm : ∀ {u v : Value} {W : World}, wpG P ops w0 Q n ((listed.setIfInBounds i true).setIfInBounds j true) ((a.put oi.dst v).put oj.dst u) W → wpG P ops w0 Q n ((listed.setIfInBounds j true).setIfInBounds i true) ((a.put oj.dst u).put oi.dst v) W := fun {u v W} h => by
   rw [Array.setIfInBounds_comm _ _ hji, ← Act.put_comm a v u p2]
   exact h
  unfold gOp at H
  rw [hi] at H
  unfold gOp
  rw [hoj]
  rcases H with ⟨hq, v, hy, HK⟩ | ⟨⟨hnq, hm⟩, z, hz, HK⟩ | ⟨⟨hnq, hm⟩, HK⟩
  ·have h1 := HK.2 j hjr
   unfold gOp at h1
   rw [hoj] at h1
   have step : ∀ u W, SL w0 W → wpG P ops w0 Q n ((listed.setIfInBounds i true).setIfInBounds j true) ((a.put oi.dst v).put oj.dst u) W → wpG P ops w0 Q (n + 1) (listed.setIfInBounds j true) (a.put oj.dst u) W := fun u W hW hk => by
    refine ih (listed.setIfInBounds j true) (a.put oj.dst u) W hW hfree' hgt' hchain' hr' ?_
    unfold gOp
    rw [hi]
    exact .inl ⟨(qi u).2 hq, v, yi hy, cm hk⟩
   rcases h1 with ⟨hqj, u, hu, hk⟩ | ⟨⟨hqj, hmj⟩, z, hz, hk⟩ | ⟨⟨hqj, hmj⟩, hk⟩
   ·exact .inl ⟨(qj v).1 hqj, u, yj hu, step u w hS hk⟩
   ·exact .inr (.inl ⟨⟨fun e => hqj ((qj v).2 e), hmj⟩, z, mj hz, fun b W h1 h2 h3 => step _ W (hS.ext h1) (hk b W h1 h2 h3)⟩)
   ·exact .inr (.inr ⟨⟨fun e => hqj ((qj v).2 e), hmj⟩, fun W hW => hOp_mono (fun u w' ⟨e1, e2, e3⟩ => ⟨e1, e2, step u w' e2 e3⟩) (hOp_unput hsj p1 (hk W hW))⟩)
  ·have hs := nst hnq
   have hE : Below w.heap.size w (w.alloc z.1) := (Below.refl _ _).alloc (Nat.le_refl _) _
   have h1 := (HK w.heap.size (w.alloc z.1) hE (heap_new w z.1) hS.below.size).2 j hjr
   unfold gOp at h1
   rw [hoj] at h1
   rcases h1 with ⟨hqj, u, hu, _⟩ | ⟨⟨hqj, hmj⟩, z', hz', _⟩ | ⟨⟨hqj, hmj⟩, _⟩
   ·refine .inl ⟨(qj _).1 hqj, u, yj hu, ih (listed.setIfInBounds j true) (a.put oj.dst u) w hS hfree' hgt' hchain' hr' ?_⟩
    unfold gOp
    rw [hi]
    refine .inr (.inl ⟨⟨fun e => hnq ((qi u).1 e), hm⟩, z, mi hz, fun b W h1 h2 h3 => ?_⟩)
    have h4 := (HK b W h1 h2 h3).2 j hjr
    unfold gOp at h4
    rw [hoj] at h4
    rcases h4 with ⟨_, u', hu', hk'⟩ | ⟨⟨hqj', _⟩, _⟩ | ⟨⟨hqj', _⟩, _⟩
    ·have e := YieldsIf.one (hS.ext h1) (yj hu') (yj hu)
     subst e
     exact cm hk'
    ·exact absurd ((qj _).2 ((qj _).1 hqj)) hqj'
    ·exact absurd ((qj _).2 ((qj _).1 hqj)) hqj'
   ·refine .inr (.inl ⟨⟨fun e => hqj ((qj _).2 e), hmj⟩, z', mj hz', fun b' W' h1' h2' h3' => ih (listed.setIfInBounds j true) (a.put oj.dst (z'.2 b')) W' (hS.ext h1') hfree' hgt' hchain' hr' ?_⟩)
    unfold gOp
    rw [hi]
    refine .inr (.inl ⟨⟨fun e => hnq ((qi _).1 e), hm⟩, z, mi hz, fun b W h1 h2 h3 => ?_⟩)
    have h4 := (HK b W (ext_trans h1' h1) h2 h3).2 j hjr
    unfold gOp at h4
    rw [hoj] at h4
    rcases h4 with ⟨hqj', _⟩ | ⟨_, z'', hz'', hk'⟩ | ⟨⟨_, hmj'⟩, _⟩
    ·exact absurd ((qj _).2 ((qj _).1 hqj')) hqj
    ·have e := Makes.one w (mj hz'') (mj hz')
     subst e
     exact cm (hk' b' W (Below.refl _ _) (heap_keep h2' h1) h3')
    ·rw [hmj] at hmj'; cases hmj'
   ·exact absurd ⟨nst' (fun e => hqj ((qj _).2 e)), hmj⟩ (hjc hs)
  ·have hs := nst hnq
   obtain ⟨v0, w1, _, hS1, hK1⟩ := hOp_out (HK w (Below.refl _ _))
   have h1 := hK1.2 j hjr
   unfold gOp at h1
   rw [hoj] at h1
   rcases h1 with ⟨hqj, u, hu, _⟩ | ⟨⟨hqj, hmj⟩, z', hz', _⟩ | ⟨⟨hqj, hmj⟩, _⟩
   ·refine .inl ⟨(qj _).1 hqj, u, yj hu, ih (listed.setIfInBounds j true) (a.put oj.dst u) w hS hfree' hgt' hchain' hr' ?_⟩
    unfold gOp
    rw [hi]
    refine .inr (.inr ⟨⟨fun e => hnq ((qi u).1 e), hm⟩, fun W hW => hOp_put hsi p3 (hOp_mono (fun v w' ⟨e1, e2, e3⟩ => ⟨e1, e2, ?_⟩) (HK W hW))⟩)
    have h4 := e3.2 j hjr
    unfold gOp at h4
    rw [hoj] at h4
    rcases h4 with ⟨_, u', hu', hk'⟩ | ⟨⟨hqj', _⟩, _⟩ | ⟨⟨hqj', _⟩, _⟩
    ·have e := YieldsIf.one e2 (yj hu') (yj hu)
     subst e
     exact cm hk'
    ·exact absurd ((qj _).2 ((qj _).1 hqj)) hqj'
    ·exact absurd ((qj _).2 ((qj _).1 hqj)) hqj'
   ·refine .inr (.inl ⟨⟨fun e => hqj ((qj _).2 e), hmj⟩, z', mj hz', fun b W' h1' h2' h3' => ih (listed.setIfInBounds j true) (a.put oj.dst (z'.2 b)) W' (hS.ext h1') hfree' hgt' hchain' hr' ?_⟩)
    unfold gOp
    rw [hi]
    refine .inr (.inr ⟨⟨fun e => hnq ((qi _).1 e), hm⟩, fun W hW => hOp_put hsi p3 (hOp_mono (fun v w' ⟨e1, e2, e3⟩ => ⟨e1, e2, ?_⟩) (HK W (ext_trans h1' hW)))⟩)
    have h4 := e3.2 j hjr
    unfold gOp at h4
    rw [hoj] at h4
    rcases h4 with ⟨hqj', _⟩ | ⟨_, z'', hz'', hk'⟩ | ⟨⟨_, hmj'⟩, _⟩
    ·exact absurd ((qj _).2 ((qj _).1 hqj')) hqj
    ·have e := Makes.one w (mj hz'') (mj hz')
     subst e
     exact cm (hk' b w' (Below.refl _ _) (heap_keep (heap_keep h2' hW) (e1 hij)) h3')
    ·rw [hmj] at hmj'; cases hmj'
   ·exact absurd ⟨nst' (fun e => hqj ((qj _).2 e)), hmj⟩ (hjc hs)


theorem apart_symm {x y : Oper} (h : x.apart ops y = true) : y.apart ops x = true := by
 obtain ⟨p1, p2, p3⟩ := Oper.apart_spec h
 unfold Oper.apart
 rw [Bool.and_eq_true]
 constructor
 ·cases hd : y.dst with
  | none => rfl
  | some d =>
   simp only [Bool.and_eq_true]
   refine ⟨by simpa using p3 d hd, ?_⟩
   have : x.dst ≠ some d := fun e => p2 d e hd
   simpa using this
 ·cases hd : x.dst with
  | none => rfl
  | some d => simpa using p1 d hd

/-- what the order keeps: each is taken once, behind what it waits for; what calls or makes waits for the calls before it -/
structure OrdOK (ops : Array Oper) (done is : List Nat) : Prop where
 every : ∀ j, j < ops.size → j ∈ done ∨ j ∈ is
 step : ∀ (pre : List Nat) (i : Nat) (rest : List Nat), is = pre ++ i :: rest → ∃ o, ops[i]? = some o ∧ i ∉ pre ∧ i ∉ done ∧ i ∉ rest ∧
  (∀ e ∈ o.after, Region.binds .any e = true → e.on ∈ done ∨ e.on ∈ pre) ∧ (rest ≠ [] → i + 1 < ops.size) ∧
  (stillOp o = false → ∀ j oj, j ∈ rest → ops[j]? = some oj → stillOp oj = false → makerOp oj = false → Waits ops i j)
theorem OrdOK.tail {done : List Nat} {i : Nat} {is : List Nat} (h : OrdOK ops done (i :: is)) : OrdOK ops (i :: done) is := by
 refine ⟨fun j hj => ?_, fun pre k rest e => ?_⟩
 ·rcases h.every j hj with h1 | h1
  ·exact .inl (List.mem_cons_of_mem _ h1)
  ·rcases List.mem_cons.1 h1 with h1 | h1
   ·exact .inl (h1 ▸ List.mem_cons_self)
   ·exact .inr h1
 ·obtain ⟨o, h1, h2, h3, h4, h5, h6, h7⟩ := h.step (i :: pre) k rest (by rw [e]; rfl)
  refine ⟨o, h1, fun hh => h2 (List.mem_cons_of_mem _ hh), fun hh => ?_, h4, fun e' he hb => ?_, h6, h7⟩
  ·rcases List.mem_cons.1 hh with hh | hh
   ·exact h2 (hh ▸ List.mem_cons_self)
   ·exact h3 hh
  ·rcases h5 e' he hb with h8 | h8
   ·exact .inl (List.mem_cons_of_mem _ h8)
   ·rcases List.mem_cons.1 h8 with h8 | h8
    ·exact .inl (h8 ▸ List.mem_cons_self)
    ·exact .inr h8

theorem wpG_of_ord (hx : LexOK ops) : ∀ (is : List Nat) (l : List Oper) (done : List Nat) (listed : Array Bool) (a : Act) (w : World), SL w0 w → OrdOK ops done is →
  is.map (fun i => ops[i]?) = l.map some → listed.size = ops.size → (∀ i, i ∈ done → listed.getD i false = true) → (∀ i, i ∈ is → listed.getD i true = false) → (∀ j k, k ∈ done → Waits ops j k → j ∈ done) → (is ≠ [] → ∀ j, j ∈ done → j + 1 < ops.size) →
  wpF P ops w0 Q l a w → wpG P ops w0 Q l.length listed a w
 | [], [], done, listed, a, w, _, ho, _, hz, h1, _, _, _, h => by
  refine ⟨?_, h⟩
  refine List.eq_nil_iff_forall_not_mem.2 fun i hi => ?_
  obtain ⟨h0, o, hoi, _⟩ := mem_ready.1 hi
  have hlt := (Array.getElem?_eq_some_iff.1 hoi).1
  rcases ho.every i hlt with h3 | h3
  ·have h4 := h1 i h3
   rw [getD_both h0] at h4
   cases h4
  ·cases h3
 | [], _ :: _, _, _, _, _, _, _, hm, _, _, _, _, _, _ => by simp at hm
 | _ :: _, [], _, _, _, _, _, _, hm, _, _, _, _, _, _ => by simp at hm
 | k :: is, o :: l, done, listed, a, w, hS, ho, hm, hz, h1, h2, hw, hd, h => by
  simp only [List.map_cons, List.cons.injEq] at hm
  obtain ⟨h0, hm⟩ := hm
  have hlt : k < ops.size := (Array.getElem?_eq_some_iff.1 h0).1
  obtain ⟨o', h0', _, hkd, hkr, hed, hlast, hch⟩ := ho.step [] k is rfl
  rw [h0] at h0'
  injection h0' with h0'
  subst h0'
  have hed' : ∀ e ∈ o.after, Region.binds .any e = true → e.on ∈ done := fun e he hb => by
   rcases hed e he hb with h3 | h3
   ·exact h3
   ·cases h3
  have hun : ∀ j, listed.getD j true = false → j ≠ k → j ∈ is := fun j hun hne => by
   have hj : j < ops.size := by
    rw [← hz]
    rcases Nat.lt_or_ge j listed.size with h3 | h3
    ·exact h3
    ·rw [Array.getD_eq_getD_getElem?, Array.getElem?_eq_none h3] at hun
     cases hun
   rcases ho.every j hj with h3 | h3
   ·have h4 := h1 j h3
    rw [getD_both hun] at h4
    cases h4
   ·rcases List.mem_cons.1 h3 with h3 | h3
    ·exact absurd h3 hne
    ·exact h3
  have hnil : l ≠ [] ↔ is ≠ [] := by
   have := congrArg List.length hm
   simp only [List.length_map] at this
   constructor
   ·intro h3 h4
    subst h4
    exact h3 (List.eq_nil_of_length_eq_zero this.symm)
   ·intro h3 h4
    subst h4
    exact h3 (List.eq_nil_of_length_eq_zero this)
  have rec_ : ∀ a' W, SL w0 W → wpF P ops w0 Q l a' W → wpG P ops w0 Q l.length (listed.setIfInBounds k true) a' W := fun a' W hW h' =>
   wpG_of_ord hx is l (k :: done) _ a' W hW ho.tail hm (by simpa using hz)
    (by
     intro i hi
     rcases List.mem_cons.1 hi with e | e
     ·subst e
      simp [hz, hlt]
     ·exact getD_set_true (h1 i e))
    (by
     intro i hi
     rw [getD_set_ne true (show k ≠ i from fun e => hkr (by rw [e]; exact hi))]
     exact h2 i (List.mem_cons_of_mem _ hi))
    (by
     intro j q hq hjq
     rcases List.mem_cons.1 hq with e | e
     ·subst e
      cases hjq with
      | on e' h3 he hb hon =>
       rw [h0] at h3
       injection h3 with h3
       subst h3
       exact List.mem_cons_of_mem _ (hon ▸ hed' _ he hb)
      | step e' h3 he hb hst =>
       rw [h0] at h3
       injection h3 with h3
       subst h3
       exact List.mem_cons_of_mem _ (hw j _ (hed' _ he hb) hst)
     ·exact List.mem_cons_of_mem _ (hw j q e hjq))
    (by
     intro hne j hj
     rcases List.mem_cons.1 hj with e | e
     ·subst e
      exact hlast hne
     ·exact hd (by simp) j e) h'
  have hst : gOp P ops w0 k (wpG P ops w0 Q l.length (listed.setIfInBounds k true)) a w := by
   unfold gOp
   rw [h0]
   rcases h with ⟨hq, v, hy, hk'⟩ | ⟨hq, z, hz', hk'⟩ | ⟨hq, hk'⟩
   ·exact .inl ⟨hq, v, hy, rec_ _ _ hS hk'⟩
   ·exact .inr (.inl ⟨hq, z, hz', fun b W e1 e2 e3 => rec_ _ _ (hS.ext e1) (hk' b W e1 e2 e3)⟩)
   ·refine .inr (.inr ⟨hq, fun W hW => hOp_mono (fun v w' ⟨e1, e2, e3⟩ => ⟨fun hk1 => e1 ?_, e2, rec_ _ _ e2 e3⟩) (hk' W hW)⟩)
    intro hl
    have hi : is = [] := Classical.byContradiction fun h9 => (hnil.2 h9) hl
    rcases ho.every (ops.size - 1) (by omega) with h8 | h8
    ·have := hd (by simp) _ h8
     omega
    ·rw [hi] at h8
     rcases List.mem_cons.1 h8 with h8 | h8
     ·omega
     ·cases h8
  refine wpG_firstP h0 (Region.noSelect_spec hx.sel) l.length listed a w hS ?_ ?_ ?_ (mem_ready.2 ⟨h2 k List.mem_cons_self, o, h0, fun e he hb => h1 _ (hed' e he hb)⟩) hst
  ·intro j oj hj hne hju hno
   rcases Nat.lt_trichotomy k j with h3 | h3 | h3
   ·exact hx.free k j o oj h3 h0 hj hno
   ·exact absurd h3.symm hne
   ·refine apart_symm (hx.free j k oj o h3 hj h0 fun e he hb heq => ?_)
    have h4 := h1 _ (hed' e he hb)
    rw [heq, getD_both hju] at h4
    cases h4
  ·intro j hju hne
   exact hlast (List.ne_nil_of_mem (hun j hju hne))
  ·intro hs
   refine ⟨fun j hjw => ?_, fun j oj hj hne hju hjs hjm => hch hs j oj (hun j hju hne) hj hjs hjm⟩
   have hjl : j < ops.size := (hjw.lt hx).2
   have hnd : j ∉ done := fun hd => hkd (hw k j hd hjw)
   have hjk : j ≠ k := fun e => by have := (hjw.lt hx).1; omega
   rcases ho.every j hjl with h3 | h3
   ·exact absurd h3 hnd
   ·exact getD_both (h2 j h3)

theorem wp_floatP (is : List Nat) {id : Nat} {a : Act} {w : World} {l l' : List Oper} (hm : P.follows .mixedOrders = true) (hx : LexOK l.toArray) (ho : OrdOK l.toArray [] is) (hl : is.map (fun i => l.toArray[i]?) = l'.map some) (hn : is.length = l.length)
  (h : ∀ V, Below w.heap.size w V → SL w V → wpF P l.toArray w Q l' a V) : (Code.region id l.toArray true).wp P Q a w := by
 have hS : SL w w.drew := ⟨⟨w.drew, (Below.refl _ _).drew⟩, rfl⟩
 refine wp_region_any hm (wpAny_of_wpG (w0 := w) _ _ _ _ hS ?_)
 have := wpG_of_ord (P := P) (w0 := w) (Q := Q) hx is l' [] (Array.replicate l.toArray.size false) a w.drew hS ho hl (by simp) (fun i hi => by cases hi) (fun i hi => by
  obtain ⟨pre, rest, e⟩ := List.append_of_mem hi
  obtain ⟨o, h1, _⟩ := ho.step pre i rest e
  have hlt := (Array.getElem?_eq_some_iff.1 h1).1
  exact getD_in (by simpa using hlt) (getD_replicate_false _ _)) (fun j k hk => by cases hk) (fun _ j hj => by cases hj) (h _ (Below.refl _ _).drew hS)
 have hll : l'.length = l.length := by
  have := congrArg List.length hl
  simp at this
  omega
 rw [hll] at this
 simpa using this
end

def maskL : List Oper → List Nat → List Nat
 | [], ms => ms
 | o :: l, ms => maskL l (ms ++ [waitM ms o.after.toList])
theorem maskL_spec {ops : Array Oper} : ∀ (l : List Oper) (ms : List Nat), (∀ j, l[j]? = ops[ms.length + j]?) → (∀ j i, (ms.getD j 0).testBit i = true → Waits ops i j) → ∀ j i, ((maskL l ms).getD j 0).testBit i = true → Waits ops i j
 | [], ms, _, hp => hp
 | o :: l, ms, hl, hp => by
  have h0 : ops[ms.length]? = some o := by simpa using (hl 0).symm
  refine maskL_spec l _ (fun j => by have := hl (j + 1); simpa [Nat.add_assoc, Nat.add_comm 1 j] using this) ?_
  intro j' i' hw
  rcases Nat.lt_trichotomy j' ms.length with h' | h' | h'
  ·refine hp j' i' ?_
   rw [List.getD_eq_getElem?_getD, List.getElem?_append_left h', ← List.getD_eq_getElem?_getD] at hw
   exact hw
  ·subst h'
   rw [List.getD_eq_getElem?_getD, List.getElem?_append_right (Nat.le_refl _), Nat.sub_self] at hw
   obtain ⟨e, he, hb, hon⟩ := waitM_spec _ i' hw
   have he' : e ∈ o.after := by simpa using he
   rcases hon with hon | hon
   ·exact .on e h0 he' hb hon
   ·exact .step e h0 he' hb (hp _ _ hon)
  ·rw [List.getD_eq_getElem?_getD, List.getElem?_eq_none (by simp; omega)] at hw
   simp at hw
def edgesIn (done : List Nat) : List Edge → Bool
 | [] => true
 | e :: l => (bif Region.binds .any e then done.elem e.on else true) && edgesIn done l
def waitsAll (l : List Oper) (ms : List Nat) (i : Nat) : List Nat → Bool
 | [] => true
 | j :: rest => (match l[j]? with | none => true | some oj => stillOp oj || (makerOp oj || bitOf (ms.getD j 0) i)) && waitsAll l ms i rest
def ordN (l : List Oper) (ms : List Nat) : List Nat → List Nat → Bool
 | _, [] => true
 | done, i :: rest => (match l[i]? with
  | none => false
  | some o => edgesIn done o.after.toList && (stillOp o || waitsAll l ms i rest)) && (rest.isEmpty || Nat.blt (i + 1) l.length) && !(done.elem i) && !(rest.elem i) && ordN l ms (i :: done) rest
def allIn (is : List Nat) : Nat → Bool
 | 0 => true
 | n + 1 => is.elem n && allIn is n
theorem allIn_spec {is : List Nat} : ∀ (n : Nat), allIn is n = true → ∀ j, j < n → j ∈ is
 | n + 1, h, j, hj => by
  unfold allIn at h
  rw [Bool.and_eq_true] at h
  rcases Nat.lt_or_ge j n with h1 | h1
  ·exact allIn_spec n h.2 j h1
  ·obtain rfl : j = n := by omega
   exact List.elem_iff.1 h.1
theorem edgesIn_spec {done : List Nat} : ∀ (es : List Edge), edgesIn done es = true → ∀ e, e ∈ es → Region.binds .any e = true → e.on ∈ done
 | e :: l, h, e', he, hb => by
  unfold edgesIn at h
  rw [Bool.and_eq_true] at h
  rcases List.mem_cons.1 he with h1 | h1
  ·subst h1
   rw [hb] at h
   exact List.elem_iff.1 h.1
  ·exact edgesIn_spec l h.2 e' h1 hb
theorem waitsAll_cons {l : List Oper} {ms : List Nat} {i k : Nat} {rest : List Nat} (h : waitsAll l ms i (k :: rest) = true) : (∀ oj, l[k]? = some oj → stillOp oj = false → makerOp oj = false → bitOf (ms.getD k 0) i = true) ∧ waitsAll l ms i rest = true := by
 have h' : ((match l[k]? with | none => true | some oj => stillOp oj || (makerOp oj || bitOf (ms.getD k 0) i)) && waitsAll l ms i rest) = true := h
 rw [Bool.and_eq_true] at h'
 refine ⟨fun oj hoj hs hm => ?_, h'.2⟩
 have h2 := h'.1
 rw [hoj] at h2
 simpa only [hs, hm, Bool.false_or] using h2
theorem waitsAll_spec {l : List Oper} {ms : List Nat} {i : Nat} (rest : List Nat) (h : waitsAll l ms i rest = true) (j : Nat) (oj : Oper) (hj : j ∈ rest) (hoj : l[j]? = some oj) (hs : stillOp oj = false) (hm : makerOp oj = false) : (ms.getD j 0).testBit i = true := by
 induction rest with
 | nil => cases hj
 | cons k rest ih =>
  obtain ⟨h1, h2⟩ := waitsAll_cons h
  rcases List.mem_cons.1 hj with e | e
  ·rw [← bitOf_eq, e]
   exact h1 oj (e ▸ hoj) hs hm
  ·exact ih h2 e
theorem ordN_spec {l : List Oper} {ms : List Nat} (hms : ∀ j i, (ms.getD j 0).testBit i = true → Waits l.toArray i j) : ∀ (is done : List Nat), ordN l ms done is = true →
  ∀ (pre : List Nat) (i : Nat) (rest : List Nat), is = pre ++ i :: rest → ∃ o, l.toArray[i]? = some o ∧ i ∉ pre ∧ i ∉ done ∧ i ∉ rest ∧
  (∀ e ∈ o.after, Region.binds .any e = true → e.on ∈ done ∨ e.on ∈ pre) ∧ (rest ≠ [] → i + 1 < l.toArray.size) ∧
  (stillOp o = false → ∀ j oj, j ∈ rest → l.toArray[j]? = some oj → stillOp oj = false → makerOp oj = false → Waits l.toArray i j)
 | [], done, _, pre, i, rest, e => by simp at e
 | k :: is, done, h, pre, i, rest, e => by
  unfold ordN at h
  simp only [Bool.and_eq_true, Bool.not_eq_true'] at h
  obtain ⟨⟨⟨⟨h1, h2⟩, h3⟩, h4⟩, h5⟩ := h
  cases pre with
  | nil =>
   injection e with e1 e2
   subst e1
   subst e2
   cases hk : l[k]? with
   | none => rw [hk] at h1; cases h1
   | some o =>
    rw [hk] at h1
    simp only [Bool.and_eq_true] at h1
    refine ⟨o, by simpa using hk, by simp, fun hh => ?_, fun hh => ?_, fun e' he hb => .inl (edgesIn_spec _ h1.1 e' (by simpa using he) hb), fun hne => ?_, fun hs j oj hj hoj hjs hjm => ?_⟩
    ·rw [List.elem_iff.2 hh] at h3
     cases h3
    ·rw [List.elem_iff.2 hh] at h4
     cases h4
    ·rw [Bool.or_eq_true] at h2
     rcases h2 with h2 | h2
     ·exact absurd (List.isEmpty_iff.1 h2) hne
     ·simpa [Nat.blt_eq] using h2
    ·have h6 := h1.2
     rw [hs, Bool.false_or] at h6
     exact hms _ _ (waitsAll_spec _ h6 j oj hj (by simpa using hoj) hjs hjm)
  | cons q pre =>
   injection e with e1 e2
   subst e1
   obtain ⟨o, g1, g2, g3, g4, g5, g6, g7⟩ := ordN_spec hms is (k :: done) h5 pre i rest e2
   refine ⟨o, g1, fun hh => ?_, fun hh => g3 (List.mem_cons_of_mem _ hh), g4, fun e' he hb => ?_, g6, g7⟩
   ·rcases List.mem_cons.1 hh with hh | hh
    ·exact g3 (hh ▸ List.mem_cons_self)
    ·exact g2 hh
   ·rcases g5 e' he hb with g8 | g8
    ·rcases List.mem_cons.1 g8 with g8 | g8
     ·exact .inr (g8 ▸ List.mem_cons_self)
     ·exact .inl g8
    ·exact .inr (List.mem_cons_of_mem _ g8)
theorem ordOK_of {l : List Oper} {is : List Nat} (h : allIn is l.length = true) (h2 : ordN l (maskL l []) [] is = true) : OrdOK l.toArray [] is :=
 ⟨fun j hj => .inr (allIn_spec _ h j (by simpa using hj)), ordN_spec (maskL_spec (ops := l.toArray) l [] (by simp) (by intro j i hw; simp at hw)) is [] h2⟩
end Go.Proofs.YtbecajihgbbgjaaDoor.K

namespace Go.Proofs.YtbecajihgbbgjaaDoor.K
open Go.RowKit
open Go.RowKit
end Go.Proofs.YtbecajihgbbgjaaDoor.K

namespace Go.Proofs.YtbecajihgbbgjaaDoor.K
open Go.RowKit
section
variable {H : Type} {enc : TypeId × Value → H} {W : World} {base : Nat} {sp : Nat → Bool} {b1 : Nat} {hd : Bool} {v : Value} {d : DataW H} {p : List MemPlace}
end
section
variable {P : Program} {ops : Array Oper} {w0 : World}
end
end Go.Proofs.YtbecajihgbbgjaaDoor.K

namespace Go.Proofs.YtbecajihgbbgjaaDoor.K
open Go.RowKit
section
variable {P : Program} {Q : Exit → Act → World → Prop}
theorem wpOp_of_hOp {ops : Array Oper} {i : Nat} {o : Oper} {K : Act → World → Prop} {a : Act} {w : World} (hi : ops[i]? = some o) (hw : Region.wanted o (yielded ops a.tmps) = true) (h : hOp P o (fun v w' => K (a.put o.dst v) w') a w) : wpOp P ops Q i K a w :=
 wpOp_of_mOp ⟨o, hi, hw, h⟩
theorem hOp_call {o : Oper} {a : Act} {w : World} {K : Value → World → Prop} {fn : Func} (f : FuncId) (hf : P.funcs[f]? = some fn) (hname : (fn.name == "runtime.NumGoroutine") = false) (hb : fn.body.isNone = false) (args : Array Operand) (ts : Array TypeId) (vs : Array Value) (ho : o.op = .call { callee := .value (.func f), args := args, argTypes := ts })
  (hv : args.map a.eval = vs) (h : Calls P f vs w fun e w' => ∃ v, e = .returned v ∧ K v w') : hOp P o K a w := by
 unfold hOp execOp
 simp only [ho]
 have e : (do let d ← resolve a.eval { callee := .value (.func f), args := args, argTypes := ts } o.type; invoke d.target d.args : Sem Next).run P w = .ok (.enter f vs) w := by
  subst hv
  have h1 : fn.name ≠ "runtime.NumGoroutine" := by simpa using hname
  have h2 : fn.body ≠ none := by
   intro e
   rw [e] at hb
   cases hb
  simp [resolve, Deferred.ofValue, invoke, go_sem, Act.eval, callFunc, hf, h1, h2]
 rw [e]
 exact h
end
end Go.Proofs.YtbecajihgbbgjaaDoor.K

namespace Go.Proofs.YtbecajihgbbgjaaDoor.K
open Go.RowKit
section
variable {l m : Nat} {P : Program} {ops : Array Oper} {Q : Exit → Act → World → Prop} {md : Region.Mode}
end
section
variable {lp m : Nat} {P : Program} {Q : Exit → Act → World → Prop}
end
end Go.Proofs.YtbecajihgbbgjaaDoor.K

namespace Go.Proofs.YtbecajihgbbgjaaDoor.K
open Go.RowKit
section
variable {P : Program} {Q : Exit → Act → World → Prop} {ops : Array Oper} {S : World → Prop}
end
section
variable {lp m : Nat} {P : Program} {Q : Exit → Act → World → Prop}
end
end Go.Proofs.YtbecajihgbbgjaaDoor.K

namespace Go.Proofs.YtbecajihgbbgjaaDoor.K
open Go.RowKit
section
variable {P : Program} {Q : Exit → Act → World → Prop} {ops : Array Oper}
/-- an operation that is carried out -/
theorem wpList_op {rest : List Oper} {o : Oper} {a : Act} {w : World} (hw : Region.wanted o (yielded ops a.tmps) = true) (h : hOp P o (fun v w' => wpList P ops Q rest (a.put o.dst v) w') a w) : wpList P ops Q (o :: rest) a w := by
 unfold wpList
 rw [if_pos hw]
 refine .inl ?_
 unfold hOp at h
 unfold Oper.wp
 generalize (execOp a.eval o).run P w = r at *
 cases r with
 | ok n w' =>
  cases n <;> simp only [heldUpon] at h <;> simp only [Oper.upon]
  case value u => exact h
  case skip => exact h
  case enter f args => exact h.mono fun e w'' ⟨v, he, h2⟩ => by subst he; exact h2
 | halt x w' => exact h.elim
/-- by its run -/
theorem wpList_run {rest : List Oper} {o : Oper} {a : Act} {w : World} (hw : Region.wanted o (yielded ops a.tmps) = true) (v : Value) (w' : World) (hr : (execOp a.eval o).run P w = .ok (.value v) w') (h : wpList P ops Q rest (a.put o.dst v) w') : wpList P ops Q (o :: rest) a w :=
 wpList_op hw (by unfold hOp; rw [hr]; exact h)
theorem zr {rest : List Oper} {o : Oper} {a : Act} {w : World} (v : Value) (w' : World) (hr : (execOp a.eval o).run P w = .ok (.value v) w') (h : wpList P ops Q rest (a.put o.dst v) w') (hw : Region.wanted o (yielded ops a.tmps) = true := by kernel_rfl) : wpList P ops Q (o :: rest) a w := wpList_run hw v w' hr h
theorem wpList_run0 {rest : List Oper} {o : Oper} {a : Act} {w : World} (hw : Region.wanted o (yielded ops a.tmps) = true) (w' : World) (hr : (execOp a.eval o).run P w = .ok .skip w') (h : wpList P ops Q rest (a.put o.dst undef) w') : wpList P ops Q (o :: rest) a w :=
 wpList_op hw (by unfold hOp; rw [hr]; exact h)
end
end Go.Proofs.YtbecajihgbbgjaaDoor.K


namespace Go.Proofs.YtbecajihgbbgjaaDoor.K
set_option maxRecDepth 8000
open Go.RowKit
section
variable {P : Program} {Q : Exit → Act → World → Prop}
end
end Go.Proofs.YtbecajihgbbgjaaDoor.K

namespace Go.Proofs.YtbecajihgbbgjaaDoor.K
open Go.RowKit
theorem heap_farRow {w : World} {g k : Nat} {o : Obj} (h : w.heap[g]? = some o) (e : g ≠ k) (cs : Array Value) : (w.setRow k cs).heap[g]? = some o := by
 simp [World.setRow, Array.getElem?_modify, Ne.symm e, h]
section
variable {ev : Operand → Value} {o : Oper}
end
end Go.Proofs.YtbecajihgbbgjaaDoor.K

namespace Go.Proofs.YtbecajihgbbgjaaDoor.K
open Go.RowKit
open Go.RowKit
end Go.Proofs.YtbecajihgbbgjaaDoor.K

namespace Go.Proofs.YtbecajihgbbgjaaDoor.K
open Go.RowKit
section
variable {P : Program} {Q : Exit → Act → World → Prop}
end
end Go.Proofs.YtbecajihgbbgjaaDoor.K

namespace Go.Proofs.YtbecajihgbbgjaaDoor.K
open Go.RowKit
end Go.Proofs.YtbecajihgbbgjaaDoor.K

namespace Go.Proofs.YtbecajihgbbgjaaDoor.K
open Go.RowKit
theorem results_row_tmp {P : Program} {fn : Func} {p u : Tmp} {ty : TypeId} (h : fn.results = #[.cell p ty, .tmp u]) (tmps : Array Value) (w : World) (g : Nat) (t : TypeId) (cs : Array Value) (fr : Nat × Nat) (d : TypeDesc) (v : Value)
  (hp : tmps.getD p undef = .pointer (some ⟨g, 0, none⟩)) (hv : tmps.getD u undef = v) (hg : w.heap[g]? = some (.cells cs t fr))
  (hu : P.underlying ty = some d) (hd : (match d with | .struct _ | .array _ _ => true | _ => false) = true) (hi : (P.info? ty).map (·.size) = some cs.size) :
  (results fn tmps).run P w = .ok (.tuple #[.agg cs, v]) w := by
 rw [results_cell_tmp h, hp, hv]
 simp [asAddr, Result.andThen, run_loadVar_row w g t ty cs fr d hg hu hd hi]
end Go.Proofs.YtbecajihgbbgjaaDoor.K

namespace Go.Proofs.YtbecajihgbbgjaaDoor.K
open Go.RowKit
section
variable {P : Program} {Q : Exit → Act → World → Prop} {ops : Array Oper}
/-- a call -/
theorem wpList_call {rest : List Oper} {o : Oper} {a : Act} {w : World} {fn : Func} (hw : Region.wanted o (yielded ops a.tmps) = true) (f : FuncId) (hf : P.funcs[f]? = some fn) (hname : (fn.name == "runtime.NumGoroutine") = false) (hb : fn.body.isNone = false) (args : Array Operand) (ts : Array TypeId) (vs : Array Value) (ho : o.op = .call { callee := .value (.func f), args := args, argTypes := ts })
  (hv : args.map a.eval = vs) (h : Calls P f vs w fun e w' => ∃ v, e = .returned v ∧ wpList P ops Q rest (a.put o.dst v) w') : wpList P ops Q (o :: rest) a w :=
 wpList_op hw (hOp_call f hf hname hb args ts vs ho hv h)
/-- what is made lies somewhere new -/
theorem wpList_mk {rest : List Oper} {o : Oper} {a : Act} {w : World} (hw : Region.wanted o (yielded ops a.tmps) = true) (cs : Array Value) (t : TypeId) (n c : Nat) (hr : (execOp a.eval o).run P w = .ok (.value (.slice (some ⟨w.heap.size, 0, none⟩) n c)) (w.alloc (.cells cs t)))
  (h : ∀ b W, w.heap.size ≤ b → W.heap[b]? = some (.cells cs t (0, 0)) → Below w.heap.size w W → wpList P ops Q rest (a.put o.dst (.slice (some ⟨b, 0, none⟩) n c)) W) : wpList P ops Q (o :: rest) a w :=
 wpList_run hw _ _ hr (h _ _ (Nat.le_refl _) (heap_new w _) ((Below.refl _ _).alloc (Nat.le_refl _) _))
end
section
variable {ev : Operand → Value} {o : Oper}
/-- the element of a list of byte lists -/
structure El (w : World) (ad : Addr) (i : Nat) (B : Option Addr) (m d : Nat) (p : List Nat) : Prop where
 cell : w.cell? (ad.add i) = some (.slice B m d)
 sb : Sb w B m d p
theorem El.keep {w w' : World} {ad : Addr} {i : Nat} {B : Option Addr} {m d : Nat} {p : List Nat} (h : El w ad i B m d p) (hb : Below w.heap.size w w') : El w' ad i B m d p := ⟨cell_keep h.cell hb, h.sb.keep hb⟩
end
end Go.Proofs.YtbecajihgbbgjaaDoor.K

namespace Go.Proofs.YtbecajihgbbgjaaDoor.K
open Go.RowKit
section
variable {P : Program} {Q : Exit → Act → World → Prop} {ops : Array Oper}
theorem wpList_skip {rest : List Oper} {o : Oper} {a : Act} {w : World} (hw : Region.wanted o (yielded ops a.tmps) = false) (h : wpList P ops Q rest (a.put o.dst undef) w) : wpList P ops Q (o :: rest) a w := by
 unfold wpList
 rw [if_neg (by rw [hw]; simp)]
 exact h
theorem zl {rest : List Oper} {o : Oper} {a : Act} {w : World} (h : wpList P ops Q rest (a.put o.dst undef) w) (hw : Region.wanted o (yielded ops a.tmps) = false := by kernel_rfl) : wpList P ops Q (o :: rest) a w := wpList_skip hw h
end
section
variable {ev : Operand → Value} {o : Oper}
end
end Go.Proofs.YtbecajihgbbgjaaDoor.K

namespace Go.Proofs.YtbecajihgbbgjaaDoor.K
open Go.RowKit
section
variable {I : World → Prop} {F : Nat → Value → World → Prop} {d N : Nat} {t : TypeId} {old : Array Value} {G : Array Value → World → Prop} {m m' : Nat → Bool} {vs : Nat → Value} {W W' : World}
end
section
variable {ev : Operand → Value} {o : Oper}
end
end Go.Proofs.YtbecajihgbbgjaaDoor.K

namespace Go.Proofs.YtbecajihgbbgjaaDoor.K
open Go.RowKit
section
variable {ev : Operand → Value} {o : Oper}
end
theorem laterF {w0 v : World} (hv : ∃ x : Later w0, v = x.at) : Below w0.heap.size w0 v := by
 obtain ⟨x, rfl⟩ := hv
 exact x.below
end Go.Proofs.YtbecajihgbbgjaaDoor.K

namespace Go.Proofs.YtbecajihgbbgjaaDoor.K
open Go.RowKit
open Go.RowKit
theorem later_bel {w v : World} (h : ∃ x : Later w, v = x.at) : Below w.heap.size w v := by obtain ⟨x, rfl⟩ := h; exact x.below
end Go.Proofs.YtbecajihgbbgjaaDoor.K


namespace Go.Proofs.YtbecajihgbbgjaaDoor.K
set_option maxRecDepth 8000
open Go.RowKit
section
variable {P : Program} {ev : Operand → Value} {o : Oper} {w : World} {ty t : TypeId} {x y z : Operand}
theorem wrapI {z : Int} (h1 : -9223372036854775808 ≤ z) (h2 : z < 9223372036854775808) : IntKind.i64.wrap z = z := by rw [IntKind.wrap_i64]; omega
theorem xo_arith (b : BinOp) (k : IntKind) (u v r : Int) (hr : (Op.intArith b k u v).run P w = .ok (.int k r) w) (hb : b = .add ∨ b = .sub ∨ b = .mul) (ho : o.op = .binOp b ty x y t) (hx : ev x = .int k u) (hy : ev y = .int k v) :
  (execOp ev o).run P w = .ok (.value (.int k r)) w := by
 unfold execOp
 rcases hb with rfl | rfl | rfl <;> simp [ho, hx, hy, eqGuard, binOp, Sem.run_bind, hr]
theorem xo_add (k : IntKind) (u v r : Int) (h : k.wrap (u + v) = r) (ho : o.op = .binOp .add ty x y t) (hx : ev x = .int k u) (hy : ev y = .int k v) : (execOp ev o).run P w = .ok (.value (.int k r)) w :=
 xo_arith .add k u v r (by rw [← h]; rfl) (.inl rfl) ho hx hy
theorem xo_sub (k : IntKind) (u v r : Int) (h : k.wrap (u - v) = r) (ho : o.op = .binOp .sub ty x y t) (hx : ev x = .int k u) (hy : ev y = .int k v) : (execOp ev o).run P w = .ok (.value (.int k r)) w :=
 xo_arith .sub k u v r (by rw [← h]; rfl) (.inr (.inl rfl)) ho hx hy
theorem xo_mul (k : IntKind) (u v r : Int) (h : k.wrap (u * v) = r) (ho : o.op = .binOp .mul ty x y t) (hx : ev x = .int k u) (hy : ev y = .int k v) : (execOp ev o).run P w = .ok (.value (.int k r)) w :=
 xo_arith .mul k u v r (by rw [← h]; rfl) (.inr (.inr rfl)) ho hx hy
theorem xo_addI (u v r : Int) (h : u + v = r) (h1 : -9223372036854775808 ≤ r) (h2 : r < 9223372036854775808) (ho : o.op = .binOp .add ty x y t) (hx : ev x = .int .i64 u) (hy : ev y = .int .i64 v) : (execOp ev o).run P w = .ok (.value (.int .i64 r)) w :=
 xo_add _ u v r (by rw [h, wrapI h1 h2]) ho hx hy
theorem xo_subI (u v r : Int) (h : u - v = r) (h1 : -9223372036854775808 ≤ r) (h2 : r < 9223372036854775808) (ho : o.op = .binOp .sub ty x y t) (hx : ev x = .int .i64 u) (hy : ev y = .int .i64 v) : (execOp ev o).run P w = .ok (.value (.int .i64 r)) w :=
 xo_sub _ u v r (by rw [h, wrapI h1 h2]) ho hx hy
theorem xo_addU (u v r : Nat) (h : (u + v) % 18446744073709551616 = r) (ho : o.op = .binOp .add ty x y t) (hx : ev x = .int .u64 (u : Int)) (hy : ev y = .int .u64 (v : Int)) : (execOp ev o).run P w = .ok (.value (.int .u64 (r : Int))) w :=
 xo_add _ (u : Int) (v : Int) (r : Int) (by rw [IntKind.wrap_u64]; omega) ho hx hy
theorem xo_mulU (u v r : Nat) (h : (u * v) % 18446744073709551616 = r) (ho : o.op = .binOp .mul ty x y t) (hx : ev x = .int .u64 (u : Int)) (hy : ev y = .int .u64 (v : Int)) : (execOp ev o).run P w = .ok (.value (.int .u64 (r : Int))) w :=
 xo_mul _ (u : Int) (v : Int) (r : Int) (by rw [IntKind.wrap_u64, ← Int.natCast_mul]; omega) ho hx hy
theorem xo_div (b : BinOp) (k : IntKind) (u v r : Int) (hv : v ≠ 0) (hb : (b = .quo ∧ k.wrap (u.tdiv v) = r) ∨ (b = .rem ∧ u.tmod v = r)) (ho : o.op = .binOp b ty x y t) (hx : ev x = .int k u) (hy : ev y = .int k v) :
  (execOp ev o).run P w = .ok (.value (.int k r)) w := by
 unfold execOp
 rcases hb with ⟨rfl, rfl⟩ | ⟨rfl, rfl⟩ <;> simp [ho, hx, hy, eqGuard, binOp, Sem.run_bind, Op.intDiv, hv]
theorem xo_remN (k : IntKind) (u v r : Nat) (hv : 1 ≤ v) (h : u % v = r) (ho : o.op = .binOp .rem ty x y t) (hx : ev x = .int k (u : Int)) (hy : ev y = .int k (v : Int)) : (execOp ev o).run P w = .ok (.value (.int k (r : Int))) w :=
 xo_div .rem k (u : Int) (v : Int) (r : Int) (by omega) (.inr ⟨rfl, by rw [Int.tmod_eq_emod_of_nonneg (by omega), ← h]; simp⟩) ho hx hy
theorem xo_quoI (u v r : Nat) (hv : 1 ≤ v) (h : u / v = r) (hu : u < 9223372036854775808) (ho : o.op = .binOp .quo ty x y t) (hx : ev x = .int .i64 (u : Int)) (hy : ev y = .int .i64 (v : Int)) : (execOp ev o).run P w = .ok (.value (.int .i64 (r : Int))) w :=
 xo_div .quo _ (u : Int) (v : Int) (r : Int) (by omega) (.inl ⟨rfl, by
  have h3 : u / v ≤ u := Nat.div_le_self _ _
  rw [Int.tdiv_eq_ediv_of_nonneg (by omega), ← Int.natCast_ediv, h, wrapI (by omega) (by omega)]⟩) ho hx hy
theorem xo_shrN (k kk : IntKind) (u n r : Nat) (hn : n < k.bits) (h : u / 2 ^ n = r) (ho : o.op = .binOp .shr ty x y t) (hx : ev x = .int k (u : Int)) (hy : ev y = .int kk (n : Int)) : (execOp ev o).run P w = .ok (.value (.int k (r : Int))) w := by
 have e : (u : Int).fdiv (2 ^ n) = ((u / 2 ^ n : Nat) : Int) := by
  rw [Int.fdiv_eq_ediv_of_nonneg _ (by exact Int.le_of_lt (Int.pow_pos (by decide)))]
  simp
 have hm : min (n : Int).toNat k.bits = n := by rw [Int.toNat_natCast]; omega
 have hs : (Op.shift .shr k (u : Int) kk (n : Int)).run P w = .ok (.int k (r : Int)) w := by
  unfold Op.shift
  rw [if_neg (by omega), hm]
  show (Pure.pure (Value.int k ((u : Int).fdiv (2 ^ n))) : Sem Value).run P w = _
  rw [e, h]
  rfl
 unfold execOp
 simp [ho, hx, hy, eqGuard, binOp, Sem.run_bind, hs]
theorem xo_cmp (b : BinOp) (k : IntKind) (u v : Int) (r : Bool) (hr : (b = .eql ∧ (u == v) = r) ∨ (b = .neq ∧ (u != v) = r) ∨ (b = .lss ∧ decide (u < v) = r) ∨ (b = .leq ∧ decide (u ≤ v) = r) ∨ (b = .gtr ∧ decide (u > v) = r) ∨ (b = .geq ∧ decide (u ≥ v) = r))
  (ho : o.op = .binOp b ty x y t) (hx : ev x = .int k u) (hy : ev y = .int k v) : (execOp ev o).run P w = .ok (.value (.bool r)) w := by
 unfold execOp
 rcases hr with ⟨rfl, rfl⟩ | ⟨rfl, rfl⟩ | ⟨rfl, rfl⟩ | ⟨rfl, rfl⟩ | ⟨rfl, rfl⟩ | ⟨rfl, rfl⟩ <;> simp [ho, hx, hy, eqGuard, binOp, Sem.run_bind, Op.intCmp]
theorem xo_eqlT (k : IntKind) (u v : Int) (h : u = v) (ho : o.op = .binOp .eql ty x y t) (hx : ev x = .int k u) (hy : ev y = .int k v) : (execOp ev o).run P w = .ok (.value (.bool true)) w := xo_cmp _ k u v _ (.inl ⟨rfl, by simp [h]⟩) ho hx hy
theorem xo_eqlF (k : IntKind) (u v : Int) (h : u ≠ v) (ho : o.op = .binOp .eql ty x y t) (hx : ev x = .int k u) (hy : ev y = .int k v) : (execOp ev o).run P w = .ok (.value (.bool false)) w := xo_cmp _ k u v _ (.inl ⟨rfl, by simp [h]⟩) ho hx hy
theorem xo_neqT (k : IntKind) (u v : Int) (h : u ≠ v) (ho : o.op = .binOp .neq ty x y t) (hx : ev x = .int k u) (hy : ev y = .int k v) : (execOp ev o).run P w = .ok (.value (.bool true)) w := xo_cmp _ k u v _ (.inr (.inl ⟨rfl, by simp [h]⟩)) ho hx hy
theorem xo_neqF (k : IntKind) (u v : Int) (h : u = v) (ho : o.op = .binOp .neq ty x y t) (hx : ev x = .int k u) (hy : ev y = .int k v) : (execOp ev o).run P w = .ok (.value (.bool false)) w := xo_cmp _ k u v _ (.inr (.inl ⟨rfl, by simp [h]⟩)) ho hx hy
theorem xo_lssT (k : IntKind) (u v : Int) (h : u < v) (ho : o.op = .binOp .lss ty x y t) (hx : ev x = .int k u) (hy : ev y = .int k v) : (execOp ev o).run P w = .ok (.value (.bool true)) w := xo_cmp _ k u v _ (.inr (.inr (.inl ⟨rfl, decide_eq_true h⟩))) ho hx hy
theorem xo_lssF (k : IntKind) (u v : Int) (h : ¬ u < v) (ho : o.op = .binOp .lss ty x y t) (hx : ev x = .int k u) (hy : ev y = .int k v) : (execOp ev o).run P w = .ok (.value (.bool false)) w := xo_cmp _ k u v _ (.inr (.inr (.inl ⟨rfl, decide_eq_false h⟩))) ho hx hy
theorem xo_leqT (k : IntKind) (u v : Int) (h : u ≤ v) (ho : o.op = .binOp .leq ty x y t) (hx : ev x = .int k u) (hy : ev y = .int k v) : (execOp ev o).run P w = .ok (.value (.bool true)) w := xo_cmp _ k u v _ (.inr (.inr (.inr (.inl ⟨rfl, decide_eq_true h⟩)))) ho hx hy
theorem xo_leqF (k : IntKind) (u v : Int) (h : ¬ u ≤ v) (ho : o.op = .binOp .leq ty x y t) (hx : ev x = .int k u) (hy : ev y = .int k v) : (execOp ev o).run P w = .ok (.value (.bool false)) w := xo_cmp _ k u v _ (.inr (.inr (.inr (.inl ⟨rfl, decide_eq_false h⟩)))) ho hx hy
theorem xo_gtrT (k : IntKind) (u v : Int) (h : u > v) (ho : o.op = .binOp .gtr ty x y t) (hx : ev x = .int k u) (hy : ev y = .int k v) : (execOp ev o).run P w = .ok (.value (.bool true)) w := xo_cmp _ k u v _ (.inr (.inr (.inr (.inr (.inl ⟨rfl, decide_eq_true h⟩))))) ho hx hy
theorem xo_gtrF (k : IntKind) (u v : Int) (h : ¬ u > v) (ho : o.op = .binOp .gtr ty x y t) (hx : ev x = .int k u) (hy : ev y = .int k v) : (execOp ev o).run P w = .ok (.value (.bool false)) w := xo_cmp _ k u v _ (.inr (.inr (.inr (.inr (.inl ⟨rfl, decide_eq_false h⟩))))) ho hx hy
theorem xo_geqT (k : IntKind) (u v : Int) (h : u ≥ v) (ho : o.op = .binOp .geq ty x y t) (hx : ev x = .int k u) (hy : ev y = .int k v) : (execOp ev o).run P w = .ok (.value (.bool true)) w := xo_cmp _ k u v _ (.inr (.inr (.inr (.inr (.inr ⟨rfl, decide_eq_true h⟩))))) ho hx hy
theorem xo_geqF (k : IntKind) (u v : Int) (h : ¬ u ≥ v) (ho : o.op = .binOp .geq ty x y t) (hx : ev x = .int k u) (hy : ev y = .int k v) : (execOp ev o).run P w = .ok (.value (.bool false)) w := xo_cmp _ k u v _ (.inr (.inr (.inr (.inr (.inr ⟨rfl, decide_eq_false h⟩))))) ho hx hy
theorem xo_cvt {src dst : TypeId} (k1 k : IntKind) (u r : Int) (h : k.wrap u = r) (hu : P.underlying dst = some (.int k)) (hs : P.underlying src = some (.int k1)) (ho : o.op = .convert src dst x) (hx : ev x = .int k1 u) : (execOp ev o).run P w = .ok (.value (.int k r)) w := by
 unfold execOp
 simp only [ho, hx, convert, Sem.run_bind]
 rw [run_underlying hs, Result.andThen_ok, run_underlying hu, Result.andThen_ok]
 simp only [Conv.intToInt, h]
 rfl
theorem xo_min {ts : Array TypeId} (k : IntKind) (u v r : Int) (h : (if v < u then v else u) = r) (ho : o.op = .call { callee := .builtin .min, args := #[x, y], argTypes := ts }) (hx : ev x = .int k u) (hy : ev y = .int k v) : (execOp ev o).run P w = .ok (.value (.int k r)) w := by
 unfold execOp
 simp [ho, resolve, invoke, builtin, Builtin.min_, Builtin.min2, Sem.run_bind, hx, hy, h]
theorem xo_max {ts : Array TypeId} (k : IntKind) (u v r : Int) (h : (if v > u then v else u) = r) (ho : o.op = .call { callee := .builtin .max, args := #[x, y], argTypes := ts }) (hx : ev x = .int k u) (hy : ev y = .int k v) : (execOp ev o).run P w = .ok (.value (.int k r)) w := by
 unfold execOp
 subst h
 simp [ho, resolve, invoke, builtin, Builtin.max_, Builtin.max2, Sem.run_bind, hx, hy]
theorem xo_len {e : TypeId} (A : Option Addr) (n c : Nat) (hu : P.underlying ty = some (.slice e)) (ho : o.op = .call { callee := .builtin .len, args := #[x], argTypes := #[ty] }) (hx : ev x = .slice A n c) : (execOp ev o).run P w = .ok (.value (.int .i64 (n : Int))) w := by
 unfold execOp
 simp only [ho, resolve, invoke, builtin, Builtin.len_, Sem.run_bind, Sem.run_pure, Result.andThen_ok, List.map_toArray, List.map_cons, List.map_nil, hx, List.getElem?_toArray, List.getElem?_cons_zero]
 rw [run_underlying hu, Result.andThen_ok]
 rfl
theorem xo_field (i g off : Nat) (fs : Array Field) (f : Field) (inf : TypeInfo) (hu : P.underlying ty = some (.struct fs)) (hf : fs[i]? = some f) (hi : P.info? f.type = some inf) (hs : inf.size ≠ 0) (ho : o.op = .fieldAddr ty x i) (hx : ev x = .pointer (some ⟨g, off, none⟩)) :
  (execOp ev o).run P w = .ok (.value (.pointer (some ⟨g, off + f.offset, none⟩))) w := by
 have hz : (sizeOf f.type).run P w = .ok inf.size w := by simp [sizeOf, typeInfo, Sem.run_bind, hi]
 unfold execOp
 simp only [ho, hx, Instr.fieldAt, Sem.run_bind]
 rw [run_underlying hu, Result.andThen_ok]
 simp only [hf, Sem.run_bind, Instr.sureAddr, Sem.run_pure, Result.andThen_ok, fieldPlace]
 rw [hz, Result.andThen_ok, if_neg hs]
 simp [Addr.add_mid]
/-- the field's place, as the program lays it out -/
def fldOK (P : Program) (ty : TypeId) (i j : Nat) : Bool :=
 match P.underlying ty with
 | some (.struct fs) => (match fs[i]? with
  | some f => f.offset == j && (match P.info? f.type with
   | some inf => inf.size != 0
   | none => false)
  | none => false)
 | _ => false
theorem xo_fld (i g off j : Nat) (h : fldOK P ty i j = true) (ho : o.op = .fieldAddr ty x i) (hx : ev x = .pointer (some ⟨g, off, none⟩)) : (execOp ev o).run P w = .ok (.value (.pointer (some ⟨g, off + j, none⟩))) w := by
 unfold fldOK at h
 split at h
 ·rename_i fs hu
  split at h
  ·rename_i f hf
   simp only [Bool.and_eq_true, beq_iff_eq] at h
   obtain ⟨rfl, h⟩ := h
   split at h
   ·rename_i inf hi
    exact xo_field i g off fs f inf hu hf hi (by simpa using h) ho hx
   ·cases h
  ·cases h
 ·cases h
theorem xo_fld0 (i g j : Nat) (h : fldOK P ty i j = true) (ho : o.op = .fieldAddr ty x i) (hx : ev x = .pointer (some ⟨g, 0, none⟩)) : (execOp ev o).run P w = .ok (.value (.pointer (some ⟨g, j, none⟩))) w := by
 have := xo_fld (w := w) i g 0 j h ho hx
 rw [Nat.zero_add] at this
 exact this
theorem xo_index {e : TypeId} (k : IntKind) (ad : Addr) (n c i s : Nat) (hi : i < n) (hu : P.underlying ty = some (.slice e)) (hs : (P.info? e).map (·.size) = some s) (ho : o.op = .indexAddr ty x y) (hx : ev x = .slice (some ad) n c) (hy : ev y = .int k (i : Int)) :
  (execOp ev o).run P w = .ok (.value (.pointer (some (ad.add (i * s))))) w := by
 cases hq : P.info? e with
 | none => simp [hq] at hs
 | some inf =>
  have hz : (sizeOf e).run P w = .ok s w := by simp [sizeOf, typeInfo, Sem.run_bind, hq]; simpa [hq] using hs
  unfold execOp
  simp only [ho, hx, hy, Instr.indexAt, asIntOf, Sem.run_bind, Sem.run_pure, Result.andThen_ok]
  rw [run_underlying hu, Result.andThen_ok]
  simp only [Sem.run_bind, Sem.run_pure, Result.andThen_ok]
  rw [run_underlying hu, Result.andThen_ok]
  simp only [Sem.run_bind, Sem.run_pure, Result.andThen_ok]
  rw [if_pos (by omega), Sem.run_bind, hz]
  simp
theorem xo_load1 {d : TypeDesc} (a : Addr) (v : Value) (hc : w.cell? a = some v) (hu : P.underlying ty = some d) (hd : (match d with | .struct _ | .array _ _ => true | _ => false) = false) (ho : o.op = .load ty x) (hx : ev x = .pointer (some a)) : (execOp ev o).run P w = .ok (.value v) w := by
 unfold execOp
 simp only [ho, hx, Instr.loadAt, Instr.sureAddr, loadVar, Sem.run_bind, Sem.run_pure, Result.andThen_ok]
 rw [run_isAgg_plain hu hd]
 simp [hc]
theorem xo_loadR {d : TypeDesc} (b off : Nat) (cs : List Value) (hc : w.rangeAt b off cs) (hu : P.underlying ty = some d) (hd : d.isRow = true) (hi : (P.info? ty).map (·.size) = some cs.length) (ho : o.op = .load ty x) (hx : ev x = .pointer (some ⟨b, off, none⟩)) :
  (execOp ev o).run P w = .ok (.value (.agg cs.toArray)) w := by
 unfold execOp
 simp only [ho, hx, Sem.run_bind]
 rw [run_loadAt_mid w b off ty cs d hc hu hd hi]
 rfl
theorem xo_loadW {d : TypeDesc} {tt : TypeId} (g : Nat) (cs : Array Value) (hc : w.heap[g]? = some (.cells cs tt (0, 0))) (hu : P.underlying ty = some d) (hd : (match d with | .struct _ | .array _ _ => true | _ => false) = true) (hi : (P.info? ty).map (·.size) = some cs.size) (ho : o.op = .load ty x) (hx : ev x = .pointer (some ⟨g, 0, none⟩)) :
  (execOp ev o).run P w = .ok (.value (.agg cs)) w := by
 unfold execOp
 simp only [ho, hx, Instr.loadAt, Instr.sureAddr, Sem.run_bind, Sem.run_pure, Result.andThen_ok]
 rw [run_loadVar_row w g tt ty cs (0, 0) d hc hu hd hi]
 rfl
theorem xo_storeW {tt : TypeId} (g : Nat) (old cs : Array Value) (hc : w.heap[g]? = some (.cells old tt (0, 0))) (hi : (P.info? ty).map (·.size) = some cs.size) (hl : old.size = cs.size) (h1 : cs.all (·.oneCell') = true) (ho : o.op = .store ty x y) (hx : ev x = .pointer (some ⟨g, 0, none⟩)) (hy : ev y = .agg cs) :
  (execOp ev o).run P w = .ok .skip (w.setRow g cs) := by
 unfold execOp
 simp only [ho, hx, hy, Instr.storeAt, Instr.sureAddr, Sem.run_bind, Sem.run_pure, Result.andThen_ok]
 rw [run_storeVar_row w g tt ty old cs hc hi hl h1]
 rfl
theorem setCell_row (w : World) (g i : Nat) (cs : Array Value) (tt : TypeId) (fr : Nat × Nat) (v : Value) (hg : w.heap[g]? = some (.cells cs tt fr)) : (w.setCell ⟨g, i, none⟩ v).heap[g]? = some (.cells (cs.setIfInBounds i v) tt fr) := heap_setCell_at hg v
theorem xo_store1 {tt : TypeId} (g i : Nat) (cs : Array Value) (u v : Value) (hg : w.heap[g]? = some (.cells cs tt (0, 0))) (hi : cs[i]? = some u) (hz : (P.info? ty).map (·.size) = some 1) (h1 : v.oneCell' = true) (ho : o.op = .store ty x y) (hx : ev x = .pointer (some ⟨g, i, none⟩)) (hy : ev y = v) :
  (execOp ev o).run P w = .ok .skip (w.setCell ⟨g, i, none⟩ v) := by
 have hc : w.cell? ⟨g, i, none⟩ = some u := by rw [cell_of_row w g i cs tt (0, 0) hg]; exact hi
 have hfz : w.frozen? ⟨g, i, none⟩ = false := by simp [World.frozen?, hg]
 have hcell : v.cells = #[v] := by cases v <;> first | rfl | simp [Value.oneCell'] at h1
 cases hq : P.info? ty with
 | none => simp [hq] at hz
 | some inf =>
  have hs : inf.size = 1 := by simpa [hq] using hz
  unfold execOp
  simp only [ho, hx, hy, Instr.storeAt, Instr.sureAddr, Sem.run_bind, Sem.run_pure, Result.andThen_ok, storeVar, sizeOf, typeInfo, run_program, hq, hs, hcell]
  have ha : (⟨g, i, none⟩ : Addr).add 0 = ⟨g, i, none⟩ := by rw [Addr.add_mid, Nat.add_zero]
  simp [storeCells, Sem.run_bind, run_store P w _ v _ h1, ha, hc, hfz]
theorem xo_alloc (cs : Array Value) (hz : (zeroValue ty).run P w = .ok (.agg cs) w) (ho : o.op = .alloc ty) : (execOp ev o).run P w = .ok (.value (.pointer (some ⟨w.heap.size, 0, none⟩))) (w.alloc (.cells cs ty)) := by
 unfold execOp
 simp [ho, Instr.alloc, Sem.run_bind, hz, newVar, newRow, Value.cells]
theorem xo_alloc1 (v : Value) (h1 : v.oneCell' = true) (hz : (zeroValue ty).run P w = .ok v w) (ho : o.op = .alloc ty) : (execOp ev o).run P w = .ok (.value (.pointer (some ⟨w.heap.size, 0, none⟩))) (w.alloc (.cells #[v] ty)) := by
 have hcell : v.cells = #[v] := by cases v <;> first | rfl | simp [Value.oneCell'] at h1
 unfold execOp
 simp [ho, Instr.alloc, Sem.run_bind, hz, newVar, newRow, hcell]
end
end Go.Proofs.YtbecajihgbbgjaaDoor.K

namespace Go.Proofs.YtbecajihgbbgjaaDoor.K
open Go.RowKit
section
variable {P : Program} {Q : Exit → Act → World → Prop} {ops : Array Oper}
theorem xp_lt {w : World} {g : Nat} {o : Obj} (h : w.heap[g]? = some o) : g < w.heap.size := (Array.getElem?_eq_some_iff.1 h).1
theorem xp_lt0 {w : World} {g : Nat} {b : Nat} {o : Obj} (h : w.heap[g]? = some o) (hb : w.heap.size ≤ b) : g ≠ b := Nat.ne_of_lt (Nat.lt_of_lt_of_le (xp_lt h) hb)
/-- a new variable, before its first store -/
theorem wpList_new {rest : List Oper} {o : Oper} {a : Act} {w : World} (z : Array Value) (t : TypeId) (hw : Region.wanted o (yielded ops a.tmps) = true) (hr : (execOp a.eval o).run P w = .ok (.value (.pointer (some ⟨w.heap.size, 0, none⟩))) (w.alloc (.cells z t)))
  (h : ∀ b W, w.heap.size ≤ b → W.heap[b]? = some (.cells z t (0, 0)) → Below w.heap.size w W → wpList P ops Q rest (a.put o.dst (.pointer (some ⟨b, 0, none⟩))) W) : wpList P ops Q (o :: rest) a w :=
 wpList_run hw _ _ hr (h _ _ (Nat.le_refl _) (heap_new w _) ((Below.refl _ _).alloc (Nat.le_refl _) _))
/-- a store of a whole row -/
theorem wpList_storeW {rest : List Oper} {o : Oper} {a : Act} {w : World} (g : Nat) (old row : Array Value) (t : TypeId) (hw : Region.wanted o (yielded ops a.tmps) = true) (hg : w.heap[g]? = some (.cells old t (0, 0))) (hr : (execOp a.eval o).run P w = .ok .skip (w.setRow g row))
  (h : ∀ W, W.heap[g]? = some (.cells row t (0, 0)) → (∀ k o, k ≠ g → w.heap[k]? = some o → W.heap[k]? = some o) → (∀ B v0, B ≤ g → Below B v0 w → Below B v0 W) → W.heap.size = w.heap.size → wpList P ops Q rest (a.put o.dst undef) W) : wpList P ops Q (o :: rest) a w := by
 refine wpList_run0 hw _ hr (h _ ?_ (fun k o hk h0 => ?_) (fun B v0 hB hb => bel_setRow hb hB _) (by simp [World.setRow]))
 ·simp [World.setRow, Array.getElem?_modify, hg]
 ·simp [World.setRow, Array.getElem?_modify, Ne.symm hk, h0]
/-- a store of one cell -/
theorem wpList_store1 {rest : List Oper} {o : Oper} {a : Act} {w : World} (g i : Nat) (cs : Array Value) (v : Value) (t : TypeId) (hw : Region.wanted o (yielded ops a.tmps) = true) (hg : w.heap[g]? = some (.cells cs t (0, 0))) (hr : (execOp a.eval o).run P w = .ok .skip (w.setCell ⟨g, i, none⟩ v))
  (h : ∀ W, W.heap[g]? = some (.cells (cs.setIfInBounds i v) t (0, 0)) → (∀ k o, k ≠ g → w.heap[k]? = some o → W.heap[k]? = some o) → (∀ B v0, B ≤ g → Below B v0 w → Below B v0 W) → W.heap.size = w.heap.size → wpList P ops Q rest (a.put o.dst undef) W) : wpList P ops Q (o :: rest) a w := by
 refine wpList_run0 hw _ hr (h _ (setCell_row w g i cs t (0, 0) v hg) (fun k o hk h0 => ?_) (fun B v0 hB hb => hb.setCell hB _) (by simp [World.setCell]))
 exact (Below.heap_setCell w _ _ k hk).trans h0
end
end Go.Proofs.YtbecajihgbbgjaaDoor.K

namespace Go.Proofs.YtbecajihgbbgjaaDoor.K
open Go.RowKit
section
variable {P : Program} {ev : Operand → Value} {o : Oper} {w : World} {ty e : TypeId} {x y : Operand}
end
/-- m elements of so many cells each, read behind an address (none, if there are none) -/
structure SrcC (w : World) (A : Option Addr) (m size : Nat) (cs : List Value) : Prop where
 len : cs.length = m * size
 nil : A = none → m = 0
 cell : ∀ j u, cs[j]? = some u → ∃ ad, A = some ad ∧ w.cell? (ad.add j) = some u
 one : ∀ u ∈ cs, u.oneCell' = true
theorem SrcC.keep {w w' : World} {A : Option Addr} {m size : Nat} {cs : List Value} (h : SrcC w A m size cs) (hb : Below w.heap.size w w') : SrcC w' A m size cs :=
 ⟨h.len, h.nil, fun j u hj => by obtain ⟨ad, e, hc⟩ := h.cell j u hj; exact ⟨ad, e, cell_keep hc hb⟩, h.one⟩
section
variable {P : Program} {w w' : World} {base : Nat} {e : TypeId} {size n : Nat} {v : Value} {cs : List Value}
theorem own_keep (h : w.ownsRow base e size v n cs) (hb : Below w.heap.size w w') : w'.ownsRow base e size v n cs := by
 refine ⟨h.1, ?_⟩
 rcases h.2 with hn | ⟨g, cap, cur, rfl, hbs, hgg, rest⟩
 ·exact .inl hn
 ·exact .inr ⟨g, cap, cur, rfl, hbs, heap_keep hgg hb, rest⟩
theorem own_form (h : w.ownsRow base e size v n cs) : ∃ A c, v = .slice A n c := by
 rcases h.2 with ⟨rfl, rfl⟩ | ⟨g, cap, cur, rfl, _⟩ <;> exact ⟨_, _, rfl⟩
theorem own_below (h : w.ownsRow base e size v n cs) (hg : w.grownBy w' v.ownBlock) (hbase : base ≤ w.heap.size) : Below base w w' :=
 ⟨hg.os, hg.tape, hg.output, hg.size, fun k hk => hg.block k (by omega) (fun he => by
  rcases h.2 with ⟨rfl, _⟩ | ⟨g, cap, cur, rfl, hbs, _⟩
  ·cases he
  ·simp only [Value.ownBlock] at he
   injection he with he
   omega)⟩
/-- a new empty slice -/
theorem own_new {b : Nat} (h : w.heap[b]? = some (.cells #[] e (0, 0))) (hb : base ≤ b) : w.ownsRow base e size (.slice (some ⟨b, 0, none⟩) 0 0) 0 [] :=
 ⟨by simp, .inr ⟨b, 0, #[], rfl, hb, h, Nat.le_refl _, Nat.zero_le _, by simp, by simp⟩⟩
theorem xo_empty {ev : Operand → Value} {o : Oper} {t : TypeId} (hu : P.underlying t = some (.slice e)) (hs : (P.info? e).map (·.size) = some size) (ho : o.op = .buildSlice t 0 #[]) (w : World) :
  (execOp ev o).run P w = .ok (.value (.slice (some ⟨w.heap.size, 0, none⟩) 0 0)) (w.alloc (.cells #[] e)) := by
 cases hq : P.info? e with
 | none => simp [hq] at hs
 | some inf =>
  unfold execOp
  simp only [ho, Instr.buildSlice, Sem.run_bind, List.map_toArray, List.map_nil]
  rw [run_underlying hu, Result.andThen_ok]
  have h0 : ∀ f : Nat → Value, Array.map f (Array.range 0) = #[] := fun f => by apply Array.ext' ; simp
  simp [sizeOf, typeInfo, hq, Instr.fill, newRow, Sem.run_bind, h0]
theorem own_mono {base' : Nat} (h : w.ownsRow base e size v n cs) (hb : base' ≤ base) : w.ownsRow base' e size v n cs :=
 ⟨h.1, h.2.elim .inl fun ⟨g, cap, cur, h1, h2, h3⟩ => .inr ⟨g, cap, cur, h1, Nat.le_trans hb h2, h3⟩⟩
theorem hOp_app {o : Oper} {a : Act} {K : Value → World → Prop} (s x : Operand) (t : TypeId) (ho : o.op = .call { callee := .builtin .append, args := #[s, x], argTypes := #[t, t] })
  (z : Value) (bytes : Nat) (ht : P.underlying t = some (.slice e)) (hinf : (P.info? e).map (fun i => (i.zero, i.size, i.bytes)) = some (some z, size, bytes)) (hzs : z.cells.size = size) (hsz : 0 < size)
  (hs : a.eval s = v) (hown : w.ownsRow base e size v n cs) (A : Option Addr) (m c : Nat) (ds : List Value) (hx : a.eval x = .slice A m c) (hd : SrcC w A m size ds) (h63 : n + m ≤ maxLen) (hbytes : (n + m) * bytes ≤ 140737488355328) (hbase : base ≤ w.heap.size)
  (h : ∀ v' w', w'.ownsRow base e size v' (n + m) (cs ++ ds) → w.grownBy w' v.ownBlock → (∀ k, v'.ownBlock = some k → v.ownBlock = some k ∨ w.heap.size ≤ k) → K v' w') : hOp P o K a w := by
 obtain ⟨i, hi, hz, hsize, hby⟩ := info_parts hinf
 cases A with
 | some ad =>
  have hnews : ∀ j u, ds[j]? = some u → w.cell? (ad.add j) = some u := fun j u hj => by
   obtain ⟨ad', e, hc⟩ := hd.cell j u hj
   injection e with e
   subst e
   exact hc
  obtain ⟨v', w', hr, h2, h3, _⟩ := run_append_own (P := P) w base t o.type e i z size bytes ht hi hz hsize hby hzs hsz v n cs hown ad m c ds hd.len hnews hd.one h63 hbytes hbase
  have hw : ∀ k, v'.ownBlock = some k → v.ownBlock = some k ∨ w.heap.size ≤ k := by
   intro k hk
   rcases hown.2 with ⟨rfl, rfl⟩ | ⟨g1, cap, cur, rfl, hb1, hg1, hcap, hmax, hsz1, htake⟩
   ·have hcs : cs = [] := List.eq_nil_of_length_eq_zero (by have := hown.1; omega)
    subst hcs
    obtain ⟨v2, w2, hr2, hown2, _⟩ := run_append_own (P := P) w w.heap.size t o.type e i z size bytes ht hi hz hsize hby hzs hsz (.slice none 0 0) 0 [] (World.ownsRow_nil w _ _ _) ad m c ds hd.len hnews hd.one h63 hbytes (Nat.le_refl _)
    rw [hr] at hr2
    injection hr2 with e1 e2
    subst e1 e2
    exact .inr (World.ownsRow.lt hown2 k hk).1
   ·by_cases hroom : n + m ≤ cap
    ·have hle : n * i.size + ds.length ≤ cap * i.size := by rw [hsize, hd.len, ← Nat.add_mul]; exact Nat.mul_le_mul_right _ hroom
     have hr2 := run_append_room_cells (P := P) w t o.type e i ht hi g1 0 n cap ad m c ds (by rw [hsize, hd.len]) hnews hd.one hroom
      (fun j hj => by
       simp [World.cell?, hg1]
       rw [hsz1, ← hsize]
       omega) (fun j hj => by simp [World.frozen?, hg1])
     rw [hr] at hr2
     injection hr2 with e1 e2
     subst e1
     exact .inl hk
    ·obtain ⟨v2, w2, hr2, hown2, _⟩ := run_append_arg_grows (P := P) w t o.type e i z size bytes ht hi hz hsize hby hzs hsz ⟨g1, 0, none⟩ n cap cs hown.1
      (fun j u hj => by
       rw [Addr.add_lit, Nat.zero_add]
       rw [← htake] at hj
       have hk := (List.getElem?_eq_some_iff.1 hj).1
       rw [List.getElem?_take_of_lt (by simp at hk; omega)] at hj
       simpa [World.cell?, hg1] using hj) ad m c ds hd.len hnews (by omega) h63 hbytes
     rw [hr] at hr2
     injection hr2 with e1 e2
     subst e1 e2
     exact .inr (World.ownsRow.lt hown2 k hk).1
  unfold hOp execOp
  simp only [ho, resolve, invoke, builtin, Sem.run_bind, Sem.run_pure, Result.andThen_ok, List.map_toArray, List.map_cons, List.map_nil, hs, hx, hr]
  exact h v' w' h2 h3 hw
 | none =>
  obtain rfl := hd.nil rfl
  have hl := hd.len
  rw [Nat.zero_mul] at hl
  obtain rfl : ds = [] := List.eq_nil_of_length_eq_zero hl
  obtain ⟨A, k, rfl⟩ := own_form hown
  have hnk : n ≤ k := by
   rcases hown.2 with ⟨e1, _⟩ | ⟨g, cap, cur, e1, hb, hg, hc, hm, hs, ht⟩
   ·injection e1 with e1 e2 e3; omega
   ·injection e1 with e1 e2 e3; omega
  have hr : (Builtin.append_ #[t, t] o.type #[.slice A n k, .slice none 0 c]).run P w = .ok (.slice A n k) w := by
   cases A <;> simp [Builtin.append_, run_underlying ht, sizeOf, typeInfo, hi, Builtin.lenOf, Builtin.firstCells, hnk, storeCells]
  unfold hOp execOp
  simp only [ho, resolve, invoke, builtin, Sem.run_bind, Sem.run_pure, Result.andThen_ok, List.map_toArray, List.map_cons, List.map_nil, hs, hx, hr]
  exact h _ w (by simpa using hown) ⟨rfl, rfl, rfl, Nat.le_refl _, fun _ _ _ => rfl⟩ fun k hk => .inl hk
variable {Q : Exit → Act → World → Prop} {ops : Array Oper}
theorem wpList_app2 {rest : List Oper} {o : Oper} {a : Act} (hw : Region.wanted o (yielded ops a.tmps) = true) (s x : Operand) (t : TypeId) (ho : o.op = .call { callee := .builtin .append, args := #[s, x], argTypes := #[t, t] })
  (z : Value) (bytes : Nat) (ht : P.underlying t = some (.slice e)) (hinf : (P.info? e).map (fun i => (i.zero, i.size, i.bytes)) = some (some z, size, bytes)) (hzs : z.cells.size = size) (hsz : 0 < size)
  (hs : a.eval s = v) (hown : w.ownsRow base e size v n cs) (A : Option Addr) (m c : Nat) (ds : List Value) (hx : a.eval x = .slice A m c) (hd : SrcC w A m size ds) (h63 : n + m ≤ maxLen) (hbytes : (n + m) * bytes ≤ 140737488355328) (hbase : base ≤ w.heap.size)
  (h : ∀ v' w', w'.ownsRow base e size v' (n + m) (cs ++ ds) → Below base w w' → w.grownBy w' v.ownBlock → (∀ k, v'.ownBlock = some k → v.ownBlock = some k ∨ w.heap.size ≤ k) → wpList P ops Q rest (a.put o.dst v') w') : wpList P ops Q (o :: rest) a w :=
 wpList_op hw (hOp_app s x t ho z bytes ht hinf hzs hsz hs hown A m c ds hx hd h63 hbytes hbase fun v' w' h1 h2 h3 => h v' w' h1 (own_below hown h2 hbase) h2 h3)
end
end Go.Proofs.YtbecajihgbbgjaaDoor.K

namespace Go.Proofs.YtbecajihgbbgjaaDoor.K
open Go.RowKit
section
variable {P : Program} {Q : Exit → Act → World → Prop} {ops : Array Oper} {S : World → Prop}
end
end Go.Proofs.YtbecajihgbbgjaaDoor.K


namespace Go.Proofs.YtbecajihgbbgjaaDoor.K
set_option maxRecDepth 8000
open Go.RowKit
/-- how an element lies in cells -/
class Enc {α : Type} (E : α → List Value) (k : outParam Nat) : Prop where
 len : ∀ x, (E x).length = k
 one : ∀ x, ∀ u ∈ E x, u.oneCell' = true
 pos : 0 < k
section
variable {α : Type} {E : α → List Value} {k : Nat} [hE : Enc E k]
theorem fl_length (xs : List α) : (xs.flatMap E).length = xs.length * k := by
 induction xs with
 | nil => simp
 | cons x xs ih => simp only [List.flatMap_cons, List.length_append, ih, hE.len, List.length_cons, Nat.add_mul]; omega
include hE in
theorem fl_one (xs : List α) : ∀ u ∈ xs.flatMap E, u.oneCell' = true := by
 intro u hu
 obtain ⟨x, _, h⟩ := List.mem_flatMap.1 hu
 exact hE.one x u h
theorem fl_take (xs : List α) : ∀ i, (xs.flatMap E).take (i * k) = (xs.take i).flatMap E := by
 induction xs with
 | nil => simp
 | cons x xs ih =>
  intro i
  cases i with
  | zero => simp
  | succ i =>
   have h1 : (i + 1) * k = (E x).length + i * k := by rw [hE.len, Nat.add_mul]; omega
   rw [List.flatMap_cons, h1, List.take_length_add_append, ih, List.take_succ_cons, List.flatMap_cons]
theorem fl_drop (xs : List α) : ∀ i, (xs.flatMap E).drop (i * k) = (xs.drop i).flatMap E := by
 induction xs with
 | nil => simp
 | cons x xs ih =>
  intro i
  cases i with
  | zero => simp
  | succ i =>
   have h1 : (i + 1) * k = (E x).length + i * k := by rw [hE.len, Nat.add_mul]; omega
   rw [List.flatMap_cons, h1, List.drop_length_add_append, ih, List.drop_succ_cons]
theorem fl_get {xs : List α} {i : Nat} {x : α} (h : xs[i]? = some x) (j : Nat) (hj : j < k) : (xs.flatMap E)[i * k + j]? = (E x)[j]? := by
 have hd : (xs.flatMap E)[i * k + j]? = ((xs.flatMap E).drop (i * k))[j]? := by rw [List.getElem?_drop]
 obtain ⟨hi, rfl⟩ := List.getElem?_eq_some_iff.1 h
 rw [hd, fl_drop, List.drop_eq_getElem_cons hi, List.flatMap_cons, List.getElem?_append_left (by rw [hE.len]; exact hj)]
theorem fl_set (xs : List α) (i : Nat) (y : α) (hi : i < xs.length) : (xs.flatMap E).take (i * k) ++ E y ++ (xs.flatMap E).drop (i * k + (E y).length) = (xs.set i y).flatMap E := by
 have h1 : i * k + (E y).length = (i + 1) * k := by rw [hE.len, Nat.add_mul]; omega
 rw [h1, fl_take, fl_drop, List.set_eq_take_append_cons_drop, if_pos hi, List.flatMap_append, List.flatMap_cons, List.append_assoc]
/-- the address of a cell behind a slice's head -/
def gad (A : Option Addr) (j : Nat) : Addr := match A with
 | some a => a.add j
 | none => ⟨0, 0, none⟩
theorem gad_base (b j : Nat) : gad (some ⟨b, 0, none⟩) j = ⟨b, j, none⟩ := by simp [gad, Addr.add_mid]
/-- a slice that reads as xs -/
structure Sg {α : Type} (E : α → List Value) (k : Nat) (w : World) (A : Option Addr) (n c : Nat) (xs : List α) : Prop where
 len : xs.length = n
 cap : n ≤ c
 top : c ≤ 9223372036854775807
 nil : A = none → c = 0
 at_ : ∀ i x, xs[i]? = some x → ∃ g off, A = some ⟨g, off, none⟩ ∧ w.rangeAt g (off + i * k) (E x)
variable {w w' : World} {A : Option Addr} {n c : Nat} {xs : List α}
theorem Sg.keep (h : Sg E k w A n c xs) (hb : Below w.heap.size w w') : Sg E k w' A n c xs :=
 ⟨h.len, h.cap, h.top, h.nil, fun i x hx => by obtain ⟨g, off, e, hr⟩ := h.at_ i x hx; exact ⟨g, off, e, fun j v hj => cell_keep (hr j v hj) hb⟩⟩
theorem Sg.nil_ (w : World) : Sg E k w none 0 0 ([] : List α) := ⟨rfl, Nat.le_refl _, by omega, fun _ => rfl, fun i x h => by simp at h⟩
theorem Sg.src (h : Sg E k w A n c xs) : SrcC w A n k (xs.flatMap E) :=
 ⟨by rw [fl_length, h.len], fun e => by have := h.nil e; have := h.cap; omega, fun j u hu => by
  have hk := hE.pos
  have hj : j < xs.length * k := by rw [← fl_length (E := E)]; exact (List.getElem?_eq_some_iff.1 hu).1
  have hi : j / k < xs.length := (Nat.div_lt_iff_lt_mul hk).2 hj
  have hm : j / k * k + j % k = j := Nat.div_add_mod' j k
  have hg := fl_get (E := E) (List.getElem?_eq_getElem hi) (j % k) (Nat.mod_lt _ hk)
  rw [hm, hu] at hg
  obtain ⟨g, off, e, hr⟩ := h.at_ (j / k) _ (List.getElem?_eq_getElem hi)
  refine ⟨_, e, ?_⟩
  have := hr (j % k) u hg.symm
  rw [Addr.add_mid]
  rwa [Nat.add_assoc, hm] at this, fl_one xs⟩
theorem Sg.take {m : Nat} (h : Sg E k w A n c xs) (hm : m ≤ n) : Sg E k w A m c (xs.take m) :=
 ⟨by rw [List.length_take, h.len]; omega, by have := h.cap; omega, h.top, h.nil, fun i x hx => h.at_ i x (by rw [List.getElem?_take] at hx; split at hx <;> simp_all)⟩
/-- a block that holds xs -/
def RowG {α : Type} (E : α → List Value) (w : World) (b : Nat) (t : TypeId) (xs : List α) : Prop := w.heap[b]? = some (.cells (xs.flatMap E).toArray t (0, 0))
theorem RowG.sg {b : Nat} {t : TypeId} (h : RowG E w b t xs) (hn : xs.length = n) (hc : n ≤ c) (ht : c ≤ 9223372036854775807) : Sg E k w (some ⟨b, 0, none⟩) n c xs :=
 ⟨hn, hc, ht, fun e => (by cases e), fun i x hx => ⟨b, 0, rfl, fun j v hv => by
  have hj : j < k := by rw [← hE.len x]; exact (List.getElem?_eq_some_iff.1 hv).1
  rw [cell_of_row w b _ _ t (0, 0) h, Nat.zero_add]
  rw [← hv, ← fl_get hx j hj]
  simp⟩⟩
theorem RowG.keep {b : Nat} {t : TypeId} (h : RowG E w b t xs) (hb : Below w.heap.size w w') : RowG E w' b t xs := heap_keep h hb
theorem ne_types {w : World} {a b : Nat} {cs ds : Array Value} {t u : TypeId} (h1 : w.heap[a]? = some (.cells cs t (0, 0))) (h2 : w.heap[b]? = some (.cells ds u (0, 0))) (h : t ≠ u) : a ≠ b := fun e => by
 subst e
 rw [h1] at h2
 injection h2 with h2
 injection h2 with _ h3
 exact h h3
theorem RowG.h {b : Nat} {t : TypeId} (h : RowG E w b t xs) : w.heap[b]? = some (.cells (xs.flatMap E).toArray t (0, 0)) := h
theorem RowG.lt {b : Nat} {t : TypeId} (h : RowG E w b t xs) : b < w.heap.size := xp_lt h
/-- a slice of the call's own -/
theorem Sg.own {base : Nat} {e : TypeId} {v : Value} (h : w.ownsRow base e k v n (xs.flatMap E)) : ∃ A c, v = .slice A n c ∧ Sg E k w A n c xs := by
 have hn : xs.length = n := by
  have h1 := h.1
  rw [fl_length] at h1
  exact Nat.eq_of_mul_eq_mul_right hE.pos h1
 rcases h.2 with ⟨rfl, rfl⟩ | ⟨g, cap, cur, rfl, hb, hg, hc, hm, hs, ht⟩
 ·have : xs = [] := List.eq_nil_of_length_eq_zero hn
  subst this
  exact ⟨_, _, rfl, Sg.nil_ w⟩
 ·refine ⟨_, cap, rfl, hn, hc, by unfold maxLen at hm; omega, fun e => (by cases e), fun i x hx => ⟨g, 0, rfl, fun j v hv => ?_⟩⟩
  have hj : j < k := by rw [← hE.len x]; exact (List.getElem?_eq_some_iff.1 hv).1
  have hi := (List.getElem?_eq_some_iff.1 hx).1
  have hlt : i * k + j < n * k := by
   have h1 : (i + 1) * k ≤ n * k := Nat.mul_le_mul_right _ (by omega)
   rw [Nat.add_mul] at h1
   omega
  rw [cell_of_row w g _ cur e (0, 0) hg, Nat.zero_add, ← hv, ← fl_get hx j hj, ← ht, List.getElem?_take, if_pos hlt]
  simp
theorem Sg.ownS {base : Nat} {e : TypeId} (h : w.ownsRow base e k (.slice A n c) n (xs.flatMap E)) : Sg E k w A n c xs := by
 obtain ⟨A2, c2, e1, hs⟩ := Sg.own h
 injection e1 with e1 _ e2
 subst e1 e2
 exact hs
variable {P : Program} {ev : Operand → Value} {o : Oper} {ty t : TypeId} {x y : Operand}
theorem xg_idx {e : TypeId} {i : Nat} {a : α} (kk : IntKind) (h : Sg E k w A n c xs) (ha : xs[i]? = some a) (hu : P.underlying ty = some (.slice e)) (hs : (P.info? e).map (·.size) = some k) (ho : o.op = .indexAddr ty x y) (hx : ev x = .slice A n c) (hy : ev y = .int kk (i : Int)) :
  (execOp ev o).run P w = .ok (.value (.pointer (some (gad A (i * k))))) w := by
 obtain ⟨g, off, rfl, _⟩ := h.at_ i a ha
 have hi := (List.getElem?_eq_some_iff.1 ha).1
 rw [h.len] at hi
 exact xo_index kk _ n c i k hi hu hs ho hx hy
/-- a cell of an element -/
theorem xg_load1 {d : TypeDesc} {i j q : Nat} {a : α} {v : Value} (h : Sg E k w A n c xs) (ha : xs[i]? = some a) (hq : q = i * k + j) (hv : (E a)[j]? = some v) (hu : P.underlying ty = some d) (hd : (match d with | .struct _ | .array _ _ => true | _ => false) = false) (ho : o.op = .load ty x) (hx : ev x = .pointer (some (gad A q))) :
  (execOp ev o).run P w = .ok (.value v) w := by
 obtain ⟨g, off, rfl, hr⟩ := h.at_ i a ha
 refine xo_load1 _ v ?_ hu hd ho hx
 subst hq
 have := hr j v hv
 simp only [gad, Addr.add_mid]
 rwa [← Nat.add_assoc]
/-- cells of an element, together -/
theorem xg_loadR {d : TypeDesc} {i j q : Nat} {a : α} {cs : List Value} (h : Sg E k w A n c xs) (ha : xs[i]? = some a) (hq : q = i * k + j) (hv : ∀ m u, cs[m]? = some u → (E a)[j + m]? = some u) (hu : P.underlying ty = some d) (hd : d.isRow = true) (hi : (P.info? ty).map (·.size) = some cs.length) (ho : o.op = .load ty x) (hx : ev x = .pointer (some (gad A q))) :
  (execOp ev o).run P w = .ok (.value (.agg cs.toArray)) w := by
 obtain ⟨g, off, rfl, hr⟩ := h.at_ i a ha
 subst hq
 refine xo_loadR g (off + (i * k + j)) cs (fun m u hm => ?_) hu hd hi ho (by rw [hx]; simp [gad, Addr.add_mid])
 have := hr (j + m) u (hv m u hm)
 rwa [show off + (i * k + j) + m = off + i * k + (j + m) by omega]
theorem xg_loadE {d : TypeDesc} {i : Nat} {a : α} (h : Sg E k w A n c xs) (ha : xs[i]? = some a) (hu : P.underlying ty = some d) (hd : d.isRow = true) (hi : (P.info? ty).map (·.size) = some k) (ho : o.op = .load ty x) (hx : ev x = .pointer (some (gad A (i * k)))) :
  (execOp ev o).run P w = .ok (.value (.agg (E a).toArray)) w :=
 xg_loadR (j := 0) h ha rfl (fun m u hm => by rw [Nat.zero_add]; exact hm) hu hd (by rw [hi, hE.len]) ho hx
/-- a field of an element -/
theorem xg_fld {i q j : Nat} {a : α} (f : Nat) (h : Sg E k w A n c xs) (ha : xs[i]? = some a) (hf : fldOK P ty f j = true) (ho : o.op = .fieldAddr ty x f) (hx : ev x = .pointer (some (gad A q))) :
  (execOp ev o).run P w = .ok (.value (.pointer (some (gad A (q + j))))) w := by
 obtain ⟨g, off, rfl, hr⟩ := h.at_ i a ha
 have hx' : ev x = .pointer (some ⟨g, off + q, none⟩) := by rw [hx]; simp [gad, Addr.add_mid]
 have := xo_fld (P := P) (w := w) f g (off + q) j hf ho hx'
 rw [this]
 simp [gad, Addr.add_mid, Nat.add_assoc]
/-- an element is stored into a block -/
theorem xg_store {b i : Nat} (h : RowG E w b t xs) (hi : i < xs.length) (a : α) (hs : (P.info? ty).map (·.size) = some k) (ho : o.op = .store ty x y) (hx : ev x = .pointer (some (gad (some ⟨b, 0, none⟩) (i * k)))) (hy : (ev y).cells = (E a).toArray) :
  (execOp ev o).run P w = .ok .skip (w.setRow b ((xs.set i a).flatMap E).toArray) := by
 have hst := run_storeCells_at P b (i * k) t (E a) 0 (xs.flatMap E).toArray w h (by
  have h1 : (i + 1) * k ≤ xs.length * k := Nat.mul_le_mul_right _ hi
  rw [Nat.add_mul] at h1
  simp only [List.size_toArray, fl_length, hE.len]
  omega) (hE.one a)
 rw [Nat.add_zero, List.toList_toArray] at hst
 rw [fl_set xs i a hi] at hst
 rw [gad_base] at hx
 cases hq : P.info? ty with
 | none => simp [hq] at hs
 | some inf =>
  have hsz : inf.size = k := by simpa [hq] using hs
  unfold execOp
  simp only [ho, hx, Instr.storeAt, Instr.sureAddr, Sem.run_bind, Sem.run_pure, Result.andThen_ok, storeVar, sizeOf, typeInfo, run_program, hq, hsz, hy]
  simp [hE.len, hst, Sem.run_bind]
/-- n new elements -/
theorem mk_cells (z : Value) (a : α) (hz : z.cells = (E a).toArray) (n : Nat) : madeCells z.cells (n * k) = ((List.replicate n a).flatMap E).toArray := by
 have hk := hE.pos
 apply Array.ext'
 apply List.ext_getElem?
 intro j
 by_cases hj : j < n * k
 ·have hi : j / k < n := (Nat.div_lt_iff_lt_mul hk).2 hj
  have hm : j / k * k + j % k = j := Nat.div_add_mod' j k
  have hg := fl_get (E := E) (xs := List.replicate n a) (i := j / k) (x := a) (by simp [List.getElem?_replicate, hi]) (j % k) (Nat.mod_lt _ hk)
  rw [hm] at hg
  rw [List.toList_toArray, hg, hz]
  have hlt : j % (E a).length < (E a).length := by rw [hE.len]; exact Nat.mod_lt _ hk
  simp only [madeCells, Array.toList_map, Array.toList_range, List.getElem?_map, List.size_toArray, List.getElem?_range hj, Option.map_some]
  rw [← hE.len a, List.getElem?_eq_getElem hlt]
  simp [hlt]
 ·rw [List.getElem?_eq_none (by rw [Array.length_toList, size_madeCells]; omega), List.getElem?_eq_none (by rw [List.toList_toArray, fl_length, List.length_replicate]; omega)]
theorem xg_make {e : TypeId} {bytes : Nat} (z : Value) (a : α) (m : Nat) (kl : IntKind) (ht : P.underlying ty = some (.slice e)) (hinf : (P.info? e).map (fun i => (i.zero, i.size, i.bytes)) = some (some z, k, bytes)) (hz : z.cells = (E a).toArray) (hb : bytes * m ≤ 281474976710656) (h63 : m ≤ 9223372036854775807)
  (ho : o.op = .makeSlice ty x y) (hx : ev x = .int kl (m : Int)) (hy : ev y = .int kl (m : Int)) :
  (execOp ev o).run P w = .ok (.value (.slice (some ⟨w.heap.size, 0, none⟩) m m)) (w.alloc (.cells ((List.replicate m a).flatMap E).toArray e)) := by
 obtain ⟨i, hi, hiz, hs, hby⟩ := info_parts hinf
 have hb' : (i.bytes : Int) * (m : Int) ≤ 281474976710656 := by
  have h : ((i.bytes * m : Nat) : Int) ≤ 281474976710656 := by rw [hby]; omega
  rwa [Int.natCast_mul] at h
 have hr := run_make (P := P) w ty e i z ht hi hiz kl kl m m (by omega) (Int.le_refl _) hb' (by omega)
 simp only [Int.toNat_natCast] at hr
 rw [hs, mk_cells z a hz] at hr
 unfold execOp
 simp [ho, hx, hy, Sem.run_bind, hr]
/-- bits in common, shifts -/
theorem xo_and (kk : IntKind) (u v r : Nat) (hu : u < 2 ^ kk.bits) (hv : v < 2 ^ kk.bits) (h : u &&& v = r) (hr : kk.wrap (r : Int) = (r : Int)) (ho : o.op = .binOp .and ty x y t) (hx : ev x = .int kk (u : Int)) (hy : ev y = .int kk (v : Int)) :
  (execOp ev o).run P w = .ok (.value (.int kk (r : Int))) w := by
 have e : (Op.intBits .and kk (u : Int) (v : Int)).run P w = .ok (.int kk (r : Int)) w := by
  have e1 : (BitVec.ofInt kk.bits (u : Int) &&& BitVec.ofInt kk.bits (v : Int)).toNat = r := by
   rw [BitVec.toNat_and]
   simp only [BitVec.ofInt_natCast, BitVec.toNat_ofNat, Nat.mod_eq_of_lt hu, Nat.mod_eq_of_lt hv, h]
  simp only [Op.intBits, e1, hr]
  rfl
 unfold execOp
 simp [ho, hx, hy, eqGuard, binOp, Sem.run_bind, e]
theorem xo_shlI (kk : IntKind) (u n r : Nat) (h : u * 2 ^ n = r) (hr : r < 9223372036854775808) (ho : o.op = .binOp .shl ty x y t) (hx : ev x = .int .i64 (u : Int)) (hy : ev y = .int kk (n : Int)) (hn : n < 63 := by omega) :
  (execOp ev o).run P w = .ok (.value (.int .i64 (r : Int))) w := by
 have hm : min (n : Int).toNat IntKind.i64.bits = n := by rw [Int.toNat_natCast]; show min n 64 = n; omega
 have e : (u : Int) * 2 ^ n = (r : Int) := by rw [← h]; simp
 have e0 : IntKind.i64.wrap ((u : Int) * 2 ^ n) = (r : Int) := by rw [e, wrapI (by omega) (by omega)]
 unfold execOp
 simp [ho, hx, hy, eqGuard, binOp, Sem.run_bind, hm]
 exact e0
/-- a slice literal -/
theorem xg_lit {e : TypeId} {bytes : Nat} (z : Value) (ys : List Operand) (xs : List α) (n : Nat) (ht : P.underlying ty = some (.slice e)) (hinf : (P.info? e).map (fun i => (i.zero, i.size, i.bytes)) = some (some z, k, bytes)) (hn : ys.length = n) (hsmall : ¬ n * k > 2 ^ 24) (hpos : ¬ n = 0)
  (ho : o.op = .buildSlice ty n ((ys.zipIdx 0).map fun x => (x.2, x.1)).toArray) (hv : ys.map (fun y => (ev y).cells.toList) = xs.map E) :
  (execOp ev o).run P w = .ok (.value (.slice (some ⟨w.heap.size, 0, none⟩) n n)) (w.alloc (.cells (xs.flatMap E).toArray e)) := by
 obtain ⟨i, hi, hz, hs, hby⟩ := info_parts hinf
 have hk := hE.pos
 have hxs : xs.length = ys.length := by have := congrArg List.length hv; simpa using this.symm
 have h1 : ∀ v ∈ ys.map ev, v.cells.size = k := by
  intro v hm
  obtain ⟨y, hy, rfl⟩ := List.mem_map.1 hm
  have : (ev y).cells.toList ∈ xs.map E := by rw [← hv]; exact List.mem_map.2 ⟨y, hy, rfl⟩
  obtain ⟨x, _, hx⟩ := List.mem_map.1 this
  have h2 := hE.len x
  rw [hx, Array.length_toList] at h2
  exact h2
 have hf := Great.fill_whole hk (ys.map ev) ((Array.range (n * k)).map (z.cells[· % z.cells.size]!)) h1 (by simp [hn])
 have he : ((ys.map ev).flatMap fun v => v.cells.toList) = xs.flatMap E := by
  rw [List.flatMap_map, List.flatMap_def, List.flatMap_def]
  exact congrArg List.flatten hv
 rw [he] at hf
 have hp : (((ys.zipIdx 0).map fun x => (x.2, x.1)).toArray.map fun (i, x) => (i, ev x)).toList = ((ys.map ev).zipIdx 0).map fun x => (x.2, x.1) := by
  rw [List.zipIdx_map, List.map_map]
  simp [List.map_map]
 have hr := run_buildSlice (P := P) w ty e n (((ys.zipIdx 0).map fun x => (x.2, x.1)).toArray.map fun (i, x) => (i, ev x)) (xs.flatMap E).toArray i z ht hi hz (by rw [hs]; exact hsmall) (by rw [hs]; intro h0; rcases Nat.mul_eq_zero.1 h0 with h0 | h0 <;> omega) (by rw [hs, hp]; exact hf)
 unfold execOp
 simp only [ho, Sem.run_bind, hr, Result.andThen_ok]
 rfl
variable {Q : Exit → Act → World → Prop} {ops : Array Oper}
end
end Go.Proofs.YtbecajihgbbgjaaDoor.K

