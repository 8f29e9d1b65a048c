/- Several texts in one: Ycw, Ych, Ycy, Yda, Yfl, Yfp, Ydh, Ydf, Yv, Yad, Ycz. -/
import Derived.Test.YtbecajihgbbgjaaDoorV13
import Derived.Test.YtbecajihgbbgjaaDoorV06
import Derived.Test.YtbecajihgbbgjaaDoorV03
import Derived.Test.YtbecajihgbbgjaaDoorRows
import Derived.Test.YtbecajihgbbgjaaDoorTie
import Derived.ProofKit
import Derived.OpenShut
import Derived.ChangeOld
import Derived.ChangeSlices
import Derived.ChangeArms
import Derived.Below
import Derived.Lib.SmallJoins
import Derived.Lib.LaidTab
import Derived.LaidMore
import Derived.Deep.Slices
import Derived.Test.YtbecajihgbbgjaaDoorV05
import Derived.Test.YtbecajihgbbgjaaDoorV07
set_option linter.unusedVariables false
set_option linter.unusedSimpArgs false
set_option linter.unusedSectionVars false
namespace Go.Proofs.YtbecajihgbbgjaaDoor
set_option maxRecDepth 8000
open Go.RowKit Go.Proofs.YtbecajihgbbgjaaDoor.K
attribute [local irreducible] wpList wpQuiet
namespace Ty
/-- a reading by its columns -/
def rdX (x : Nat → Nat) : Rd := ⟨(x 0 : Nat), (x 1 : Nat), (x 2 : Nat), (x 3 : Nat)⟩
theorem val_rd (x : Nat → Nat) {c : Nat} (hc : c < 4) : Qu.valR (rdX x) c = (x c : Int) := by
 rcases (show c = 0 ∨ c = 1 ∨ c = 2 ∨ c = 3 by omega) with rfl | rfl | rfl | rfl <;> rfl
theorem mt_rd {l : List Qu.Cd} (hl : ∀ e ∈ l, e.col < 4) (x : Nat → Nat) {b : Bool} (hb : mtN l x = b) : (l.map Qu.Cd.ci).all (Qu.mC (rdX x)) = b := by
 rw [← hb, List.all_map]
 unfold mtN
 rw [Bool.eq_iff_iff, List.all_eq_true, List.all_eq_true]
 refine forall_congr' fun e => forall_congr' fun he => ?_
 have h4 := hl e he
 show Qu.mC (rdX x) (Qu.Ci.mk (e.col : Int) (e.lo : Int) (e.hi : Int)) = true ↔ _
 unfold Qu.mC Qu.isC
 simp only [Int.toNat_natCast, val_rd x h4, Bool.and_eq_true, decide_eq_true_eq]
 omega
theorem isc_ci {l : List Qu.Cd} (hl : ∀ e ∈ l, e.col < 4) : ∀ e ∈ l.map Qu.Cd.ci, Qu.isC e.col = true := by
 intro e he
 obtain ⟨d, hd, rfl⟩ := List.mem_map.1 he
 have := hl d hd
 unfold Qu.isC Qu.Cd.ci
 simp <;> omega
end Ty
end Go.Proofs.YtbecajihgbbgjaaDoor

namespace Go.Proofs.YtbecajihgbbgjaaDoor
set_option maxRecDepth 8000
namespace Ty
/-- a condition and one that excludes it -/
theorem unsat_two (d : Qu.Cd) (m : Nat) (hd : d.col < 4) : satN [d, ⟨d.col, d.hi + 1, m⟩] = false := by
 cases h : satN [d, ⟨d.col, d.hi + 1, m⟩] with
 | false => rfl
 | true =>
  have h1 := (sat_iff _).1 h d.col hd
  have h2 := (pos_iff [d, ⟨d.col, d.hi + 1, m⟩] d.col _).2 ⟨h1, Nat.le_refl _⟩
  have h3 := ((pos_def _ _ _).1 h2).2
  have h4 := h3 d List.mem_cons_self rfl
  have h5 := h3 ⟨d.col, d.hi + 1, m⟩ (List.mem_cons_of_mem _ List.mem_cons_self) rfl
  simp only at h5
  omega
theorem bd_unsat {q : Qu.Qy} {v : Nat} (h : satN (ruN q v) = false) (rows : Nat) : bdN q rows v = 0 := by
 unfold bdN
 rw [h]
 rfl
end Ty
end Go.Proofs.YtbecajihgbbgjaaDoor

namespace Go.Proofs.YtbecajihgbbgjaaDoor
set_option maxRecDepth 8000
open Go.RowKit Go.Proofs.YtbecajihgbbgjaaDoor.K
attribute [local irreducible] wpList wpQuiet
namespace Ty
theorem zs_len (l : List Nat) : (zs l).length = l.length := by unfold zs; rw [List.length_map]
theorem ck_len {q : Qu.Qy} {rows co : Nat} {xs : List Nat} (h : ckN q rows = (xs, co)) : xs.length ≤ 32 := by
 unfold ckN at h
 split at h
 ·injection h with h1 _
  rw [← h1]
  exact Nat.zero_le _
 ·split at h
  ·injection h with h1 _
   rw [← h1, List.length_map, List.length_range]
   exact su_le q.kind
  ·injection h with h1 _
   rw [← h1]
   exact Nat.zero_le _
end Ty
end Go.Proofs.YtbecajihgbbgjaaDoor

namespace Go.Proofs.YtbecajihgbbgjaaDoor
set_option maxRecDepth 8000
namespace Ty
theorem zs_at {l : List Nat} {v a : Nat} (h : l[v]? = some a) : (zs l)[v]? = some (a : Int) := by
 unfold zs
 rw [List.getElem?_map, h]
 rfl
theorem ck_facts {q : Qu.Qy} {m co : Nat} {xs : List Nat} (hev : ¬ (4 ≤ q.kind ∧ q.kind ≤ 6 ∧ q.col % 2 = 1)) (h : ckN q m = (xs, co)) :
  (co = 0 ∨ co = 141) ∧ (co = 141 → xs.length = 0) ∧ (co = 0 → xs.length = suN q.kind ∧ ∀ v, v < suN q.kind → (zs xs)[v]? = some ((bdN q m v : Nat) : Int) ∧ bdN q m v < 2 ^ 62) := by
 unfold ckN at h
 rw [if_neg hev] at h
 split at h
 ·next ha =>
  injection h with h1 h2
  subst h1 h2
  refine ⟨.inl rfl, fun e => absurd e (by decide), fun _ => ⟨by rw [List.length_map, List.length_range], fun v hv => ⟨zs_at ?_, ?_⟩⟩⟩
  ·rw [List.getElem?_map, List.getElem?_range hv]
   rfl
  ·exact of_decide_eq_true (List.all_eq_true.1 ha v (List.mem_range.2 hv))
 ·injection h with h1 h2
  subst h1 h2
  exact ⟨.inr rfl, fun _ => rfl, fun e => absurd e (by decide)⟩
theorem ck_all_lt {q : Qu.Qy} {m co : Nat} {xs : List Nat} (hev : ¬ (4 ≤ q.kind ∧ q.kind ≤ 6 ∧ q.col % 2 = 1)) (h : ckN q m = (xs, co)) (ha : ∀ v, v < suN q.kind → bdN q m v < 2 ^ 62) : co = 0 := by
 rw [ck_ok hev ha] at h
 injection h with _ h2
 exact h2.symm
theorem suZ_nat {kd : Nat} (h1 : 1 ≤ kd) (h7 : kd ≤ 7) : suZ (kd : Int) = suN kd := by
 unfold suZ
 rw [if_pos (by omega), Int.toNat_natCast]
end Ty
end Go.Proofs.YtbecajihgbbgjaaDoor

namespace Go.Proofs.YtbecajihgbbgjaaDoor.K.Fl
set_option maxRecDepth 8000
open Go.RowKit Go.Proofs.YtbecajihgbbgjaaDoor.K

/-- something is made behind operation i -/
def MkBehind (ops : Array Oper) (i : Nat) : Prop := ∃ (j : Nat) (o : Oper), i < j ∧ ops[j]? = some o ∧ makerOp o = true
section
variable {P : Program} {ops : Array Oper} {w0 : World} {Q : Exit → Act → World → Prop}

def gOp (P : Program) (ops : Array Oper) (w0 : World) (i : Nat) (K : Act → World → Prop) (a : Act) (w : World) : Prop :=
 match ops[i]? with
 | none => K a w
 | some o => (quietNow ops o a ∧ ∃ v, YieldsIf P ops (SL w0) o v a ∧ K (a.put o.dst v) w)
  ∨ ((¬ quietNow ops o a ∧ makerOp o = true) ∧ ∃ z, Makes P ops o z a ∧ ∀ b W, Below w.heap.size w W → W.heap[b]? = some z.1 → w0.heap.size ≤ b → K (a.put o.dst (z.2 b)) W)
  ∨ ((¬ quietNow ops o a ∧ makerOp o = false) ∧ ∀ W, Below w.heap.size w W → hOp P o (fun v w' => (MkBehind ops i → Below W.heap.size W w') ∧ SL w0 w' ∧ K (a.put o.dst v) w') a W)
theorem gOp_out {i : Nat} {K : Act → World → Prop} {a : Act} {w : World} (hS : SL w0 w) (hh : gOp P ops w0 i K a w) : ∃ a' w', K a' w' := by
 unfold gOp at hh
 cases hi : ops[i]? with
 | none => rw [hi] at hh; exact ⟨_, _, hh⟩
 | some o =>
  rw [hi] at hh
  rcases hh with ⟨_, v, _, hk⟩ | ⟨_, z, _, hk⟩ | ⟨_, hk⟩
  ·exact ⟨_, _, hk⟩
  ·exact ⟨_, _, hk w.heap.size (w.alloc z.1) ((Below.refl _ _).alloc (Nat.le_refl _) _) (heap_new w z.1) hS.below.size⟩
  ·obtain ⟨v, w', _, _, h3⟩ := hOp_out (hk w (Below.refl _ _))
   exact ⟨_, _, h3⟩
theorem wpOp_of_gOp {i : Nat} {K K' : Act → World → Prop} {a : Act} {w : World} (hS : SL w0 w) (h : ∀ a w, SL w0 w → K a w → K' a w) (hh : gOp P ops w0 i K a w) : wpOp P ops Q i K' a w := by
 unfold gOp at hh
 cases hi : ops[i]? with
 | none =>
  rw [hi] at hh
  unfold wpOp
  simp only [hi]
  exact h _ _ hS hh
 | some o =>
  rw [hi] at hh
  have hw : ¬ quietNow ops o a → Region.wanted o (yielded ops a.tmps) = true := fun hq => by
   cases e : Region.wanted o (yielded ops a.tmps) with
   | true => rfl
   | false => exact absurd (.inr e) hq
  rcases hh with ⟨_, v, hy, hk⟩ | ⟨hq, z, hz, hk⟩ | ⟨hq, hk⟩
  ·exact hy.wpOp hi hS (h _ _ hS hk)
  ·have hE : Below w.heap.size w (w.alloc z.1) := (Below.refl _ _).alloc (Nat.le_refl _) _
   unfold wpOp
   simp only [hi, hw hq.1, if_true]
   refine .inl ?_
   unfold Oper.wp
   rw [hz w]
   exact h _ _ (hS.ext hE) (hk w.heap.size (w.alloc z.1) hE (heap_new w z.1) hS.below.size)
  ·have hh := hk w (Below.refl _ _)
   unfold wpOp
   simp only [hi, hw hq.1, if_true]
   refine .inl ?_
   unfold hOp at hh
   unfold Oper.wp
   generalize (execOp a.eval o).run P w = r at *
   cases r with
   | ok n w' =>
    cases n <;> simp only [heldUpon] at hh <;> simp only [Oper.upon]
    case value u => exact h _ _ hh.2.1 hh.2.2
    case skip => exact h _ _ hh.2.1 hh.2.2
    case enter f args => exact hh.mono fun e w'' ⟨v, he, _, h1, h2⟩ => by subst he; exact h _ _ h1 h2
   | halt x w' => exact hh.elim

/-- whatever order is picked, from every world in which more has been added -/
def wpG (P : Program) (ops : Array Oper) (w0 : World) (Q : Exit → Act → World → Prop) : Nat → Array Bool → Act → World → Prop
 | 0, listed, a, w => Region.ready .any ops listed = [] ∧ ∀ W, Below w.heap.size w W → Q .normal a W
 | n + 1, listed, a, w => (Region.ready .any ops listed = [] → ∀ W, Below w.heap.size w W → Q .normal a W) ∧ ∀ i, i ∈ Region.ready .any ops listed → gOp P ops w0 i (wpG P ops w0 Q n (listed.setIfInBounds i true)) a w
theorem wpAny_of_wpG : ∀ (n : Nat) (listed : Array Bool) (a : Act) (w : World), SL w0 w → wpG P ops w0 Q n listed a w → wpAny P .any ops Q n listed a w
 | 0, _, _, _, _, h => ⟨h.1, h.2 _ (Below.refl _ _)⟩
 | n + 1, _, _, _, hS, h => ⟨fun e => h.1 e _ (Below.refl _ _), fun i hi => wpOp_of_gOp hS (fun a' w' hS' h' => wpAny_of_wpG n _ a' w' hS' h') (h.2 i hi)⟩

theorem wpG_first {i : Nat} {oi : Oper} (hi : ops[i]? = some oi) (hsel : ∀ (j : Nat) (o : Oper) cs b, ops[j]? = some o → o.op ≠ .select cs b) : ∀ (n : Nat) (listed : Array Bool) (a : Act) (w : World), SL w0 w →
   (∀ j oj, ops[j]? = some oj → j ≠ i → listed.getD j true = false → (∀ e ∈ oj.after, Region.binds .any e = true → e.on ≠ i) → oi.apart ops oj = true) →
   (∀ j, listed.getD j true = false → j ≠ i → i < j) →
   (stillOp oi = false → ChainF ops i listed) → i ∈ Region.ready .any ops listed → gOp P ops w0 i (wpG P ops w0 Q n (listed.setIfInBounds i true)) a w → wpG P ops w0 Q (n + 1) listed a w := by
 intro n
 induction n with
 | zero =>
  intro listed a w hS _ _ _ hr H
  refine ⟨fun h => (by rw [h] at hr; cases hr), fun j hj => ?_⟩
  by_cases hji : j = i
  ·subst hji; exact H
  ·obtain ⟨a', w', h0, _⟩ := gOp_out hS H
   have := ready_mono hj hji
   rw [h0] at this
   cases this
 | succ n ih =>
  intro listed a w hS hfree hgt hchain hr H
  refine ⟨fun h => (by rw [h] at hr; cases hr), fun j hj => ?_⟩
  by_cases hji : j = i
  ·subst hji; exact H
  obtain ⟨hjun, oj, hoj, hall⟩ := mem_ready.1 hj
  have hnot : ∀ e ∈ oj.after, Region.binds .any e = true → e.on ≠ i := fun e he hb heq => by
   have h1 := hall e he hb
   have h0 := (mem_ready.1 hr).1
   rw [heq, getD_both h0] at h1
   cases h1
  have hap := hfree j oj hoj hji hjun hnot
  obtain ⟨p1, p2, p3⟩ := Oper.apart_spec hap
  have hsi := fun cs b => hsel i oi cs b hi
  have hsj := fun cs b => hsel j oj cs b hoj
  have hij := hgt j hjun hji
  have hjlt : j < ops.size := (Array.getElem?_eq_some_iff.1 hoj).1
  have hfree' : ∀ k ok, ops[k]? = some ok → k ≠ i → (listed.setIfInBounds j true).getD k true = false →
    (∀ e ∈ ok.after, Region.binds .any e = true → e.on ≠ i) → oi.apart ops ok = true := fun k ok hk hki hun hno => by
   refine hfree k ok hk hki ?_ hno
   by_cases hjk : j = k
   ·subst hjk; exact hjun
   ·rw [getD_set_ne true hjk] at hun; exact hun
  have hgt' : ∀ k, (listed.setIfInBounds j true).getD k true = false → k ≠ i → i < k := fun k hun hki => by
   refine hgt k ?_ hki
   by_cases hjk : j = k
   ·subst hjk; exact hjun
   ·rw [getD_set_ne true hjk] at hun; exact hun
  -- where i calls or makes, j does not call
  have hjc : stillOp oi = false → ¬ (stillOp oj = false ∧ makerOp oj = false) := fun hs ⟨h1, h2⟩ => by
   exact ((hchain hs).2 j oj hoj hji hjun h1 h2).not_ready (hchain hs).1 (getD_both (mem_ready.1 hr).1) hoj hall
  have hchain' : stillOp oi = false → ChainF ops i (listed.setIfInBounds j true) := fun hs => by
   refine ⟨fun k hk => ?_, fun k ok hk hki hun hks hkm => ?_⟩
   ·have hjk : j ≠ k := by
     rintro rfl
     exact hk.not_ready (hchain hs).1 (getD_both (mem_ready.1 hr).1) hoj hall
    rw [getD_set_ne false hjk]
    exact (hchain hs).1 k hk
   ·refine (hchain hs).2 k ok hk hki ?_ hks hkm
    by_cases hjk : j = k
    ·subst hjk; exact hjun
    ·rw [getD_set_ne true hjk] at hun; exact hun
  have hr' := ready_mono hr (Ne.symm hji)
  have hjr := ready_mono hj hji
  have nst : ¬ quietNow ops oi a → stillOp oi = false := fun h => by
   cases e : stillOp oi with
   | false => rfl
   | true => exact absurd (.inl e) h
  have nst' : ¬ quietNow ops oj a → stillOp oj = false := fun h => by
   cases e : stillOp oj with
   | false => rfl
   | true => exact absurd (.inl e) h
  have qj : ∀ v, quietNow ops oj (a.put oi.dst v) ↔ quietNow ops oj a := fun v => quietNow_put p1
  have qi : ∀ v, quietNow ops oi (a.put oj.dst v) ↔ quietNow ops oi a := fun v => quietNow_put p3
  have yj : ∀ {u v : Value}, YieldsIf P ops (SL w0) oj u (a.put oi.dst v) → YieldsIf P ops (SL w0) oj u a := fun h => h.of_same (execOp_put oj hsj a oi.dst _ p1).symm (wanted_put oj a oi.dst _ p1).symm
  have yi : ∀ {u v : Value}, YieldsIf P ops (SL w0) oi u a → YieldsIf P ops (SL w0) oi u (a.put oj.dst v) := fun h => h.of_same (execOp_put oi hsi a oj.dst _ p3) (wanted_put oi a oj.dst _ p3)
  have mj : ∀ {z : Obj × (Nat → Value)} {v : Value}, Makes P ops oj z (a.put oi.dst v) → Makes P ops oj z a := fun h => h.of_same (execOp_put oj hsj a oi.dst _ p1).symm
  have mi : ∀ {z : Obj × (Nat → Value)} {v : Value}, Makes P ops oi z a → Makes P ops oi z (a.put oj.dst v) := fun h => h.of_same (execOp_put oi hsi a oj.dst _ p3)
  have cm : ∀ {u v : Value} {W : World}, wpG P ops w0 Q n ((listed.setIfInBounds i true).setIfInBounds j true) ((a.put oi.dst v).put oj.dst u) W → wpG P ops w0 Q n ((listed.setIfInBounds j true).setIfInBounds i true) ((a.put oj.dst u).put oi.dst v) W := fun {u v W} h => by
   rw [Array.setIfInBounds_comm _ _ hji, ← Act.put_comm a v u p2]
   exact h
  unfold gOp at H
  rw [hi] at H
  unfold gOp
  rw [hoj]
  rcases H with ⟨hq, v, hy, HK⟩ | ⟨⟨hnq, hm⟩, z, hz, HK⟩ | ⟨⟨hnq, hm⟩, HK⟩
  ·have h1 := HK.2 j hjr
   unfold gOp at h1
   rw [hoj] at h1
   have step : ∀ u W, SL w0 W → wpG P ops w0 Q n ((listed.setIfInBounds i true).setIfInBounds j true) ((a.put oi.dst v).put oj.dst u) W → wpG P ops w0 Q (n + 1) (listed.setIfInBounds j true) (a.put oj.dst u) W := fun u W hW hk => by
    refine ih (listed.setIfInBounds j true) (a.put oj.dst u) W hW hfree' hgt' hchain' hr' ?_
    unfold gOp
    rw [hi]
    exact .inl ⟨(qi u).2 hq, v, yi hy, cm hk⟩
   rcases h1 with ⟨hqj, u, hu, hk⟩ | ⟨⟨hqj, hmj⟩, z, hz, hk⟩ | ⟨⟨hqj, hmj⟩, hk⟩
   ·exact .inl ⟨(qj v).1 hqj, u, yj hu, step u w hS hk⟩
   ·exact .inr (.inl ⟨⟨fun e => hqj ((qj v).2 e), hmj⟩, z, mj hz, fun b W h1 h2 h3 => step _ W (hS.ext h1) (hk b W h1 h2 h3)⟩)
   ·exact .inr (.inr ⟨⟨fun e => hqj ((qj v).2 e), hmj⟩, fun W hW => hOp_mono (fun u w' ⟨e1, e2, e3⟩ => ⟨e1, e2, step u w' e2 e3⟩) (hOp_unput hsj p1 (hk W hW))⟩)
  ·have hs := nst hnq
   have hE : Below w.heap.size w (w.alloc z.1) := (Below.refl _ _).alloc (Nat.le_refl _) _
   have h1 := (HK w.heap.size (w.alloc z.1) hE (heap_new w z.1) hS.below.size).2 j hjr
   unfold gOp at h1
   rw [hoj] at h1
   rcases h1 with ⟨hqj, u, hu, _⟩ | ⟨⟨hqj, hmj⟩, z', hz', _⟩ | ⟨⟨hqj, hmj⟩, _⟩
   ·refine .inl ⟨(qj _).1 hqj, u, yj hu, ih (listed.setIfInBounds j true) (a.put oj.dst u) w hS hfree' hgt' hchain' hr' ?_⟩
    unfold gOp
    rw [hi]
    refine .inr (.inl ⟨⟨fun e => hnq ((qi u).1 e), hm⟩, z, mi hz, fun b W h1 h2 h3 => ?_⟩)
    have h4 := (HK b W h1 h2 h3).2 j hjr
    unfold gOp at h4
    rw [hoj] at h4
    rcases h4 with ⟨_, u', hu', hk'⟩ | ⟨⟨hqj', _⟩, _⟩ | ⟨⟨hqj', _⟩, _⟩
    ·have e := YieldsIf.one (hS.ext h1) (yj hu') (yj hu)
     subst e
     exact cm hk'
    ·exact absurd ((qj _).2 ((qj _).1 hqj)) hqj'
    ·exact absurd ((qj _).2 ((qj _).1 hqj)) hqj'
   ·refine .inr (.inl ⟨⟨fun e => hqj ((qj _).2 e), hmj⟩, z', mj hz', fun b' W' h1' h2' h3' => ih (listed.setIfInBounds j true) (a.put oj.dst (z'.2 b')) W' (hS.ext h1') hfree' hgt' hchain' hr' ?_⟩)
    unfold gOp
    rw [hi]
    refine .inr (.inl ⟨⟨fun e => hnq ((qi _).1 e), hm⟩, z, mi hz, fun b W h1 h2 h3 => ?_⟩)
    have h4 := (HK b W (ext_trans h1' h1) h2 h3).2 j hjr
    unfold gOp at h4
    rw [hoj] at h4
    rcases h4 with ⟨hqj', _⟩ | ⟨_, z'', hz'', hk'⟩ | ⟨⟨_, hmj'⟩, _⟩
    ·exact absurd ((qj _).2 ((qj _).1 hqj')) hqj
    ·have e := Makes.one w (mj hz'') (mj hz')
     subst e
     exact cm (hk' b' W (Below.refl _ _) (heap_keep h2' h1) h3')
    ·rw [hmj] at hmj'; cases hmj'
   ·exact absurd ⟨nst' (fun e => hqj ((qj _).2 e)), hmj⟩ (hjc hs)
  ·have hs := nst hnq
   obtain ⟨v0, w1, _, hS1, hK1⟩ := hOp_out (HK w (Below.refl _ _))
   have h1 := hK1.2 j hjr
   unfold gOp at h1
   rw [hoj] at h1
   rcases h1 with ⟨hqj, u, hu, _⟩ | ⟨⟨hqj, hmj⟩, z', hz', _⟩ | ⟨⟨hqj, hmj⟩, _⟩
   ·refine .inl ⟨(qj _).1 hqj, u, yj hu, ih (listed.setIfInBounds j true) (a.put oj.dst u) w hS hfree' hgt' hchain' hr' ?_⟩
    unfold gOp
    rw [hi]
    refine .inr (.inr ⟨⟨fun e => hnq ((qi u).1 e), hm⟩, fun W hW => hOp_put hsi p3 (hOp_mono (fun v w' ⟨e1, e2, e3⟩ => ⟨e1, e2, ?_⟩) (HK W hW))⟩)
    have h4 := e3.2 j hjr
    unfold gOp at h4
    rw [hoj] at h4
    rcases h4 with ⟨_, u', hu', hk'⟩ | ⟨⟨hqj', _⟩, _⟩ | ⟨⟨hqj', _⟩, _⟩
    ·have e := YieldsIf.one e2 (yj hu') (yj hu)
     subst e
     exact cm hk'
    ·exact absurd ((qj _).2 ((qj _).1 hqj)) hqj'
    ·exact absurd ((qj _).2 ((qj _).1 hqj)) hqj'
   ·refine .inr (.inl ⟨⟨fun e => hqj ((qj _).2 e), hmj⟩, z', mj hz', fun b W' h1' h2' h3' => ih (listed.setIfInBounds j true) (a.put oj.dst (z'.2 b)) W' (hS.ext h1') hfree' hgt' hchain' hr' ?_⟩)
    unfold gOp
    rw [hi]
    refine .inr (.inr ⟨⟨fun e => hnq ((qi _).1 e), hm⟩, fun W hW => hOp_put hsi p3 (hOp_mono (fun v w' ⟨e1, e2, e3⟩ => ⟨e1, e2, ?_⟩) (HK W (ext_trans h1' hW)))⟩)
    have h4 := e3.2 j hjr
    unfold gOp at h4
    rw [hoj] at h4
    rcases h4 with ⟨hqj', _⟩ | ⟨_, z'', hz'', hk'⟩ | ⟨⟨_, hmj'⟩, _⟩
    ·exact absurd ((qj _).2 ((qj _).1 hqj')) hqj
    ·have e := Makes.one w (mj hz'') (mj hz')
     subst e
     exact cm (hk' b w' (Below.refl _ _) (heap_keep (heap_keep h2' hW) (e1 ⟨j, oj, hij, hoj, hmj⟩)) h3')
    ·rw [hmj] at hmj'; cases hmj'
   ·exact absurd ⟨nst' (fun e => hqj ((qj _).2 e)), hmj⟩ (hjc hs)

/-- the walk in the order of the text -/
def wpF (P : Program) (ops : Array Oper) (w0 : World) (Q : Exit → Act → World → Prop) : List Oper → Act → World → Prop
 | [], a, w => ∀ W, Below w.heap.size w W → Q .normal a W
 | o :: l, a, w => (quietNow ops o a ∧ ∃ v, YieldsIf P ops (SL w0) o v a ∧ wpF P ops w0 Q l (a.put o.dst v) w)
  ∨ ((¬ quietNow ops o a ∧ makerOp o = true) ∧ ∃ z, Makes P ops o z a ∧ ∀ b W, Below w.heap.size w W → W.heap[b]? = some z.1 → w0.heap.size ≤ b → wpF P ops w0 Q l (a.put o.dst (z.2 b)) W)
  ∨ ((¬ quietNow ops o a ∧ makerOp o = false) ∧ ∀ W, Below w.heap.size w W → hOp P o (fun v w' => (l.any makerOp = true → Below W.heap.size W w') ∧ SL w0 w' ∧ wpF P ops w0 Q l (a.put o.dst v) w') a W)


theorem wpG_of_lex (hx : LexOK ops) (hc : ChainOF ops) : ∀ (l : List Oper) (k : Nat) (listed : Array Bool) (a : Act) (w : World), SL w0 w →
  (∀ j, l[j]? = ops[k + j]?) → k + l.length = ops.size → listed.size = ops.size → (∀ i, i < k → listed.getD i false = true) → (∀ i, k ≤ i → i < ops.size → listed.getD i true = false) →
  wpF P ops w0 Q l a w → wpG P ops w0 Q l.length listed a w
 | [], k, listed, a, w, _, _, hk, hz, h1, _, h => by
  refine ⟨?_, h⟩
  refine List.eq_nil_iff_forall_not_mem.2 fun i hi => ?_
  obtain ⟨h0, o, ho, _⟩ := mem_ready.1 hi
  have hlt := (Array.getElem?_eq_some_iff.1 ho).1
  have h3 := h1 i (by simp at hk; omega)
  rw [getD_both h0] at h3
  cases h3
 | o :: l, k, listed, a, w, hS, hl, hk, hz, h1, h2, h => by
  have h0 : ops[k]? = some o := by simpa using (hl 0).symm
  have hlt : k < ops.size := (Array.getElem?_eq_some_iff.1 h0).1
  have hun : ∀ j, listed.getD j true = false → k ≤ j := fun j hun => by
   rcases Nat.lt_or_ge j k with h' | h'
   ·have h3 := h1 j h'
    rw [getD_both hun] at h3
    cases h3
   ·exact h'
  have hnil : MkBehind ops k → l.any makerOp = true := fun ⟨j, oj, hj, hoj, hmj⟩ => by
   have h3 := hl (j - k)
   rw [show k + (j - k) = j by omega, hoj, show j - k = (j - k - 1) + 1 by omega, List.getElem?_cons_succ] at h3
   exact List.any_eq_true.2 ⟨oj, List.mem_of_getElem? h3, hmj⟩
  have rec_ : ∀ a' W, SL w0 W → wpF P ops w0 Q l a' W → wpG P ops w0 Q l.length (listed.setIfInBounds k true) a' W := fun a' W hW h' =>
   wpG_of_lex hx hc l (k + 1) _ a' W hW (fun j => by have := hl (j + 1); simpa [Nat.add_assoc, Nat.add_comm 1 j] using this) (by simp at hk; omega) (by simpa using hz)
    (by
     intro i hi
     by_cases e : i = k
     ·subst e
      simp [hz, hlt]
     ·exact getD_set_true (h1 i (by omega)))
    (by
     intro i hi hi'
     rw [getD_set_ne true (by omega)]
     exact h2 i (by omega) hi') h'
  have hst : gOp P ops w0 k (wpG P ops w0 Q l.length (listed.setIfInBounds k true)) a w := by
   unfold gOp
   rw [h0]
   rcases h with ⟨hq, v, hy, hk'⟩ | ⟨hq, z, hz', hk'⟩ | ⟨hq, hk'⟩
   ·exact .inl ⟨hq, v, hy, rec_ _ _ hS hk'⟩
   ·exact .inr (.inl ⟨hq, z, hz', fun b W e1 e2 e3 => rec_ _ _ (hS.ext e1) (hk' b W e1 e2 e3)⟩)
   ·exact .inr (.inr ⟨hq, fun W hW => hOp_mono (fun v w' ⟨e1, e2, e3⟩ => ⟨fun e => e1 (hnil e), e2, rec_ _ _ e2 e3⟩) (hk' W hW)⟩)
  refine wpG_first h0 (Region.noSelect_spec hx.sel) l.length listed a w hS ?_ ?_ ?_ (mem_ready.2 ⟨h2 k (Nat.le_refl _) hlt, o, h0, fun e he hb => h1 _ (hx.edge k o h0 e he hb)⟩) hst
  ·intro j oj hj hne hju hno
   refine hx.free k j o oj ?_ h0 hj hno
   have := hun j hju
   omega
  ·intro j hju hne
   have := hun j hju
   omega
  ·intro hs
   refine ⟨fun j hw => ?_, fun j oj hj hne hju hjs hjm => ?_⟩
   ·obtain ⟨h3, h4⟩ := hw.lt hx
    exact getD_both (h2 j (by omega) h4)
   ·have := hun j hju
    exact hc.chain k j o oj (by omega) h0 hj hs hjs hjm

theorem wp_float {id : Nat} {a : Act} {w : World} {l : List Oper} (hm : P.follows .mixedOrders = true) (hx : LexOK l.toArray) (hc : ChainOF l.toArray)
  (h : wpF P l.toArray w Q l a w.drew) : (Code.region id l.toArray true).wp P Q a w := by
 refine wp_region_any hm (wpAny_of_wpG (w0 := w) _ _ _ _ ⟨⟨w.drew, (Below.refl _ _).drew⟩, rfl⟩ ?_)
 have := wpG_of_lex (P := P) (w0 := w) (Q := Q) hx hc l 0 (Array.replicate l.toArray.size false) a w.drew ⟨⟨w.drew, (Below.refl _ _).drew⟩, rfl⟩ (by simp) (by simp) (by simp) (by intro i hi; omega) (fun i _ hi => getD_in (by simpa using hi) (getD_replicate_false _ _)) h
 simpa using this

theorem wp_floatN {id : Nat} {a : Act} {w : World} {l : List Oper} (hm : P.follows .mixedOrders = true) (hx : LexOK l.toArray) (hc : ChainOF l.toArray)
  (h : ∀ V, Below w.heap.size w V → SL w V → wpF P l.toArray w Q l a V) : (Code.region id l.toArray true).wp P Q a w :=
 wp_float hm hx hc (h _ (Below.refl _ _).drew ⟨⟨w.drew, (Below.refl _ _).drew⟩, rfl⟩)

theorem wpF_nil {a : Act} {w : World} (h : ∀ W, Below w.heap.size w W → Q .normal a W) : wpF P ops w0 Q [] a w := h
theorem wpF_still : ∀ (l1 l2 : List Oper) {a : Act} {w : World}, l1.all stillOp = true → wpQuiet P ops (fun w' => ∃ x : Later w0, w' = x.at) (fun a' => wpF P ops w0 Q l2 a' w) l1 a → wpF P ops w0 Q (l1 ++ l2) a w
 | [], _, _, _, _, h => h
 | o :: l1, l2, a, w, hs, h => by
  rw [List.all_cons, Bool.and_eq_true] at hs
  refine .inl ⟨.inl hs.1, ?_⟩
  unfold wpQuiet at h
  by_cases hw : Region.wanted o (yielded ops a.tmps) = true
  ·rw [if_pos hw] at h
   obtain ⟨v, hv, hn⟩ := h
   refine ⟨v, .inl ⟨hw, fun w' hS' => ?_⟩, wpF_still l1 l2 hs.2 hn⟩
   have h1 := hv w' hS'
   unfold Oper.quietAt at h1
   cases hr : (execOp a.eval o).run P w' with
   | ok n w2 =>
    obtain ⟨x, rfl⟩ := still_value hs.1 hr
    rw [hr] at h1
    obtain ⟨e1, e2⟩ := h1
    rw [e1, e2]
   | halt x w2 => rw [hr] at h1; exact h1.elim
  ·rw [if_neg hw] at h
   exact ⟨undef, .inr ⟨by simpa using hw, rfl⟩, wpF_still l1 l2 hs.2 h⟩
theorem wpF_seg (n : Nat) {l : List Oper} {a : Act} {w : World} (hs : (l.take n).all stillOp = true) (h : wpQuiet P ops (fun w' => ∃ x : Later w0, w' = x.at) (fun a' => wpF P ops w0 Q (l.drop n) a' w) (l.take n) a) : wpF P ops w0 Q l a w := by
 have := wpF_still (Q := Q) (l.take n) (l.drop n) hs h
 rwa [List.take_append_drop] at this
theorem not_quiet {o : Oper} {a : Act} (hs : stillOp o = false) (hw : Region.wanted o (yielded ops a.tmps) = true) : ¬ quietNow ops o a := by
 rintro (h1 | h1)
 ·rw [hs] at h1; cases h1
 ·rw [hw] at h1; cases h1
theorem wpF_call {o : Oper} {l : List Oper} {a : Act} {w : World} {fn : Func} (f : FuncId) (hf : P.funcs[f]? = some fn) (hname : (fn.name == "runtime.NumGoroutine") = false) (hb : fn.body.isNone = false) (args : Array Operand) (ts : Array TypeId) (vs : Array Value) (ho : o.op = .call { callee := .value (.func f), args := args, argTypes := ts })
  (hw : Region.wanted o (yielded ops a.tmps) = true) (hv : args.map a.eval = vs) (hS : SL w0 w) (h : ∀ W, Below w.heap.size w W → Calls P f vs W fun e w' => ∃ v, e = .returned v ∧ Below W.heap.size W w' ∧ wpF P ops w0 Q l (a.put o.dst v) w') : wpF P ops w0 Q (o :: l) a w := by
 have hs : stillOp o = false := by unfold stillOp; simp only [ho]
 have hmk : makerOp o = false := by unfold makerOp; simp only [ho]
 refine .inr (.inr ⟨⟨not_quiet hs hw, hmk⟩, fun W hW => ?_⟩)
 unfold hOp execOp
 simp only [ho]
 have e : (do let d ← resolve a.eval { callee := .value (.func f), args := args, argTypes := ts } o.type; invoke d.target d.args : Sem Next).run P W = .ok (.enter f vs) W := by
  subst hv
  have h1 : fn.name ≠ "runtime.NumGoroutine" := by simpa using hname
  have h2 : fn.body ≠ none := by
   intro e
   rw [e] at hb
   cases hb
  simp [resolve, Deferred.ofValue, invoke, go_sem, Act.eval, callFunc, hf, h1, h2]
 rw [e]
 exact (h W hW).mono fun _ _ ⟨v, h1, h2, h3⟩ => ⟨v, h1, fun _ => h2, hS.ext (ext_trans hW h2), h3⟩
theorem wpF_make {o : Oper} {l : List Oper} {a : Act} {w : World} (z : Obj × (Nat → Value)) (hs : stillOp o = false) (hk : makerOp o = true) (hw : Region.wanted o (yielded ops a.tmps) = true) (hz : Makes P ops o z a)
  (h : ∀ b W, Below w.heap.size w W → W.heap[b]? = some z.1 → w0.heap.size ≤ b → wpF P ops w0 Q l (a.put o.dst (z.2 b)) W) : wpF P ops w0 Q (o :: l) a w :=
 .inr (.inl ⟨⟨not_quiet hs hw, hk⟩, z, hz, h⟩)
/-- the last operation, a store -/
theorem wpF_last {o : Oper} {a : Act} {w : World} (g : World → World) (hs : stillOp o = false) (hk : makerOp o = false) (hw : Region.wanted o (yielded ops a.tmps) = true) (hr : ∀ W, Below w.heap.size w W → (execOp a.eval o).run P W = .ok .skip (g W)) (hS : ∀ W, Below w.heap.size w W → SL w0 (g W))
  (h : ∀ W, Below w.heap.size w W → ∀ X, Below (g W).heap.size (g W) X → Q .normal (a.put o.dst undef) X) : wpF P ops w0 Q [o] a w := by
 refine .inr (.inr ⟨⟨not_quiet hs hw, hk⟩, fun W hW => ?_⟩)
 unfold hOp
 rw [hr W hW]
 exact ⟨fun e => absurd e (by simp), hS W hW, h W hW⟩
/-- a store with no maker behind it -/
theorem wpF_store {o : Oper} {l : List Oper} {a : Act} {w : World} (g : World → World) (hs : stillOp o = false) (hk : makerOp o = false) (hw : Region.wanted o (yielded ops a.tmps) = true) (hm : l.any makerOp = false) (hr : ∀ W, Below w.heap.size w W → (execOp a.eval o).run P W = .ok .skip (g W)) (hS : ∀ W, Below w.heap.size w W → SL w0 (g W))
  (h : ∀ W, Below w.heap.size w W → wpF P ops w0 Q l (a.put o.dst undef) (g W)) : wpF P ops w0 Q (o :: l) a w := by
 refine .inr (.inr ⟨⟨not_quiet hs hw, hk⟩, fun W hW => ?_⟩)
 unfold hOp
 rw [hr W hW]
 exact ⟨fun e => absurd e (by rw [hm]; decide), hS W hW, h W hW⟩
end


def bitOf (m p : Nat) : Bool := Nat.beq (Nat.mod (Nat.shiftRight m p) 2) 1
/-- the operations that one waits for, by way of those before it (ms: theirs) -/
def waitM (ms : List Nat) : List Edge → Nat
 | [] => 0
 | e :: l => bif Region.binds .any e then Nat.lor (Nat.lor (Nat.shiftLeft 1 e.on) (ms.getD e.on 0)) (waitM ms l) else waitM ms l
def chainM : List Oper → List Nat → List Nat → Bool
 | [], _, _ => true
 | o :: l, ms, hs => (fun m => (stillOp o || (makerOp o || hs.all (bitOf m))) && chainM l (ms ++ [m]) (bif stillOp o then hs else ms.length :: hs)) (waitM ms o.after.toList)
theorem bitOf_eq (m p : Nat) : bitOf m p = m.testBit p := by
 unfold bitOf
 rw [Nat.testBit_eq_decide_div_mod_eq]
 have : Nat.mod (Nat.shiftRight m p) 2 = m / 2 ^ p % 2 := by rw [← Nat.shiftRight_eq_div_pow]; rfl
 rw [this]
 by_cases h : m / 2 ^ p % 2 = 1
 ·rw [h]; rfl
 ·rw [decide_eq_false h]
  exact Bool.eq_false_iff.2 fun h' => h (Nat.eq_of_beq_eq_true h')
theorem waitM_spec {ms : List Nat} : ∀ (es : List Edge) (p : Nat), (waitM ms es).testBit p = true → ∃ e, e ∈ es ∧ Region.binds .any e = true ∧ (e.on = p ∨ (ms.getD e.on 0).testBit p = true)
 | [], p, h => by simp [waitM] at h
 | e :: l, p, h => by
  unfold waitM at h
  cases hb : Region.binds .any e with
  | false =>
   rw [hb] at h
   obtain ⟨e', h1, h2⟩ := waitM_spec l p h
   exact ⟨e', List.mem_cons_of_mem _ h1, h2⟩
  | true =>
   rw [hb] at h
   have h' : ((1 <<< e.on ||| ms.getD e.on 0) ||| waitM ms l).testBit p = true := h
   rw [Nat.testBit_or, Nat.testBit_or, Bool.or_eq_true, Bool.or_eq_true] at h'
   rcases h' with (h' | h') | h'
   ·refine ⟨e, by simp, hb, .inl ?_⟩
    rw [Nat.one_shiftLeft, Nat.testBit_two_pow] at h'
    exact of_decide_eq_true h'
   ·exact ⟨e, by simp, hb, .inr h'⟩
   ·obtain ⟨e', h1, h2⟩ := waitM_spec l p h'
    exact ⟨e', List.mem_cons_of_mem _ h1, h2⟩
theorem chainM_spec {ops : Array Oper} : ∀ (l : List Oper) (ms hs : List Nat), (∀ j, l[j]? = ops[ms.length + j]?) →
  (∀ j i, (ms.getD j 0).testBit i = true → Waits ops i j) → (∀ i o, i < ms.length → ops[i]? = some o → stillOp o = false → i ∈ hs) → chainM l ms hs = true →
  ∀ (j : Nat) (oj : Oper), ms.length ≤ j → ops[j]? = some oj → stillOp oj = false → makerOp oj = false → ∀ (i : Nat) (oi : Oper), i < j → ops[i]? = some oi → stillOp oi = false → Waits ops i j
 | [], ms, _, hl, _, _, _, j, oj, hj, hoj, _, _ => by
  intro i oi hi hoi _
  have h0 : ops[j]? = none := by
   have := hl (j - ms.length)
   rw [show ms.length + (j - ms.length) = j by omega] at this
   rw [← this]
   rfl
  rw [h0] at hoj
  cases hoj
 | o :: l, ms, hs, hl, hp, hi, h, j, oj, hj, hoj, hjs, hjm => by
  have h0 : ops[ms.length]? = some o := by simpa using (hl 0).symm
  have hl' : ∀ m j, l[j]? = ops[(ms ++ [m]).length + j]? := fun m j => by have := hl (j + 1); simpa [Nat.add_assoc, Nat.add_comm 1 j] using this
  have hwm : ∀ i, (waitM ms o.after.toList).testBit i = true → Waits ops i ms.length := fun i hw => by
   obtain ⟨e, he, hb, hon⟩ := waitM_spec _ i hw
   have he' : e ∈ o.after := by simpa using he
   rcases hon with hon | hon
   ·exact .on e h0 he' hb hon
   ·exact .step e h0 he' hb (hp _ _ hon)
  simp only [chainM, Bool.and_eq_true] at h
  obtain ⟨hm, hrest⟩ := h
  by_cases hjk : j = ms.length
  ·subst hjk
   rw [h0] at hoj
   injection hoj with hoj
   subst hoj
   rw [hjs, hjm] at hm
   intro i oi hij hoi his
   refine hwm i ?_
   have := List.all_eq_true.1 (by simpa using hm) i (hi i oi hij hoi his)
   rwa [bitOf_eq] at this
  ·refine chainM_spec l _ _ (hl' _) ?_ ?_ hrest j oj (by simp; omega) hoj hjs hjm
   ·intro j' i' hw
    rcases Nat.lt_trichotomy j' ms.length with h' | h' | h'
    ·refine hp j' i' ?_
     rw [List.getD_eq_getElem?_getD, List.getElem?_append_left h', ← List.getD_eq_getElem?_getD] at hw
     exact hw
    ·subst h'
     refine hwm i' ?_
     rw [List.getD_eq_getElem?_getD, List.getElem?_append_right (Nat.le_refl _), Nat.sub_self] at hw
     exact hw
    ·rw [List.getD_eq_getElem?_getD, List.getElem?_eq_none (by simp; omega)] at hw
     simp at hw
   ·intro i' o' hik ho' hs'
    by_cases e : i' = ms.length
    ·subst e
     rw [h0] at ho'
     injection ho' with ho'
     subst ho'
     rw [hs']
     simp
    ·have := hi i' o' (by simp at hik; omega) ho' hs'
     cases stillOp o
     ·exact List.mem_cons_of_mem _ this
     ·exact this
theorem chainOF_of {l : List Oper} (h : chainM l [] [] = true) : ChainOF l.toArray :=
 ⟨fun k j ok oj hkj hok hoj hks hjs hjm => chainM_spec (ops := l.toArray) l [] [] (by simp) (by intro j i hw; simp at hw) (by intro i o hi; simp at hi) h j oj (Nat.zero_le _) hoj hjs hjm k ok hkj hok hks⟩

end Go.Proofs.YtbecajihgbbgjaaDoor.K.Fl

namespace Go.Proofs.YtbecajihgbbgjaaDoor.K.Fp
set_option maxRecDepth 8000
open Go.RowKit Go.Proofs.YtbecajihgbbgjaaDoor.K

/-- something is made behind operation i -/
def MkBehind (pos : Nat → Nat) (ops : Array Oper) (i : Nat) : Prop := ∃ (j : Nat) (o : Oper), pos i < pos j ∧ ops[j]? = some o ∧ makerOp o = true
section
variable {pos : Nat → Nat} {P : Program} {ops : Array Oper} {w0 : World} {Q : Exit → Act → World → Prop}

def gOp (pos : Nat → Nat) (P : Program) (ops : Array Oper) (w0 : World) (i : Nat) (K : Act → World → Prop) (a : Act) (w : World) : Prop :=
 match ops[i]? with
 | none => K a w
 | some o => (quietNow ops o a ∧ ∃ v, YieldsIf P ops (SL w0) o v a ∧ K (a.put o.dst v) w)
  ∨ ((¬ quietNow ops o a ∧ makerOp o = true) ∧ ∃ z, Makes P ops o z a ∧ ∀ b W, Below w.heap.size w W → W.heap[b]? = some z.1 → w0.heap.size ≤ b → K (a.put o.dst (z.2 b)) W)
  ∨ ((¬ quietNow ops o a ∧ makerOp o = false) ∧ ∀ W, Below w.heap.size w W → hOp P o (fun v w' => (MkBehind pos ops i → Below W.heap.size W w') ∧ SL w0 w' ∧ K (a.put o.dst v) w') a W)
theorem gOp_out {i : Nat} {K : Act → World → Prop} {a : Act} {w : World} (hS : SL w0 w) (hh : gOp pos P ops w0 i K a w) : ∃ a' w', K a' w' := by
 unfold gOp at hh
 cases hi : ops[i]? with
 | none => rw [hi] at hh; exact ⟨_, _, hh⟩
 | some o =>
  rw [hi] at hh
  rcases hh with ⟨_, v, _, hk⟩ | ⟨_, z, _, hk⟩ | ⟨_, hk⟩
  ·exact ⟨_, _, hk⟩
  ·exact ⟨_, _, hk w.heap.size (w.alloc z.1) ((Below.refl _ _).alloc (Nat.le_refl _) _) (heap_new w z.1) hS.below.size⟩
  ·obtain ⟨v, w', _, _, h3⟩ := hOp_out (hk w (Below.refl _ _))
   exact ⟨_, _, h3⟩
theorem wpOp_of_gOp {i : Nat} {K K' : Act → World → Prop} {a : Act} {w : World} (hS : SL w0 w) (h : ∀ a w, SL w0 w → K a w → K' a w) (hh : gOp pos P ops w0 i K a w) : wpOp P ops Q i K' a w := by
 unfold gOp at hh
 cases hi : ops[i]? with
 | none =>
  rw [hi] at hh
  unfold wpOp
  simp only [hi]
  exact h _ _ hS hh
 | some o =>
  rw [hi] at hh
  have hw : ¬ quietNow ops o a → Region.wanted o (yielded ops a.tmps) = true := fun hq => by
   cases e : Region.wanted o (yielded ops a.tmps) with
   | true => rfl
   | false => exact absurd (.inr e) hq
  rcases hh with ⟨_, v, hy, hk⟩ | ⟨hq, z, hz, hk⟩ | ⟨hq, hk⟩
  ·exact hy.wpOp hi hS (h _ _ hS hk)
  ·have hE : Below w.heap.size w (w.alloc z.1) := (Below.refl _ _).alloc (Nat.le_refl _) _
   unfold wpOp
   simp only [hi, hw hq.1, if_true]
   refine .inl ?_
   unfold Oper.wp
   rw [hz w]
   exact h _ _ (hS.ext hE) (hk w.heap.size (w.alloc z.1) hE (heap_new w z.1) hS.below.size)
  ·have hh := hk w (Below.refl _ _)
   unfold wpOp
   simp only [hi, hw hq.1, if_true]
   refine .inl ?_
   unfold hOp at hh
   unfold Oper.wp
   generalize (execOp a.eval o).run P w = r at *
   cases r with
   | ok n w' =>
    cases n <;> simp only [heldUpon] at hh <;> simp only [Oper.upon]
    case value u => exact h _ _ hh.2.1 hh.2.2
    case skip => exact h _ _ hh.2.1 hh.2.2
    case enter f args => exact hh.mono fun e w'' ⟨v, he, _, h1, h2⟩ => by subst he; exact h _ _ h1 h2
   | halt x w' => exact hh.elim

/-- whatever order is picked, from every world in which more has been added -/
def wpG (pos : Nat → Nat) (P : Program) (ops : Array Oper) (w0 : World) (Q : Exit → Act → World → Prop) : Nat → Array Bool → Act → World → Prop
 | 0, listed, a, w => Region.ready .any ops listed = [] ∧ ∀ W, Below w.heap.size w W → Q .normal a W
 | n + 1, listed, a, w => (Region.ready .any ops listed = [] → ∀ W, Below w.heap.size w W → Q .normal a W) ∧ ∀ i, i ∈ Region.ready .any ops listed → gOp pos P ops w0 i (wpG pos P ops w0 Q n (listed.setIfInBounds i true)) a w
theorem wpAny_of_wpG : ∀ (n : Nat) (listed : Array Bool) (a : Act) (w : World), SL w0 w → wpG pos P ops w0 Q n listed a w → wpAny P .any ops Q n listed a w
 | 0, _, _, _, _, h => ⟨h.1, h.2 _ (Below.refl _ _)⟩
 | n + 1, _, _, _, hS, h => ⟨fun e => h.1 e _ (Below.refl _ _), fun i hi => wpOp_of_gOp hS (fun a' w' hS' h' => wpAny_of_wpG n _ a' w' hS' h') (h.2 i hi)⟩

theorem wpG_first {i : Nat} {oi : Oper} (hi : ops[i]? = some oi) (hsel : ∀ (j : Nat) (o : Oper) cs b, ops[j]? = some o → o.op ≠ .select cs b) : ∀ (n : Nat) (listed : Array Bool) (a : Act) (w : World), SL w0 w →
   (∀ j oj, ops[j]? = some oj → j ≠ i → listed.getD j true = false → (∀ e ∈ oj.after, Region.binds .any e = true → e.on ≠ i) → oi.apart ops oj = true) →
   (∀ j, listed.getD j true = false → j ≠ i → pos i < pos j) →
   (stillOp oi = false → ChainF ops i listed) → i ∈ Region.ready .any ops listed → gOp pos P ops w0 i (wpG pos P ops w0 Q n (listed.setIfInBounds i true)) a w → wpG pos P ops w0 Q (n + 1) listed a w := by
 intro n
 induction n with
 | zero =>
  intro listed a w hS _ _ _ hr H
  refine ⟨fun h => (by rw [h] at hr; cases hr), fun j hj => ?_⟩
  by_cases hji : j = i
  ·subst hji; exact H
  ·obtain ⟨a', w', h0, _⟩ := gOp_out hS H
   have := ready_mono hj hji
   rw [h0] at this
   cases this
 | succ n ih =>
  intro listed a w hS hfree hgt hchain hr H
  refine ⟨fun h => (by rw [h] at hr; cases hr), fun j hj => ?_⟩
  by_cases hji : j = i
  ·subst hji; exact H
  obtain ⟨hjun, oj, hoj, hall⟩ := mem_ready.1 hj
  have hnot : ∀ e ∈ oj.after, Region.binds .any e = true → e.on ≠ i := fun e he hb heq => by
   have h1 := hall e he hb
   have h0 := (mem_ready.1 hr).1
   rw [heq, getD_both h0] at h1
   cases h1
  have hap := hfree j oj hoj hji hjun hnot
  obtain ⟨p1, p2, p3⟩ := Oper.apart_spec hap
  have hsi := fun cs b => hsel i oi cs b hi
  have hsj := fun cs b => hsel j oj cs b hoj
  have hij := hgt j hjun hji
  have hjlt : j < ops.size := (Array.getElem?_eq_some_iff.1 hoj).1
  have hfree' : ∀ k ok, ops[k]? = some ok → k ≠ i → (listed.setIfInBounds j true).getD k true = false →
    (∀ e ∈ ok.after, Region.binds .any e = true → e.on ≠ i) → oi.apart ops ok = true := fun k ok hk hki hun hno => by
   refine hfree k ok hk hki ?_ hno
   by_cases hjk : j = k
   ·subst hjk; exact hjun
   ·rw [getD_set_ne true hjk] at hun; exact hun
  have hgt' : ∀ k, (listed.setIfInBounds j true).getD k true = false → k ≠ i → pos i < pos k := fun k hun hki => by
   refine hgt k ?_ hki
   by_cases hjk : j = k
   ·subst hjk; exact hjun
   ·rw [getD_set_ne true hjk] at hun; exact hun
  -- where i calls or makes, j does not call
  have hjc : stillOp oi = false → ¬ (stillOp oj = false ∧ makerOp oj = false) := fun hs ⟨h1, h2⟩ => by
   exact ((hchain hs).2 j oj hoj hji hjun h1 h2).not_ready (hchain hs).1 (getD_both (mem_ready.1 hr).1) hoj hall
  have hchain' : stillOp oi = false → ChainF ops i (listed.setIfInBounds j true) := fun hs => by
   refine ⟨fun k hk => ?_, fun k ok hk hki hun hks hkm => ?_⟩
   ·have hjk : j ≠ k := by
     rintro rfl
     exact hk.not_ready (hchain hs).1 (getD_both (mem_ready.1 hr).1) hoj hall
    rw [getD_set_ne false hjk]
    exact (hchain hs).1 k hk
   ·refine (hchain hs).2 k ok hk hki ?_ hks hkm
    by_cases hjk : j = k
    ·subst hjk; exact hjun
    ·rw [getD_set_ne true hjk] at hun; exact hun
  have hr' := ready_mono hr (Ne.symm hji)
  have hjr := ready_mono hj hji
  have nst : ¬ quietNow ops oi a → stillOp oi = false := fun h => by
   cases e : stillOp oi with
   | false => rfl
   | true => exact absurd (.inl e) h
  have nst' : ¬ quietNow ops oj a → stillOp oj = false := fun h => by
   cases e : stillOp oj with
   | false => rfl
   | true => exact absurd (.inl e) h
  have qj : ∀ v, quietNow ops oj (a.put oi.dst v) ↔ quietNow ops oj a := fun v => quietNow_put p1
  have qi : ∀ v, quietNow ops oi (a.put oj.dst v) ↔ quietNow ops oi a := fun v => quietNow_put p3
  have yj : ∀ {u v : Value}, YieldsIf P ops (SL w0) oj u (a.put oi.dst v) → YieldsIf P ops (SL w0) oj u a := fun h => h.of_same (execOp_put oj hsj a oi.dst _ p1).symm (wanted_put oj a oi.dst _ p1).symm
  have yi : ∀ {u v : Value}, YieldsIf P ops (SL w0) oi u a → YieldsIf P ops (SL w0) oi u (a.put oj.dst v) := fun h => h.of_same (execOp_put oi hsi a oj.dst _ p3) (wanted_put oi a oj.dst _ p3)
  have mj : ∀ {z : Obj × (Nat → Value)} {v : Value}, Makes P ops oj z (a.put oi.dst v) → Makes P ops oj z a := fun h => h.of_same (execOp_put oj hsj a oi.dst _ p1).symm
  have mi : ∀ {z : Obj × (Nat → Value)} {v : Value}, Makes P ops oi z a → Makes P ops oi z (a.put oj.dst v) := fun h => h.of_same (execOp_put oi hsi a oj.dst _ p3)
  have cm : ∀ {u v : Value} {W : World}, wpG pos P ops w0 Q n ((listed.setIfInBounds i true).setIfInBounds j true) ((a.put oi.dst v).put oj.dst u) W → wpG pos P ops w0 Q n ((listed.setIfInBounds j true).setIfInBounds i true) ((a.put oj.dst u).put oi.dst v) W := fun {u v W} h => by
   rw [Array.setIfInBounds_comm _ _ hji, ← Act.put_comm a v u p2]
   exact h
  unfold gOp at H
  rw [hi] at H
  unfold gOp
  rw [hoj]
  rcases H with ⟨hq, v, hy, HK⟩ | ⟨⟨hnq, hm⟩, z, hz, HK⟩ | ⟨⟨hnq, hm⟩, HK⟩
  ·have h1 := HK.2 j hjr
   unfold gOp at h1
   rw [hoj] at h1
   have step : ∀ u W, SL w0 W → wpG pos P ops w0 Q n ((listed.setIfInBounds i true).setIfInBounds j true) ((a.put oi.dst v).put oj.dst u) W → wpG pos P ops w0 Q (n + 1) (listed.setIfInBounds j true) (a.put oj.dst u) W := fun u W hW hk => by
    refine ih (listed.setIfInBounds j true) (a.put oj.dst u) W hW hfree' hgt' hchain' hr' ?_
    unfold gOp
    rw [hi]
    exact .inl ⟨(qi u).2 hq, v, yi hy, cm hk⟩
   rcases h1 with ⟨hqj, u, hu, hk⟩ | ⟨⟨hqj, hmj⟩, z, hz, hk⟩ | ⟨⟨hqj, hmj⟩, hk⟩
   ·exact .inl ⟨(qj v).1 hqj, u, yj hu, step u w hS hk⟩
   ·exact .inr (.inl ⟨⟨fun e => hqj ((qj v).2 e), hmj⟩, z, mj hz, fun b W h1 h2 h3 => step _ W (hS.ext h1) (hk b W h1 h2 h3)⟩)
   ·exact .inr (.inr ⟨⟨fun e => hqj ((qj v).2 e), hmj⟩, fun W hW => hOp_mono (fun u w' ⟨e1, e2, e3⟩ => ⟨e1, e2, step u w' e2 e3⟩) (hOp_unput hsj p1 (hk W hW))⟩)
  ·have hs := nst hnq
   have hE : Below w.heap.size w (w.alloc z.1) := (Below.refl _ _).alloc (Nat.le_refl _) _
   have h1 := (HK w.heap.size (w.alloc z.1) hE (heap_new w z.1) hS.below.size).2 j hjr
   unfold gOp at h1
   rw [hoj] at h1
   rcases h1 with ⟨hqj, u, hu, _⟩ | ⟨⟨hqj, hmj⟩, z', hz', _⟩ | ⟨⟨hqj, hmj⟩, _⟩
   ·refine .inl ⟨(qj _).1 hqj, u, yj hu, ih (listed.setIfInBounds j true) (a.put oj.dst u) w hS hfree' hgt' hchain' hr' ?_⟩
    unfold gOp
    rw [hi]
    refine .inr (.inl ⟨⟨fun e => hnq ((qi u).1 e), hm⟩, z, mi hz, fun b W h1 h2 h3 => ?_⟩)
    have h4 := (HK b W h1 h2 h3).2 j hjr
    unfold gOp at h4
    rw [hoj] at h4
    rcases h4 with ⟨_, u', hu', hk'⟩ | ⟨⟨hqj', _⟩, _⟩ | ⟨⟨hqj', _⟩, _⟩
    ·have e := YieldsIf.one (hS.ext h1) (yj hu') (yj hu)
     subst e
     exact cm hk'
    ·exact absurd ((qj _).2 ((qj _).1 hqj)) hqj'
    ·exact absurd ((qj _).2 ((qj _).1 hqj)) hqj'
   ·refine .inr (.inl ⟨⟨fun e => hqj ((qj _).2 e), hmj⟩, z', mj hz', fun b' W' h1' h2' h3' => ih (listed.setIfInBounds j true) (a.put oj.dst (z'.2 b')) W' (hS.ext h1') hfree' hgt' hchain' hr' ?_⟩)
    unfold gOp
    rw [hi]
    refine .inr (.inl ⟨⟨fun e => hnq ((qi _).1 e), hm⟩, z, mi hz, fun b W h1 h2 h3 => ?_⟩)
    have h4 := (HK b W (ext_trans h1' h1) h2 h3).2 j hjr
    unfold gOp at h4
    rw [hoj] at h4
    rcases h4 with ⟨hqj', _⟩ | ⟨_, z'', hz'', hk'⟩ | ⟨⟨_, hmj'⟩, _⟩
    ·exact absurd ((qj _).2 ((qj _).1 hqj')) hqj
    ·have e := Makes.one w (mj hz'') (mj hz')
     subst e
     exact cm (hk' b' W (Below.refl _ _) (heap_keep h2' h1) h3')
    ·rw [hmj] at hmj'; cases hmj'
   ·exact absurd ⟨nst' (fun e => hqj ((qj _).2 e)), hmj⟩ (hjc hs)
  ·have hs := nst hnq
   obtain ⟨v0, w1, _, hS1, hK1⟩ := hOp_out (HK w (Below.refl _ _))
   have h1 := hK1.2 j hjr
   unfold gOp at h1
   rw [hoj] at h1
   rcases h1 with ⟨hqj, u, hu, _⟩ | ⟨⟨hqj, hmj⟩, z', hz', _⟩ | ⟨⟨hqj, hmj⟩, _⟩
   ·refine .inl ⟨(qj _).1 hqj, u, yj hu, ih (listed.setIfInBounds j true) (a.put oj.dst u) w hS hfree' hgt' hchain' hr' ?_⟩
    unfold gOp
    rw [hi]
    refine .inr (.inr ⟨⟨fun e => hnq ((qi u).1 e), hm⟩, fun W hW => hOp_put hsi p3 (hOp_mono (fun v w' ⟨e1, e2, e3⟩ => ⟨e1, e2, ?_⟩) (HK W hW))⟩)
    have h4 := e3.2 j hjr
    unfold gOp at h4
    rw [hoj] at h4
    rcases h4 with ⟨_, u', hu', hk'⟩ | ⟨⟨hqj', _⟩, _⟩ | ⟨⟨hqj', _⟩, _⟩
    ·have e := YieldsIf.one e2 (yj hu') (yj hu)
     subst e
     exact cm hk'
    ·exact absurd ((qj _).2 ((qj _).1 hqj)) hqj'
    ·exact absurd ((qj _).2 ((qj _).1 hqj)) hqj'
   ·refine .inr (.inl ⟨⟨fun e => hqj ((qj _).2 e), hmj⟩, z', mj hz', fun b W' h1' h2' h3' => ih (listed.setIfInBounds j true) (a.put oj.dst (z'.2 b)) W' (hS.ext h1') hfree' hgt' hchain' hr' ?_⟩)
    unfold gOp
    rw [hi]
    refine .inr (.inr ⟨⟨fun e => hnq ((qi _).1 e), hm⟩, fun W hW => hOp_put hsi p3 (hOp_mono (fun v w' ⟨e1, e2, e3⟩ => ⟨e1, e2, ?_⟩) (HK W (ext_trans h1' hW)))⟩)
    have h4 := e3.2 j hjr
    unfold gOp at h4
    rw [hoj] at h4
    rcases h4 with ⟨hqj', _⟩ | ⟨_, z'', hz'', hk'⟩ | ⟨⟨_, hmj'⟩, _⟩
    ·exact absurd ((qj _).2 ((qj _).1 hqj')) hqj
    ·have e := Makes.one w (mj hz'') (mj hz')
     subst e
     exact cm (hk' b w' (Below.refl _ _) (heap_keep (heap_keep h2' hW) (e1 ⟨j, oj, hij, hoj, hmj⟩)) h3')
    ·rw [hmj] at hmj'; cases hmj'
   ·exact absurd ⟨nst' (fun e => hqj ((qj _).2 e)), hmj⟩ (hjc hs)


theorem wpG_of_ord (hx : LexOK ops) : ∀ (is : List Nat) (l : List Oper) (done : List Nat) (listed : Array Bool) (a : Act) (w : World), SL w0 w → OrdOK ops done is → is.Pairwise (fun a b => pos a < pos b) → (∀ d ∈ done, ∀ i ∈ is, pos d < pos i) →
  is.map (fun i => ops[i]?) = l.map some → listed.size = ops.size → (∀ i, i ∈ done → listed.getD i false = true) → (∀ i, i ∈ is → listed.getD i true = false) → (∀ j k, k ∈ done → Waits ops j k → j ∈ done) →
  Fl.wpF P ops w0 Q l a w → wpG pos P ops w0 Q l.length listed a w
 | [], [], done, listed, a, w, _, ho, _, _, _, hz, h1, _, _, h => by
  refine ⟨?_, h⟩
  refine List.eq_nil_iff_forall_not_mem.2 fun i hi => ?_
  obtain ⟨h0, o, hoi, _⟩ := mem_ready.1 hi
  have hlt := (Array.getElem?_eq_some_iff.1 hoi).1
  rcases ho.every i hlt with h3 | h3
  ·have h4 := h1 i h3
   rw [getD_both h0] at h4
   cases h4
  ·cases h3
 | [], _ :: _, _, _, _, _, _, _, _, _, hm, _, _, _, _, _ => by simp at hm
 | _ :: _, [], _, _, _, _, _, _, _, _, hm, _, _, _, _, _ => by simp at hm
 | k :: is, o :: l, done, listed, a, w, hS, ho, hp, hdp, hm, hz, h1, h2, hw, h => by
  simp only [List.map_cons, List.cons.injEq] at hm
  obtain ⟨h0, hm⟩ := hm
  have hlt : k < ops.size := (Array.getElem?_eq_some_iff.1 h0).1
  obtain ⟨o', h0', _, hkd, hkr, hed, hlast, hch⟩ := ho.step [] k is rfl
  rw [h0] at h0'
  injection h0' with h0'
  subst h0'
  obtain ⟨hpk, hpt⟩ := List.pairwise_cons.1 hp
  have hed' : ∀ e ∈ o.after, Region.binds .any e = true → e.on ∈ done := fun e he hb => by
   rcases hed e he hb with h3 | h3
   ·exact h3
   ·cases h3
  have hun : ∀ j, listed.getD j true = false → j ≠ k → j ∈ is := fun j hun hne => by
   have hj : j < ops.size := by
    rw [← hz]
    rcases Nat.lt_or_ge j listed.size with h3 | h3
    ·exact h3
    ·rw [Array.getD_eq_getD_getElem?, Array.getElem?_eq_none h3] at hun
     cases hun
   rcases ho.every j hj with h3 | h3
   ·have h4 := h1 j h3
    rw [getD_both hun] at h4
    cases h4
   ·rcases List.mem_cons.1 h3 with h3 | h3
    ·exact absurd h3 hne
    ·exact h3
  have hmk : MkBehind pos ops k → l.any makerOp = true := fun ⟨j, oj, hj, hoj, hmj⟩ => by
   have hjs : j < ops.size := (Array.getElem?_eq_some_iff.1 hoj).1
   have hji : j ∈ is := by
    rcases ho.every j hjs with h3 | h3
    ·have := hdp j h3 k List.mem_cons_self
     omega
    ·rcases List.mem_cons.1 h3 with h3 | h3
     ·rw [h3] at hj
      omega
     ·exact h3
   have h5 : some oj ∈ l.map some := by
    rw [← hm]
    exact List.mem_map.2 ⟨j, hji, hoj⟩
   obtain ⟨x, hx1, hx2⟩ := List.mem_map.1 h5
   injection hx2 with hx2
   subst hx2
   exact List.any_eq_true.2 ⟨x, hx1, hmj⟩
  have rec_ : ∀ a' W, SL w0 W → Fl.wpF P ops w0 Q l a' W → wpG pos P ops w0 Q l.length (listed.setIfInBounds k true) a' W := fun a' W hW h' =>
   wpG_of_ord hx is l (k :: done) _ a' W hW ho.tail hpt (fun d hd i hi => by
     rcases List.mem_cons.1 hd with e | e
     ·rw [e]; exact hpk i hi
     ·exact hdp d e i (List.mem_cons_of_mem _ hi)) hm (by simpa using hz)
    (by
     intro i hi
     rcases List.mem_cons.1 hi with e | e
     ·subst e
      simp [hz, hlt]
     ·exact getD_set_true (h1 i e))
    (by
     intro i hi
     rw [getD_set_ne true (show k ≠ i from fun e => hkr (by rw [e]; exact hi))]
     exact h2 i (List.mem_cons_of_mem _ hi))
    (by
     intro j q hq hjq
     rcases List.mem_cons.1 hq with e | e
     ·subst e
      cases hjq with
      | on e' h3 he hb hon =>
       rw [h0] at h3
       injection h3 with h3
       subst h3
       exact List.mem_cons_of_mem _ (hon ▸ hed' _ he hb)
      | step e' h3 he hb hst =>
       rw [h0] at h3
       injection h3 with h3
       subst h3
       exact List.mem_cons_of_mem _ (hw j _ (hed' _ he hb) hst)
     ·exact List.mem_cons_of_mem _ (hw j q e hjq)) h'
  have hst : gOp pos P ops w0 k (wpG pos P ops w0 Q l.length (listed.setIfInBounds k true)) a w := by
   unfold gOp
   rw [h0]
   rcases h with ⟨hq, v, hy, hk'⟩ | ⟨hq, z, hz', hk'⟩ | ⟨hq, hk'⟩
   ·exact .inl ⟨hq, v, hy, rec_ _ _ hS hk'⟩
   ·exact .inr (.inl ⟨hq, z, hz', fun b W e1 e2 e3 => rec_ _ _ (hS.ext e1) (hk' b W e1 e2 e3)⟩)
   ·exact .inr (.inr ⟨hq, fun W hW => hOp_mono (fun v w' ⟨e1, e2, e3⟩ => ⟨fun e => e1 (hmk e), e2, rec_ _ _ e2 e3⟩) (hk' W hW)⟩)
  refine wpG_first h0 (Region.noSelect_spec hx.sel) l.length listed a w hS ?_ ?_ ?_ (mem_ready.2 ⟨h2 k List.mem_cons_self, o, h0, fun e he hb => h1 _ (hed' e he hb)⟩) hst
  ·intro j oj hj hne hju hno
   rcases Nat.lt_trichotomy k j with h3 | h3 | h3
   ·exact hx.free k j o oj h3 h0 hj hno
   ·exact absurd h3.symm hne
   ·refine apart_symm (hx.free j k oj o h3 hj h0 fun e he hb heq => ?_)
    have h4 := h1 _ (hed' e he hb)
    rw [heq, getD_both hju] at h4
    cases h4
  ·intro j hju hne
   exact hpk j (hun j hju hne)
  ·intro hs
   refine ⟨fun j hjw => ?_, fun j oj hj hne hju hjs hjm => hch hs j oj (hun j hju hne) hj hjs hjm⟩
   have hjl : j < ops.size := (hjw.lt hx).2
   have hnd : j ∉ done := fun hd => hkd (hw k j hd hjw)
   have hjk : j ≠ k := fun e => by have := (hjw.lt hx).1; omega
   rcases ho.every j hjl with h3 | h3
   ·exact absurd h3 hnd
   ·exact getD_both (h2 j h3)
end
end Go.Proofs.YtbecajihgbbgjaaDoor.K.Fp

namespace Go.Proofs.YtbecajihgbbgjaaDoor
set_option maxRecDepth 8000
open Go.RowKit Go.Proofs.YtbecajihgbbgjaaDoor.K
/-- a block whose first cells are heads -/
structure RawOk (cur : Array Value) (n c : Nat) (hs : List Hd) : Prop where
 len : hs.length = n
 cap : n ≤ c
 top : c ≤ 9223372036854775807
 at_ : ∀ (i : Nat) (h : Hd), hs[i]? = some h → cur[i]? = some (.slice h.A h.n h.c)
theorem RawOk.set0 {cur : Array Value} {n c : Nat} {hs : List Hd} (h : RawOk cur n c hs) (u : Hd) : RawOk (cur.setIfInBounds 0 (.slice u.A u.n u.c)) n c (hs.set 0 u) := by
 refine ⟨by rw [List.length_set]; exact h.len, h.cap, h.top, fun i d hi => ?_⟩
 rw [List.getElem?_set] at hi
 by_cases h0 : 0 = i
 ·subst h0
  rw [if_pos rfl] at hi
  split at hi
  ·next hl =>
   injection hi with hi
   subst hi
   obtain ⟨d0, hd0⟩ : ∃ d, hs[0]? = some d := ⟨_, List.getElem?_eq_getElem hl⟩
   have h1 := h.at_ 0 d0 hd0
   have h2 := (Array.getElem?_eq_some_iff.1 h1).1
   simp [h2]
  ·cases hi
 ·rw [if_neg h0] at hi
  rw [Array.getElem?_setIfInBounds, if_neg h0]
  exact h.at_ i d hi
theorem RawOk.first {cur : Array Value} {n c : Nat} {hs : List Hd} (h : RawOk cur n c hs) (hn : 0 < n) : ∃ v, cur[0]? = some v := by
 obtain ⟨d0, hd0⟩ : ∃ d, hs[0]? = some d := ⟨_, List.getElem?_eq_getElem (by rw [h.len]; exact hn)⟩
 exact ⟨_, h.at_ 0 d0 hd0⟩
section
variable {w w' : World} {base g n c : Nat} {A : Option Addr} {cur : Array Value} {hs : List Hd} {fs : List (List Qu.Cd)}
theorem FsOwn.raw (h : FsOwn w base (.slice A n c) fs) (hn : 0 < n) : ∃ g cur hs, A = some ⟨g, 0, none⟩ ∧ base ≤ g ∧ w.heap[g]? = some (.cells cur 44 (0, 0)) ∧ RawOk cur n c hs ∧ OwnsC w 49 base hs fs := by
 obtain ⟨A2, c2, hs, he, ho, hc⟩ := h
 injection he with e1 e2 e3
 subst e1 e2 e3
 rcases ho.2 with ⟨_, h0⟩ | ⟨g, cap, cur, e, hb, hg, hnc, hm, hsz, ht⟩
 ·omega
 ·injection e with e1 _ e3
  subst e1 e3
  refine ⟨g, cur, hs, rfl, hb, hg, ⟨hc.len, hnc, by unfold maxLen at hm; omega, fun i d hi => ?_⟩, hc⟩
  have h1 : i < hs.length := (List.getElem?_eq_some_iff.1 hi).1
  have h2 : (fl hdC hs)[i]? = some (.slice d.A d.n d.c) := by
   have h3 := fl_get (E := hdC) (k := 1) hi 0 (by decide)
   rw [Nat.mul_one, Nat.add_zero] at h3
   exact h3
  rw [← ht, List.getElem?_take, Nat.mul_one] at h2
  split at h2
  ·simpa using h2
  ·cases h2
theorem sg_raw (hr : w.heap[g]? = some (.cells cur 44 (0, 0))) (h : RawOk cur n c hs) : Sg hdC 1 w (some ⟨g, 0, none⟩) n c hs :=
 ⟨h.len, h.cap, h.top, fun e => (by cases e), fun i x hx => ⟨g, 0, rfl, fun j v hv => by
  have h1 := h.at_ i x hx
  rcases j with _ | j
  ·injection hv with hv
   subst hv
   rw [Nat.mul_one, Nat.zero_add, Nat.add_zero]
   exact cells_at hr i h1
  ·simp [hdC] at hv⟩⟩
theorem OwnsC.sgi {i : Nat} {d : Hd} {l : List Qu.Cd} (h : OwnsC w 49 base hs fs) (hi : hs[i]? = some d) (hx : fs[i]? = some l) : Sg ciC 3 w d.A d.n d.c (l.map Qu.Cd.ci) := by
 have h2 := (h.row i d l hi hx).2
 rw [← fl_ci] at h2
 exact Sg.ownS h2
theorem fsr_set0 {u : Hd} {l : List Qu.Cd} (hr : w.heap[g]? = some (.cells cur 44 (0, 0))) (h : RawOk cur n c (hs.set 0 u)) (hoc : OwnsC w 49 base hs fs) (hu : Sg ciC 3 w u.A u.n u.c (l.map Qu.Cd.ci)) : FsR w (some ⟨g, 0, none⟩) n c (hs.set 0 u) ((fs.set 0 l).map (List.map Qu.Cd.ci)) :=
 ⟨sg_raw hr h, by rw [List.length_map, List.length_set, List.length_set]; exact hoc.len, fun i d xs hi hx => by
  rw [List.getElem?_map] at hx
  obtain ⟨ys, hy, rfl⟩ := Option.map_eq_some_iff.1 hx
  rw [List.getElem?_set] at hi hy
  by_cases h0 : 0 = i
  ·subst h0
   rw [if_pos rfl] at hi hy
   split at hi
   ·split at hy
    ·injection hi with hi
     injection hy with hy
     subst hi hy
     exact hu
    ·cases hy
   ·cases hi
  ·rw [if_neg h0] at hi hy
   exact hoc.sgi hi hy⟩
/-- filters of valid conditions, whatever they are -/
def FsX (w : World) (base : Nat) (v : Value) (m : Nat) : Prop := ∃ fs : List (List Qu.Cd), FsOwn w base v fs ∧ fs.length = m ∧ ∀ l ∈ fs, l.length ≤ 3 ∧ ∀ c ∈ l, OkC c
theorem FsX.keep {m : Nat} {v : Value} (h : FsX w base v m) (hb : Below w.heap.size w w') : FsX w' base v m := by
 obtain ⟨fs, h1, h2⟩ := h
 exact ⟨fs, h1.keep hb, h2⟩
theorem FsX.store {m b : Nat} {ds : Array Value} {u : TypeId} {v : Value} (h : FsX w base v m) (hb : w.heap[b]? = some (.cells ds u (0, 0))) (h1 : u ≠ 44) (h2 : u ≠ 49) (hfar : ∀ k o, k ≠ b → w.heap[k]? = some o → w'.heap[k]? = some o) : FsX w' base v m := by
 obtain ⟨fs, h3, h4⟩ := h
 exact ⟨fs, h3.store hb h1 h2 hfar, h4⟩
theorem list_ofI {α : Type} (n : Nat) (P : Nat → α → Prop) (h : ∀ i, i < n → ∃ x, P i x) : ∃ l : List α, l.length = n ∧ ∀ i x, l[i]? = some x → P i x := by
 induction n with
 | zero => exact ⟨[], rfl, fun i x hx => by simp at hx⟩
 | succ n ih =>
  obtain ⟨l, hl, hp⟩ := ih fun i hi => h i (by omega)
  obtain ⟨x, hx⟩ := h n (Nat.lt_succ_self n)
  refine ⟨l ++ [x], by simp [hl], fun i y hy => ?_⟩
  by_cases hi : i < l.length
  ·rw [List.getElem?_append_left hi] at hy
   exact hp i y hy
  ·rw [List.getElem?_append_right (by omega)] at hy
   have e : i = n := by
    have := (List.getElem?_eq_some_iff.1 hy).1
    simp at this
    omega
   subst e
   rw [hl, Nat.sub_self] at hy
   simp at hy
   subst hy
   exact hx
/-- one condition is stored into a variable, wherever it lies -/
theorem FsX.storeAny {m b : Nat} {z0 z1 z2 : Value} {d : Qu.Cd} {v : Value} (hd : OkC d) (h : FsX w base v m) (hb : w.heap[b]? = some (.cells #[z0, z1, z2] 49 (0, 0))) (hfar : ∀ k o, k ≠ b → w.heap[k]? = some o → w'.heap[k]? = some o) (hnew : w'.heap[b]? = some (.cells #[.int .i64 (d.col : Int), .int .i64 (d.lo : Int), .int .i64 (d.hi : Int)] 49 (0, 0))) : FsX w' base v m := by
 obtain ⟨fs, ⟨A, c, hs, hv, hown, hoc⟩, hm, hok⟩ := h
 have hrow : ∀ i, i < fs.length → ∃ l : List Qu.Cd, ∀ e, hs[i]? = some e → (l.length = e.n ∧ w'.ownsRow base 49 3 (.slice e.A e.n e.c) e.n (fl cdC l)) ∧ l.length ≤ 3 ∧ ∀ c ∈ l, OkC c := by
  intro i hi
  obtain ⟨l, hl⟩ : ∃ l, fs[i]? = some l := ⟨_, List.getElem?_eq_getElem hi⟩
  obtain ⟨e, he⟩ : ∃ e, hs[i]? = some e := ⟨_, List.getElem?_eq_getElem (by rw [hoc.len]; exact hi)⟩
  have h1 := hoc.row i e l he hl
  have h2 := hok l (List.mem_of_getElem? hl)
  have hone : ∀ e', hs[i]? = some e' → e' = e := fun e' h => by rw [he] at h; injection h with h; exact h.symm
  rcases h1.2.2 with ⟨h3, h4⟩ | ⟨g, cap, cur, h3, h4, h5, h6, h7, h8, h9⟩
  ·exact ⟨l, fun e' h => by rw [hone e' h]; exact ⟨⟨h1.1, h1.2.1, .inl ⟨h3, h4⟩⟩, h2⟩⟩
  ·by_cases hg : g = b
   ·subst hg
    rw [hb] at h5
    injection h5 with h5
    injection h5 with h5
    subst h5
    have hc1 : cap = 1 := by simp at h8; omega
    subst hc1
    rcases (show e.n = 0 ∨ e.n = 1 by omega) with h0 | h0
    ·exact ⟨[], fun e' h => by
      rw [hone e' h]
      refine ⟨⟨by rw [h0]; rfl, by rw [h0]; rfl, .inr ⟨g, 1, _, h3, h4, hnew, h6, h7, rfl, ?_⟩⟩, by decide, fun c hc => by cases hc⟩
      rw [h0]
      rfl⟩
    ·exact ⟨[d], fun e' h => by
      rw [hone e' h]
      refine ⟨⟨by rw [h0]; rfl, by rw [h0]; rfl, .inr ⟨g, 1, _, h3, h4, hnew, h6, h7, rfl, ?_⟩⟩, (by show 1 ≤ 3; decide), fun c hc => by
       rcases List.mem_cons.1 hc with e1 | e1
       ·rw [e1]; exact hd
       ·cases e1⟩
      rw [h0]
      rfl⟩
   ·exact ⟨l, fun e' h => by rw [hone e' h]; exact ⟨⟨h1.1, h1.2.1, .inr ⟨g, cap, cur, h3, h4, hfar g _ hg h5, h6, h7, h8, h9⟩⟩, h2⟩⟩
 obtain ⟨fx, hfl, hfx⟩ := list_ofI fs.length _ hrow
 have hlen : hs.length = fx.length := by rw [hfl]; exact hoc.len
 refine ⟨fx, ⟨A, c, hs, by rw [hfl]; exact hv, by rw [hfl]; exact own_farT hown hb (by decide) hfar, hlen, fun i e xs hi hx => (hfx i xs hx e hi).1⟩, by rw [hfl]; exact hm, fun l hl => ?_⟩
 obtain ⟨i, hi⟩ := List.getElem?_of_mem hl
 obtain ⟨e, he⟩ : ∃ e, hs[i]? = some e := ⟨_, List.getElem?_eq_getElem (by rw [hlen]; exact (List.getElem?_eq_some_iff.1 hi).1)⟩
 exact (hfx i l hi e he).2
end
theorem OkQ.set0 {kd cl kk : Nat} {fs : List (List Qu.Cd)} {l : List Qu.Cd} (h : OkQ ⟨kd, cl, kk, fs⟩) (hl : l.length ≤ 3 ∧ ∀ c ∈ l, OkC c) : OkQ ⟨kd, cl, kk, fs.set 0 l⟩ :=
 ⟨h.k1, h.k7, h.c1, h.c0, h.m1, h.m0, by show (fs.set 0 l).length = _; rw [List.length_set]; exact h.nf, fun x hx => by
  rcases List.mem_or_eq_of_mem_set hx with e | e
  ·exact h.ok x e
  ·rw [e]; exact hl⟩
theorem OkQ.fs {kd cl kk : Nat} {fs fx : List (List Qu.Cd)} (h : OkQ ⟨kd, cl, kk, fs⟩) (hl : fx.length = fs.length) (hok : ∀ l ∈ fx, l.length ≤ 3 ∧ ∀ c ∈ l, OkC c) : OkQ ⟨kd, cl, kk, fx⟩ :=
 ⟨h.k1, h.k7, h.c1, h.c0, h.m1, h.m0, hl.trans h.nf, hok⟩
theorem madeCond_d (a b c : Int) (dc dl dh : Nat) (hd : Qu.mdC ⟨a, b, c⟩ = ⟨dc, dl, dh⟩) (w : World) : Calls Tryd.prog 23 #[.agg #[.int .i64 a, .int .i64 b, .int .i64 c]] w fun e w' => e = .returned (.agg #[.int .i64 (dc : Int), .int .i64 (dl : Int), .int .i64 (dh : Int)]) ∧ Below w.heap.size w w' := by
 have h := madeCond_any a b c w
 rw [hd] at h
 exact h
end Go.Proofs.YtbecajihgbbgjaaDoor

namespace Go.Proofs.YtbecajihgbbgjaaDoor
set_option maxRecDepth 8000
open Go.RowKit Go.Proofs.YtbecajihgbbgjaaDoor.K
attribute [local irreducible] wpList wpQuiet
namespace Ty
def x4 (a b c d : Nat) : Nat → Nat
 | 0 => a
 | 1 => b
 | 2 => c
 | _ => d
end Ty
theorem FsOwn.grown {w w' : World} {base b0 size n : Nat} {e : TypeId} {v u : Value} {fs : List (List Qu.Cd)} {cs : List Value} (h : FsOwn w base v fs) (ho : w.ownsRow b0 e size u n cs) (hg : w.grownBy w' u.ownBlock) (h1 : 44 ≠ e) (h2 : 49 ≠ e) : FsOwn w' base v fs := by
 obtain ⟨A, c, hs, hv, hown, hoc⟩ := h
 exact ⟨A, c, hs, hv, own_growT hown ho hg h1, hoc.grown ho hg h2⟩
end Go.Proofs.YtbecajihgbbgjaaDoor

namespace Go.Proofs.YtbecajihgbbgjaaDoor
set_option maxRecDepth 8000
open Go.ChangeShapes Go.WideShapes Go.ChangeAt Go.RowKit Go.Joins Go.Deep Go.Proofs.YtbecajihgbbgjaaDoor.K
theorem own : ownKnob Tryd.prog.godebug = none := by kernel_rfl
theorem laidOut : laidOutB Tryd.prog = true := by kernel_rfl
section
variable {H : Type} {enc : TypeId × Value → H} {W : World} {base : Nat} {sp : Nat → Bool} {b1 : Nat} {hd : Bool} {v : Value} {d : DataW H} {p : List MemPlace}
theorem cells13I : Tryd.prog.cellsOf 3 = 1 := by kernel_rfl
theorem cells13S : Tryd.prog.cellsOf 9 = 1 := by kernel_rfl
theorem cells13C : Tryd.prog.cellsOf 96 = 2 := by kernel_rfl
theorem cells13T : Tryd.prog.cellsOf 97 = 8 := by kernel_rfl
theorem cells13R : Tryd.prog.cellsOf 40 = 4 := by kernel_rfl
theorem open13_reading (hv : Value.okWide Tryd.prog W .any base 40 v) (h : DataW.Trod enc Tryd.prog W b1 sp hd 40 v d p) : ∃ a b k q : Int, v = .agg #[.int .i64 a, .int .i64 b, .int .i64 k, .int .i64 q] := by
 obtain ⟨cs, rfl, hsz, _⟩ : ∃ cs, v = .agg cs ∧ cs.size = Tryd.prog.cellsOf 40 ∧ Row.okWide Tryd.prog W .any base 40 cs := by
  simpa [Value.okWide, Tryd.underlying40] using hv
 rw [cells13R] at hsz
 obtain ⟨c0, c1, c2, c3, rfl⟩ : ∃ c0 c1 c2 c3, cs = #[c0, c1, c2, c3] := by
  match cs, hsz with
  | ⟨[c0, c1, c2, c3]⟩, _ => exact ⟨c0, c1, c2, c3, rfl⟩
 obtain ⟨fuel, hf⟩ := h
 obtain ⟨ys, m', _, _, _, hn, hel⟩ := DataW.trod_struct Tryd.underlying40 (show DataW.trod enc Tryd.prog W b1 sp hd fuel 40 [c0, c1, c2, c3] = some (d, p) by simpa [Value.cells] using hf)
 match ys, hn with
 | [y0, y1, y2, y3], _ =>
  have g0 : DataW.trod enc Tryd.prog W b1 sp hd m' 3 [c0] = some y0 := by simpa [cells13I] using hel 0 _ rfl
  have g1 : DataW.trod enc Tryd.prog W b1 sp hd m' 3 [c1] = some y1 := by simpa [cells13I] using hel 1 _ rfl
  have g2 : DataW.trod enc Tryd.prog W b1 sp hd m' 3 [c2] = some y2 := by simpa [cells13I] using hel 2 _ rfl
  have g3 : DataW.trod enc Tryd.prog W b1 sp hd m' 3 [c3] = some y3 := by simpa [cells13I] using hel 3 _ rfl
  obtain ⟨a0, e0, _, _⟩ := DataW.trod_int Tryd.underlying3 g0
  obtain ⟨a1, e1, _, _⟩ := DataW.trod_int Tryd.underlying3 g1
  obtain ⟨a2, e2, _, _⟩ := DataW.trod_int Tryd.underlying3 g2
  obtain ⟨a3, e3, _, _⟩ := DataW.trod_int Tryd.underlying3 g3
  simp at e0 e1 e2 e3
  subst e0 e1 e2 e3
  exact ⟨a0, a1, a2, a3, rfl⟩
theorem trod13_col {fuel : Nat} {c0 c1 : Value} {s : List UInt8} {z : Int} {q : List MemPlace} (h : DataW.trod enc Tryd.prog W b1 sp hd fuel 96 [c0, c1] = some (.agg [.lit (.string s), .lit (.int .i64 z)], q)) : c0 = .string (sB s) ∧ c1 = .int .i64 z := by
 obtain ⟨ys, m', _, hx, _, hn, hel⟩ := DataW.trod_struct Tryd.underlying96 h
 match ys, hn with
 | [y0, y1], _ =>
  have g0 : DataW.trod enc Tryd.prog W b1 sp hd m' 9 [c0] = some y0 := by simpa [cells13S] using hel 0 _ rfl
  have g1 : DataW.trod enc Tryd.prog W b1 sp hd m' 3 [c1] = some y1 := by simpa [cells13I] using hel 1 _ rfl
  obtain ⟨b0, e0, x0, _⟩ := DataW.trod_string Tryd.underlying9 g0
  obtain ⟨a1, e1, x1, _⟩ := DataW.trod_int Tryd.underlying3 g1
  subst x0
  have hx' := congrArg Prod.fst hx
  simp [x1] at hx' e0 e1
  obtain ⟨rfl, rfl⟩ := hx'
  subst e0 e1
  exact ⟨by rw [sB_of], rfl⟩
end
def laid13 : List (String × DataW Unit) := [("attestor/query.columns", Rows.laid_attestor_query_columns)]
theorem of_laid13 {W : World} (h : laidMetH Tryd.prog laid13 W) : Gc W := by
 rw [MakeChecks.laidMetH_plain _ _ _ (by kernel_rfl)] at h
 obtain ⟨ps, ⟨g', t', cs, fuel, p, q, hg', ht', hvar, hd, _, _⟩, _⟩ := h
 have g1 : Tryd.prog.globalNamed "attestor/query.columns" = some 1 := by kernel_rfl
 obtain rfl := Option.some.inj (g1.symm.trans hg')
 have t1 : (Tryd.prog.globals[1]?).map (·.type) = some 97 := by kernel_rfl
 obtain rfl := Option.some.inj (t1.symm.trans ht')
 obtain ⟨xs, m, _, hx, hl, hn, hel⟩ := DataW.trod_array Tryd.underlying97 hd
 rw [cells13T] at hl
 rw [cells13C] at hel
 have hx' := congrArg Prod.fst hx
 match cs, hl, xs, hn with
 | ⟨[c0, c1, c2, c3, c4, c5, c6, c7]⟩, _, [y0, y1, y2, y3], _ =>
  simp [Rows.laid_attestor_query_columns] at hx'
  obtain ⟨h0, h1, h2, h3⟩ := hx'
  have k0 := hel 0 (by omega)
  have k1 := hel 1 (by omega)
  have k2 := hel 2 (by omega)
  have k3 := hel 3 (by omega)
  simp at k0 k1 k2 k3
  obtain ⟨e0, e1⟩ := trod13_col (q := y0.2) (by rw [k0]; rw [h0])
  obtain ⟨e2, e3⟩ := trod13_col (q := y1.2) (by rw [k1]; rw [h1])
  obtain ⟨e4, e5⟩ := trod13_col (q := y2.2) (by rw [k2]; rw [h2])
  obtain ⟨e6, e7⟩ := trod13_col (q := y3.2) (by rw [k3]; rw [h3])
  subst e0 e1 e2 e3 e4 e5 e6 e7
  intro j v hv
  rw [Nat.zero_add]
  have hc := World.var?_cell g1 hvar j
  rw [hc]
  simpa [Qu.nameN] using hv
end Go.Proofs.YtbecajihgbbgjaaDoor

namespace Go.Proofs.YtbecajihgbbgjaaDoor.K
set_option maxRecDepth 8000
open Go.ChangeShapes Go.WideShapes Go.ChangeAt Go.RowKit Go.Joins Go.Deep
theorem list_ofK {α : Type} (n : Nat) (P : Nat → α → Prop) (h : ∀ i, i < n → ∃ x, P i x) : ∃ l : List α, l.length = n ∧ ∀ i x, l[i]? = some x → P i x := by
 induction n with
 | zero => exact ⟨[], rfl, fun i x hx => by simp at hx⟩
 | succ n ih =>
  obtain ⟨l, hl, hp⟩ := ih fun i hi => h i (by omega)
  obtain ⟨x, hx⟩ := h n (Nat.lt_succ_self n)
  refine ⟨l ++ [x], by simp [hl], fun i y hy => ?_⟩
  by_cases hi : i < l.length
  ·rw [List.getElem?_append_left hi] at hy
   exact hp i y hy
  ·rw [List.getElem?_append_right (by omega)] at hy
   have e : i = n := by
    have := (List.getElem?_eq_some_iff.1 hy).1
    simp at this
    omega
   subst e
   rw [hl, Nat.sub_self] at hy
   simp at hy
   subst hy
   exact hx
section
variable {α : Type} {E : α → List Value} {k : Nat} [hE : Enc E k] {P : Program} {H : Type} {enc : TypeId × Value → H} {W : World} {b1 : Nat} {sp : Nat → Bool} {hd : Bool} {t e : TypeId}
/-- a slice that comes in, its elements opened -/
theorem open_seq (p : α → Prop) (hu : P.underlying t = some (.slice e)) (hc : P.cellsOf e = k) (hel : ∀ m cs y, cs.length = k → DataW.trod enc P W b1 sp hd m e cs = some y → ∃ x, cs = E x ∧ p x) {m : Nat} {cs : List Value} {y : DataW H × List MemPlace} (h : DataW.trod enc P W b1 sp hd m t cs = some y) :
  ∃ A n c xs, cs = [.slice A n c] ∧ Sg E k W A n c xs ∧ ∀ x ∈ xs, p x := by
 have hk := hE.pos
 rcases open_slice hu h with ⟨hcs, _⟩ | ⟨a, len, cap, m', n', D, Pl, hcs, _, hl, hm, hmm, _, hi⟩
 ·exact ⟨none, 0, 0, [], hcs, Sg.nil_ _, fun x hx => by cases hx⟩
 ·unfold maxLen at hm
  have hC : ∀ i, i < len → ∃ x, p x ∧ ∀ j v, (E x)[j]? = some v → W.cell? ((a.add (i * k)).add j) = some v := fun i hin => by
   obtain ⟨cs', hc2, ht⟩ := hi i (by rw [hmm]; split <;> omega)
   rw [hc] at hc2
   obtain ⟨_, hcl, hat⟩ := World.cells?_some hc2
   obtain ⟨x, hx, hpx⟩ := hel _ _ _ hcl ht
   subst hx
   exact ⟨x, hpx, fun j v hv => (hat j (by rw [← hE.len x]; exact (List.getElem?_eq_some_iff.1 hv).1)).trans hv⟩
  obtain ⟨xs, hxl, hxx⟩ := list_ofK len _ hC
  refine ⟨some a, len, cap, xs, hcs, ⟨hxl, hl, by omega, fun e => (by cases e), fun i x hx => ?_⟩, fun x hx => ?_⟩
  ·have hil := (List.getElem?_eq_some_iff.1 hx).1
   obtain ⟨b, off, s⟩ := a
   obtain ⟨x0, hx0⟩ : ∃ x0, xs[0]? = some x0 := ⟨_, List.getElem?_eq_getElem (by omega)⟩
   obtain ⟨v0, hv0⟩ : ∃ v0, (E x0)[0]? = some v0 := ⟨_, List.getElem?_eq_getElem (by rw [hE.len]; exact hk)⟩
   have h0 := (hxx 0 x0 hx0).2 0 v0 hv0
   rw [Nat.zero_mul] at h0
   have hs : s = none := by
    cases s with
    | none => rfl
    | some q =>
     simp only [Addr.add, if_true, World.cell?] at h0
     split at h0 <;> simp at h0
   subst hs
   refine ⟨b, off, rfl, fun j v hv => ?_⟩
   have h1 := (hxx i x hx).2 j v hv
   rw [Addr.add_mid, Addr.add_mid] at h1
   exact h1
  ·obtain ⟨i, hi'⟩ := List.getElem?_of_mem hx
   exact (hxx i x hi').1
end
end Go.Proofs.YtbecajihgbbgjaaDoor.K
namespace Go.Proofs.YtbecajihgbbgjaaDoor
open Go.ChangeShapes Go.WideShapes Go.ChangeAt Go.RowKit Go.Joins Go.Deep Go.Proofs.YtbecajihgbbgjaaDoor.K
section
variable {H : Type} {enc : TypeId × Value → H} {W : World} {base : Nat} {sp : Nat → Bool} {b1 : Nat} {hd : Bool} {v : Value} {d : DataW H} {p : List MemPlace}
theorem cells13D : Tryd.prog.cellsOf 49 = 3 := by kernel_rfl
set_option maxRecDepth 100000 in
theorem trod13_cond {m : Nat} {cs : List Value} {y : DataW H × List MemPlace} (hl : cs.length = 3) (h : DataW.trod enc Tryd.prog W b1 sp hd m 49 cs = some y) : ∃ x : Qu.Ci, cs = ciC x := by
 obtain ⟨ys, m', _, _, _, hn, hel⟩ := DataW.trod_struct Tryd.underlying49 h
 match cs, hl, ys, hn with
 | [c0, c1, c2], _, [y0, y1, y2], _ =>
  have g0 : DataW.trod enc Tryd.prog W b1 sp hd m' 3 [c0] = some y0 := by simpa [cells13I] using hel 0 _ rfl
  have g1 : DataW.trod enc Tryd.prog W b1 sp hd m' 3 [c1] = some y1 := by simpa [cells13I] using hel 1 _ rfl
  have g2 : DataW.trod enc Tryd.prog W b1 sp hd m' 3 [c2] = some y2 := by simpa [cells13I] using hel 2 _ rfl
  obtain ⟨a0, e0, _, _⟩ := DataW.trod_int Tryd.underlying3 g0
  obtain ⟨a1, e1, _, _⟩ := DataW.trod_int Tryd.underlying3 g1
  obtain ⟨a2, e2, _, _⟩ := DataW.trod_int Tryd.underlying3 g2
  simp at e0 e1 e2
  subst e0 e1 e2
  exact ⟨⟨a0, a1, a2⟩, rfl⟩
set_option maxRecDepth 100000 in
theorem open13_cond (hv : Value.okWide Tryd.prog W .any base 49 v) (h : DataW.Trod enc Tryd.prog W b1 sp hd 49 v d p) : ∃ a b c : Int, v = .agg #[.int .i64 a, .int .i64 b, .int .i64 c] := by
 obtain ⟨cs, rfl, hsz, _⟩ : ∃ cs, v = .agg cs ∧ cs.size = Tryd.prog.cellsOf 49 ∧ Row.okWide Tryd.prog W .any base 49 cs := by
  simpa [Value.okWide, Tryd.underlying49] using hv
 rw [cells13D] at hsz
 obtain ⟨fuel, hf⟩ := h
 obtain ⟨x, hx⟩ := trod13_cond (enc := enc) (cs := cs.toList) (by simpa using hsz) (show DataW.trod enc Tryd.prog W b1 sp hd fuel 49 cs.toList = some (d, p) by simpa [Value.cells] using hf)
 refine ⟨x.col, x.lo, x.hi, ?_⟩
 have e : cs = (ciC x).toArray := by rw [← hx]
 rw [e]
 rfl
theorem cells13F : Tryd.prog.cellsOf 44 = 1 := by kernel_rfl
set_option maxRecDepth 100000 in
theorem trod13_filter {m : Nat} {cs : List Value} {y : DataW H × List MemPlace} (h : DataW.trod enc Tryd.prog W b1 sp hd m 44 cs = some y) : ∃ x : Hd, cs = hdC x ∧ ∃ xs, Sg ciC 3 W x.A x.n x.c xs := by
 obtain ⟨A, n, c, xs, e, hs, _⟩ := open_seq (E := ciC) (fun _ => True) Tryd.underlying44 cells13D (fun m cs y hl hy => by obtain ⟨x, e⟩ := trod13_cond hl hy; exact ⟨x, e, trivial⟩) h
 exact ⟨Hd.mk A n c, e, xs, hs⟩
set_option maxRecDepth 100000 in
theorem all13 : ∀ (hs : List Hd), (∀ h ∈ hs, ∃ xs, Sg ciC 3 W h.A h.n h.c xs) → ∃ fs : List (List Qu.Ci), hs.length = fs.length ∧ ∀ (i : Nat) (h : Hd) (xs : List Qu.Ci), hs[i]? = some h → fs[i]? = some xs → Sg ciC 3 W h.A h.n h.c xs
 | [], _ => ⟨[], rfl, fun i h xs hi => by simp at hi⟩
 | h :: hs, hh => by
  obtain ⟨xs, hx⟩ := hh h (List.mem_cons_self ..)
  obtain ⟨fs, hl, hf⟩ := all13 hs fun q hq => hh q (List.mem_cons_of_mem _ hq)
  refine ⟨xs :: fs, by simp [hl], fun i q ys hi hy => ?_⟩
  cases i with
  | zero =>
   simp at hi hy
   subst hi hy
   exact hx
  | succ i => exact hf i q ys (by simpa using hi) (by simpa using hy)
set_option maxRecDepth 100000 in
theorem trod13_filters {m : Nat} {c0 : Value} {y : DataW H × List MemPlace} (h : DataW.trod enc Tryd.prog W b1 sp hd m 22 [c0] = some y) : ∃ (A : Option Addr) (n c : Nat) (hs : List Hd) (fs : List (List Qu.Ci)), c0 = .slice A n c ∧ FsR W A n c hs fs := by
 obtain ⟨A, n, c, hs, e, hh, hp⟩ := open_seq (E := hdC) (fun x => ∃ xs, Sg ciC 3 W x.A x.n x.c xs) Tryd.underlying22 cells13F (fun m cs y _ hy => trod13_filter hy) h
 simp only [List.cons.injEq, and_true] at e
 obtain ⟨fs, hl, hf⟩ := all13 hs hp
 exact ⟨A, n, c, hs, fs, e, ⟨hh, hl, hf⟩⟩
theorem cells13Q : Tryd.prog.cellsOf 24 = 4 := by kernel_rfl
theorem cells13G : Tryd.prog.cellsOf 22 = 1 := by kernel_rfl
set_option maxRecDepth 100000 in
theorem open13_query (hv : Value.okWide Tryd.prog W .any base 24 v) (h : DataW.Trod enc Tryd.prog W b1 sp hd 24 v d p) : ∃ (a b k : Int) (A : Option Addr) (n c : Nat) (hs : List Hd) (fs : List (List Qu.Ci)), v = .agg #[.int .i64 a, .int .i64 b, .int .i64 k, .slice A n c] ∧ FsR W A n c hs fs := by
 obtain ⟨cs, rfl, hsz, _⟩ : ∃ cs, v = .agg cs ∧ cs.size = Tryd.prog.cellsOf 24 ∧ Row.okWide Tryd.prog W .any base 24 cs := by
  simpa [Value.okWide, Tryd.underlying24] using hv
 rw [cells13Q] at hsz
 obtain ⟨c0, c1, c2, c3, rfl⟩ : ∃ c0 c1 c2 c3, cs = #[c0, c1, c2, c3] := by
  match cs, hsz with
  | ⟨[c0, c1, c2, c3]⟩, _ => exact ⟨c0, c1, c2, c3, rfl⟩
 obtain ⟨fuel, hf⟩ := h
 obtain ⟨ys, m', _, _, _, hn, hel⟩ := DataW.trod_struct Tryd.underlying24 (show DataW.trod enc Tryd.prog W b1 sp hd fuel 24 [c0, c1, c2, c3] = some (d, p) by simpa [Value.cells] using hf)
 match ys, hn with
 | [y0, y1, y2, y3], _ =>
  have g0 : DataW.trod enc Tryd.prog W b1 sp hd m' 3 [c0] = some y0 := by simpa [cells13I] using hel 0 _ rfl
  have g1 : DataW.trod enc Tryd.prog W b1 sp hd m' 3 [c1] = some y1 := by simpa [cells13I] using hel 1 _ rfl
  have g2 : DataW.trod enc Tryd.prog W b1 sp hd m' 3 [c2] = some y2 := by simpa [cells13I] using hel 2 _ rfl
  have g3 : DataW.trod enc Tryd.prog W b1 sp hd m' 22 [c3] = some y3 := by simpa [cells13G] using hel 3 _ rfl
  obtain ⟨a0, e0, _, _⟩ := DataW.trod_int Tryd.underlying3 g0
  obtain ⟨a1, e1, _, _⟩ := DataW.trod_int Tryd.underlying3 g1
  obtain ⟨a2, e2, _, _⟩ := DataW.trod_int Tryd.underlying3 g2
  obtain ⟨A, n, c, hs, fs, rfl, hF⟩ := trod13_filters g3
  simp at e0 e1 e2
  subst e0 e1 e2
  exact ⟨a0, a1, a2, A, n, c, hs, fs, rfl, hF⟩
end
end Go.Proofs.YtbecajihgbbgjaaDoor

namespace Go.Proofs.YtbecajihgbbgjaaDoor
set_option maxRecDepth 8000
open Go.ChangeShapes Go.WideShapes Go.ChangeAt Go.RowKit Go.Joins Go.Deep Go.Proofs.YtbecajihgbbgjaaDoor.K
def laid14 : List (String × DataW Unit) := [("attestor/query.columns", Rows.laid_attestor_query_columns), ("attestor/typecheck.widths", Rows.laid_attestor_typecheck_widths)]
theorem laid14_cols {W : World} (h : laidMet Tryd.prog laid14 W) : laidMetH Tryd.prog laid13 W := by
 rw [MakeChecks.laidMetH_plain _ _ _ (by kernel_rfl)]
 have hk := laidMet.filter (fun x => x.1 == "attestor/query.columns") h
 rwa [show (laid14.filter fun x => x.1 == "attestor/query.columns") = laid13 by kernel_rfl] at hk
theorem laid14_wid {W : World} (h : laidMet Tryd.prog laid14 W) : Gw5 W := by
 have h2 : laidMet Tryd.prog (("attestor/typecheck.widths", Lib.tabData .i64 [4, 8, 4, 8, 1]) :: []) W := by
  have hk := laidMet.filter (fun x => x.1 == "attestor/typecheck.widths") h
  rwa [show (laid14.filter fun x => x.1 == "attestor/typecheck.widths") = [("attestor/typecheck.widths", Lib.tabData .i64 [4, 8, 4, 8, 1])] by kernel_rfl] at hk
 have g2 : Tryd.prog.globalNamed "attestor/typecheck.widths" = some 0 := by kernel_rfl
 have t2 := Lib.tabIs_of_head g2 (t := 72) (by kernel_rfl) Tryd.underlying72 Tryd.underlying3 (by kernel_rfl) (by kernel_rfl) h2
 intro j v hv
 have hj : j < 5 := (List.getElem?_eq_some_iff.1 hv).1
 have := t2.cell g2 j hj
 rw [Nat.zero_add, this]
 rcases (show j = 0 ∨ j = 1 ∨ j = 2 ∨ j = 3 ∨ j = 4 by omega) with rfl | rfl | rfl | rfl | rfl <;> exact hv
theorem of_laid14 {W : World} (h : laidMetH Tryd.prog laid14 W) : Gw5 W ∧ Gc W := by
 rw [MakeChecks.laidMetH_plain _ _ _ (by kernel_rfl)] at h
 exact ⟨laid14_wid h, of_laid13 (laid14_cols h)⟩
theorem door_met14 (os : Os) (args : Array Value) : laidMetH Tryd.prog laid14 ((World.doorLaid Tryd.prog 400 os).forCall (fun _ _ => 0) ⟨#[], args, []⟩).memory :=
 laidMetH_of_parts3 (fuel := 8) (laidMet_of_run' 8 (by kernel_rfl) (by kernel_rfl)) (by kernel_rfl) (by kernel_rfl)
section
variable {H : Type} {enc : TypeId × Value → H} {W : World} {base : Nat} {sp : Nat → Bool} {b1 : Nat} {hd : Bool} {v : Value} {d : DataW H} {p : List MemPlace}
end
end Go.Proofs.YtbecajihgbbgjaaDoor

