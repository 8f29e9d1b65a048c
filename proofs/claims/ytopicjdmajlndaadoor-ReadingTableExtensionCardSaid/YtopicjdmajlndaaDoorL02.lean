/- Several texts in one: Kc, Kd. -/
import Derived.Test.YtopicjdmajlndaaDoorL01
namespace Go.Proofs.YtopicjdmajlndaaDoor.K.Tl
set_option linter.unusedVariables false
set_option linter.unusedSimpArgs false
set_option linter.unusedSectionVars false
set_option maxRecDepth 8000
open Go.RowKit Go.Proofs.YtopicjdmajlndaaDoor.K

section
variable {P : Program} {ops : Array Oper} {S : World → Prop} {Q : Exit → Act → World → Prop} {m : Nat}

/-- every later effect waits for this operation -/
def ChainX (ops : Array Oper) (i : Nat) (listed : Array Bool) : Prop := (∀ j, Waits ops i j → listed.getD j false = false) ∧
  ∀ j oj, ops[j]? = some oj → j ≠ i → listed.getD j true = false → stillOp oj = false → Waits ops i j
theorem wpT_first (hz : ops.size = m + 1) (hs : Region.sinkB .any ops m = true) (hc : Region.chainB .any ops m = true) {i : Nat} {oi : Oper} (him : i < m) (hi : ops[i]? = some oi) (hsel : ∀ (j : Nat) (o : Oper) cs b, ops[j]? = some o → o.op ≠ .select cs b) : ∀ (n : Nat) (listed : Array Bool) (a : Act) (w : World), HeadInv .any ops m listed → S w →
      (∀ j oj, ops[j]? = some oj → j ≠ i → listed.getD j true = false → (∀ e ∈ oj.after, Region.binds .any e = true → e.on ≠ i) → oi.apart ops oj = true) →
      (stillOp oi = false → ChainX ops i listed) → i ∈ Region.ready .any ops listed → sOp P ops S i (wpT P ops S m Q n (listed.setIfInBounds i true)) a w → wpT P ops S m Q (n + 1) listed a w := by
  intro n
  induction n with
  | zero =>
    intro listed a w inv hS _ _ hr H
    refine ⟨fun h => (by rw [h] at hr; cases hr), fun j hj => ?_⟩
    by_cases hji : j = i
    · subst hji; rw [tOp_ne (by omega)]; exact H
    · obtain ⟨a', w', _, h0, _⟩ := sOp_out hS H
      have := ready_mono hj hji
      rw [h0] at this
      cases this
  | succ n ih =>
    intro listed a w inv hS hfree hchain hr H
    refine ⟨fun h => (by rw [h] at hr; cases hr), fun j hj => ?_⟩
    by_cases hji : j = i
    · subst hji; rw [tOp_ne (by omega)]; exact H
    have hjm : j ≠ m := fun e => by
      subst e
      exact tail_waits hs hc (by omega) inv _ i rfl him (mem_ready.1 hr).1 j (Nat.le_refl _) hj
    have hjl := ready_lt hj
    have inv' : HeadInv .any ops m (listed.setIfInBounds j true) := inv.set hj (by omega)
    rw [tOp_ne hjm]
    obtain ⟨hjun, oj, hoj, hall⟩ := mem_ready.1 hj
    have hnot : ∀ e ∈ oj.after, Region.binds .any e = true → e.on ≠ i := fun e he hb heq => by
      have h1 := hall e he hb
      have h0 := (mem_ready.1 hr).1
      rw [heq, getD_both h0] at h1
      cases h1
    have hap := hfree j oj hoj hji hjun hnot
    obtain ⟨p1, p2, p3⟩ := Oper.apart_spec hap
    have hsi := fun cs b => hsel i oi cs b hi
    have hsj := fun cs b => hsel j oj cs b hoj
    have hfree' : ∀ k ok, ops[k]? = some ok → k ≠ i → (listed.setIfInBounds j true).getD k true = false →
        (∀ e ∈ ok.after, Region.binds .any e = true → e.on ≠ i) → oi.apart ops ok = true := fun k ok hk hki hun hno => by
      refine hfree k ok hk hki ?_ hno
      by_cases hjk : j = k
      · subst hjk; exact hjun
      · rw [getD_set_ne true hjk] at hun; exact hun
    have h0i : listed.getD i false = false := getD_both (mem_ready.1 hr).1
    have hjs : stillOp oi = false → stillOp oj = true := fun hs => by
      cases e : stillOp oj with
      | true => rfl
      | false => exact (Waits.not_ready (hchain hs).1 h0i ((hchain hs).2 j oj hoj hji hjun e) hoj hall).elim
    have hchain' : stillOp oi = false → ChainX ops i (listed.setIfInBounds j true) := fun hs => by
      refine ⟨fun k hw => ?_, fun k ok hk hki hun hks => ?_⟩
      · have h1 := (hchain hs).1 k hw
        by_cases hjk : j = k
        · subst hjk
          exact (Waits.not_ready (hchain hs).1 h0i hw hoj hall).elim
        · rw [getD_set_ne false hjk]; exact h1
      · have hjk : j ≠ k := by
          rintro rfl
          rw [hoj] at hk
          injection hk with hk
          rw [← hk, hjs hs] at hks
          cases hks
        rw [getD_set_ne true hjk] at hun
        exact (hchain hs).2 k ok hk hki hun hks
    have hr' := ready_mono hr (Ne.symm hji)
    have hrj := ready_mono hj hji
    unfold sOp at H
    rw [hi] at H
    rcases H with ⟨hq, v, hy, HK⟩ | ⟨hnq, hh⟩
    · have hkj := HK.2 j hrj
      rw [tOp_ne hjm] at hkj
      have h2 := sOp_put hoj hap hsi hsj hq hy hkj
      refine sOp_mono hS (fun a' w' hS' ⟨hq', hy', hk'⟩ => ih (listed.setIfInBounds j true) a' w' inv' hS' hfree' hchain' hr' ?_) h2
      unfold sOp
      rw [hi]
      refine .inl ⟨hq', v, hy', ?_⟩
      rw [Array.setIfInBounds_comm _ _ hji]
      exact hk'
    · have hs : stillOp oi = false := by
        cases e : stillOp oi with
        | false => rfl
        | true => exact absurd (.inl e) hnq
      have hj' := hjs hs
      obtain ⟨v0, w0, hS0, hK0⟩ := hOp_out hh
      have h1 := hK0.2 j hrj
      rw [tOp_ne hjm] at h1
      unfold sOp at h1
      rw [hoj] at h1
      obtain ⟨vj, hyj⟩ : ∃ vj, YieldsIf P ops S oj vj a := by
        rcases h1 with ⟨_, u, hu, _⟩ | ⟨e, _⟩
        · exact ⟨u, hu.of_same (execOp_put oj hsj a oi.dst v0 p1).symm (wanted_put oj a oi.dst v0 p1).symm⟩
        · exact absurd (.inl hj') e
      unfold sOp
      rw [hoj]
      refine .inl ⟨.inl hj', vj, hyj, ih (listed.setIfInBounds j true) (a.put oj.dst vj) w inv' hS hfree' hchain' hr' ?_⟩
      unfold sOp
      rw [hi]
      refine .inr ⟨fun e => hnq ((quietNow_put p3).1 e), hOp_put hsi p3 (hOp_mono (fun v w' ⟨hS', hk'⟩ => ⟨hS', ?_⟩) hh)⟩
      have h2 := hk'.2 j hrj
      rw [tOp_ne hjm] at h2
      unfold sOp at h2
      rw [hoj] at h2
      rcases h2 with ⟨_, u, hu, hk2⟩ | ⟨e, _⟩
      · have hu' : YieldsIf P ops S oj u a := hu.of_same (execOp_put oj hsj a oi.dst v p1).symm (wanted_put oj a oi.dst v p1).symm
        have e := YieldsIf.one hS' hu' hyj
        subst e
        rw [Array.setIfInBounds_comm _ _ hji, ← Act.put_comm a v u p2]
        exact hk2
      · exact absurd (.inl hj') e

end

end Go.Proofs.YtopicjdmajlndaaDoor.K.Tl

namespace Go.Proofs.YtopicjdmajlndaaDoor.K
set_option linter.unusedVariables false
set_option linter.unusedSimpArgs false
set_option linter.unusedSectionVars false
open Go.RowKit

section
variable {P : Program} {ops : Array Oper} {w0 : World} {Q : Exit → Act → World → Prop}
theorem wpG_firstP {i : Nat} {oi : Oper} (hi : ops[i]? = some oi) (hsel : ∀ (j : Nat) (o : Oper) cs b, ops[j]? = some o → o.op ≠ .select cs b) : ∀ (n : Nat) (listed : Array Bool) (a : Act) (w : World), SL w0 w →
      (∀ j oj, ops[j]? = some oj → j ≠ i → listed.getD j true = false → (∀ e ∈ oj.after, Region.binds .any e = true → e.on ≠ i) → oi.apart ops oj = true) →
      (∀ j, listed.getD j true = false → j ≠ i → i + 1 < ops.size) →
      (stillOp oi = false → ChainF ops i listed) → i ∈ Region.ready .any ops listed → gOp P ops w0 i (wpG P ops w0 Q n (listed.setIfInBounds i true)) a w → wpG P ops w0 Q (n + 1) listed a w := by
  intro n
  induction n with
  | zero =>
    intro listed a w hS _ _ _ hr H
    refine ⟨fun h => (by rw [h] at hr; cases hr), fun j hj => ?_⟩
    by_cases hji : j = i
    · subst hji; exact H
    · obtain ⟨a', w', h0, _⟩ := gOp_out hS H
      have := ready_mono hj hji
      rw [h0] at this
      cases this
  | succ n ih =>
    intro listed a w hS hfree hgt hchain hr H
    refine ⟨fun h => (by rw [h] at hr; cases hr), fun j hj => ?_⟩
    by_cases hji : j = i
    · subst hji; exact H
    obtain ⟨hjun, oj, hoj, hall⟩ := mem_ready.1 hj
    have hnot : ∀ e ∈ oj.after, Region.binds .any e = true → e.on ≠ i := fun e he hb heq => by
      have h1 := hall e he hb
      have h0 := (mem_ready.1 hr).1
      rw [heq, getD_both h0] at h1
      cases h1
    have hap := hfree j oj hoj hji hjun hnot
    obtain ⟨p1, p2, p3⟩ := Oper.apart_spec hap
    have hsi := fun cs b => hsel i oi cs b hi
    have hsj := fun cs b => hsel j oj cs b hoj
    have hij := hgt j hjun hji
    have hjlt : j < ops.size := (Array.getElem?_eq_some_iff.1 hoj).1
    have hfree' : ∀ k ok, ops[k]? = some ok → k ≠ i → (listed.setIfInBounds j true).getD k true = false →
        (∀ e ∈ ok.after, Region.binds .any e = true → e.on ≠ i) → oi.apart ops ok = true := fun k ok hk hki hun hno => by
      refine hfree k ok hk hki ?_ hno
      by_cases hjk : j = k
      · subst hjk; exact hjun
      · rw [getD_set_ne true hjk] at hun; exact hun
    have hgt' : ∀ k, (listed.setIfInBounds j true).getD k true = false → k ≠ i → i + 1 < ops.size := fun k hun hki => by
      refine hgt k ?_ hki
      by_cases hjk : j = k
      · subst hjk; exact hjun
      · rw [getD_set_ne true hjk] at hun; exact hun
    -- where i calls or makes, j does not call
    have hjc : stillOp oi = false → ¬ (stillOp oj = false ∧ makerOp oj = false) := fun hs ⟨h1, h2⟩ => by
      exact ((hchain hs).2 j oj hoj hji hjun h1 h2).not_ready (hchain hs).1 (getD_both (mem_ready.1 hr).1) hoj hall
    have hchain' : stillOp oi = false → ChainF ops i (listed.setIfInBounds j true) := fun hs => by
      refine ⟨fun k hk => ?_, fun k ok hk hki hun hks hkm => ?_⟩
      · have hjk : j ≠ k := by
          rintro rfl
          exact hk.not_ready (hchain hs).1 (getD_both (mem_ready.1 hr).1) hoj hall
        rw [getD_set_ne false hjk]
        exact (hchain hs).1 k hk
      · refine (hchain hs).2 k ok hk hki ?_ hks hkm
        by_cases hjk : j = k
        · subst hjk; exact hjun
        · rw [getD_set_ne true hjk] at hun; exact hun
    have hr' := ready_mono hr (Ne.symm hji)
    have hjr := ready_mono hj hji
    have nst : ¬ quietNow ops oi a → stillOp oi = false := fun h => by
      cases e : stillOp oi with
      | false => rfl
      | true => exact absurd (.inl e) h
    have nst' : ¬ quietNow ops oj a → stillOp oj = false := fun h => by
      cases e : stillOp oj with
      | false => rfl
      | true => exact absurd (.inl e) h
    have qj : ∀ v, quietNow ops oj (a.put oi.dst v) ↔ quietNow ops oj a := fun v => quietNow_put p1
    have qi : ∀ v, quietNow ops oi (a.put oj.dst v) ↔ quietNow ops oi a := fun v => quietNow_put p3
    have yj : ∀ {u v : Value}, YieldsIf P ops (SL w0) oj u (a.put oi.dst v) → YieldsIf P ops (SL w0) oj u a := fun h => h.of_same (execOp_put oj hsj a oi.dst _ p1).symm (wanted_put oj a oi.dst _ p1).symm
    have yi : ∀ {u v : Value}, YieldsIf P ops (SL w0) oi u a → YieldsIf P ops (SL w0) oi u (a.put oj.dst v) := fun h => h.of_same (execOp_put oi hsi a oj.dst _ p3) (wanted_put oi a oj.dst _ p3)
    have mj : ∀ {z : Obj × (Nat → Value)} {v : Value}, Makes P ops oj z (a.put oi.dst v) → Makes P ops oj z a := fun h => h.of_same (execOp_put oj hsj a oi.dst _ p1).symm
    have mi : ∀ {z : Obj × (Nat → Value)} {v : Value}, Makes P ops oi z a → Makes P ops oi z (a.put oj.dst v) := fun h => h.of_same (execOp_put oi hsi a oj.dst _ p3)
    have cm : ∀ {u v : Value} {W : World}, wpG P ops w0 Q n ((listed.setIfInBounds i true).setIfInBounds j true) ((a.put oi.dst v).put oj.dst u) W → wpG P ops w0 Q n ((listed.setIfInBounds j true).setIfInBounds i true) ((a.put oj.dst u).put oi.dst v) W := fun {u v W} h => by
      rw [Array.setIfInBounds_comm _ _ hji, ← Act.put_comm a v u p2]
      exact h
    unfold gOp at H
    rw [hi] at H
    unfold gOp
    rw [hoj]
    rcases H with ⟨hq, v, hy, HK⟩ | ⟨⟨hnq, hm⟩, z, hz, HK⟩ | ⟨⟨hnq, hm⟩, HK⟩
    · have h1 := HK.2 j hjr
      unfold gOp at h1
      rw [hoj] at h1
      have step : ∀ u W, SL w0 W → wpG P ops w0 Q n ((listed.setIfInBounds i true).setIfInBounds j true) ((a.put oi.dst v).put oj.dst u) W → wpG P ops w0 Q (n + 1) (listed.setIfInBounds j true) (a.put oj.dst u) W := fun u W hW hk => by
        refine ih (listed.setIfInBounds j true) (a.put oj.dst u) W hW hfree' hgt' hchain' hr' ?_
        unfold gOp
        rw [hi]
        exact .inl ⟨(qi u).2 hq, v, yi hy, cm hk⟩
      rcases h1 with ⟨hqj, u, hu, hk⟩ | ⟨⟨hqj, hmj⟩, z, hz, hk⟩ | ⟨⟨hqj, hmj⟩, hk⟩
      · exact .inl ⟨(qj v).1 hqj, u, yj hu, step u w hS hk⟩
      · exact .inr (.inl ⟨⟨fun e => hqj ((qj v).2 e), hmj⟩, z, mj hz, fun b W h1 h2 h3 => step _ W (hS.ext h1) (hk b W h1 h2 h3)⟩)
      · exact .inr (.inr ⟨⟨fun e => hqj ((qj v).2 e), hmj⟩, fun W hW => hOp_mono (fun u w' ⟨e1, e2, e3⟩ => ⟨e1, e2, step u w' e2 e3⟩) (hOp_unput hsj p1 (hk W hW))⟩)
    · have hs := nst hnq
      have hE : Below w.heap.size w (w.alloc z.1) := (Below.refl _ _).alloc (Nat.le_refl _) _
      have h1 := (HK w.heap.size (w.alloc z.1) hE (heap_new w z.1) hS.below.size).2 j hjr
      unfold gOp at h1
      rw [hoj] at h1
      rcases h1 with ⟨hqj, u, hu, _⟩ | ⟨⟨hqj, hmj⟩, z', hz', _⟩ | ⟨⟨hqj, hmj⟩, _⟩
      · refine .inl ⟨(qj _).1 hqj, u, yj hu, ih (listed.setIfInBounds j true) (a.put oj.dst u) w hS hfree' hgt' hchain' hr' ?_⟩
        unfold gOp
        rw [hi]
        refine .inr (.inl ⟨⟨fun e => hnq ((qi u).1 e), hm⟩, z, mi hz, fun b W h1 h2 h3 => ?_⟩)
        have h4 := (HK b W h1 h2 h3).2 j hjr
        unfold gOp at h4
        rw [hoj] at h4
        rcases h4 with ⟨_, u', hu', hk'⟩ | ⟨⟨hqj', _⟩, _⟩ | ⟨⟨hqj', _⟩, _⟩
        · have e := YieldsIf.one (hS.ext h1) (yj hu') (yj hu)
          subst e
          exact cm hk'
        · exact absurd ((qj _).2 ((qj _).1 hqj)) hqj'
        · exact absurd ((qj _).2 ((qj _).1 hqj)) hqj'
      · refine .inr (.inl ⟨⟨fun e => hqj ((qj _).2 e), hmj⟩, z', mj hz', fun b' W' h1' h2' h3' => ih (listed.setIfInBounds j true) (a.put oj.dst (z'.2 b')) W' (hS.ext h1') hfree' hgt' hchain' hr' ?_⟩)
        unfold gOp
        rw [hi]
        refine .inr (.inl ⟨⟨fun e => hnq ((qi _).1 e), hm⟩, z, mi hz, fun b W h1 h2 h3 => ?_⟩)
        have h4 := (HK b W (ext_trans h1' h1) h2 h3).2 j hjr
        unfold gOp at h4
        rw [hoj] at h4
        rcases h4 with ⟨hqj', _⟩ | ⟨_, z'', hz'', hk'⟩ | ⟨⟨_, hmj'⟩, _⟩
        · exact absurd ((qj _).2 ((qj _).1 hqj')) hqj
        · have e := Makes.one w (mj hz'') (mj hz')
          subst e
          exact cm (hk' b' W (Below.refl _ _) (heap_keep h2' h1) h3')
        · rw [hmj] at hmj'; cases hmj'
      · exact absurd ⟨nst' (fun e => hqj ((qj _).2 e)), hmj⟩ (hjc hs)
    · have hs := nst hnq
      obtain ⟨v0, w1, _, hS1, hK1⟩ := hOp_out (HK w (Below.refl _ _))
      have h1 := hK1.2 j hjr
      unfold gOp at h1
      rw [hoj] at h1
      rcases h1 with ⟨hqj, u, hu, _⟩ | ⟨⟨hqj, hmj⟩, z', hz', _⟩ | ⟨⟨hqj, hmj⟩, _⟩
      · refine .inl ⟨(qj _).1 hqj, u, yj hu, ih (listed.setIfInBounds j true) (a.put oj.dst u) w hS hfree' hgt' hchain' hr' ?_⟩
        unfold gOp
        rw [hi]
        refine .inr (.inr ⟨⟨fun e => hnq ((qi u).1 e), hm⟩, fun W hW => hOp_put hsi p3 (hOp_mono (fun v w' ⟨e1, e2, e3⟩ => ⟨e1, e2, ?_⟩) (HK W hW))⟩)
        have h4 := e3.2 j hjr
        unfold gOp at h4
        rw [hoj] at h4
        rcases h4 with ⟨_, u', hu', hk'⟩ | ⟨⟨hqj', _⟩, _⟩ | ⟨⟨hqj', _⟩, _⟩
        · have e := YieldsIf.one e2 (yj hu') (yj hu)
          subst e
          exact cm hk'
        · exact absurd ((qj _).2 ((qj _).1 hqj)) hqj'
        · exact absurd ((qj _).2 ((qj _).1 hqj)) hqj'
      · refine .inr (.inl ⟨⟨fun e => hqj ((qj _).2 e), hmj⟩, z', mj hz', fun b W' h1' h2' h3' => ih (listed.setIfInBounds j true) (a.put oj.dst (z'.2 b)) W' (hS.ext h1') hfree' hgt' hchain' hr' ?_⟩)
        unfold gOp
        rw [hi]
        refine .inr (.inr ⟨⟨fun e => hnq ((qi _).1 e), hm⟩, fun W hW => hOp_put hsi p3 (hOp_mono (fun v w' ⟨e1, e2, e3⟩ => ⟨e1, e2, ?_⟩) (HK W (ext_trans h1' hW)))⟩)
        have h4 := e3.2 j hjr
        unfold gOp at h4
        rw [hoj] at h4
        rcases h4 with ⟨hqj', _⟩ | ⟨_, z'', hz'', hk'⟩ | ⟨⟨_, hmj'⟩, _⟩
        · exact absurd ((qj _).2 ((qj _).1 hqj')) hqj
        · have e := Makes.one w (mj hz'') (mj hz')
          subst e
          exact cm (hk' b w' (Below.refl _ _) (heap_keep (heap_keep h2' hW) (e1 hij)) h3')
        · rw [hmj] at hmj'; cases hmj'
      · exact absurd ⟨nst' (fun e => hqj ((qj _).2 e)), hmj⟩ (hjc hs)


theorem apart_symm {x y : Oper} (h : x.apart ops y = true) : y.apart ops x = true := by
  obtain ⟨p1, p2, p3⟩ := Oper.apart_spec h
  unfold Oper.apart
  rw [Bool.and_eq_true]
  constructor
  · cases hd : y.dst with
    | none => rfl
    | some d =>
      simp only [Bool.and_eq_true]
      refine ⟨by simpa using p3 d hd, ?_⟩
      have : x.dst ≠ some d := fun e => p2 d e hd
      simpa using this
  · cases hd : x.dst with
    | none => rfl
    | some d => simpa using p1 d hd

/-- what the order keeps: each is taken once, behind what it waits for; what calls or makes waits for the calls before it -/
structure OrdOK (ops : Array Oper) (done is : List Nat) : Prop where
  every : ∀ j, j < ops.size → j ∈ done ∨ j ∈ is
  step : ∀ (pre : List Nat) (i : Nat) (rest : List Nat), is = pre ++ i :: rest → ∃ o, ops[i]? = some o ∧ i ∉ pre ∧ i ∉ done ∧ i ∉ rest ∧
    (∀ e ∈ o.after, Region.binds .any e = true → e.on ∈ done ∨ e.on ∈ pre) ∧ (rest ≠ [] → i + 1 < ops.size) ∧
    (stillOp o = false → ∀ j oj, j ∈ rest → ops[j]? = some oj → stillOp oj = false → makerOp oj = false → Waits ops i j)
theorem OrdOK.tail {done : List Nat} {i : Nat} {is : List Nat} (h : OrdOK ops done (i :: is)) : OrdOK ops (i :: done) is := by
  refine ⟨fun j hj => ?_, fun pre k rest e => ?_⟩
  · rcases h.every j hj with h1 | h1
    · exact .inl (List.mem_cons_of_mem _ h1)
    · rcases List.mem_cons.1 h1 with h1 | h1
      · exact .inl (h1 ▸ List.mem_cons_self)
      · exact .inr h1
  · obtain ⟨o, h1, h2, h3, h4, h5, h6, h7⟩ := h.step (i :: pre) k rest (by rw [e]; rfl)
    refine ⟨o, h1, fun hh => h2 (List.mem_cons_of_mem _ hh), fun hh => ?_, h4, fun e' he hb => ?_, h6, h7⟩
    · rcases List.mem_cons.1 hh with hh | hh
      · exact h2 (hh ▸ List.mem_cons_self)
      · exact h3 hh
    · rcases h5 e' he hb with h8 | h8
      · exact .inl (List.mem_cons_of_mem _ h8)
      · rcases List.mem_cons.1 h8 with h8 | h8
        · exact .inl (h8 ▸ List.mem_cons_self)
        · exact .inr h8

theorem wpG_of_ord (hx : LexOK ops) : ∀ (is : List Nat) (l : List Oper) (done : List Nat) (listed : Array Bool) (a : Act) (w : World), SL w0 w → OrdOK ops done is →
    is.map (fun i => ops[i]?) = l.map some → listed.size = ops.size → (∀ i, i ∈ done → listed.getD i false = true) → (∀ i, i ∈ is → listed.getD i true = false) → (∀ j k, k ∈ done → Waits ops j k → j ∈ done) → (is ≠ [] → ∀ j, j ∈ done → j + 1 < ops.size) →
    wpF P ops w0 Q l a w → wpG P ops w0 Q l.length listed a w
  | [], [], done, listed, a, w, _, ho, _, hz, h1, _, _, _, h => by
    refine ⟨?_, h⟩
    refine List.eq_nil_iff_forall_not_mem.2 fun i hi => ?_
    obtain ⟨h0, o, hoi, _⟩ := mem_ready.1 hi
    have hlt := (Array.getElem?_eq_some_iff.1 hoi).1
    rcases ho.every i hlt with h3 | h3
    · have h4 := h1 i h3
      rw [getD_both h0] at h4
      cases h4
    · cases h3
  | [], _ :: _, _, _, _, _, _, _, hm, _, _, _, _, _, _ => by simp at hm
  | _ :: _, [], _, _, _, _, _, _, hm, _, _, _, _, _, _ => by simp at hm
  | k :: is, o :: l, done, listed, a, w, hS, ho, hm, hz, h1, h2, hw, hd, h => by
    simp only [List.map_cons, List.cons.injEq] at hm
    obtain ⟨h0, hm⟩ := hm
    have hlt : k < ops.size := (Array.getElem?_eq_some_iff.1 h0).1
    obtain ⟨o', h0', _, hkd, hkr, hed, hlast, hch⟩ := ho.step [] k is rfl
    rw [h0] at h0'
    injection h0' with h0'
    subst h0'
    have hed' : ∀ e ∈ o.after, Region.binds .any e = true → e.on ∈ done := fun e he hb => by
      rcases hed e he hb with h3 | h3
      · exact h3
      · cases h3
    have hun : ∀ j, listed.getD j true = false → j ≠ k → j ∈ is := fun j hun hne => by
      have hj : j < ops.size := by
        rw [← hz]
        rcases Nat.lt_or_ge j listed.size with h3 | h3
        · exact h3
        · rw [Array.getD_eq_getD_getElem?, Array.getElem?_eq_none h3] at hun
          cases hun
      rcases ho.every j hj with h3 | h3
      · have h4 := h1 j h3
        rw [getD_both hun] at h4
        cases h4
      · rcases List.mem_cons.1 h3 with h3 | h3
        · exact absurd h3 hne
        · exact h3
    have hnil : l ≠ [] ↔ is ≠ [] := by
      have := congrArg List.length hm
      simp only [List.length_map] at this
      constructor
      · intro h3 h4
        subst h4
        exact h3 (List.eq_nil_of_length_eq_zero this.symm)
      · intro h3 h4
        subst h4
        exact h3 (List.eq_nil_of_length_eq_zero this)
    have rec_ : ∀ a' W, SL w0 W → wpF P ops w0 Q l a' W → wpG P ops w0 Q l.length (listed.setIfInBounds k true) a' W := fun a' W hW h' =>
      wpG_of_ord hx is l (k :: done) _ a' W hW ho.tail hm (by simpa using hz)
        (by
          intro i hi
          rcases List.mem_cons.1 hi with e | e
          · subst e
            simp [hz, hlt]
          · exact getD_set_true (h1 i e))
        (by
          intro i hi
          rw [getD_set_ne true (show k ≠ i from fun e => hkr (by rw [e]; exact hi))]
          exact h2 i (List.mem_cons_of_mem _ hi))
        (by
          intro j q hq hjq
          rcases List.mem_cons.1 hq with e | e
          · subst e
            cases hjq with
            | on e' h3 he hb hon =>
              rw [h0] at h3
              injection h3 with h3
              subst h3
              exact List.mem_cons_of_mem _ (hon ▸ hed' _ he hb)
            | step e' h3 he hb hst =>
              rw [h0] at h3
              injection h3 with h3
              subst h3
              exact List.mem_cons_of_mem _ (hw j _ (hed' _ he hb) hst)
          · exact List.mem_cons_of_mem _ (hw j q e hjq))
        (by
          intro hne j hj
          rcases List.mem_cons.1 hj with e | e
          · subst e
            exact hlast hne
          · exact hd (by simp) j e) h'
    have hst : gOp P ops w0 k (wpG P ops w0 Q l.length (listed.setIfInBounds k true)) a w := by
      unfold gOp
      rw [h0]
      rcases h with ⟨hq, v, hy, hk'⟩ | ⟨hq, z, hz', hk'⟩ | ⟨hq, hk'⟩
      · exact .inl ⟨hq, v, hy, rec_ _ _ hS hk'⟩
      · exact .inr (.inl ⟨hq, z, hz', fun b W e1 e2 e3 => rec_ _ _ (hS.ext e1) (hk' b W e1 e2 e3)⟩)
      · refine .inr (.inr ⟨hq, fun W hW => hOp_mono (fun v w' ⟨e1, e2, e3⟩ => ⟨fun hk1 => e1 ?_, e2, rec_ _ _ e2 e3⟩) (hk' W hW)⟩)
        intro hl
        have hi : is = [] := Classical.byContradiction fun h9 => (hnil.2 h9) hl
        rcases ho.every (ops.size - 1) (by omega) with h8 | h8
        · have := hd (by simp) _ h8
          omega
        · rw [hi] at h8
          rcases List.mem_cons.1 h8 with h8 | h8
          · omega
          · cases h8
    refine wpG_firstP h0 (Region.noSelect_spec hx.sel) l.length listed a w hS ?_ ?_ ?_ (mem_ready.2 ⟨h2 k List.mem_cons_self, o, h0, fun e he hb => h1 _ (hed' e he hb)⟩) hst
    · intro j oj hj hne hju hno
      rcases Nat.lt_trichotomy k j with h3 | h3 | h3
      · exact hx.free k j o oj h3 h0 hj hno
      · exact absurd h3.symm hne
      · refine apart_symm (hx.free j k oj o h3 hj h0 fun e he hb heq => ?_)
        have h4 := h1 _ (hed' e he hb)
        rw [heq, getD_both hju] at h4
        cases h4
    · intro j hju hne
      exact hlast (List.ne_nil_of_mem (hun j hju hne))
    · intro hs
      refine ⟨fun j hjw => ?_, fun j oj hj hne hju hjs hjm => hch hs j oj (hun j hju hne) hj hjs hjm⟩
      have hjl : j < ops.size := (hjw.lt hx).2
      have hnd : j ∉ done := fun hd => hkd (hw k j hd hjw)
      have hjk : j ≠ k := fun e => by have := (hjw.lt hx).1; omega
      rcases ho.every j hjl with h3 | h3
      · exact absurd h3 hnd
      · exact getD_both (h2 j h3)

theorem wp_floatP (is : List Nat) {id : Nat} {a : Act} {w : World} {l l' : List Oper} (hm : P.follows .mixedOrders = true) (hx : LexOK l.toArray) (ho : OrdOK l.toArray [] is) (hl : is.map (fun i => l.toArray[i]?) = l'.map some) (hn : is.length = l.length)
    (h : ∀ V, Below w.heap.size w V → SL w V → wpF P l.toArray w Q l' a V) : (Code.region id l.toArray true).wp P Q a w := by
  have hS : SL w w.drew := ⟨⟨w.drew, (Below.refl _ _).drew⟩, rfl⟩
  refine wp_region_any hm (wpAny_of_wpG (w0 := w) _ _ _ _ hS ?_)
  have := wpG_of_ord (P := P) (w0 := w) (Q := Q) hx is l' [] (Array.replicate l.toArray.size false) a w.drew hS ho hl (by simp) (fun i hi => by cases hi) (fun i hi => by
    obtain ⟨pre, rest, e⟩ := List.append_of_mem hi
    obtain ⟨o, h1, _⟩ := ho.step pre i rest e
    have hlt := (Array.getElem?_eq_some_iff.1 h1).1
    exact getD_in (by simpa using hlt) (getD_replicate_false _ _)) (fun j k hk => by cases hk) (fun _ j hj => by cases hj) (h _ (Below.refl _ _).drew hS)
  have hll : l'.length = l.length := by
    have := congrArg List.length hl
    simp at this
    omega
  rw [hll] at this
  simpa using this
end

def maskL : List Oper → List Nat → List Nat
  | [], ms => ms
  | o :: l, ms => maskL l (ms ++ [waitM ms o.after.toList])
theorem maskL_spec {ops : Array Oper} : ∀ (l : List Oper) (ms : List Nat), (∀ j, l[j]? = ops[ms.length + j]?) → (∀ j i, (ms.getD j 0).testBit i = true → Waits ops i j) → ∀ j i, ((maskL l ms).getD j 0).testBit i = true → Waits ops i j
  | [], ms, _, hp => hp
  | o :: l, ms, hl, hp => by
    have h0 : ops[ms.length]? = some o := by simpa using (hl 0).symm
    refine maskL_spec l _ (fun j => by have := hl (j + 1); simpa [Nat.add_assoc, Nat.add_comm 1 j] using this) ?_
    intro j' i' hw
    rcases Nat.lt_trichotomy j' ms.length with h' | h' | h'
    · refine hp j' i' ?_
      rw [List.getD_eq_getElem?_getD, List.getElem?_append_left h', ← List.getD_eq_getElem?_getD] at hw
      exact hw
    · subst h'
      rw [List.getD_eq_getElem?_getD, List.getElem?_append_right (Nat.le_refl _), Nat.sub_self] at hw
      obtain ⟨e, he, hb, hon⟩ := waitM_spec _ i' hw
      have he' : e ∈ o.after := by simpa using he
      rcases hon with hon | hon
      · exact .on e h0 he' hb hon
      · exact .step e h0 he' hb (hp _ _ hon)
    · rw [List.getD_eq_getElem?_getD, List.getElem?_eq_none (by simp; omega)] at hw
      simp at hw
def edgesIn (done : List Nat) : List Edge → Bool
  | [] => true
  | e :: l => (bif Region.binds .any e then done.elem e.on else true) && edgesIn done l
def waitsAll (l : List Oper) (ms : List Nat) (i : Nat) : List Nat → Bool
  | [] => true
  | j :: rest => (match l[j]? with | none => true | some oj => stillOp oj || (makerOp oj || bitOf (ms.getD j 0) i)) && waitsAll l ms i rest
def ordN (l : List Oper) (ms : List Nat) : List Nat → List Nat → Bool
  | _, [] => true
  | done, i :: rest => (match l[i]? with
    | none => false
    | some o => edgesIn done o.after.toList && (stillOp o || waitsAll l ms i rest)) && (rest.isEmpty || Nat.blt (i + 1) l.length) && !(done.elem i) && !(rest.elem i) && ordN l ms (i :: done) rest
def allIn (is : List Nat) : Nat → Bool
  | 0 => true
  | n + 1 => is.elem n && allIn is n
theorem allIn_spec {is : List Nat} : ∀ (n : Nat), allIn is n = true → ∀ j, j < n → j ∈ is
  | n + 1, h, j, hj => by
    unfold allIn at h
    rw [Bool.and_eq_true] at h
    rcases Nat.lt_or_ge j n with h1 | h1
    · exact allIn_spec n h.2 j h1
    · obtain rfl : j = n := by omega
      exact List.elem_iff.1 h.1
theorem edgesIn_spec {done : List Nat} : ∀ (es : List Edge), edgesIn done es = true → ∀ e, e ∈ es → Region.binds .any e = true → e.on ∈ done
  | e :: l, h, e', he, hb => by
    unfold edgesIn at h
    rw [Bool.and_eq_true] at h
    rcases List.mem_cons.1 he with h1 | h1
    · subst h1
      rw [hb] at h
      exact List.elem_iff.1 h.1
    · exact edgesIn_spec l h.2 e' h1 hb
theorem waitsAll_cons {l : List Oper} {ms : List Nat} {i k : Nat} {rest : List Nat} (h : waitsAll l ms i (k :: rest) = true) : (∀ oj, l[k]? = some oj → stillOp oj = false → makerOp oj = false → bitOf (ms.getD k 0) i = true) ∧ waitsAll l ms i rest = true := by
  have h' : ((match l[k]? with | none => true | some oj => stillOp oj || (makerOp oj || bitOf (ms.getD k 0) i)) && waitsAll l ms i rest) = true := h
  rw [Bool.and_eq_true] at h'
  refine ⟨fun oj hoj hs hm => ?_, h'.2⟩
  have h2 := h'.1
  rw [hoj] at h2
  simpa only [hs, hm, Bool.false_or] using h2
theorem waitsAll_spec {l : List Oper} {ms : List Nat} {i : Nat} (rest : List Nat) (h : waitsAll l ms i rest = true) (j : Nat) (oj : Oper) (hj : j ∈ rest) (hoj : l[j]? = some oj) (hs : stillOp oj = false) (hm : makerOp oj = false) : (ms.getD j 0).testBit i = true := by
  induction rest with
  | nil => cases hj
  | cons k rest ih =>
    obtain ⟨h1, h2⟩ := waitsAll_cons h
    rcases List.mem_cons.1 hj with e | e
    · rw [← bitOf_eq, e]
      exact h1 oj (e ▸ hoj) hs hm
    · exact ih h2 e
theorem ordN_spec {l : List Oper} {ms : List Nat} (hms : ∀ j i, (ms.getD j 0).testBit i = true → Waits l.toArray i j) : ∀ (is done : List Nat), ordN l ms done is = true →
    ∀ (pre : List Nat) (i : Nat) (rest : List Nat), is = pre ++ i :: rest → ∃ o, l.toArray[i]? = some o ∧ i ∉ pre ∧ i ∉ done ∧ i ∉ rest ∧
    (∀ e ∈ o.after, Region.binds .any e = true → e.on ∈ done ∨ e.on ∈ pre) ∧ (rest ≠ [] → i + 1 < l.toArray.size) ∧
    (stillOp o = false → ∀ j oj, j ∈ rest → l.toArray[j]? = some oj → stillOp oj = false → makerOp oj = false → Waits l.toArray i j)
  | [], done, _, pre, i, rest, e => by simp at e
  | k :: is, done, h, pre, i, rest, e => by
    unfold ordN at h
    simp only [Bool.and_eq_true, Bool.not_eq_true'] at h
    obtain ⟨⟨⟨⟨h1, h2⟩, h3⟩, h4⟩, h5⟩ := h
    cases pre with
    | nil =>
      injection e with e1 e2
      subst e1
      subst e2
      cases hk : l[k]? with
      | none => rw [hk] at h1; cases h1
      | some o =>
        rw [hk] at h1
        simp only [Bool.and_eq_true] at h1
        refine ⟨o, by simpa using hk, by simp, fun hh => ?_, fun hh => ?_, fun e' he hb => .inl (edgesIn_spec _ h1.1 e' (by simpa using he) hb), fun hne => ?_, fun hs j oj hj hoj hjs hjm => ?_⟩
        · rw [List.elem_iff.2 hh] at h3
          cases h3
        · rw [List.elem_iff.2 hh] at h4
          cases h4
        · rw [Bool.or_eq_true] at h2
          rcases h2 with h2 | h2
          · exact absurd (List.isEmpty_iff.1 h2) hne
          · simpa [Nat.blt_eq] using h2
        · have h6 := h1.2
          rw [hs, Bool.false_or] at h6
          exact hms _ _ (waitsAll_spec _ h6 j oj hj (by simpa using hoj) hjs hjm)
    | cons q pre =>
      injection e with e1 e2
      subst e1
      obtain ⟨o, g1, g2, g3, g4, g5, g6, g7⟩ := ordN_spec hms is (k :: done) h5 pre i rest e2
      refine ⟨o, g1, fun hh => ?_, fun hh => g3 (List.mem_cons_of_mem _ hh), g4, fun e' he hb => ?_, g6, g7⟩
      · rcases List.mem_cons.1 hh with hh | hh
        · exact g3 (hh ▸ List.mem_cons_self)
        · exact g2 hh
      · rcases g5 e' he hb with g8 | g8
        · rcases List.mem_cons.1 g8 with g8 | g8
          · exact .inr (g8 ▸ List.mem_cons_self)
          · exact .inl g8
        · exact .inr (List.mem_cons_of_mem _ g8)
theorem ordOK_of {l : List Oper} {is : List Nat} (h : allIn is l.length = true) (h2 : ordN l (maskL l []) [] is = true) : OrdOK l.toArray [] is :=
  ⟨fun j hj => .inr (allIn_spec _ h j (by simpa using hj)), ordN_spec (maskL_spec (ops := l.toArray) l [] (by simp) (by intro j i hw; simp at hw)) is [] h2⟩
end Go.Proofs.YtopicjdmajlndaaDoor.K

namespace Go.Proofs.YtopicjdmajlndaaDoor.K
set_option linter.unusedVariables false
set_option linter.unusedSimpArgs false
set_option linter.unusedSectionVars false
open Go.RowKit
open Go.RowKit
end Go.Proofs.YtopicjdmajlndaaDoor.K

namespace Go.Proofs.YtopicjdmajlndaaDoor.K
set_option linter.unusedVariables false
set_option linter.unusedSimpArgs false
set_option linter.unusedSectionVars false
open Go.RowKit
section
variable {H : Type} {enc : TypeId × Value → H} {W : World} {base : Nat} {sp : Nat → Bool} {b1 : Nat} {hd : Bool} {v : Value} {d : DataW H} {p : List MemPlace}
end
section
variable {P : Program} {ops : Array Oper} {w0 : World}
end
end Go.Proofs.YtopicjdmajlndaaDoor.K

namespace Go.Proofs.YtopicjdmajlndaaDoor.K
set_option linter.unusedVariables false
set_option linter.unusedSimpArgs false
set_option linter.unusedSectionVars false
open Go.RowKit
section
variable {P : Program} {Q : Exit → Act → World → Prop}
theorem wpOp_of_hOp {ops : Array Oper} {i : Nat} {o : Oper} {K : Act → World → Prop} {a : Act} {w : World} (hi : ops[i]? = some o) (hw : Region.wanted o (yielded ops a.tmps) = true) (h : hOp P o (fun v w' => K (a.put o.dst v) w') a w) : wpOp P ops Q i K a w :=
  wpOp_of_mOp ⟨o, hi, hw, h⟩
theorem hOp_call {o : Oper} {a : Act} {w : World} {K : Value → World → Prop} {fn : Func} (f : FuncId) (hf : P.funcs[f]? = some fn) (hname : (fn.name == "runtime.NumGoroutine") = false) (hb : fn.body.isNone = false) (args : Array Operand) (ts : Array TypeId) (vs : Array Value) (ho : o.op = .call { callee := .value (.func f), args := args, argTypes := ts })
    (hv : args.map a.eval = vs) (h : Calls P f vs w fun e w' => ∃ v, e = .returned v ∧ K v w') : hOp P o K a w := by
  unfold hOp execOp
  simp only [ho]
  have e : (do let d ← resolve a.eval { callee := .value (.func f), args := args, argTypes := ts } o.type; invoke d.target d.args : Sem Next).run P w = .ok (.enter f vs) w := by
    subst hv
    have h1 : fn.name ≠ "runtime.NumGoroutine" := by simpa using hname
    have h2 : fn.body ≠ none := by
      intro e
      rw [e] at hb
      cases hb
    simp [resolve, Deferred.ofValue, invoke, go_sem, Act.eval, callFunc, hf, h1, h2]
  rw [e]
  exact h
end
end Go.Proofs.YtopicjdmajlndaaDoor.K

namespace Go.Proofs.YtopicjdmajlndaaDoor.K
set_option linter.unusedVariables false
set_option linter.unusedSimpArgs false
set_option linter.unusedSectionVars false
open Go.RowKit
theorem callsIn_wr {l m : Nat} {P : Program} {f : FuncId} {args : Array Value} {w : World} {R : Ending → World → Prop} (h : Calls P f args w R) : CallsIn (Fence.wide.inRound l) m P f args w R :=
  CallsIn.inRound l ((callsIn_wide (n := m)).2 h)
theorem rowsIn_wr {l m : Nat} {P : Program} {row : String} {args : Array Value} {w : World} {R : Value → World → Prop} (h : Rows P row args w R) : RowsIn (Fence.wide.inRound l) m P row args w R := by
  intro c cs _
  obtain ⟨v, w', hr, hs⟩ := h c cs
  exact ⟨v, w', hr, stepsIn_wide.2 hs⟩
section
variable {l m : Nat} {P : Program} {ops : Array Oper} {Q : Exit → Act → World → Prop} {md : Region.Mode}
theorem operIn_of_wp {o : Oper} (hd : ∀ c, o.op ≠ .defer c) {a : Act} {w : World} {K K' : Act → World → Prop} (hK : ∀ a w, K a w → K' a w) (h : o.wp P a w K Q) : o.wpIn (Fence.wide.inRound l) m P a w K' Q := by
  refine ⟨fun _ _ => trivial, ?_⟩
  rw [Oper.semAt_plain _ _ _ hd]
  unfold Oper.wp at h
  generalize (execOp a.eval o).run P w = r at h
  unfold Oper.upon at h
  unfold Oper.uponIn
  split at h
  · exact hK _ _ h
  · exact hK _ _ h
  · exact hK _ _ h
  · refine ⟨fun h => (by cases h), callsIn_wr (h.mono ?_)⟩
    intro e W he
    cases e with
    | returned v => exact hK _ _ he
    | panicked c => exact he
    | outgrown => exact he
  · exact ⟨fun h => (by cases h), rowsIn_wr (h.mono fun v W hv => hK _ _ hv)⟩
  · exact h
  · exact h.elim
theorem wpOpIn_of_wpOp (hd : ∀ (i : Nat) (o : Oper) c, ops[i]? = some o → o.op ≠ .defer c) (hQ : ¬ LetsOut Q) {i : Nat} {a : Act} {w : World} {K K' : Act → World → Prop} (hK : ∀ a w, K a w → K' a w) (h : wpOp P ops Q i K a w) : wpOpIn (Fence.wide.inRound l) m P ops Q i K' a w := by
  unfold wpOp at h
  unfold wpOpIn
  split at h
  · rename_i h0
    rw [h0]
    exact hK _ _ h
  · rename_i o h0
    rw [h0]
    simp only
    by_cases hw : Region.wanted o (yielded ops a.tmps) = true
    · rw [if_pos hw] at h ⊢
      rcases h with h | ⟨_, h⟩
      · exact operIn_of_wp (fun c => hd i o c h0) hK h
      · exact absurd h hQ
    · rw [if_neg hw] at h ⊢
      exact ⟨fun _ _ => trivial, hK _ _ h⟩
theorem wpAnyIn_of_wpAny (hd : ∀ (i : Nat) (o : Oper) c, ops[i]? = some o → o.op ≠ .defer c) (hQ : ¬ LetsOut Q) : ∀ (n : Nat) (listed : Array Bool) (a : Act) (w : World), wpAny P md ops Q n listed a w → wpAnyIn (Fence.wide.inRound l) m P md ops Q n listed a w := by
  intro n
  induction n with
  | zero => intro listed a w h; exact h
  | succ n ih =>
    intro listed a w h
    exact ⟨h.1, fun i hi => wpOpIn_of_wpOp hd hQ (fun a w h => ih _ a w h) (h.2 i hi)⟩
end
def noDefer (l : List Oper) : Bool := l.all fun o => match o.op with | .defer _ => false | _ => true
theorem noDefer_spec {l : List Oper} (h : noDefer l = true) : ∀ (i : Nat) (o : Oper) c, l.toArray[i]? = some o → o.op ≠ .defer c := by
  intro i o c hi e
  have hm : o ∈ l := by
    have : l[i]? = some o := by simpa using hi
    exact List.mem_of_getElem? this
  have := List.all_eq_true.1 h o hm
  rw [e] at this
  cases this
section
variable {lp m : Nat} {P : Program} {Q : Exit → Act → World → Prop}
end
end Go.Proofs.YtopicjdmajlndaaDoor.K

namespace Go.Proofs.YtopicjdmajlndaaDoor.K
set_option linter.unusedVariables false
set_option linter.unusedSimpArgs false
set_option linter.unusedSectionVars false
open Go.RowKit
section
variable {P : Program} {Q : Exit → Act → World → Prop} {ops : Array Oper} {S : World → Prop}
/-- the walk: (i, true) is taken first, (i, false) comes up alone -/
def wpO (P : Program) (ops : Array Oper) (S : World → Prop) (Q : Exit → Act → World → Prop) : List (Nat × Bool) → Act → World → Prop
  | [], a, w => Q .normal a w
  | (i, true) :: is, a, w => ∃ o, ops[i]? = some o ∧ ∃ v, YieldsIf P ops S o v a ∧ wpO P ops S Q is (a.put o.dst v) w
  | (i, false) :: is, a, w => ∃ o, ops[i]? = some o ∧ Region.wanted o (yielded ops a.tmps) = true ∧ hOp P o (fun v w' => S w' ∧ wpO P ops S Q is (a.put o.dst v) w') a w
def okO (ops : Array Oper) : List (Nat × Bool) → Array Bool → Bool
  | [], m => (Region.ready .any ops m).isEmpty
  | (i, true) :: is, m => Region.free .any ops m i && (Region.ready .any ops m).contains i && okO ops is (m.setIfInBounds i true)
  | (i, false) :: is, m => (Region.ready .any ops m == [i]) && okO ops is (m.setIfInBounds i true)
theorem wpAnyH_of_wpO (hs : Region.noSelect ops = true) (hQ : ∀ c a (dt : Option Tmp) v w, Q (.panic c) (Act.put a dt v) w → Q (.panic c) a w) : ∀ (is : List (Nat × Bool)) (m : Array Bool) (a : Act) (w : World), okO ops is m = true → S w → wpO P ops S Q is a w → wpAnyH P .any ops Q S is.length m a w
  | [], m, a, w, ho, hS, h => wpAnyH_done (by unfold okO at ho; simpa using ho) h _
  | (i, true) :: is, m, a, w, ho, hS, h => by
    unfold okO at ho
    rw [Bool.and_eq_true, Bool.and_eq_true] at ho
    obtain ⟨o, hi, v, hy, hk⟩ := h
    exact wpAnyH_take hi hs ho.1.1 ho.1.2 (fun c a w h => hQ c a _ _ w h) hy hS (wpAnyH_of_wpO hs hQ is _ _ w ho.2 hS hk)
  | (i, false) :: is, m, a, w, ho, hS, h => by
    unfold okO at ho
    rw [Bool.and_eq_true] at ho
    obtain ⟨o, hi, hw, hk⟩ := h
    refine wpAnyH_all (rs := [i]) (by simpa using ho.1) (by simp) ?_
    intro j hj
    obtain rfl : j = i := by simpa using hj
    exact wpOp_of_hOp hi hw (hOp_mono (fun v w' hk => ⟨hk.1, wpAnyH_of_wpO hs hQ is _ _ w' ho.2 hk.1 hk.2⟩) hk)
theorem wp_ordA (S : World → Prop) (is : List (Nat × Bool)) {id : Nat} {a : Act} {w : World} {l : List Oper} (hm : P.follows .mixedOrders = true) (hs : Region.noSelect l.toArray = true) (hQ : ∀ c a (dt : Option Tmp) v w, Q (.panic c) (Act.put a dt v) w → Q (.panic c) a w)
    (hn : is.length = l.length) (ho : okO l.toArray is (Array.replicate l.length false) = true) (hS : S w.drew) (h : wpO P l.toArray S Q is a w.drew) : (Code.region id l.toArray true).wp P Q a w := by
  refine wp_region_held (S := S) hm ?_
  have := wpAnyH_of_wpO hs hQ is _ a w.drew ho hS h
  rw [hn] at this
  simpa using this
theorem wpO_nil {a : Act} {w : World} (h : Q .normal a w) : wpO P ops S Q [] a w := h
theorem wpO_op {i : Nat} {is : List (Nat × Bool)} {o : Oper} {l : List Oper} {a : Act} {w : World} (hi : l[i]? = some o) (hw : Region.wanted o (yielded l.toArray a.tmps) = true) (h : hOp P o (fun v w' => S w' ∧ wpO P l.toArray S Q is (a.put o.dst v) w') a w) : wpO P l.toArray S Q ((i, false) :: is) a w := ⟨o, by simpa using hi, hw, h⟩
end
section
variable {lp m : Nat} {P : Program} {Q : Exit → Act → World → Prop}
end
end Go.Proofs.YtopicjdmajlndaaDoor.K

namespace Go.Proofs.YtopicjdmajlndaaDoor.K
set_option linter.unusedVariables false
set_option linter.unusedSimpArgs false
set_option linter.unusedSectionVars false
open Go.RowKit
section
variable {P : Program} {Q : Exit → Act → World → Prop} {ops : Array Oper}
/-- an operation that is carried out -/
theorem wpList_op {rest : List Oper} {o : Oper} {a : Act} {w : World} (hw : Region.wanted o (yielded ops a.tmps) = true) (h : hOp P o (fun v w' => wpList P ops Q rest (a.put o.dst v) w') a w) : wpList P ops Q (o :: rest) a w := by
  unfold wpList
  rw [if_pos hw]
  refine .inl ?_
  unfold hOp at h
  unfold Oper.wp
  generalize (execOp a.eval o).run P w = r at *
  cases r with
  | ok n w' =>
    cases n <;> simp only [heldUpon] at h <;> simp only [Oper.upon]
    case value u => exact h
    case skip => exact h
    case enter f args => exact h.mono fun e w'' ⟨v, he, h2⟩ => by subst he; exact h2
  | halt x w' => exact h.elim
/-- by its run -/
theorem wpList_run {rest : List Oper} {o : Oper} {a : Act} {w : World} (hw : Region.wanted o (yielded ops a.tmps) = true) (v : Value) (w' : World) (hr : (execOp a.eval o).run P w = .ok (.value v) w') (h : wpList P ops Q rest (a.put o.dst v) w') : wpList P ops Q (o :: rest) a w :=
  wpList_op hw (by unfold hOp; rw [hr]; exact h)
theorem wpList_run0 {rest : List Oper} {o : Oper} {a : Act} {w : World} (hw : Region.wanted o (yielded ops a.tmps) = true) (w' : World) (hr : (execOp a.eval o).run P w = .ok .skip w') (h : wpList P ops Q rest (a.put o.dst undef) w') : wpList P ops Q (o :: rest) a w :=
  wpList_op hw (by unfold hOp; rw [hr]; exact h)
end
end Go.Proofs.YtopicjdmajlndaaDoor.K


namespace Go.Proofs.YtopicjdmajlndaaDoor.K
set_option linter.unusedVariables false
set_option linter.unusedSimpArgs false
set_option linter.unusedSectionVars false
set_option maxRecDepth 8000
open Go.RowKit
section
variable {P : Program} {Q : Exit → Act → World → Prop}
/-- whose slot is t -/
def ownF (l : List Oper) (t : Nat) : Option Nat := l.findIdx? fun o => o.dst == some t
theorem ownF_spec {l : List Oper} {t j : Nat} (h : ownF l t = some j) : ∃ o, l[j]? = some o ∧ o.dst = some t := by
  unfold ownF at h
  obtain ⟨hl, hp, _⟩ := List.findIdx?_eq_some_iff_getElem.1 h
  exact ⟨_, List.getElem?_eq_getElem hl, by simpa using hp⟩
def dstOK (l : List Oper) (n : Nat) : Bool := l.zipIdx.all fun x => match x.1.dst with | some d => Nat.blt d n && (ownF l d == some x.2) | none => true
theorem dstOK_spec {l : List Oper} {n i : Nat} {o : Oper} {d : Tmp} (h : dstOK l n = true) (hi : l[i]? = some o) (hd : o.dst = some d) : d < n ∧ ownF l d = some i := by
  unfold dstOK at h
  have h1 := List.all_eq_true.1 h (o, i) (List.mem_zipIdx_iff_getElem?.2 hi)
  simp only [hd, Bool.and_eq_true] at h1
  exact ⟨Nat.lt_of_succ_le (Nat.le_of_ble_eq_true h1.1), by simpa using h1.2⟩
def depB (o : Oper) (k : Nat) : Bool := o.after.any fun e => Region.binds .any e && (e.on == k)
def depsOK (l : List Oper) : Bool := l.all fun o => o.op.operands.all fun x => match x with | .tmp t => (match ownF l t with | some j => depB o j | none => true) | _ => true
/-- the frame when the operations of m are done -/
def frameF (l : List Oper) (a0 : Act) (m : Nat → Bool) (vs : Nat → Value) : Act := { a0 with tmps := a0.tmps.mapIdx fun t x => match ownF l t with | some j => if m j then vs j else x | none => x }
theorem frameF_none {l : List Oper} {a0 : Act} {m : Nat → Bool} (hm : ∀ i, m i = false) (vs : Nat → Value) : frameF l a0 m vs = a0 := by
  unfold frameF
  have : (a0.tmps.mapIdx fun t x => match ownF l t with | some j => if m j then vs j else x | none => x) = a0.tmps := by
    refine Array.ext (by simp) fun i h1 h2 => ?_
    rw [Array.getElem_mapIdx]
    cases ownF l i with
    | none => rfl
    | some j => simp [hm]
  rw [this]
theorem frameF_put {l : List Oper} {a0 : Act} {m m' : Nat → Bool} {vs vs' : Nat → Value} {i : Nat} {o : Oper} {v : Value} (hd : dstOK l a0.tmps.size = true) (hi : l[i]? = some o) (hm : ∀ j, j ≠ i → m' j = m j) (hmi : m' i = true) (hv : ∀ j, j ≠ i → vs' j = vs j) (hvi : vs' i = v) :
    (frameF l a0 m vs).put o.dst v = frameF l a0 m' vs' := by
  cases hod : o.dst with
  | none =>
    have hne : ∀ t j, ownF l t = some j → j ≠ i := fun t j h e => by
      obtain ⟨o', h1, h2⟩ := ownF_spec h
      subst e
      rw [hi] at h1
      injection h1 with h1
      subst h1
      rw [hod] at h2
      cases h2
    show frameF l a0 m vs = _
    unfold frameF
    congr 1
    refine Array.ext (by simp) fun t h1 h2 => ?_
    rw [Array.getElem_mapIdx, Array.getElem_mapIdx]
    cases ho : ownF l t with
    | none => rfl
    | some j => simp [hm j (hne t j ho), hv j (hne t j ho)]
  | some d =>
    obtain ⟨hdn, hown⟩ := dstOK_spec hd hi hod
    have e : (a0.tmps.mapIdx fun t x => match ownF l t with | some j => if m j then vs j else x | none => x).setIfInBounds d v = a0.tmps.mapIdx fun t x => match ownF l t with | some j => if m' j then vs' j else x | none => x := by
      refine Array.ext_getElem? fun t => ?_
      rw [Array.getElem?_setIfInBounds, Array.getElem?_mapIdx, Array.getElem?_mapIdx]
      by_cases ht : d = t
      · subst ht
        simp [hown, hmi, hvi, hdn]
      · rw [if_neg ht]
        cases ho : ownF l t with
        | none => rfl
        | some j =>
          have hji : j ≠ i := fun e => by
            obtain ⟨o', h3, h4⟩ := ownF_spec ho
            subst e
            rw [hi] at h3
            injection h3 with h3
            subst h3
            rw [hod] at h4
            injection h4 with h4
            exact ht h4
          simp [hm j hji, hv j hji]
    exact congrArg (fun t => ({ a0 with tmps := t } : Act)) e
theorem frameF_eval {l : List Oper} {a0 : Act} {m m' : Nat → Bool} {vs : Nat → Value} {x : Operand} (h : ∀ t j, x = .tmp t → ownF l t = some j → m j = m' j) : (frameF l a0 m vs).eval x = (frameF l a0 m' vs).eval x := by
  cases x with
  | tmp t =>
    show (frameF l a0 m vs).tmps.getD t undef = (frameF l a0 m' vs).tmps.getD t undef
    unfold frameF
    have e : ∀ k : Nat → Bool, (a0.tmps.mapIdx fun t x => match ownF l t with | some j => if k j then vs j else x | none => x).getD t undef = match ownF l t with | some j => if k j then (if t < a0.tmps.size then vs j else undef) else a0.tmps.getD t undef | none => a0.tmps.getD t undef := fun k => by
      by_cases ht : t < a0.tmps.size
      · cases ho : ownF l t with
        | none => simp [Array.getD, ht, ho]
        | some j => simp [Array.getD, ht, ho]
      · cases ho : ownF l t with
        | none => simp [Array.getD, ht]
        | some j => simp [Array.getD, ht]
    rw [e m, e m']
    cases ho : ownF l t with
    | none => rfl
    | some j => simp only [h t j rfl ho]
  | _ => rfl
/-- the frame of the text's own order -/
def putsT (vs : Nat → Value) : List Oper → Nat → Act → Act
  | [], _, a => a
  | o :: l, k, a => putsT vs l (k + 1) (a.put o.dst (vs k))
theorem putsT_frame {l : List Oper} {a0 : Act} {vs : Nat → Value} (hd : dstOK l a0.tmps.size = true) : ∀ (r : List Oper) (k : Nat), (∀ j o, r[j]? = some o → l[k + j]? = some o) → putsT vs r k (frameF l a0 (fun j => decide (j < k)) vs) = frameF l a0 (fun j => decide (j < k + r.length)) vs
  | [], k, _ => rfl
  | o :: r, k, h => by
    have hk : l[k]? = some o := h 0 o rfl
    unfold putsT
    rw [frameF_put (m' := fun j => decide (j < k + 1)) (vs' := vs) hd hk (fun j hj => by simp only [decide_eq_decide]; omega) (by simp) (fun _ _ => rfl) rfl, putsT_frame hd r (k + 1) (fun j o' hj => by
      have := h (j + 1) o' (by simpa using hj)
      rwa [show k + 1 + j = k + (j + 1) by omega])]
    congr 1
    funext j
    simp only [List.length_cons, decide_eq_decide]
    omega
end
end Go.Proofs.YtopicjdmajlndaaDoor.K

namespace Go.Proofs.YtopicjdmajlndaaDoor.K
set_option linter.unusedVariables false
set_option linter.unusedSimpArgs false
set_option linter.unusedSectionVars false
open Go.RowKit
theorem heap_farRow {w : World} {g k : Nat} {o : Obj} (h : w.heap[g]? = some o) (e : g ≠ k) (cs : Array Value) : (w.setRow k cs).heap[g]? = some o := by
  simp [World.setRow, Array.getElem?_modify, Ne.symm e, h]
section
variable {ev : Operand → Value} {o : Oper}
end
end Go.Proofs.YtopicjdmajlndaaDoor.K

namespace Go.Proofs.YtopicjdmajlndaaDoor.K
set_option linter.unusedVariables false
set_option linter.unusedSimpArgs false
set_option linter.unusedSectionVars false
open Go.RowKit
open Go.RowKit
end Go.Proofs.YtopicjdmajlndaaDoor.K

namespace Go.Proofs.YtopicjdmajlndaaDoor.K
set_option linter.unusedVariables false
set_option linter.unusedSimpArgs false
set_option linter.unusedSectionVars false
open Go.RowKit
section
variable {P : Program} {Q : Exit → Act → World → Prop}
/-- one operation, a round of the caller's loop among them -/
def heldUponI (P : Program) (K : Value → World → Prop) : Result Next → Prop
  | .ok (.value u) w' => K u w'
  | .ok .skip w' => K undef w'
  | .ok (.enter f args) w' => Calls P f args w' (fun e w'' => ∃ v, e = .returned v ∧ K v w'')
  | .ok (.round l f tmps assign body) w' => RoundIn Fence.wide 1 P l f tmps assign body w' (fun e w'' => ∃ v, e = .returned v ∧ K v w'')
  | _ => False
def hOpI (P : Program) (o : Oper) (K : Value → World → Prop) (a : Act) (w : World) : Prop := heldUponI P K ((execOp a.eval o).run P w)
theorem hOpI_of {o : Oper} {K : Value → World → Prop} {a : Act} {w : World} (h : hOp P o K a w) : hOpI P o K a w := by
  unfold hOp at h
  unfold hOpI
  generalize (execOp a.eval o).run P w = r at *
  cases r with
  | ok n w' => cases n <;> simp only [heldUpon] at h <;> simp only [heldUponI] <;> exact h
  | halt x w' => exact h
theorem hOpI_mono {o : Oper} {K K' : Value → World → Prop} {a : Act} {w : World} (h : ∀ v w', K v w' → K' v w') (hh : hOpI P o K a w) : hOpI P o K' a w := by
  unfold hOpI at *
  generalize (execOp a.eval o).run P w = r at *
  cases r with
  | ok n w' =>
    cases n <;> simp only [heldUponI] at hh ⊢ <;> first | exact h _ _ hh | exact hh.mono fun _ _ ⟨v, he, hk⟩ => ⟨v, he, h _ _ hk⟩
  | halt x w' => exact hh
theorem wpOpIn_of_hOpI {ops : Array Oper} {i : Nat} {o : Oper} {K : Act → World → Prop} {a : Act} {w : World} (hi : ops[i]? = some o) (hg : o.guard = none) (h : hOpI P o (fun v w' => K (a.put o.dst v) w') a w) : wpOpIn Fence.wide 2 P ops Q i K a w := by
  unfold wpOpIn
  rw [hi]
  simp only [show Region.wanted o (yielded ops a.tmps) = true by unfold Region.wanted; rw [hg], if_true]
  refine ⟨fun _ _ => trivial, ?_⟩
  show Oper.uponIn Fence.wide 2 P o a K Q ((o.semAt none a.eval).run P w)
  rw [Oper.semAt_none]
  unfold hOpI at h
  generalize (execOp a.eval o).run P w = r at *
  cases r with
  | ok n w' =>
    cases n <;> simp only [heldUponI] at h <;> unfold Oper.uponIn
    case value u => exact h
    case skip => exact h
    case enter f args =>
      refine ⟨fun h => (by cases h), callsIn_wide.2 (h.mono ?_)⟩
      rintro e w2 ⟨v, rfl, hk⟩
      exact hk
    case round l f tmps assign body =>
      refine ⟨fun h => (by cases h), h.mono ?_⟩
      rintro e w2 ⟨v, rfl, hk⟩
      exact hk
  | halt x w' => exact h.elim
def setT (m : Nat → Bool) (i : Nat) : Nat → Bool := fun j => if j = i then true else m j
def setV (vs : Nat → Value) (i : Nat) (v : Value) : Nat → Value := fun j => if j = i then v else vs j
/-- what is done is done with all that it waits for -/
def ClosT (l : List Oper) (m : Nat → Bool) : Prop := ∀ j o, l[j]? = some o → m j = true → ∀ k, depB o k = true → m k = true
def oblM (P : Program) (l0 : List Oper) (I : (Nat → Bool) → (Nat → Value) → World → Prop) : List Oper → Nat → ((Nat → Value) → Act) → Prop
  | [], _, _ => True
  | o :: r, i, A => (∀ m vs W, ClosT l0 m → m i = false → (∀ k, depB o k = true → m k = true) → I m vs W → hOpI P o (fun v W' => I (setT m i) (setV vs i v) W') (A vs) W) ∧ oblM P l0 I r (i + 1) (fun vs => (A vs).put o.dst (vs i))
theorem oblM_get {l0 : List Oper} {I : (Nat → Bool) → (Nat → Value) → World → Prop} : ∀ (l : List Oper) (k : Nat) (A : (Nat → Value) → Act), oblM P l0 I l k A → ∀ i o, l[i]? = some o → ∀ m vs W, ClosT l0 m → m (k + i) = false → (∀ j, depB o j = true → m j = true) → I m vs W →
    hOpI P o (fun v W' => I (setT m (k + i)) (setV vs (k + i) v) W') (putsT vs (l.take i) k (A vs)) W
  | [], _, _, _, i, o, hi => by simp at hi
  | x :: r, k, A, h, 0, o, hi => by
    obtain rfl : x = o := by simpa using hi
    exact h.1
  | x :: r, k, A, h, i + 1, o, hi => by
    have := oblM_get r (k + 1) _ h.2 i o (by simpa using hi)
    rw [show k + (i + 1) = k + 1 + i by omega]
    exact this
theorem wpIn_freeM_any {I : (Nat → Bool) → (Nat → Value) → World → Prop} {a0 : Act} {l : List Oper} (hx : LexOK l.toArray) (hd : dstOK l a0.tmps.size = true) (hp : depsOK l = true) (hg : (l.all fun o => o.guard.isNone) = true) (ho : oblM P l I l 0 (fun _ => a0))
    (hext : ∀ m m' vs W, (∀ i, i < l.length → m i = m' i) → I m vs W → I m' vs W)
    (hfin : ∀ m vs W, (∀ i, i < l.length → m i = true) → I m vs W → Q .normal (putsT vs l 0 a0) W) : ∀ (fuel : Nat) (listed : Array Bool) (vs : Nat → Value) (W : World), listed.size = l.length → ((List.range l.length).filter fun i => !listed.getD i true).length ≤ fuel → ClosT l (fun j => listed.getD j false) → I (fun j => listed.getD j false) vs W →
    wpAnyIn Fence.wide 2 P .any l.toArray Q fuel listed (frameF l a0 (fun j => listed.getD j false) vs) W := by
  have h0 : frameF l a0 (fun j => decide (j < 0)) = fun _ => a0 := by funext vs; exact frameF_none (fun i => by simp) vs
  have hall : ∀ (listed : Array Bool), listed.size = l.length → Region.ready .any l.toArray listed = [] → ∀ j, j < l.length → listed.getD j false = true := fun listed hsz hr j => by
    induction j using Nat.strongRecOn with
    | _ j ih =>
      intro hj
      cases hl : listed.getD j false with
      | true => rfl
      | false =>
        have hmem : j ∈ Region.ready .any l.toArray listed := mem_ready.2 ⟨getD_in (by omega) hl, l[j], by simp [hj], fun e he hb => by
          have := hx.edge j l[j] (by simp [hj]) e he hb
          exact ih e.on this (by omega)⟩
        rw [hr] at hmem
        cases hmem
  have hend : ∀ (listed : Array Bool) (vs : Nat → Value) (W : World), listed.size = l.length → Region.ready .any l.toArray listed = [] → I (fun j => listed.getD j false) vs W → Q .normal (frameF l a0 (fun j => listed.getD j false) vs) W := fun listed vs W hsz hr hI => by
    have hA : frameF l a0 (fun j => listed.getD j false) vs = putsT vs l 0 a0 := by
      have h1 := putsT_frame (vs := vs) hd l 0 (fun j o h => by rwa [Nat.zero_add])
      rw [h0] at h1
      rw [h1, Nat.zero_add]
      refine congrArg (fun m => frameF l a0 m vs) ?_
      funext j
      by_cases hj : j < l.length
      · rw [hall listed hsz hr j hj, decide_eq_true hj]
      · rw [decide_eq_false hj]
        simp [show listed.size ≤ j by omega]
    rw [hA]
    exact hfin _ vs W (fun i hi => hall listed hsz hr i hi) hI
  intro fuel
  induction fuel with
  | zero =>
    intro listed vs W hsz hc hcl hI
    have hr : Region.ready .any l.toArray listed = [] := by
      refine List.eq_nil_iff_forall_not_mem.2 fun j hj => ?_
      obtain ⟨h1, o, h2, _⟩ := mem_ready.1 hj
      have hjl : j < l.length := by have := (Array.getElem?_eq_some_iff.1 h2).1; simpa using this
      have : j ∈ (List.range l.length).filter fun i => !listed.getD i true := List.mem_filter.2 ⟨List.mem_range.2 hjl, by rw [h1]; rfl⟩
      rw [List.eq_nil_of_length_eq_zero (Nat.le_zero.1 hc)] at this
      cases this
    exact wpAnyIn_done hr (hend listed vs W hsz hr hI) 0
  | succ fuel ih =>
    intro listed vs W hsz hc hcl hI
    by_cases hr : Region.ready .any l.toArray listed = []
    · exact wpAnyIn_done hr (hend listed vs W hsz hr hI) _
    · refine wpAnyIn_all rfl hr fun i hi => ?_
      obtain ⟨h1, o, h2, h3⟩ := mem_ready.1 hi
      have hil : i < l.length := by have := (Array.getElem?_eq_some_iff.1 h2).1; simpa using this
      have hlo : l[i]? = some o := by simpa using h2
      have hsel := Region.noSelect_spec hx.sel i o
      have hdep : ∀ j, depB o j = true → listed.getD j false = true := fun j hj => by
        unfold depB at hj
        obtain ⟨e, he, hb⟩ := Array.any_eq_true'.1 hj
        rw [Bool.and_eq_true] at hb
        obtain rfl : e.on = j := by simpa using hb.2
        exact h3 e he hb.1
      have hob := oblM_get l 0 _ ho i o hlo (fun j => listed.getD j false) vs W hcl (by rw [Nat.zero_add]; exact getD_both h1) hdep hI
      have hgo : o.guard = none := by
        have := List.all_eq_true.1 hg o (List.mem_of_getElem? hlo)
        simpa using this
      have hset : ∀ j, j < l.length → setT (fun j => listed.getD j false) i j = (listed.setIfInBounds i true).getD j false := fun j hj => by
        unfold setT
        by_cases e : j = i
        · subst e; simp [hsz, hil]
        · rw [if_neg e, getD_set_ne false (Ne.symm e)]
      refine wpOpIn_of_hOpI h2 hgo ?_
      have hfr : hOpI P o (fun v W' => I (setT (fun j => listed.getD j false) (0 + i)) (setV vs (0 + i) v) W') (frameF l a0 (fun j => listed.getD j false) vs) W := by
        unfold hOpI at hob ⊢
        have e2 : execOp (frameF l a0 (fun j => listed.getD j false) vs).eval o = execOp (putsT vs (l.take i) 0 a0).eval o := by
          refine execOp_congr o (fun cs b => hsel cs b h2) fun x hxm => ?_
          have e1 := putsT_frame (vs := vs) hd (l.take i) 0 (fun j o' h => by
            rw [Nat.zero_add]
            have hj : j < i := by have := (List.getElem?_eq_some_iff.1 h).1; rw [List.length_take] at this; omega
            rwa [List.getElem?_take_of_lt hj] at h)
          rw [h0] at e1
          rw [e1]
          refine frameF_eval fun t j hxt hown => ?_
          have hdp := List.all_eq_true.1 hp o (List.mem_of_getElem? hlo)
          have hdx := Array.all_eq_true_iff_forall_mem.1 hdp x hxm
          subst hxt
          simp only [hown] at hdx
          unfold depB at hdx
          obtain ⟨e, he, hb⟩ := Array.any_eq_true'.1 hdx
          rw [Bool.and_eq_true] at hb
          obtain rfl : e.on = j := by simpa using hb.2
          have hlt := hx.edge i o h2 e he hb.1
          rw [h3 e he hb.1, Nat.zero_add, List.length_take, Nat.min_eq_left (by omega), decide_eq_true hlt]
        rw [e2]
        exact hob
      refine hOpI_mono (fun v W' hk => ?_) hfr
      rw [Nat.zero_add] at hk
      rw [frameF_put (m' := fun j => (listed.setIfInBounds i true).getD j false) (vs' := setV vs i v) hd hlo (fun j hj => getD_set_ne false (Ne.symm hj)) (by simp [hsz, hil]) (fun j hj => by unfold setV; rw [if_neg hj]) (by unfold setV; rw [if_pos rfl])]
      refine ih _ _ W' (by simp [hsz]) ?_ (fun j o' hj hm k hk2 => ?_) (hext _ _ _ _ hset hk)
      · have hlt := filter_lt (fun j => !listed.getD j true) (fun j => !(listed.setIfInBounds i true).getD j true) (fun j hj => by
          by_cases e : i = j
          · subst e; rw [h1]; rfl
          · rwa [getD_set_ne true e] at hj) i (by rw [h1]; rfl) (by simp [hsz, hil]) (List.range l.length) (List.mem_range.2 hil)
        omega
      · have hjl := (List.getElem?_eq_some_iff.1 hj).1
        have hm : (listed.setIfInBounds i true).getD j false = true := hm
        rw [← hset j hjl] at hm
        unfold setT at hm
        refine getD_set_true ?_
        by_cases e : j = i
        · subst e
          rw [hlo] at hj
          injection hj with hj
          subst hj
          exact hdep k hk2
        · rw [if_neg e] at hm
          exact hcl j o' hj hm k hk2
theorem wpIn_freeM (I : (Nat → Bool) → (Nat → Value) → World → Prop) {id : Nat} {a0 : Act} {w : World} {l : List Oper} (hm : P.follows .mixedOrders = true) (hx : LexOK l.toArray) (hd : dstOK l a0.tmps.size = true) (hp : depsOK l = true) (hg : (l.all fun o => o.guard.isNone) = true) (hI : I (fun _ => false) (fun _ => undef) w.drew) (ho : oblM P l I l 0 (fun _ => a0))
    (hext : ∀ m m' vs W, (∀ i, i < l.length → m i = m' i) → I m vs W → I m' vs W)
    (hfin : ∀ m vs W, (∀ i, i < l.length → m i = true) → I m vs W → Q .normal (putsT vs l 0 a0) W) : (Code.region id l.toArray true).wpIn Fence.wide 2 P Q a0 w := by
  refine wpIn_region_any hm ?_
  have hf : (fun j => (Array.replicate l.toArray.size false).getD j false) = fun _ => false := funext fun i => getD_replicate_false _ _
  have h := wpIn_freeM_any (Q := Q) hx hd hp hg ho hext hfin l.length (Array.replicate l.toArray.size false) (fun _ => undef) w.drew (by simp) (Nat.le_trans (List.length_filter_le _ _) (by simp)) (by rw [hf]; intro j o _ hm; cases hm) (by rw [hf]; exact hI)
  rw [frameF_none (fun i => getD_replicate_false _ _)] at h
  simpa using h
end
end Go.Proofs.YtopicjdmajlndaaDoor.K

namespace Go.Proofs.YtopicjdmajlndaaDoor.K
set_option linter.unusedVariables false
set_option linter.unusedSimpArgs false
set_option linter.unusedSectionVars false
open Go.RowKit
end Go.Proofs.YtopicjdmajlndaaDoor.K

namespace Go.Proofs.YtopicjdmajlndaaDoor.K
set_option linter.unusedVariables false
set_option linter.unusedSimpArgs false
set_option linter.unusedSectionVars false
open Go.RowKit
theorem results_row_tmp {P : Program} {fn : Func} {p u : Tmp} {ty : TypeId} (h : fn.results = #[.cell p ty, .tmp u]) (tmps : Array Value) (w : World) (g : Nat) (t : TypeId) (cs : Array Value) (fr : Nat × Nat) (d : TypeDesc) (v : Value)
    (hp : tmps.getD p undef = .pointer (some ⟨g, 0, none⟩)) (hv : tmps.getD u undef = v) (hg : w.heap[g]? = some (.cells cs t fr))
    (hu : P.underlying ty = some d) (hd : (match d with | .struct _ | .array _ _ => true | _ => false) = true) (hi : (P.info? ty).map (·.size) = some cs.size) :
    (results fn tmps).run P w = .ok (.tuple #[.agg cs, v]) w := by
  rw [results_cell_tmp h, hp, hv]
  simp [asAddr, Result.andThen, run_loadVar_row w g t ty cs fr d hg hu hd hi]
end Go.Proofs.YtopicjdmajlndaaDoor.K

namespace Go.Proofs.YtopicjdmajlndaaDoor.K
set_option linter.unusedVariables false
set_option linter.unusedSimpArgs false
set_option linter.unusedSectionVars false
open Go.RowKit
section
variable {P : Program} {Q : Exit → Act → World → Prop} {ops : Array Oper}
/-- a call -/
theorem wpList_call {rest : List Oper} {o : Oper} {a : Act} {w : World} {fn : Func} (hw : Region.wanted o (yielded ops a.tmps) = true) (f : FuncId) (hf : P.funcs[f]? = some fn) (hname : (fn.name == "runtime.NumGoroutine") = false) (hb : fn.body.isNone = false) (args : Array Operand) (ts : Array TypeId) (vs : Array Value) (ho : o.op = .call { callee := .value (.func f), args := args, argTypes := ts })
    (hv : args.map a.eval = vs) (h : Calls P f vs w fun e w' => ∃ v, e = .returned v ∧ wpList P ops Q rest (a.put o.dst v) w') : wpList P ops Q (o :: rest) a w :=
  wpList_op hw (hOp_call f hf hname hb args ts vs ho hv h)
/-- what is made lies somewhere new -/
theorem wpList_mk {rest : List Oper} {o : Oper} {a : Act} {w : World} (hw : Region.wanted o (yielded ops a.tmps) = true) (cs : Array Value) (t : TypeId) (n c : Nat) (hr : (execOp a.eval o).run P w = .ok (.value (.slice (some ⟨w.heap.size, 0, none⟩) n c)) (w.alloc (.cells cs t)))
    (h : ∀ b W, w.heap.size ≤ b → W.heap[b]? = some (.cells cs t (0, 0)) → Below w.heap.size w W → wpList P ops Q rest (a.put o.dst (.slice (some ⟨b, 0, none⟩) n c)) W) : wpList P ops Q (o :: rest) a w :=
  wpList_run hw _ _ hr (h _ _ (Nat.le_refl _) (heap_new w _) ((Below.refl _ _).alloc (Nat.le_refl _) _))
/-- a new variable and its first store -/
theorem wpList_decl {rest : List Oper} {o1 o2 : Oper} {a : Act} {w : World} (z row : Array Value) (t : TypeId) (hw1 : Region.wanted o1 (yielded ops a.tmps) = true) (hr : (execOp a.eval o1).run P w = .ok (.value (ptr w.heap.size)) (w.alloc (.cells z t)))
    (hw2 : ∀ b, Region.wanted o2 (yielded ops (a.put o1.dst (ptr b)).tmps) = true) (hs : ∀ b W, W.heap[b]? = some (.cells z t (0, 0)) → (execOp (a.put o1.dst (ptr b)).eval o2).run P W = .ok .skip (W.setRow b row))
    (h : ∀ b W, w.heap.size ≤ b → W.heap[b]? = some (.cells row t (0, 0)) → Below w.heap.size w W → wpList P ops Q rest ((a.put o1.dst (ptr b)).put o2.dst undef) W) : wpList P ops Q (o1 :: o2 :: rest) a w := by
  refine wpList_run hw1 _ _ hr ?_
  refine wpList_run0 (hw2 _) _ (hs w.heap.size _ (heap_new w _)) ?_
  refine h _ _ (Nat.le_refl _) ?_ (bel_setRow ((Below.refl _ _).alloc (Nat.le_refl _) _) (Nat.le_refl _) _)
  have h0 := heap_new w (.cells z t)
  obtain ⟨hlt, hk⟩ := Array.getElem?_eq_some_iff.1 h0
  show ((w.alloc (.cells z t)).heap.modify w.heap.size _)[w.heap.size]? = _
  rw [Array.getElem?_eq_getElem (by rw [Array.size_modify]; exact hlt), Array.getElem_modify_self, hk]
end
section
variable {ev : Operand → Value} {o : Oper}
/-- the element of a list of byte lists -/
structure El (w : World) (ad : Addr) (i : Nat) (B : Option Addr) (m d : Nat) (p : List Nat) : Prop where
  cell : w.cell? (ad.add i) = some (.slice B m d)
  sb : Sb w B m d p
theorem El.keep {w w' : World} {ad : Addr} {i : Nat} {B : Option Addr} {m d : Nat} {p : List Nat} (h : El w ad i B m d p) (hb : Below w.heap.size w w') : El w' ad i B m d p := ⟨cell_keep h.cell hb, h.sb.keep hb⟩
end
end Go.Proofs.YtopicjdmajlndaaDoor.K

namespace Go.Proofs.YtopicjdmajlndaaDoor.K
set_option linter.unusedVariables false
set_option linter.unusedSimpArgs false
set_option linter.unusedSectionVars false
open Go.RowKit
section
variable {P : Program} {Q : Exit → Act → World → Prop} {ops : Array Oper}
theorem wpList_skip {rest : List Oper} {o : Oper} {a : Act} {w : World} (hw : Region.wanted o (yielded ops a.tmps) = false) (h : wpList P ops Q rest (a.put o.dst undef) w) : wpList P ops Q (o :: rest) a w := by
  unfold wpList
  rw [if_neg (by rw [hw]; simp)]
  exact h
end
section
variable {ev : Operand → Value} {o : Oper}
end
end Go.Proofs.YtopicjdmajlndaaDoor.K

namespace Go.Proofs.YtopicjdmajlndaaDoor.K
set_option linter.unusedVariables false
set_option linter.unusedSimpArgs false
set_option linter.unusedSectionVars false
open Go.RowKit
section
variable {I : World → Prop} {F : Nat → Value → World → Prop} {d N : Nat} {t : TypeId} {old : Array Value} {G : Array Value → World → Prop} {m m' : Nat → Bool} {vs : Nat → Value} {W W' : World}
end
section
variable {ev : Operand → Value} {o : Oper}
end
end Go.Proofs.YtopicjdmajlndaaDoor.K

namespace Go.Proofs.YtopicjdmajlndaaDoor.K
set_option linter.unusedVariables false
set_option linter.unusedSimpArgs false
set_option linter.unusedSectionVars false
open Go.RowKit
section
variable {ev : Operand → Value} {o : Oper}
end
theorem laterF {w0 v : World} (hv : ∃ x : Later w0, v = x.at) : Below w0.heap.size w0 v := by
  obtain ⟨x, rfl⟩ := hv
  exact x.below
end Go.Proofs.YtopicjdmajlndaaDoor.K

namespace Go.Proofs.YtopicjdmajlndaaDoor.K
set_option linter.unusedVariables false
set_option linter.unusedSimpArgs false
set_option linter.unusedSectionVars false
open Go.RowKit
open Go.RowKit
theorem later_bel {w v : World} (h : ∃ x : Later w, v = x.at) : Below w.heap.size w v := by obtain ⟨x, rfl⟩ := h; exact x.below
end Go.Proofs.YtopicjdmajlndaaDoor.K


