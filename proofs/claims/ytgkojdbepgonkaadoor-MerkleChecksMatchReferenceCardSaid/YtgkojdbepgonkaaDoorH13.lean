/- Several texts in one: Shl5, Shf1, Flp, Dig. -/
import Derived.Test.YtgkojdbepgonkaaDoorH12
import Derived.Test.YtgkojdbepgonkaaDoorH07
import Derived.Test.YtgkojdbepgonkaaDoorH04
import Derived.ArgAppend
import Derived.Deep.MidRow
import Derived.Great.BuildSlice
/- The walk of ShaKeyed. -/
namespace Go.Proofs.YtgkojdbepgonkaaDoor
set_option maxRecDepth 8000
set_option linter.unusedVariables false
set_option linter.unusedSimpArgs false
open Go.RowKit
attribute [local simp] z32_ne z32_run
attribute [-simp] Tryd.zeroValue34 Tryd.isAgg34 Tryd.sizeOf34
theorem min400 (n k : Nat) : ∃ m : Nat, (if ((k : Nat) : Int) < (n : Int) then ((k : Nat) : Int) else (n : Int)) = (m : Int) ∧ m ≤ n ∧ m ≤ k := by
  by_cases h : k < n
  · exact ⟨k, by rw [if_pos (by omega)], by omega, Nat.le_refl _⟩
  · exact ⟨n, by rw [if_neg (by omega)], Nat.le_refl _, by omega⟩
theorem rmade_eq {A : Option Addr} {n c : Nat} {bs : List Nat} {w : World} (h : Sb w A n c bs) {key : List Nat} (hk : madeN bs = key) :
    Calls Tryd.prog 68 #[.slice A n c] w fun e w' => e = .returned (.agg (celB key).toArray) ∧ Below w.heap.size w w' := hk ▸ rmade_any A n c bs w h
end Go.Proofs.YtgkojdbepgonkaaDoor

/- The frames of the laws of stage 7: arrays of byte slices that come in are opened. -/
namespace Go.Proofs.YtgkojdbepgonkaaDoor
set_option linter.unusedVariables false
set_option linter.unusedSimpArgs false
set_option maxRecDepth 8000
open Go.ChangeShapes Go.WideShapes Go.ChangeAt Go.RowKit Go.Joins
attribute [local simp] z32_ne z32_run

section
variable {H : Type} {enc : TypeId × Value → H} {W : World} {base : Nat} {sp : Nat → Bool} {b1 : Nat} {hd : Bool} {v : Value} {d : DataW H} {p : List MemPlace}
theorem bytes_of_trod {fuel : Nat} {cs : List Value} (hf : DataW.trod enc Tryd.prog W b1 sp hd fuel 29 cs = some (d, p)) : ∃ (A : Option Addr) (n c : Nat) (bs : List Nat), cs = [.slice A n c] ∧ Sb W A n c bs := by
  rcases open_ints Tryd.underlying29 Tryd.underlying5 cellsB hf with ⟨hcs, _⟩ | ⟨a, len, cap, zs, hcs, _, hl, hm, hlen, _, hcell, hwf⟩
  · exact ⟨none, 0, 0, [], hcs, Sb.nil_ _⟩
  · unfold maxLen at hm
    have hnl : len ≤ zs.length := by rw [hlen]; split <;> omega
    have hbd : ∀ z ∈ zs, 0 ≤ z ∧ z ≤ 255 := fun z hz => bounds_u8 (hwf z hz)
    refine ⟨some a, len, cap, (zs.take len).map Int.toNat, hcs, ⟨by rw [List.length_map, List.length_take]; omega, hl, by omega, (fun e => by cases e), fun x hx => ?_, fun i z hz => ⟨a, rfl, ?_⟩⟩⟩
    · obtain ⟨z, hz, rfl⟩ := List.mem_map.1 hx
      have := hbd z (List.mem_of_mem_take hz)
      omega
    · rw [List.getElem?_map] at hz
      cases hx : (zs.take len)[i]? with
      | none => rw [hx] at hz; cases hz
      | some x =>
        rw [hx] at hz
        injection hz with hz
        subst hz
        have hi := (List.getElem?_eq_some_iff.1 hx).1
        rw [List.length_take] at hi
        have hxz := hbd x (List.mem_of_mem_take (List.mem_of_getElem? hx))
        rw [List.getElem?_take_of_lt (by omega)] at hx
        have h1 := hcell i (by omega)
        rw [List.getD_eq_getElem?_getD, hx] at h1
        rw [Int.toNat_of_nonneg hxz.1]
        exact h1
end
theorem run_allocD (ev : Operand → Value) (o : Oper) (w : World) (h : o.op = .alloc 34) : (execOp ev o).run Tryd.prog w = .ok (.value (ptr w.heap.size)) (w.alloc (.cells z32 34)) := by
  unfold execOp
  rw [h]
  go_simp
  exact ⟨rfl, rfl⟩
section
variable {P : Program} {ops : Array Oper} {w0 : World}
theorem wpCalm_val {Q : Act → Prop} {a : Act} {o : Oper} {rest : List Oper} (v : Value) (hw : Region.wanted o (yielded ops a.tmps) = true) (hr : ∀ x : Later w0, (execOp a.eval o).run P x.at = .ok (.value v) x.at) (h : wpCalm P ops w0 Q rest (a.put o.dst v)) : wpCalm P ops w0 Q (o :: rest) a := by
  unfold wpCalm
  rw [if_pos hw]
  exact ⟨v, fun x => by rw [hr x]; exact ⟨rfl, rfl⟩, h⟩
/-- the last operation, a run that yields a value -/
theorem mOp_val {m : Nat} {o : Oper} {a : Act} {w : World} {K : Act → World → Prop} (v : Value) (h0 : ops[m]? = some o) (hg : o.guard = none) (hr : (execOp a.eval o).run P w = .ok (.value v) w) (h : K (a.put o.dst v) w) : mOp P ops m K a w := by
  refine ⟨o, h0, by unfold Region.wanted; rw [hg], ?_⟩
  unfold hOp
  rw [hr]
  exact h
end
end Go.Proofs.YtgkojdbepgonkaaDoor

/- As Float, the walk in an order of its own: the operations are taken in any order that keeps their edges, so that what makes may stand behind the calls that don't wait for it. No program, no conditions. -/
namespace Go.Proofs.YtgkojdbepgonkaaDoor
set_option linter.unusedVariables false
set_option linter.unusedSimpArgs false
set_option maxRecDepth 8000
open Go.RowKit

section
variable {P : Program} {ops : Array Oper} {w0 : World} {Q : Exit → Act → World → Prop}
theorem wpG_firstP {i : Nat} {oi : Oper} (hi : ops[i]? = some oi) (hsel : ∀ (j : Nat) (o : Oper) cs b, ops[j]? = some o → o.op ≠ .select cs b) : ∀ (n : Nat) (listed : Array Bool) (a : Act) (w : World), SL w0 w →
      (∀ j oj, ops[j]? = some oj → j ≠ i → listed.getD j true = false → (∀ e ∈ oj.after, Region.binds .any e = true → e.on ≠ i) → oi.apart ops oj = true) →
      (∀ j, listed.getD j true = false → j ≠ i → i + 1 < ops.size) →
      (stillOp oi = false → ChainF ops i listed) → i ∈ Region.ready .any ops listed → gOp P ops w0 i (wpG P ops w0 Q n (listed.setIfInBounds i true)) a w → wpG P ops w0 Q (n + 1) listed a w := by
  intro n
  induction n with
  | zero =>
    intro listed a w hS _ _ _ hr H
    refine ⟨fun h => (by rw [h] at hr; cases hr), fun j hj => ?_⟩
    by_cases hji : j = i
    · subst hji; exact H
    · obtain ⟨a', w', h0, _⟩ := gOp_out hS H
      have := ready_mono hj hji
      rw [h0] at this
      cases this
  | succ n ih =>
    intro listed a w hS hfree hgt hchain hr H
    refine ⟨fun h => (by rw [h] at hr; cases hr), fun j hj => ?_⟩
    by_cases hji : j = i
    · subst hji; exact H
    obtain ⟨hjun, oj, hoj, hall⟩ := mem_ready.1 hj
    have hnot : ∀ e ∈ oj.after, Region.binds .any e = true → e.on ≠ i := fun e he hb heq => by
      have h1 := hall e he hb
      have h0 := (mem_ready.1 hr).1
      rw [heq, getD_both h0] at h1
      cases h1
    have hap := hfree j oj hoj hji hjun hnot
    obtain ⟨p1, p2, p3⟩ := Oper.apart_spec hap
    have hsi := fun cs b => hsel i oi cs b hi
    have hsj := fun cs b => hsel j oj cs b hoj
    have hij := hgt j hjun hji
    have hjlt : j < ops.size := (Array.getElem?_eq_some_iff.1 hoj).1
    have hfree' : ∀ k ok, ops[k]? = some ok → k ≠ i → (listed.setIfInBounds j true).getD k true = false →
        (∀ e ∈ ok.after, Region.binds .any e = true → e.on ≠ i) → oi.apart ops ok = true := fun k ok hk hki hun hno => by
      refine hfree k ok hk hki ?_ hno
      by_cases hjk : j = k
      · subst hjk; exact hjun
      · rw [getD_set_ne true hjk] at hun; exact hun
    have hgt' : ∀ k, (listed.setIfInBounds j true).getD k true = false → k ≠ i → i + 1 < ops.size := fun k hun hki => by
      refine hgt k ?_ hki
      by_cases hjk : j = k
      · subst hjk; exact hjun
      · rw [getD_set_ne true hjk] at hun; exact hun
    -- where i calls or makes, j does not call
    have hjc : stillOp oi = false → ¬ (stillOp oj = false ∧ makerOp oj = false) := fun hs ⟨h1, h2⟩ => by
      exact ((hchain hs).2 j oj hoj hji hjun h1 h2).not_ready (hchain hs).1 (getD_both (mem_ready.1 hr).1) hoj hall
    have hchain' : stillOp oi = false → ChainF ops i (listed.setIfInBounds j true) := fun hs => by
      refine ⟨fun k hk => ?_, fun k ok hk hki hun hks hkm => ?_⟩
      · have hjk : j ≠ k := by
          rintro rfl
          exact hk.not_ready (hchain hs).1 (getD_both (mem_ready.1 hr).1) hoj hall
        rw [getD_set_ne false hjk]
        exact (hchain hs).1 k hk
      · refine (hchain hs).2 k ok hk hki ?_ hks hkm
        by_cases hjk : j = k
        · subst hjk; exact hjun
        · rw [getD_set_ne true hjk] at hun; exact hun
    have hr' := ready_mono hr (Ne.symm hji)
    have hjr := ready_mono hj hji
    have nst : ¬ quietNow ops oi a → stillOp oi = false := fun h => by
      cases e : stillOp oi with
      | false => rfl
      | true => exact absurd (.inl e) h
    have nst' : ¬ quietNow ops oj a → stillOp oj = false := fun h => by
      cases e : stillOp oj with
      | false => rfl
      | true => exact absurd (.inl e) h
    have qj : ∀ v, quietNow ops oj (a.put oi.dst v) ↔ quietNow ops oj a := fun v => quietNow_put p1
    have qi : ∀ v, quietNow ops oi (a.put oj.dst v) ↔ quietNow ops oi a := fun v => quietNow_put p3
    have yj : ∀ {u v : Value}, YieldsIf P ops (SL w0) oj u (a.put oi.dst v) → YieldsIf P ops (SL w0) oj u a := fun h => h.of_same (execOp_put oj hsj a oi.dst _ p1).symm (wanted_put oj a oi.dst _ p1).symm
    have yi : ∀ {u v : Value}, YieldsIf P ops (SL w0) oi u a → YieldsIf P ops (SL w0) oi u (a.put oj.dst v) := fun h => h.of_same (execOp_put oi hsi a oj.dst _ p3) (wanted_put oi a oj.dst _ p3)
    have mj : ∀ {z : Obj × (Nat → Value)} {v : Value}, Makes P ops oj z (a.put oi.dst v) → Makes P ops oj z a := fun h => h.of_same (execOp_put oj hsj a oi.dst _ p1).symm
    have mi : ∀ {z : Obj × (Nat → Value)} {v : Value}, Makes P ops oi z a → Makes P ops oi z (a.put oj.dst v) := fun h => h.of_same (execOp_put oi hsi a oj.dst _ p3)
    have cm : ∀ {u v : Value} {W : World}, wpG P ops w0 Q n ((listed.setIfInBounds i true).setIfInBounds j true) ((a.put oi.dst v).put oj.dst u) W → wpG P ops w0 Q n ((listed.setIfInBounds j true).setIfInBounds i true) ((a.put oj.dst u).put oi.dst v) W := fun {u v W} h => by
      rw [Array.setIfInBounds_comm _ _ hji, ← Act.put_comm a v u p2]
      exact h
    unfold gOp at H
    rw [hi] at H
    unfold gOp
    rw [hoj]
    rcases H with ⟨hq, v, hy, HK⟩ | ⟨⟨hnq, hm⟩, z, hz, HK⟩ | ⟨⟨hnq, hm⟩, HK⟩
    · have h1 := HK.2 j hjr
      unfold gOp at h1
      rw [hoj] at h1
      have step : ∀ u W, SL w0 W → wpG P ops w0 Q n ((listed.setIfInBounds i true).setIfInBounds j true) ((a.put oi.dst v).put oj.dst u) W → wpG P ops w0 Q (n + 1) (listed.setIfInBounds j true) (a.put oj.dst u) W := fun u W hW hk => by
        refine ih (listed.setIfInBounds j true) (a.put oj.dst u) W hW hfree' hgt' hchain' hr' ?_
        unfold gOp
        rw [hi]
        exact .inl ⟨(qi u).2 hq, v, yi hy, cm hk⟩
      rcases h1 with ⟨hqj, u, hu, hk⟩ | ⟨⟨hqj, hmj⟩, z, hz, hk⟩ | ⟨⟨hqj, hmj⟩, hk⟩
      · exact .inl ⟨(qj v).1 hqj, u, yj hu, step u w hS hk⟩
      · exact .inr (.inl ⟨⟨fun e => hqj ((qj v).2 e), hmj⟩, z, mj hz, fun b W h1 h2 h3 => step _ W (hS.ext h1) (hk b W h1 h2 h3)⟩)
      · exact .inr (.inr ⟨⟨fun e => hqj ((qj v).2 e), hmj⟩, fun W hW => hOp_mono (fun u w' ⟨e1, e2, e3⟩ => ⟨e1, e2, step u w' e2 e3⟩) (hOp_unput hsj p1 (hk W hW))⟩)
    · have hs := nst hnq
      have hE : Below w.heap.size w (w.alloc z.1) := (Below.refl _ _).alloc (Nat.le_refl _) _
      have h1 := (HK w.heap.size (w.alloc z.1) hE (heap_new w z.1) hS.below.size).2 j hjr
      unfold gOp at h1
      rw [hoj] at h1
      rcases h1 with ⟨hqj, u, hu, _⟩ | ⟨⟨hqj, hmj⟩, z', hz', _⟩ | ⟨⟨hqj, hmj⟩, _⟩
      · refine .inl ⟨(qj _).1 hqj, u, yj hu, ih (listed.setIfInBounds j true) (a.put oj.dst u) w hS hfree' hgt' hchain' hr' ?_⟩
        unfold gOp
        rw [hi]
        refine .inr (.inl ⟨⟨fun e => hnq ((qi u).1 e), hm⟩, z, mi hz, fun b W h1 h2 h3 => ?_⟩)
        have h4 := (HK b W h1 h2 h3).2 j hjr
        unfold gOp at h4
        rw [hoj] at h4
        rcases h4 with ⟨_, u', hu', hk'⟩ | ⟨⟨hqj', _⟩, _⟩ | ⟨⟨hqj', _⟩, _⟩
        · have e := YieldsIf.one (hS.ext h1) (yj hu') (yj hu)
          subst e
          exact cm hk'
        · exact absurd ((qj _).2 ((qj _).1 hqj)) hqj'
        · exact absurd ((qj _).2 ((qj _).1 hqj)) hqj'
      · refine .inr (.inl ⟨⟨fun e => hqj ((qj _).2 e), hmj⟩, z', mj hz', fun b' W' h1' h2' h3' => ih (listed.setIfInBounds j true) (a.put oj.dst (z'.2 b')) W' (hS.ext h1') hfree' hgt' hchain' hr' ?_⟩)
        unfold gOp
        rw [hi]
        refine .inr (.inl ⟨⟨fun e => hnq ((qi _).1 e), hm⟩, z, mi hz, fun b W h1 h2 h3 => ?_⟩)
        have h4 := (HK b W (ext_trans h1' h1) h2 h3).2 j hjr
        unfold gOp at h4
        rw [hoj] at h4
        rcases h4 with ⟨hqj', _⟩ | ⟨_, z'', hz'', hk'⟩ | ⟨⟨_, hmj'⟩, _⟩
        · exact absurd ((qj _).2 ((qj _).1 hqj')) hqj
        · have e := Makes.one w (mj hz'') (mj hz')
          subst e
          exact cm (hk' b' W (Below.refl _ _) (heap_keep h2' h1) h3')
        · rw [hmj] at hmj'; cases hmj'
      · exact absurd ⟨nst' (fun e => hqj ((qj _).2 e)), hmj⟩ (hjc hs)
    · have hs := nst hnq
      obtain ⟨v0, w1, _, hS1, hK1⟩ := hOp_out (HK w (Below.refl _ _))
      have h1 := hK1.2 j hjr
      unfold gOp at h1
      rw [hoj] at h1
      rcases h1 with ⟨hqj, u, hu, _⟩ | ⟨⟨hqj, hmj⟩, z', hz', _⟩ | ⟨⟨hqj, hmj⟩, _⟩
      · refine .inl ⟨(qj _).1 hqj, u, yj hu, ih (listed.setIfInBounds j true) (a.put oj.dst u) w hS hfree' hgt' hchain' hr' ?_⟩
        unfold gOp
        rw [hi]
        refine .inr (.inr ⟨⟨fun e => hnq ((qi u).1 e), hm⟩, fun W hW => hOp_put hsi p3 (hOp_mono (fun v w' ⟨e1, e2, e3⟩ => ⟨e1, e2, ?_⟩) (HK W hW))⟩)
        have h4 := e3.2 j hjr
        unfold gOp at h4
        rw [hoj] at h4
        rcases h4 with ⟨_, u', hu', hk'⟩ | ⟨⟨hqj', _⟩, _⟩ | ⟨⟨hqj', _⟩, _⟩
        · have e := YieldsIf.one e2 (yj hu') (yj hu)
          subst e
          exact cm hk'
        · exact absurd ((qj _).2 ((qj _).1 hqj)) hqj'
        · exact absurd ((qj _).2 ((qj _).1 hqj)) hqj'
      · refine .inr (.inl ⟨⟨fun e => hqj ((qj _).2 e), hmj⟩, z', mj hz', fun b W' h1' h2' h3' => ih (listed.setIfInBounds j true) (a.put oj.dst (z'.2 b)) W' (hS.ext h1') hfree' hgt' hchain' hr' ?_⟩)
        unfold gOp
        rw [hi]
        refine .inr (.inr ⟨⟨fun e => hnq ((qi _).1 e), hm⟩, fun W hW => hOp_put hsi p3 (hOp_mono (fun v w' ⟨e1, e2, e3⟩ => ⟨e1, e2, ?_⟩) (HK W (ext_trans h1' hW)))⟩)
        have h4 := e3.2 j hjr
        unfold gOp at h4
        rw [hoj] at h4
        rcases h4 with ⟨hqj', _⟩ | ⟨_, z'', hz'', hk'⟩ | ⟨⟨_, hmj'⟩, _⟩
        · exact absurd ((qj _).2 ((qj _).1 hqj')) hqj
        · have e := Makes.one w (mj hz'') (mj hz')
          subst e
          exact cm (hk' b w' (Below.refl _ _) (heap_keep (heap_keep h2' hW) (e1 hij)) h3')
        · rw [hmj] at hmj'; cases hmj'
      · exact absurd ⟨nst' (fun e => hqj ((qj _).2 e)), hmj⟩ (hjc hs)


theorem apart_symm {x y : Oper} (h : x.apart ops y = true) : y.apart ops x = true := by
  obtain ⟨p1, p2, p3⟩ := Oper.apart_spec h
  unfold Oper.apart
  rw [Bool.and_eq_true]
  constructor
  · cases hd : y.dst with
    | none => rfl
    | some d =>
      simp only [Bool.and_eq_true]
      refine ⟨by simpa using p3 d hd, ?_⟩
      have : x.dst ≠ some d := fun e => p2 d e hd
      simpa using this
  · cases hd : x.dst with
    | none => rfl
    | some d => simpa using p1 d hd

/-- what the order keeps: each is taken once, behind what it waits for; what calls or makes waits for the calls before it -/
structure OrdOK (ops : Array Oper) (done is : List Nat) : Prop where
  every : ∀ j, j < ops.size → j ∈ done ∨ j ∈ is
  step : ∀ (pre : List Nat) (i : Nat) (rest : List Nat), is = pre ++ i :: rest → ∃ o, ops[i]? = some o ∧ i ∉ pre ∧ i ∉ done ∧ i ∉ rest ∧
    (∀ e ∈ o.after, Region.binds .any e = true → e.on ∈ done ∨ e.on ∈ pre) ∧ (rest ≠ [] → i + 1 < ops.size) ∧
    (stillOp o = false → ∀ j oj, j ∈ rest → ops[j]? = some oj → stillOp oj = false → makerOp oj = false → Waits ops i j)
theorem OrdOK.tail {done : List Nat} {i : Nat} {is : List Nat} (h : OrdOK ops done (i :: is)) : OrdOK ops (i :: done) is := by
  refine ⟨fun j hj => ?_, fun pre k rest e => ?_⟩
  · rcases h.every j hj with h1 | h1
    · exact .inl (List.mem_cons_of_mem _ h1)
    · rcases List.mem_cons.1 h1 with h1 | h1
      · exact .inl (h1 ▸ List.mem_cons_self)
      · exact .inr h1
  · obtain ⟨o, h1, h2, h3, h4, h5, h6, h7⟩ := h.step (i :: pre) k rest (by rw [e]; rfl)
    refine ⟨o, h1, fun hh => h2 (List.mem_cons_of_mem _ hh), fun hh => ?_, h4, fun e' he hb => ?_, h6, h7⟩
    · rcases List.mem_cons.1 hh with hh | hh
      · exact h2 (hh ▸ List.mem_cons_self)
      · exact h3 hh
    · rcases h5 e' he hb with h8 | h8
      · exact .inl (List.mem_cons_of_mem _ h8)
      · rcases List.mem_cons.1 h8 with h8 | h8
        · exact .inl (h8 ▸ List.mem_cons_self)
        · exact .inr h8

theorem wpG_of_ord (hx : LexOK ops) : ∀ (is : List Nat) (l : List Oper) (done : List Nat) (listed : Array Bool) (a : Act) (w : World), SL w0 w → OrdOK ops done is →
    is.map (fun i => ops[i]?) = l.map some → listed.size = ops.size → (∀ i, i ∈ done → listed.getD i false = true) → (∀ i, i ∈ is → listed.getD i true = false) → (∀ j k, k ∈ done → Waits ops j k → j ∈ done) → (is ≠ [] → ∀ j, j ∈ done → j + 1 < ops.size) →
    wpF P ops w0 Q l a w → wpG P ops w0 Q l.length listed a w
  | [], [], done, listed, a, w, _, ho, _, hz, h1, _, _, _, h => by
    refine ⟨?_, h⟩
    refine List.eq_nil_iff_forall_not_mem.2 fun i hi => ?_
    obtain ⟨h0, o, hoi, _⟩ := mem_ready.1 hi
    have hlt := (Array.getElem?_eq_some_iff.1 hoi).1
    rcases ho.every i hlt with h3 | h3
    · have h4 := h1 i h3
      rw [getD_both h0] at h4
      cases h4
    · cases h3
  | [], _ :: _, _, _, _, _, _, _, hm, _, _, _, _, _, _ => by simp at hm
  | _ :: _, [], _, _, _, _, _, _, hm, _, _, _, _, _, _ => by simp at hm
  | k :: is, o :: l, done, listed, a, w, hS, ho, hm, hz, h1, h2, hw, hd, h => by
    simp only [List.map_cons, List.cons.injEq] at hm
    obtain ⟨h0, hm⟩ := hm
    have hlt : k < ops.size := (Array.getElem?_eq_some_iff.1 h0).1
    obtain ⟨o', h0', _, hkd, hkr, hed, hlast, hch⟩ := ho.step [] k is rfl
    rw [h0] at h0'
    injection h0' with h0'
    subst h0'
    have hed' : ∀ e ∈ o.after, Region.binds .any e = true → e.on ∈ done := fun e he hb => by
      rcases hed e he hb with h3 | h3
      · exact h3
      · cases h3
    have hun : ∀ j, listed.getD j true = false → j ≠ k → j ∈ is := fun j hun hne => by
      have hj : j < ops.size := by
        rw [← hz]
        rcases Nat.lt_or_ge j listed.size with h3 | h3
        · exact h3
        · rw [Array.getD_eq_getD_getElem?, Array.getElem?_eq_none h3] at hun
          cases hun
      rcases ho.every j hj with h3 | h3
      · have h4 := h1 j h3
        rw [getD_both hun] at h4
        cases h4
      · rcases List.mem_cons.1 h3 with h3 | h3
        · exact absurd h3 hne
        · exact h3
    have hnil : l ≠ [] ↔ is ≠ [] := by
      have := congrArg List.length hm
      simp only [List.length_map] at this
      constructor
      · intro h3 h4
        subst h4
        exact h3 (List.eq_nil_of_length_eq_zero this.symm)
      · intro h3 h4
        subst h4
        exact h3 (List.eq_nil_of_length_eq_zero this)
    have rec_ : ∀ a' W, SL w0 W → wpF P ops w0 Q l a' W → wpG P ops w0 Q l.length (listed.setIfInBounds k true) a' W := fun a' W hW h' =>
      wpG_of_ord hx is l (k :: done) _ a' W hW ho.tail hm (by simpa using hz)
        (by
          intro i hi
          rcases List.mem_cons.1 hi with e | e
          · subst e
            simp [hz, hlt]
          · exact getD_set_true (h1 i e))
        (by
          intro i hi
          rw [getD_set_ne true (show k ≠ i from fun e => hkr (by rw [e]; exact hi))]
          exact h2 i (List.mem_cons_of_mem _ hi))
        (by
          intro j q hq hjq
          rcases List.mem_cons.1 hq with e | e
          · subst e
            cases hjq with
            | on e' h3 he hb hon =>
              rw [h0] at h3
              injection h3 with h3
              subst h3
              exact List.mem_cons_of_mem _ (hon ▸ hed' _ he hb)
            | step e' h3 he hb hst =>
              rw [h0] at h3
              injection h3 with h3
              subst h3
              exact List.mem_cons_of_mem _ (hw j _ (hed' _ he hb) hst)
          · exact List.mem_cons_of_mem _ (hw j q e hjq))
        (by
          intro hne j hj
          rcases List.mem_cons.1 hj with e | e
          · subst e
            exact hlast hne
          · exact hd (by simp) j e) h'
    have hst : gOp P ops w0 k (wpG P ops w0 Q l.length (listed.setIfInBounds k true)) a w := by
      unfold gOp
      rw [h0]
      rcases h with ⟨hq, v, hy, hk'⟩ | ⟨hq, z, hz', hk'⟩ | ⟨hq, hk'⟩
      · exact .inl ⟨hq, v, hy, rec_ _ _ hS hk'⟩
      · exact .inr (.inl ⟨hq, z, hz', fun b W e1 e2 e3 => rec_ _ _ (hS.ext e1) (hk' b W e1 e2 e3)⟩)
      · refine .inr (.inr ⟨hq, fun W hW => hOp_mono (fun v w' ⟨e1, e2, e3⟩ => ⟨fun hk1 => e1 ?_, e2, rec_ _ _ e2 e3⟩) (hk' W hW)⟩)
        intro hl
        have hi : is = [] := Classical.byContradiction fun h9 => (hnil.2 h9) hl
        rcases ho.every (ops.size - 1) (by omega) with h8 | h8
        · have := hd (by simp) _ h8
          omega
        · rw [hi] at h8
          rcases List.mem_cons.1 h8 with h8 | h8
          · omega
          · cases h8
    refine wpG_firstP h0 (Region.noSelect_spec hx.sel) l.length listed a w hS ?_ ?_ ?_ (mem_ready.2 ⟨h2 k List.mem_cons_self, o, h0, fun e he hb => h1 _ (hed' e he hb)⟩) hst
    · intro j oj hj hne hju hno
      rcases Nat.lt_trichotomy k j with h3 | h3 | h3
      · exact hx.free k j o oj h3 h0 hj hno
      · exact absurd h3.symm hne
      · refine apart_symm (hx.free j k oj o h3 hj h0 fun e he hb heq => ?_)
        have h4 := h1 _ (hed' e he hb)
        rw [heq, getD_both hju] at h4
        cases h4
    · intro j hju hne
      exact hlast (List.ne_nil_of_mem (hun j hju hne))
    · intro hs
      refine ⟨fun j hjw => ?_, fun j oj hj hne hju hjs hjm => hch hs j oj (hun j hju hne) hj hjs hjm⟩
      have hjl : j < ops.size := (hjw.lt hx).2
      have hnd : j ∉ done := fun hd => hkd (hw k j hd hjw)
      have hjk : j ≠ k := fun e => by have := (hjw.lt hx).1; omega
      rcases ho.every j hjl with h3 | h3
      · exact absurd h3 hnd
      · exact getD_both (h2 j h3)

theorem wp_floatP (is : List Nat) {id : Nat} {a : Act} {w : World} {l l' : List Oper} (hm : P.follows .mixedOrders = true) (hx : LexOK l.toArray) (ho : OrdOK l.toArray [] is) (hl : is.map (fun i => l.toArray[i]?) = l'.map some) (hn : is.length = l.length)
    (h : ∀ V, Below w.heap.size w V → SL w V → wpF P l.toArray w Q l' a V) : (Code.region id l.toArray true).wp P Q a w := by
  have hS : SL w w.drew := ⟨⟨w.drew, (Below.refl _ _).drew⟩, rfl⟩
  refine wp_region_any hm (wpAny_of_wpG (w0 := w) _ _ _ _ hS ?_)
  have := wpG_of_ord (P := P) (w0 := w) (Q := Q) hx is l' [] (Array.replicate l.toArray.size false) a w.drew hS ho hl (by simp) (fun i hi => by cases hi) (fun i hi => by
    obtain ⟨pre, rest, e⟩ := List.append_of_mem hi
    obtain ⟨o, h1, _⟩ := ho.step pre i rest e
    have hlt := (Array.getElem?_eq_some_iff.1 h1).1
    exact getD_in (by simpa using hlt) (getD_replicate_false _ _)) (fun j k hk => by cases hk) (fun _ j hj => by cases hj) (h _ (Below.refl _ _).drew hS)
  have hll : l'.length = l.length := by
    have := congrArg List.length hl
    simp at this
    omega
  rw [hll] at this
  simpa using this
end

/-! ### The test -/
def maskL : List Oper → List Nat → List Nat
  | [], ms => ms
  | o :: l, ms => maskL l (ms ++ [waitM ms o.after.toList])
theorem maskL_spec {ops : Array Oper} : ∀ (l : List Oper) (ms : List Nat), (∀ j, l[j]? = ops[ms.length + j]?) → (∀ j i, (ms.getD j 0).testBit i = true → Waits ops i j) → ∀ j i, ((maskL l ms).getD j 0).testBit i = true → Waits ops i j
  | [], ms, _, hp => hp
  | o :: l, ms, hl, hp => by
    have h0 : ops[ms.length]? = some o := by simpa using (hl 0).symm
    refine maskL_spec l _ (fun j => by have := hl (j + 1); simpa [Nat.add_assoc, Nat.add_comm 1 j] using this) ?_
    intro j' i' hw
    rcases Nat.lt_trichotomy j' ms.length with h' | h' | h'
    · refine hp j' i' ?_
      rw [List.getD_eq_getElem?_getD, List.getElem?_append_left h', ← List.getD_eq_getElem?_getD] at hw
      exact hw
    · subst h'
      rw [List.getD_eq_getElem?_getD, List.getElem?_append_right (Nat.le_refl _), Nat.sub_self] at hw
      obtain ⟨e, he, hb, hon⟩ := waitM_spec _ i' hw
      have he' : e ∈ o.after := by simpa using he
      rcases hon with hon | hon
      · exact .on e h0 he' hb hon
      · exact .step e h0 he' hb (hp _ _ hon)
    · rw [List.getD_eq_getElem?_getD, List.getElem?_eq_none (by simp; omega)] at hw
      simp at hw
def edgesIn (done : List Nat) : List Edge → Bool
  | [] => true
  | e :: l => (bif Region.binds .any e then done.elem e.on else true) && edgesIn done l
def waitsAll (l : List Oper) (ms : List Nat) (i : Nat) : List Nat → Bool
  | [] => true
  | j :: rest => (match l[j]? with | none => true | some oj => stillOp oj || (makerOp oj || bitOf (ms.getD j 0) i)) && waitsAll l ms i rest
def ordN (l : List Oper) (ms : List Nat) : List Nat → List Nat → Bool
  | _, [] => true
  | done, i :: rest => (match l[i]? with
    | none => false
    | some o => edgesIn done o.after.toList && (stillOp o || waitsAll l ms i rest)) && (rest.isEmpty || Nat.blt (i + 1) l.length) && !(done.elem i) && !(rest.elem i) && ordN l ms (i :: done) rest
def allIn (is : List Nat) : Nat → Bool
  | 0 => true
  | n + 1 => is.elem n && allIn is n
theorem allIn_spec {is : List Nat} : ∀ (n : Nat), allIn is n = true → ∀ j, j < n → j ∈ is
  | n + 1, h, j, hj => by
    unfold allIn at h
    rw [Bool.and_eq_true] at h
    rcases Nat.lt_or_ge j n with h1 | h1
    · exact allIn_spec n h.2 j h1
    · obtain rfl : j = n := by omega
      exact List.elem_iff.1 h.1
theorem edgesIn_spec {done : List Nat} : ∀ (es : List Edge), edgesIn done es = true → ∀ e, e ∈ es → Region.binds .any e = true → e.on ∈ done
  | e :: l, h, e', he, hb => by
    unfold edgesIn at h
    rw [Bool.and_eq_true] at h
    rcases List.mem_cons.1 he with h1 | h1
    · subst h1
      rw [hb] at h
      exact List.elem_iff.1 h.1
    · exact edgesIn_spec l h.2 e' h1 hb
theorem waitsAll_cons {l : List Oper} {ms : List Nat} {i k : Nat} {rest : List Nat} (h : waitsAll l ms i (k :: rest) = true) : (∀ oj, l[k]? = some oj → stillOp oj = false → makerOp oj = false → bitOf (ms.getD k 0) i = true) ∧ waitsAll l ms i rest = true := by
  have h' : ((match l[k]? with | none => true | some oj => stillOp oj || (makerOp oj || bitOf (ms.getD k 0) i)) && waitsAll l ms i rest) = true := h
  rw [Bool.and_eq_true] at h'
  refine ⟨fun oj hoj hs hm => ?_, h'.2⟩
  have h2 := h'.1
  rw [hoj] at h2
  simpa only [hs, hm, Bool.false_or] using h2
theorem waitsAll_spec {l : List Oper} {ms : List Nat} {i : Nat} (rest : List Nat) (h : waitsAll l ms i rest = true) (j : Nat) (oj : Oper) (hj : j ∈ rest) (hoj : l[j]? = some oj) (hs : stillOp oj = false) (hm : makerOp oj = false) : (ms.getD j 0).testBit i = true := by
  induction rest with
  | nil => cases hj
  | cons k rest ih =>
    obtain ⟨h1, h2⟩ := waitsAll_cons h
    rcases List.mem_cons.1 hj with e | e
    · rw [← bitOf_eq, e]
      exact h1 oj (e ▸ hoj) hs hm
    · exact ih h2 e
theorem ordN_spec {l : List Oper} {ms : List Nat} (hms : ∀ j i, (ms.getD j 0).testBit i = true → Waits l.toArray i j) : ∀ (is done : List Nat), ordN l ms done is = true →
    ∀ (pre : List Nat) (i : Nat) (rest : List Nat), is = pre ++ i :: rest → ∃ o, l.toArray[i]? = some o ∧ i ∉ pre ∧ i ∉ done ∧ i ∉ rest ∧
    (∀ e ∈ o.after, Region.binds .any e = true → e.on ∈ done ∨ e.on ∈ pre) ∧ (rest ≠ [] → i + 1 < l.toArray.size) ∧
    (stillOp o = false → ∀ j oj, j ∈ rest → l.toArray[j]? = some oj → stillOp oj = false → makerOp oj = false → Waits l.toArray i j)
  | [], done, _, pre, i, rest, e => by simp at e
  | k :: is, done, h, pre, i, rest, e => by
    unfold ordN at h
    simp only [Bool.and_eq_true, Bool.not_eq_true'] at h
    obtain ⟨⟨⟨⟨h1, h2⟩, h3⟩, h4⟩, h5⟩ := h
    cases pre with
    | nil =>
      injection e with e1 e2
      subst e1
      subst e2
      cases hk : l[k]? with
      | none => rw [hk] at h1; cases h1
      | some o =>
        rw [hk] at h1
        simp only [Bool.and_eq_true] at h1
        refine ⟨o, by simpa using hk, by simp, fun hh => ?_, fun hh => ?_, fun e' he hb => .inl (edgesIn_spec _ h1.1 e' (by simpa using he) hb), fun hne => ?_, fun hs j oj hj hoj hjs hjm => ?_⟩
        · rw [List.elem_iff.2 hh] at h3
          cases h3
        · rw [List.elem_iff.2 hh] at h4
          cases h4
        · rw [Bool.or_eq_true] at h2
          rcases h2 with h2 | h2
          · exact absurd (List.isEmpty_iff.1 h2) hne
          · simpa [Nat.blt_eq] using h2
        · have h6 := h1.2
          rw [hs, Bool.false_or] at h6
          exact hms _ _ (waitsAll_spec _ h6 j oj hj (by simpa using hoj) hjs hjm)
    | cons q pre =>
      injection e with e1 e2
      subst e1
      obtain ⟨o, g1, g2, g3, g4, g5, g6, g7⟩ := ordN_spec hms is (k :: done) h5 pre i rest e2
      refine ⟨o, g1, fun hh => ?_, fun hh => g3 (List.mem_cons_of_mem _ hh), g4, fun e' he hb => ?_, g6, g7⟩
      · rcases List.mem_cons.1 hh with hh | hh
        · exact g3 (hh ▸ List.mem_cons_self)
        · exact g2 hh
      · rcases g5 e' he hb with g8 | g8
        · rcases List.mem_cons.1 g8 with g8 | g8
          · exact .inr (g8 ▸ List.mem_cons_self)
          · exact .inl g8
        · exact .inr (List.mem_cons_of_mem _ g8)
theorem ordOK_of {l : List Oper} {is : List Nat} (h : allIn is l.length = true) (h2 : ordN l (maskL l []) [] is = true) : OrdOK l.toArray [] is :=
  ⟨fun j hj => .inr (allIn_spec _ h j (by simpa using hj)), ordN_spec (maskL_spec (ops := l.toArray) l [] (by simp) (by intro j i hw; simp at hw)) is [] h2⟩
end Go.Proofs.YtgkojdbepgonkaaDoor

/- Slices of digests: those of the call's own that grow, an element read, an element appended; no conditions but lengths. -/
namespace Go.Proofs.YtgkojdbepgonkaaDoor
set_option linter.unusedVariables false
set_option linter.unusedSimpArgs false
set_option maxRecDepth 8000
open Go.RowKit
attribute [local simp] z32_ne z32_run
attribute [-simp] Tryd.zeroValue34 Tryd.isAgg34 Tryd.sizeOf34
theorem dig_info : (Tryd.prog.info? 34).map (fun i => (i.zero, i.size, i.bytes)) = some (some (.agg z32), 32, 32) := by kernel_rfl
/-- the cells of the digests, one after the other -/
def celD (Ds : List (List Nat)) : List Value := celB Ds.flatten
theorem celD_append (Ds : List (List Nat)) (d : List Nat) : celD (Ds ++ [d]) = celD Ds ++ celB d := by unfold celD celB; simp
/-- a slice of digests of the call's own -/
def OwD (w : World) (base : Nat) (v : Value) (n : Nat) (Ds : List (List Nat)) : Prop := w.ownsRow base 34 32 v n (celD Ds) ∧ (∀ d ∈ Ds, d.length = 32)
section
variable {w w' : World} {base : Nat} {v : Value} {n : Nat} {Ds : List (List Nat)}
theorem OwD.keep (h : OwD w base v n Ds) (hb : Below w.heap.size w w') : OwD w' base v n Ds := by
  refine ⟨⟨h.1.1, ?_⟩, h.2⟩
  rcases h.1.2 with hn | ⟨g, cap, cur, rfl, hbs, hgg, rest⟩
  · exact .inl hn
  · exact .inr ⟨g, cap, cur, rfl, hbs, heap_keep hgg hb, rest⟩
theorem OwD.below (h : OwD w base v n Ds) (hg : w.grownBy w' v.ownBlock) (hbase : base ≤ w.heap.size) : Below base w w' :=
  ⟨hg.os, hg.tape, hg.output, hg.size, fun k hk => hg.block k (by omega) (fun e => by have := (World.ownsRow.lt h.1 k e.symm).1; omega)⟩
theorem OwD.nil1 {g : Nat} (h : w.heap[g]? = some (.cells #[] 34 (0, 0))) (hb : base ≤ g) : OwD w base (.slice (some ⟨g, 0, none⟩) 0 0) 0 [] :=
  ⟨⟨rfl, .inr ⟨g, 0, #[], rfl, hb, h, Nat.le_refl _, by unfold maxLen; omega, rfl, rfl⟩⟩, fun _ h => by cases h⟩
theorem celD_at : ∀ (Ds : List (List Nat)) (i : Nat) (d : List Nat), (∀ d ∈ Ds, d.length = 32) → Ds[i]? = some d → ∀ j, j < 32 → (celD Ds)[32 * i + j]? = (celB d)[j]?
  | c :: Ds, 0, d, hl, hi, j, hj => by
    simp only [List.getElem?_cons_zero, Option.some.injEq] at hi
    subst hi
    have hc : c.length = 32 := hl c List.mem_cons_self
    unfold celD celB
    rw [List.flatten_cons, List.map_append, Nat.mul_zero, Nat.zero_add, List.getElem?_append_left (by rw [List.length_map]; omega)]
  | c :: Ds, i + 1, d, hl, hi, j, hj => by
    have hc : c.length = 32 := hl c List.mem_cons_self
    have := celD_at Ds i d (fun x hx => hl x (List.mem_cons_of_mem _ hx)) (by simpa using hi) j hj
    rw [← this]
    unfold celD celB
    rw [List.flatten_cons, List.map_append, List.getElem?_append_right (by rw [List.length_map]; omega), List.length_map, hc]
    congr 1
    omega
theorem OwD.range {g c i : Nat} {d : List Nat} (h : OwD w base (.slice (some ⟨g, 0, none⟩) n c) n Ds) (hi : Ds[i]? = some d) : w.rangeAt g (32 * i) (celB d) := by
  intro j v hj
  have hd : d.length = 32 := h.2 d (List.mem_of_getElem? hi)
  have hjl := (List.getElem?_eq_some_iff.1 hj).1
  rw [celB_length, hd] at hjl
  have e := celD_at Ds i d h.2 hi j hjl
  rw [hj] at e
  have hlen := (List.getElem?_eq_some_iff.1 e).1
  rw [h.1.1] at hlen
  rw [World.ownsRow.cellAt h.1 _ hlen, e]
theorem OwD.form (h : OwD w base v n Ds) (hn : 0 < n) : ∃ g c, v = .slice (some ⟨g, 0, none⟩) n c ∧ n ≤ c ∧ c ≤ 9223372036854775807 := by
  rcases h.1.2 with ⟨_, h0⟩ | ⟨g, cap, cur, rfl, _, _, h1, h2, _⟩
  · omega
  · unfold maxLen at h2
    exact ⟨g, cap, rfl, h1, by omega⟩
end
theorem rangeAt_keep {w w' : World} {g o : Nat} {cs : List Value} (h : w.rangeAt g o cs) (hb : Below w.heap.size w w') : w'.rangeAt g o cs := fun j v hj => cell_keep (h j v hj) hb
theorem exec_loadM {ev : Operand → Value} {o : Oper} {w : World} {x : Operand} (g k : Nat) {bs : List Nat} (hl : bs.length = 32) (h : w.rangeAt g k (celB bs)) (ho : o.op = .load 34 x) (hx : ev x = .pointer (some ⟨g, k, none⟩)) :
    (execOp ev o).run Tryd.prog w = .ok (.value (.agg (celB bs).toArray)) w := by
  unfold execOp
  simp only [ho, hx, Sem.run_bind, run_loadAt_mid w g k 34 (celB bs) _ h Tryd.underlying34 rfl (by rw [celB_length, hl]; kernel_rfl), Result.andThen_ok, Sem.run_pure]
theorem exec_idxD {ev : Operand → Value} {o : Oper} {x y : Operand} (w : World) (g n c i : Nat) (hi : i < n) (ho : o.op = .indexAddr 26 x y) (hx : ev x = .slice (some ⟨g, 0, none⟩) n c) (hy : ev y = .int .i64 ((i : Nat) : Int)) :
    (execOp ev o).run Tryd.prog w = .ok (.value (.pointer (some ⟨g, 32 * i, none⟩))) w := by
  have h0 : (0 : Int) ≤ (i : Int) := by omega
  have h1 : (i : Int) < (n : Int) := by omega
  have hm : i * 32 = 32 * i := Nat.mul_comm _ _
  unfold execOp
  simp only [ho, hx, hy]
  go_simp
  simp only [Tryd.sizeOf34, Result.andThen]
  rw [hm]
theorem row_cells {w : World} {g : Nat} {d : List Nat} (h : RowB w 34 g d) (j : Nat) (u : Value) (hj : (celB d)[j]? = some u) : w.cell? ((⟨g, 0, none⟩ : Addr).add j) = some u := by
  rw [ad_base]
  unfold RowB at h
  simpa [World.cell?, h] using hj
theorem fold32 {d : List Nat} (hdl : d.length = 32) : List.foldl (fun cs x => cs.setIfInBounds x.snd x.fst) (Array.map (fun x => z32[x % z32.size]!) (Array.range 32)) (celB d).zipIdx = (celB d).toArray := by
  have h2 := Go.Great.fill_whole (s := 32) (by omega) [.agg (celB d).toArray] (Array.map (fun x => z32[x % z32.size]!) (Array.range 32)) (fun v hv => by rw [List.mem_singleton.1 hv]; show (celB d).toArray.size = 32; rw [List.size_toArray, celB_length, hdl]) (by simp)
  simpa [Instr.fill, Value.cells, celB_length, hdl] using h2
/-- []api.Digest{d} -/
theorem run_buildS1 {ev : Operand → Value} {o : Oper} {x : Operand} {d : List Nat} (hdl : d.length = 32) (ho : o.op = .buildSlice 26 1 #[(0, x)]) (hx : ev x = .agg (celB d).toArray) (w : World) :
    (execOp ev o).run Tryd.prog w = .ok (.value (.slice (some ⟨w.heap.size, 0, none⟩) 1 1)) (w.alloc (.cells (celB d).toArray 34)) := by
  obtain ⟨i, hi, hz, hs2, hb⟩ := info_parts dig_info
  unfold execOp
  simp only [ho, List.map_toArray, List.map_cons, List.map_nil, hx, Sem.run_bind]
  have hz2 : (Value.agg z32).cells.size = 32 := rfl
  have hf : Instr.fill (fun k => some (k * i.size, i.size)) ((Array.range (1 * i.size)).map ((Value.agg z32).cells[· % (Value.agg z32).cells.size]!)) #[(0, .agg (celB d).toArray)].toList = some (celB d).toArray := by
    rw [hs2]
    have h2 := Go.Great.fill_whole (s := 32) (by omega) [.agg (celB d).toArray] ((Array.range (1 * 32)).map ((Value.agg z32).cells[· % (Value.agg z32).cells.size]!)) (fun v hv => by rw [List.mem_singleton.1 hv]; show (celB d).toArray.size = 32; rw [List.size_toArray, celB_length, hdl]) (by simp)
    simpa [Value.cells] using h2
  rw [run_buildSlice (P := Tryd.prog) w 26 34 1 #[(0, .agg (celB d).toArray)] (celB d).toArray i (.agg z32) Tryd.underlying26 hi hz (by rw [hs2]; omega) (by rw [hs2]; omega) hf]
  rfl
/-- append(s, d): where the new slice lies -/
theorem wpList_appendD {ops : Array Oper} {rest : List Oper} {o : Oper} {a : Act} {Q : Exit → Act → World → Prop} {w : World} (hgd : o.guard = none) (s x : Operand)
    (ho : o.op = .call { callee := .builtin .append, args := #[s, x], argTypes := #[26, 26] }) (base : Nat) (v : Value) (n : Nat) (Ds : List (List Nat)) (hs : a.eval s = v) (hown : OwD w base v n Ds)
    (g c : Nat) (d : List Nat) (hx : a.eval x = .slice (some ⟨g, 0, none⟩) 1 c) (hd : RowB w 34 g d) (hdl : d.length = 32) (hn : n ≤ 65536) (hbase : base ≤ w.heap.size)
    (h : ∀ v' w', OwD w' base v' (n + 1) (Ds ++ [d]) → w.grownBy w' v.ownBlock → (∀ k, v'.ownBlock = some k → v.ownBlock = some k ∨ w.heap.size ≤ k) → wpList Tryd.prog ops Q rest (a.put o.dst v') w') : wpList Tryd.prog ops Q (o :: rest) a w := by
  refine wpList_plain hgd fun K hK => ?_
  obtain ⟨i, hi, hz, hs2, hb⟩ := info_parts dig_info
  have hcl : (celB d).length = 1 * 32 := by rw [celB_length, hdl]
  obtain ⟨v', w', hrun, hown', hg, _⟩ := run_append_own (P := Tryd.prog) w base 26 o.type 34 i (.agg z32) 32 32 Tryd.underlying26 hi hz hs2 hb rfl (by omega) v n (celD Ds) hown.1 ⟨g, 0, none⟩ 1 c (celB d) hcl (row_cells hd) (fun u hu => celB_one' hu) (by unfold maxLen; omega) (by omega) hbase
  have hw : ∀ k, v'.ownBlock = some k → v.ownBlock = some k ∨ w.heap.size ≤ k := by
    intro k hk
    rcases hown.1.2 with ⟨rfl, rfl⟩ | ⟨g1, cap, cur, rfl, hb1, hg1, hcap, hmax, hsz, htake⟩
    · obtain ⟨v2, w2, hrun2, hown2, _⟩ := run_append_own (P := Tryd.prog) w w.heap.size 26 o.type 34 i (.agg z32) 32 32 Tryd.underlying26 hi hz hs2 hb rfl (by omega) (.slice none 0 0) 0 [] (World.ownsRow_nil w _ _ _) ⟨g, 0, none⟩ 1 c (celB d) hcl (row_cells hd) (fun u hu => celB_one' hu) (by unfold maxLen; omega) (by omega) (Nat.le_refl _)
      rw [hrun] at hrun2
      injection hrun2 with e1 e2
      subst e1
      subst e2
      exact .inr (World.ownsRow.lt hown2 k hk).1
    · by_cases hr : n + 1 ≤ cap
      · have hcell : ∀ j, j < cap * 32 → (w.cell? ⟨g1, j, none⟩).isSome = true := by
          intro j hj
          simp [World.cell?, hg1]
          rw [hsz]
          exact hj
        have hrun2 := run_append_room_cells (P := Tryd.prog) w 26 o.type 34 i Tryd.underlying26 hi g1 0 n cap ⟨g, 0, none⟩ 1 c (celB d) (by rw [hs2, hcl]) (row_cells hd) (fun u hu => celB_one' hu) hr
          (fun j hj => hcell _ (by rw [hs2]; rw [hcl] at hj; omega)) (fun j hj => by simp [World.frozen?, hg1])
        rw [hrun] at hrun2
        injection hrun2 with e1 e2
        subst e1
        exact .inl hk
      · obtain ⟨v2, w2, hrun2, hown2, _⟩ := run_append_arg_grows (P := Tryd.prog) w 26 o.type 34 i (.agg z32) 32 32 Tryd.underlying26 hi hz hs2 hb rfl (by omega) ⟨g1, 0, none⟩ n cap (celD Ds) hown.1.1
          (fun j u hj => by
            rw [ad_base]
            rw [← htake] at hj
            have hk := (List.getElem?_eq_some_iff.1 hj).1
            rw [List.getElem?_take_of_lt (by simp at hk; omega)] at hj
            simpa [World.cell?, hg1] using hj) ⟨g, 0, none⟩ 1 c (celB d) hcl (row_cells hd) (by omega) (by unfold maxLen; omega) (by omega)
        rw [hrun] at hrun2
        injection hrun2 with e1 e2
        subst e1
        subst e2
        exact .inr (World.ownsRow.lt hown2 k hk).1
  unfold Oper.wp
  simp [execOp, ho, resolve, invoke, builtin, hs, hx, hrun, Result.andThen]
  refine hK _ _ (h v' w' ⟨?_, fun z hz => ?_⟩ hg hw)
  · rw [celD_append]
    exact hown'
  · rcases List.mem_append.1 hz with hz | hz
    · exact hown.2 z hz
    · rw [List.mem_singleton.1 hz]; exact hdl
end Go.Proofs.YtgkojdbepgonkaaDoor
